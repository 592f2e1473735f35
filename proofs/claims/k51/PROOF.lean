import PyProof.Rows.All
import Wide.All
import OpenK.AllK
import Wide.FinOn
import PyProof.EqAt
import PyProof.EqKinds
import PyProof.TupleCall
import PyProof.RulesMatchSeq
import PyProof.Rows.MatchSeqLen
import HandS.ForMost
import HandS.Walk
import HandS.Iter
import HandS.Text
import HandS.IsInst
import PyProof.RulesMatchSingle
import HandS.Wide
import HandS.ExcInit
import HandS.ExcOwn
import HandS.ExcField
import KE.KExcIs
import HandS.More
import HandS.WideBits
import HandS.StrMore
import HandS.WordsExc
import HandS.Deep
import PyProof.StrLawsJoin
import PyProof.StrLawsOcc
import PyProof.StrLawsLast
import HandS.Flow
import HandS.Style
import HandS.Conv
import HandS.WordsDict
import KE.IntTextLaws
import HandS.TupLe
import HandS.TryOnly
import KE.BitLaws
import PySem.Challenge.RW_quotedback_k51_test_answers
set_option Elab.async false
set_option linter.all false
set_option maxRecDepth 100000
set_option maxHeartbeats 8000000
namespace PySem
namespace Qb
open PySem.W PySem.Calls PyProof.Rows L2
/-! # match over tuples, texts and names -/
/-- what a pattern asks: the values of its names in their order, or that it does not fit -/
abbrev PatR := V → Hp → (Option (List V) → Prop) → Prop
def PatE (X : Cx) (pins : List (Addr × Obj)) (σ : L2.St) (H : Hp) (ns : List Str) (Q : Option (List V) → Prop) (res : Option (List (Str × Value))) (s : Shared) : Prop :=
  Inv X pins σ H s ∧ match res with
    | none => Q none
    | some bs => bs.map (·.1) = ns ∧ ∃ vs, Vals vs (bs.map (·.2)) ∧ Q (some vs)
structure PPt (X : Cx) (pat : Pattern) (ns : List Str) (r : PatR) : Prop where
  run : ∀ (pins : List (Addr × Obj)) (s : Shared) (σ : L2.St) (H : Hp) (v : V) (u : Value) (Q : Option (List V) → Prop), Inv X pins σ H s → RelV v u → r v H Q →
    wpAny (model X.prog X.w) X.A (matchPattern pat X.env u) (fun res s1 => PatE X pins σ H ns Q res s1) X.xe s
def rEach : List PatR → List V → Hp → (Option (List V) → Prop) → Prop
  | r :: rs, x :: xs, H, Q => r x H fun o => match o with
    | none => Q none
    | some vs => rEach rs xs H fun o' => match o' with
      | none => Q none
      | some more => Q (some (vs ++ more))
  | _, _, _, Q => Q (some [])
structure PPs (X : Cx) (pats : List Pattern) (ns : List Str) (rs : List PatR) : Prop where
  len : rs.length = pats.length
  run : ∀ (pins : List (Addr × Obj)) (s : Shared) (σ : L2.St) (H : Hp) (vs : List V) (us : List Value) (Q : Option (List V) → Prop), Inv X pins σ H s → Vals vs us → vs.length = pats.length → rEach rs vs H Q →
    wpAny (model X.prog X.w) X.A (matchEach pats X.env us) (fun res s1 => PatE X pins σ H ns Q res s1) X.xe s
theorem ext_keeps {h h2 : Heap} (ex : Heap.ExtBut h.objs.size h h2) (b : Addr) (o : Obj) (z : h.get? b = some o) : h2.get? b = some o := by
  exact ex b o (Nat.ne_of_lt (Heap.lt_size z)) z
section
variable {X : Cx} {pos pos' : Pos}
def rLit (c : Str) : PatR := fun v _ Q => ∃ y, v = .str y ∧ Q (if y = c then some [] else none)
theorem pp_lit {c : Str} {j : Nat} : PPt X (.MatchValue (.Constant (.str c) j pos) pos') [] (rLit c) := by
  refine ⟨fun pins s σ H v u Q I r h => wpAny_matchPattern_Value ?_⟩
  obtain ⟨y, rfl, q⟩ := h
  refine thn (pe_str.run pins s σ H (fun z H1 => z = .str c ∧ H1 = H) I ⟨rfl, rfl⟩) fun x s1 ⟨z, H1, I1, rz, ez, eH⟩ => ?_
  subst ez
  subst eH
  refine thn (op_eq pins s1 σ H1 (.str y) (.str c) u x (fun w H2 => w = .bl (decide (V.str y = V.str c)) ∧ H2 = H1) I1 r rz ⟨rfl, rfl, rfl⟩) fun b s2 ⟨w, H2, I2, rw2, ew, eH⟩ => ?_
  subst ew
  subst eH
  obtain rfl : b = Value.bool (decide (V.str y = V.str c)) := rw2
  show wpAny _ _ (truthy (.bool _)) _ _ _
  refine wpAny_pure ?_
  by_cases e : y = c
  · rw [if_pos e] at q
    rw [if_pos (by simpa using e)]
    exact ⟨I2, rfl, [], .nil, q⟩
  · rw [if_neg e] at q
    rw [if_neg (by simpa using e)]
    exact ⟨I2, q⟩
def rCap : PatR := fun v _ Q => Q (some [v])
theorem pp_cap {n : Str} : PPt X (.MatchAs none (some n) pos) [n] rCap :=
  ⟨fun pins s σ H v u Q I r h => wpAny_matchPattern_Capture ⟨I, rfl, [v], .cons r .nil, h⟩⟩
def rAny1 : PatR := fun _ _ Q => Q (some [])
theorem pp_any : PPt X (.MatchAs none none pos) [] rAny1 :=
  ⟨fun pins s σ H v u Q I r h => wpAny_matchPattern_Capture ⟨I, rfl, [], .nil, h⟩⟩
theorem pps_nil : PPs X [] [] [] :=
  ⟨rfl, fun pins s σ H vs us Q I r hl h => by
    cases r with
    | nil => exact wpAny_matchEach_nil ⟨I, rfl, [], .nil, h⟩
    | cons _ _ => cases hl⟩
theorem pps_cons {p : Pattern} {ps : List Pattern} {ns ms : List Str} {r : PatR} {rs : List PatR} (h1 : PPt X p ns r) (h2 : PPs X ps ms rs) (hp : p.isStar = false := by rfl) : PPs X (p :: ps) (ns ++ ms) (r :: rs) := by
  refine ⟨congrArg Nat.succ h2.len, fun pins s σ H vs us Q I rv hl h => ?_⟩
  cases rv with
  | nil => cases hl
  | @cons x u xs us rx rt =>
    refine wpAny_matchEach_cons (thn (h1.run pins s σ H x u _ I rx h) fun res s1 ⟨I1, z⟩ => ?_) hp
    cases res with
    | none => exact ⟨I1, z⟩
    | some bs =>
      obtain ⟨e1, vs1, r1, q1⟩ := z
      refine thn (h2.run pins s1 σ H xs us _ I1 rt (Nat.succ.inj hl) q1) fun res2 s2 ⟨I2, z2⟩ => ?_
      cases res2 with
      | none => exact ⟨I2, z2⟩
      | some more =>
        obtain ⟨e2, vs2, r2, q2⟩ := z2
        exact ⟨I2, by rw [List.map_append, e1, e2], vs1 ++ vs2, by rw [List.map_append]; exact r1.append r2, q2⟩
def rSeq (K : Frag) (n : Nat) (rs : List PatR) : PatR := fun v H Q => ∃ a xs, v = .ref a ∧ SqT K H a xs ∧ (xs.length ≠ n → Q none) ∧ (xs.length = n → rEach rs xs H Q)
theorem pp_seq {ps : List Pattern} {ns : List Str} {rs : List PatR} {n : Nat} (hc : X.calm = true) (h : PPs X ps ns rs) (hn : ps.length = n := by rfl) (hstar : ps.findIdx? (·.isStar) = none := by rfl)
    (hwild : (ps.all fun p => p.isWildcard || (p.isStar && p.names.isEmpty)) = false := by rfl) : PPt X (.MatchSequence ps pos) ns (rSeq X.K n rs) := by
  refine ⟨fun pins s σ H v u Q I r h' => ?_⟩
  obtain ⟨a, xs, rfl, sq, qn, qy⟩ := h'
  obtain rfl : u = Value.ref a := r
  obtain ⟨its, rv, ht, hz⟩ := I.tuple sq
  have hfit : ((its.toArray.size : Nat) : Int) < 2 ^ 63 := by
    have e := rv.length
    rw [List.size_toArray, ← e]
    rw [sizeLine_eq] at hz
    omega
  have e := rv.length
  by_cases c : xs.length = n
  · refine matchSeq_tuple_hit ht hfit (by rw [List.size_toArray, ← e, c, hn]) ?_ hstar hwild
    have sz : ps.length = its.toArray.size := by rw [List.size_toArray, ← e, c, hn]
    rw [sz]
    refine unpackItems_tuple (I.ok.hd hc) ht fun h2 ex => ?_
    have J : Inv X pins σ H { s with heap := h2, toks := s.toks + 1 + 1 } := I.kept (t' := s.toks + 1 + 1) fun b o z => ext_keeps ex b o z
    refine h.run pins _ σ H xs _ Q J (by simpa using rv) (by rw [c, hn]) (qy c)
  · exact matchSeq_tuple_miss ht hfit (by rw [List.size_toArray, ← e, hn]; exact c) ⟨I.tok _, qn c⟩ hstar hwild
/-- one of some patterns without names -/
def rOr : List PatR → PatR
  | [] => fun _ _ Q => Q none
  | r :: rs => fun v H Q => r v H fun o => match o with
    | some vs => Q (some vs)
    | none => rOr rs v H Q
structure PFirst (X : Cx) (pats : List Pattern) (rs : List PatR) : Prop where
  run : ∀ (pins : List (Addr × Obj)) (s : Shared) (σ : L2.St) (H : Hp) (v : V) (u : Value) (Q : Option (List V) → Prop), Inv X pins σ H s → RelV v u → rOr rs v H Q →
    wpAny (model X.prog X.w) X.A (matchFirst pats X.env u) (fun res s1 => PatE X pins σ H [] Q res s1) X.xe s
theorem pf_nil : PFirst X [] [] := ⟨fun pins s σ H v u Q I r h => wpAny_matchFirst_nil ⟨I, h⟩⟩
theorem pf_cons {p : Pattern} {ps : List Pattern} {r : PatR} {rs : List PatR} (h1 : PPt X p [] r) (h2 : PFirst X ps rs) : PFirst X (p :: ps) (r :: rs) := by
  refine ⟨fun pins s σ H v u Q I rv h => wpAny_matchFirst_cons (thn (h1.run pins s σ H v u _ I rv h) fun res s1 ⟨I1, z⟩ => ?_)⟩
  cases res with
  | none => exact h2.run pins s1 σ H v u Q I1 rv z
  | some bs => exact ⟨I1, z⟩
theorem pp_or {ps : List Pattern} {rs : List PatR} (h : PFirst X ps rs) (hno : namesOfAll (ps.take 1) = [] := by rfl) : PPt X (.MatchOr ps pos) [] (rOr rs) := by
  refine ⟨fun pins s σ H v u Q I r h' => wpAny_matchPattern_Or (thn (h.run pins s σ H v u Q I r h') fun res s1 ⟨I1, z⟩ => ?_)⟩
  cases res with
  | none => exact ⟨I1, z⟩
  | some bs =>
    obtain ⟨e, vs, rv, q⟩ := z
    have e0 : bs = [] := List.map_eq_nil_iff.mp e
    subst e0
    cases rv
    rw [hno]
    exact ⟨I1, rfl, [], .nil, q⟩
/-- names stored in their slots, from the left -/
def setAll : L2.St → List Nat → List V → L2.St
  | σ, i :: is, v :: vs => setAll (σ.set i (some v)) is vs
  | σ, _, _ => σ
def SlotsOk (X : Cx) (ns : List Str) (is : List Nat) : Prop := Paired (fun n i => X.N[i]? = some n ∧ L2.Loc X.env.scope n ∧ (X.fn n = true ∨ X.env.scope.names.lookup n = some .local)) ns is
theorem store_all (hN : X.N.Nodup) {pins : List (Addr × Obj)} {H : Hp} {Q : Unit → Shared → Prop} : ∀ {ns : List Str} {is : List Nat} {bs : List (Str × Value)} {vs : List V} {σ : L2.St} {s : Shared}, SlotsOk X ns is → bs.map (·.1) = ns → Vals vs (bs.map (·.2)) → Inv X pins σ H s →
    (∀ s', Inv X pins (setAll σ is vs) H s' → Q () s') → wpAny (model X.prog X.w) X.A (assignInOrder (bs.map fun (n, _) => bindName X.env n) (bs.map (·.2))) Q X.xe s
  | _, _, [], _, _, _, ok, e, rv, I, q => by
    subst e
    cases rv
    cases ok
    exact wpAny_assignInOrder_none (q _ I)
  | _, _, (n, u) :: bs, _, _, _, ok, e, rv, I, q => by
    subst e
    cases rv with
    | cons r1 r2 =>
      cases ok with
      | cons o1 o2 =>
        refine wpAny_assignInOrder_more (wpAny_bindName (store_ok I hN o1.1 o1.2.1 r1 (fun s' I' => store_all hN o2 rfl r2 I' q) o1.2.2))
def tCases : List (List Nat × PatR × TS) → V → TS
  | [], _ => fun D σ H => D.nx σ H
  | (is, r, t) :: rest, v => fun D σ H => r v H fun o => match o with
    | none => tCases rest v D σ H
    | some vs => t D (setAll σ is vs) H
structure PCs (X : Cx) (cases : List MatchCase) (cs : List (List Nat × PatR × TS)) : Prop where
  run : ∀ (pins : List (Addr × Obj)) (s : Shared) (σ : L2.St) (H : Hp) (D : Ends) (v : V) (u : Value) (first : Bool), Inv X pins σ H s → RelV v u → tCases cs v D σ H →
    wpAny (model X.prog X.w) X.A (matchCases cases X.env u first) (SP X pins D) X.xe s
theorem pcs_nil : PCs X [] [] := ⟨fun pins s σ H D v u first I r h => wpAny_matchCases_nil ⟨σ, H, I, h⟩⟩
theorem pcs_cons {p : Pattern} {body : List Stmt} {cases : List MatchCase} {ns : List Str} {is : List Nat} {r : PatR} {t : TS} {cs : List (List Nat × PatR × TS)} (hN : X.N.Nodup) (h1 : PPt X p ns r) (hs : SlotsOk X ns is) (hb : PSs X body t) (h2 : PCs X cases cs) :
    PCs X (⟨p, none, body⟩ :: cases) ((is, r, t) :: cs) := by
  refine ⟨fun pins s σ H D v u first I rv h => wpAny_matchCases_cons (thn (h1.run pins s σ H v u _ I rv h) fun res s1 ⟨I1, z⟩ => ?_)⟩
  cases res with
  | none => exact h2.run pins s1 σ H D v u false I1 rv z
  | some bs =>
    obtain ⟨e, vs, r2, q⟩ := z
    exact store_all hN hs e r2 I1 fun s2 I2 => hb.run pins s2 _ H D I2 q
def tMatch (te : TE) (cs : List (List Nat × PatR × TS)) : TS := fun D σ H => te σ H fun v H1 => tCases cs v D σ H1
theorem ps_match {e : Expr} {cases : List MatchCase} {te : TE} {cs : List (List Nat × PatR × TS)} (he : PE X e te) (hc : PCs X cases cs) : PS X (.Match e cases pos) (tMatch te cs) :=
  ⟨fun pins s σ H D I h => wpAny_Match (thn (he.run pins s σ H _ I h) fun u s1 ⟨v, H1, I1, rv, q⟩ => hc.run pins s1 σ H1 D v u true I1 rv q)⟩
end
/-! # heaps -/
theorem same_upd {H : Hp} {a : Addr} {o : HO} (h : H a = none) : Same H (upd H a o) := fun b u e => by
  rw [upd_ne (ne_of_none e h)]
  exact e
theorem same_upd2 {H H1 : Hp} {a : Addr} {o : HO} (s : Same H H1) (h : H a = none) : Same H (upd H1 a o) := fun b u e => by
  rw [upd_ne (ne_of_none e h)]
  exact s b u e
theorem take_snoc {α : Type} {l : List α} {i : Nat} {x : α} (h : l[i]? = some x) : l.take (i + 1) = l.take i ++ [x] := by
  rw [List.take_succ, h]
  rfl
theorem if_no {c : Bool} {A B : Prop} (h : c = false) (b : B) : if c = true then A else B := by
  rw [h, if_neg Bool.false_ne_true]
  exact b
theorem if_yes {c : Bool} {A B : Prop} (h : c = true) (a : A) : if c = true then A else B := by
  rw [if_pos h]
  exact a
theorem if_by {c : Bool} {A B : Prop} (a : c = true → A) (b : c = false → B) : if c = true then A else B := by
  cases c with
  | true => exact a rfl
  | false => exact b rfl
abbrev cs (x : Str) : List Nat := x.cps.toList
theorem glob_str {X : Cx} {x : Str} {c : Str} {pos : Pos} (hg : Gl X x) (hm : ∃ t, X.mg x = some (.str c t)) (hd : (x == ("__debug__" : Str)) = false := by decide) : PE X (.Name x pos) (tC (.str c)) := by
  obtain ⟨t, e⟩ := hm
  exact pe_glob hg e ⟨t, rfl⟩ hd
theorem pe_never {X : Cx} {e : Expr} : PE X e (fun _ _ _ => False) := ⟨fun _ _ _ _ _ _ h => h.elim⟩
theorem pt_never {X : Cx} {e : Expr} : PT X e (fun _ _ _ => False) := ⟨fun _ _ _ _ _ _ h => h.elim⟩
theorem sqT_same {K : Frag} {H H' : Hp} {a : Addr} {xs : List V} (s : Same H H') (h : SqT K H a xs) : SqT K H' a xs := by
  rcases h with (h | ⟨o, h⟩) | h
  · exact .inl (.inl (s _ _ h))
  · exact .inl (.inr ⟨o, s _ _ h⟩)
  · exact .inr h
theorem dp_same {K : Frag} {H H' : Hp} (s : Same H H') : ∀ {d : PyData} {v : V}, Dp K H v d → Dp K H' v d := by
  intro d v h
  exact Dp.rec (motive_1 := fun v d _ => Dp K H' v d) (motive_2 := fun vs ds _ => DpAll K H' vs ds) .non .bl .int .str (fun h1 _ ih => .lst (s.seq h1) ih) (fun h1 _ ih => .tup (sqT_same s h1) ih) .nil (fun _ _ a b => .cons a b) h
theorem dpAll_same {K : Frag} {H H' : Hp} (s : Same H H') : ∀ {ds : List PyData} {vs : List V}, DpAll K H vs ds → DpAll K H' vs ds
  | [], _, .nil => .nil
  | _ :: _, _, .cons h t => .cons (dp_same s h) (dpAll_same s t)
theorem dpLen {K : Frag} {H : Hp} : ∀ {vs : List V} {ds : List PyData}, DpAll K H vs ds → vs.length = ds.length
  | _, _, .nil => rfl
  | _, _, .cons _ t => congrArg Nat.succ (dpLen t)
theorem dpAt {K : Frag} {H : Hp} : ∀ {vs : List V} {ds : List PyData} {i : Nat} {d : PyData}, DpAll K H vs ds → ds[i]? = some d → ∃ v, vs[i]? = some v ∧ Dp K H v d
  | _, _, _, _, .nil, e => by cases e
  | _, _, 0, _, .cons h _, e => by
    obtain rfl := Option.some.inj e
    exact ⟨_, rfl, h⟩
  | _, _, i + 1, _, .cons _ t, e => dpAt (i := i) t e
theorem dpAt' {K : Frag} {H : Hp} : ∀ {vs : List V} {ds : List PyData} {i : Nat} {v : V}, DpAll K H vs ds → vs[i]? = some v → ∃ d, ds[i]? = some d ∧ Dp K H v d
  | _, _, _, _, .nil, e => by cases e
  | _, _, 0, _, .cons h _, e => by
    obtain rfl := Option.some.inj e
    exact ⟨_, rfl, h⟩
  | _, _, i + 1, _, .cons _ t, e => dpAt' (i := i) t e
theorem dpApp {K : Frag} {H : Hp} : ∀ {vs ws : List V} {ds es : List PyData}, DpAll K H vs ds → DpAll K H ws es → DpAll K H (vs ++ ws) (ds ++ es)
  | _, _, _, _, .nil, h => h
  | _, _, _, _, .cons h t, h' => .cons h (dpApp t h')
theorem dpDrop {K : Frag} {H : Hp} : ∀ (n : Nat) {vs : List V} {ds : List PyData}, DpAll K H vs ds → DpAll K H (vs.drop n) (ds.drop n)
  | 0, _, _, h => h
  | n + 1, _, _, .nil => .nil
  | n + 1, _, _, .cons _ t => dpDrop n t
theorem dpTake {K : Frag} {H : Hp} : ∀ (n : Nat) {vs : List V} {ds : List PyData}, DpAll K H vs ds → DpAll K H (vs.take n) (ds.take n)
  | 0, _, _, _ => .nil
  | n + 1, _, _, .nil => .nil
  | n + 1, _, _, .cons h t => .cons h (dpTake n t)
theorem dp_tup {K : Frag} {H : Hp} {v : V} {ds : List PyData} (h : Dp K H v (.tuple ds)) : ∃ a xs, v = .ref a ∧ SqT K H a xs ∧ DpAll K H xs ds := by
  cases h with
  | tup h1 h2 => exact ⟨_, _, rfl, h1, h2⟩
theorem dp_lst {K : Frag} {H : Hp} {v : V} {ds : List PyData} (h : Dp K H v (.list ds)) : ∃ a xs, v = .ref a ∧ SqL K H a xs ∧ DpAll K H xs ds := by
  cases h with
  | lst h1 h2 => exact ⟨_, _, rfl, h1, h2⟩
theorem dp_str {K : Frag} {H : Hp} {v : V} {x : Str} (h : Dp K H v (.str x)) : v = .str x := by
  cases h
  rfl
theorem dp_two {K : Frag} {H : Hp} {v : V} {x y : Str} (h : Dp K H v (.tuple [.str x, .str y])) : ∃ a, v = .ref a ∧ SqT K H a [.str x, .str y] := by
  obtain ⟨a, xs, rfl, q, all⟩ := dp_tup h
  cases all with
  | cons h1 t =>
    cases t with
    | cons h2 t =>
      cases t
      obtain rfl := dp_str h1
      obtain rfl := dp_str h2
      exact ⟨a, rfl, q⟩
/-! # a def's place and promise -/
def Has (P : Program) (w : World) (K : Frag) (mg : Str → Option Value) (base : Heap) (k : Nat) (x : Str) (ps : List Str) (sp : Sp) : Prop :=
  ∃ (f : Addr) (fd : FuncData), mg x = some (.ref f) ∧ PySem.W.keepIn K (.ref f) = true ∧ Binds K fd ps [] ∧ FnOk P w K mg base CX0 k f fd ps sp
/-- the same, its one argument told by its name -/
def HasK (P : Program) (w : World) (K : Frag) (mg : Str → Option Value) (base : Heap) (k : Nat) (x : Str) (ps : List Str) (sp : Sp) : Prop :=
  ∃ (f : Addr) (fd : FuncData), mg x = some (.ref f) ∧ PySem.W.keepIn K (.ref f) = true ∧ Binds K fd ps [] ∧ KBinds K fd ps ps (fun us ws => us ++ ws) (fun vs zs => vs ++ zs) ∧ FnOk P w K mg base CX0 k f fd ps sp
theorem HasK.has {P : Program} {w : World} {K : Frag} {mg : Str → Option Value} {base : Heap} {k : Nat} {x : Str} {ps : List Str} {sp : Sp} (h : HasK P w K mg base k x ps sp) : Has P w K mg base k x ps sp := by
  obtain ⟨f, fd, a, b, c, _, d⟩ := h
  exact ⟨f, fd, a, b, c, d⟩
theorem has_of {P : Program} {w : World} {K : Frag} {mg : Str → Option Value} {base : Heap} {k : Nat} {x qual : Str} {st : Stmt} {f : Addr} {fd : FuncData} {ps : List Str} {sp : Sp} (F : Fun K x qual st f fd) (g : mg x = some (.ref f)) (b : Binds K fd ps []) (o : FnOk P w K mg base CX0 k f fd ps sp) : Has P w K mg base k x ps sp := ⟨f, fd, g, F.kp, b, o⟩
theorem hasK_of {P : Program} {w : World} {K : Frag} {mg : Str → Option Value} {base : Heap} {k : Nat} {x qual : Str} {st : Stmt} {f : Addr} {fd : FuncData} {ps : List Str} {sp : Sp} (F : Fun K x qual st f fd) (g : mg x = some (.ref f)) (b : Binds K fd ps []) (c : KBinds K fd ps ps (fun us ws => us ++ ws) (fun vs zs => vs ++ zs)) (o : FnOk P w K mg base CX0 k f fd ps sp) : HasK P w K mg base k x ps sp := ⟨f, fd, g, F.kp, b, c, o⟩
section
variable {X : Cx} {CX : CXT} {k : Nat} {f : Addr} {fd : FuncData} {ps ks : List Str} {sp : Sp} {x : Str} {p pos : Pos} {E : XK} {kws : List Keyword} {tk : TA} {g : List Value → List Value → List Value} {gV : List V → List V → List V}
def tCallKw (sp : Sp) (gV : List V → List V → List V) (E : XK) (tk : TA) : TE := fun σ H Q => tk σ H fun zs H2 => sp (gV [] zs) H2 Q E
theorem pe_callKw (F : FnOk X.prog X.w X.K X.mg X.base CX k f fd ps sp) (hr : Room k X.A) (hg : Gl X x) (hm : X.mg x = some (.ref f)) (hk : PySem.W.keepIn X.K (.ref f) = true) (hb : KBinds X.K fd ps ks g gV) (hx : Passes CX X E)
    (hkw : PK X kws tk) (hall : (backToKw pos (keywordEach kws X.env)).all (·.1.isSome) = true := by rfl) (hks : (backToKw pos (keywordEach kws X.env)).filterMap (·.1) = ks := by rfl)
    (hdb : (x == ("__debug__" : Str)) = false := by decide)
    (hpl : ((backTo pos (starEach [] X.env)).any (·.1) || (backToKw pos (keywordEach kws X.env)).any (·.1.isNone)) = false := by rfl) :
    PE X (.Call (.Name x p) [] kws pos) (tCallKw sp gV E tk) := by
  refine ⟨fun pins s σ H Q I h => ?_⟩
  refine wpAny_Call_Name_kw (ld_glob I hg hm ?_ hdb)
  refine PySem.W.callWith_KW0 (h₀ := X.base) I.ok.mod.kin hk hall (thn (hkw.run pos pins s σ H _ I h) fun ws s2 ⟨zs, H2, I2, rz, q2⟩ => ⟨I2.kIn, ?_⟩) hpl
  rw [hks]
  exact run_fnk F hr hb hx I2 .nil rz q2
end
theorem len_cs (x : Str) : x.length = (cs x).length := by
  show x.cps.size = _
  simp
theorem ixN_of {n j : Nat} (h : j < n) : ixN n (j : Int) = some j := by
  unfold ixN
  rw [if_pos (by omega), if_pos (by omega)]
  simp
theorem fm0 {m : Int} (h : 0 < m) (a : Int) : 0 ≤ a.fmod m := by
  rw [Int.fmod_eq_emod_of_nonneg _ (by omega)]
  exact Int.emod_nonneg _ (by omega)
theorem fm1 {m : Int} (h : 0 < m) (a : Int) : a.fmod m < m := by
  rw [Int.fmod_eq_emod_of_nonneg _ (by omega)]
  exact Int.emod_lt_of_pos _ h
/-- a while's word over a natural number -/
theorem while_n {c : TT} {tb : TS} {D : Ends} {σ : L2.St} {H : Hp} (Pv : Nat → L2.St → Hp → Prop) (m : Nat) (h0 : Pv m σ H)
    (hs : ∀ m σ H, Pv m σ H → c σ H fun b H1 => if b = true then ∃ N : L2.St → Hp → Prop, (∀ σ' H', N σ' H' → ∃ m', m' < m ∧ Pv m' σ' H') ∧ tb { D with nx := N, ct := N, bk := D.nx } σ H1 else D.nx σ H1) : tWhile c tb D σ H :=
  ⟨Pv, ⟨m, h0⟩, hs⟩
/-! # cases -/
def tNoE : TE := fun _ _ _ => False
theorem pe_no {X : Cx} {e : Expr} : PE X e tNoE := ⟨fun _ _ _ _ _ _ h => h.elim⟩
/-- True, False as a pattern -/
def rBool (c : Bool) : PatR := fun v _ Q => ∃ b, v = .bl b ∧ Q (if b = c then some [] else none)
theorem pp_bool {X : Cx} {pos : Pos} {c : Bool} : PPt X (.MatchSingleton (.bool c) pos) [] (rBool c) := by
  refine ⟨fun pins s σ H v u Q I r h => ?_⟩
  obtain ⟨b, rfl, q⟩ := h
  obtain rfl : u = Value.bool b := r
  refine wpAny_matchPattern_Singleton_bool ?_
  cases b <;> cases c
  · exact ⟨I, rfl, [], .nil, q⟩
  · exact ⟨I, q⟩
  · exact ⟨I, q⟩
  · exact ⟨I, rfl, [], .nil, q⟩
theorem either_bool {b : Bool} {H : Hp} {Q : Option (List V) → Prop} (h : Q (some [])) : rOr [rBool true, rBool false] (.bl b) H Q := by
  cases b
  · exact ⟨false, rfl, ⟨false, rfl, h⟩⟩
  · exact ⟨true, rfl, h⟩
def rNo : PatR := fun _ _ _ => False
theorem pcs_never {X : Cx} {cases : List MatchCase} : PCs X cases [([], rNo, fun _ _ _ => False)] := ⟨fun _ _ _ _ _ _ _ _ _ _ h => h.elim⟩
def Hit (r : PatR) (y : Str) : Prop := ∀ H Q, Q (some []) → r (.str y) H Q
def Miss (r : PatR) (y : Str) : Prop := ∀ H Q, Q none → r (.str y) H Q
theorem hit_lit {c : Str} : Hit (rLit c) c := fun H Q h => ⟨c, rfl, by rw [if_pos rfl]; exact h⟩
theorem miss_lit {c y : Str} (ne : y ≠ c) : Miss (rLit c) y := fun H Q h => ⟨y, rfl, by rw [if_neg ne]; exact h⟩
theorem hit_or {r : PatR} {rs : List PatR} {y : Str} (h : Hit r y) : Hit (rOr (r :: rs)) y := fun H Q q => h H _ q
theorem hit_or2 {r : PatR} {rs : List PatR} {y : Str} (m : Miss r y) (h : Hit (rOr rs) y) : Hit (rOr (r :: rs)) y := fun H Q q => m H _ (h H Q q)
theorem miss_or {r : PatR} {rs : List PatR} {y : Str} (m : Miss r y) (h : Miss (rOr rs) y) : Miss (rOr (r :: rs)) y := fun H Q q => m H _ (h H Q q)
theorem miss_or0 {y : Str} : Miss (rOr []) y := fun H Q q => q
theorem each_caps {H : Hp} : ∀ {ys : List V} {Q : Option (List V) → Prop}, Q (some ys) → rEach (List.replicate ys.length rCap) ys H Q
  | [], _, h => h
  | y :: ys, Q, h => by
    show rEach (List.replicate ys.length rCap) ys H _
    exact each_caps (ys := ys) (Q := fun o' => match o' with | none => Q none | some more => Q (some ([y] ++ more))) h
theorem case_hit {K : Frag} {n : Nat} {r : PatR} {rs : List PatR} {is : List Nat} {t : TS} {rest : List (List Nat × PatR × TS)} {a : Addr} {c : Str} {ys : List V} {D : Ends} {σ : L2.St} {H : Hp} (hq : SqT K H a (.str c :: ys)) (hh : Hit r c) (h : t D (setAll σ is ys) H)
    (hr : rs = List.replicate ys.length rCap := by rfl) (hn : n = ys.length + 1 := by rfl) : tCases ((is, rSeq K n (r :: rs), t) :: rest) (.ref a) D σ H := by
  subst hr
  subst hn
  refine ⟨a, _, rfl, hq, fun ne => absurd rfl ne, fun _ => ?_⟩
  refine hh H _ ?_
  exact each_caps (Q := fun o' => match o' with | none => tCases rest (.ref a) D σ H | some more => t D (setAll σ is ([] ++ more)) H) h
theorem case_miss {K : Frag} {n : Nat} {r : PatR} {rs : List PatR} {is : List Nat} {t : TS} {rest : List (List Nat × PatR × TS)} {a : Addr} {c : Str} {ys : List V} {D : Ends} {σ : L2.St} {H : Hp} (hq : SqT K H a (.str c :: ys)) (hh : Miss r c ∨ ys.length + 1 ≠ n) (h : tCases rest (.ref a) D σ H) :
    tCases ((is, rSeq K n (r :: rs), t) :: rest) (.ref a) D σ H := by
  rcases hh with hh | ne
  · exact ⟨a, _, rfl, hq, fun _ => h, fun _ => hh H _ h⟩
  · exact ⟨a, _, rfl, hq, fun _ => h, fun e => absurd e ne⟩
theorem ml {c y : Str} {n m : Nat} (ne : y ≠ c := by decide +kernel) : Miss (rLit c) y ∨ n ≠ m := .inl (miss_lit ne)
/-- what a piece's tuple holds -/
theorem pc_two {K : Frag} {H : Hp} {v : V} {k : Str} {d : PyData} (h : Dp K H v (.tuple [.str k, d])) : ∃ a x, v = .ref a ∧ SqT K H a [.str k, x] ∧ Dp K H x d := by
  obtain ⟨a, xs, rfl, hq, all⟩ := dp_tup h
  cases all with
  | cons h1 t1 =>
    obtain rfl := dp_str h1
    cases t1 with
    | cons h2 t2 =>
      cases t2
      exact ⟨a, _, rfl, hq, h2⟩
theorem pc_three {K : Frag} {H : Hp} {v : V} {k : Str} {d e : PyData} (h : Dp K H v (.tuple [.str k, d, e])) : ∃ a x y, v = .ref a ∧ SqT K H a [.str k, x, y] ∧ Dp K H x d ∧ Dp K H y e := by
  obtain ⟨a, xs, rfl, hq, all⟩ := dp_tup h
  cases all with
  | cons h1 t1 =>
    obtain rfl := dp_str h1
    cases t1 with
    | cons h2 t2 =>
      cases t2 with
      | cons h3 t3 =>
        cases t3
        exact ⟨a, _, _, rfl, hq, h2, h3⟩
/-- data that can be laid, no deeper than n -/
def Sh (n : Nat) (d : PyData) : Prop := d.canLay0 = true ∧ d.depth ≤ n
theorem sh_all {n : Nat} : ∀ {ds : List PyData}, (∀ d ∈ ds, Sh n d) → PyData.canLayAll0 ds = true ∧ PyData.depthAll ds ≤ n
  | [], _ => ⟨PyData.canLayAll0.eq_1, by rw [PyData.depthAll.eq_1]; exact Nat.zero_le _⟩
  | d :: ds, h => by
    have h1 := h d (.head _)
    have h2 := sh_all (n := n) (ds := ds) fun e m => h e (.tail _ m)
    exact ⟨by rw [PyData.canLayAll0.eq_2, h1.1, h2.1]; rfl, by rw [PyData.depthAll.eq_2]; exact Nat.max_le.mpr ⟨h1.2, h2.2⟩⟩
theorem sh_lst {n : Nat} {ds : List PyData} (h : ∀ d ∈ ds, Sh n d) : Sh (n + 1) (.list ds) := by
  have z := sh_all h
  exact ⟨by rw [PyData.canLay0.eq_5]; exact z.1, by rw [PyData.depth.eq_1]; omega⟩
theorem sh_tup {n : Nat} {ds : List PyData} (h : ∀ d ∈ ds, Sh n d) : Sh (n + 1) (.tuple ds) := by
  have z := sh_all h
  exact ⟨by rw [PyData.canLay0.eq_6]; exact z.1, by rw [PyData.depth.eq_2]; omega⟩
theorem sh_str {x : Str} (h : PyData.strOk x = true) : Sh 0 (.str x) := ⟨by rw [PyData.canLay0.eq_4]; exact h, Nat.le_of_eq rfl⟩
theorem sh_mono {n m : Nat} {d : PyData} (h : Sh n d) (l : n ≤ m) : Sh m d := ⟨h.1, Nat.le_trans h.2 l⟩
theorem sh_ok {n : Nat} {d : PyData} (h : Sh n d) (l : n ≤ 64 := by decide) : SeqAt.shaped d = true := by
  unfold SeqAt.shaped
  rw [h.1, decide_eq_true (Nat.le_trans h.2 l)]
  rfl
theorem eqv_nil (ds : List PyData) : PyData.eqv (.list ds) (.list []) = ds.isEmpty := by
  cases ds <;> rfl
/-- all of the answers of a walk -/
theorem lc_all {K : Frag} {a D : Addr} {xs : List V} {bs : List Bool} {H : Hp} {σ : L2.St} {vs : List Nat} {g : TG} {te : TE} {Qd : Hp → Prop} (hq : SqL K H a xs) (hD : H D = none) (hb : bs.length = xs.length) (hl : xs.length ≤ 1000)
    (turn : ∀ (i : Nat) (x : V) (b : Bool) (H' : Hp) (Q : VK), xs[i]? = some x → bs[i]? = some b → Same H H' → (∀ H4, Same H' H4 → Q (.bl b) H4) → g x (wipe σ vs) H' fun σ2 H2 => wipe σ2 vs = wipe σ vs ∧ te σ2 H2 Q)
    (hd : ∀ H', Same H H' → SqL K H' D (bs.map V.bl) → Qd H') :
    ∃ W : Nat → Nat → Hp → Prop, (∃ m, W 0 m (L2.upd H D (.lst []))) ∧ ∀ i m H, W i m H →
      ((Itl K a).stop i H ∧ Qd H) ∨ ((Itl K a).go i H ∧ ∃ Nx : Hp → Prop, (∀ H', Nx H' → ∃ m', m' < m ∧ W (i + 1) m' H') ∧ ∀ x H', (Itl K a).yld i H x H' → g x (wipe σ vs) H' fun σ2 H2 => wipe σ2 vs = wipe σ vs ∧ tYes σ2 H2 fun b H3 =>
        if b = true then te σ2 H3 fun y H4 => ∃ acc, H4 D = some (.lst acc) ∧ acc.length < sizeLine ∧ Nx (L2.upd H4 D (.lst (acc ++ [y]))) else Nx H3) := by
  refine lc_it (walk_list (xs := xs)) (fun i H' => Same H H' ∧ H' D = some (.lst ((bs.take i).map V.bl))) ⟨same_upd hD, upd_same⟩ (fun i H' _ e => e.1.seq hq) (fun i x H' H2 hi e y => ?_) (fun H' e => ?_)
  · obtain ⟨rfl, hx⟩ := y
    obtain ⟨s1, h1⟩ := e
    obtain ⟨b, hbi⟩ : ∃ b, bs[i]? = some b := ⟨_, List.getElem?_eq_getElem (by omega)⟩
    refine turn i x b H2 _ hx hbi s1 fun H4 s4 => ⟨_, s4 _ _ h1, ?_, same_upd2 (s1.trans s4) hD, ?_⟩
    · rw [List.length_map, List.length_take, sizeLine_eq]
      omega
    · rw [upd_same, take_snoc hbi, List.map_append]
      rfl
  · obtain ⟨s1, h1⟩ := e
    rw [← hb, List.take_length] at h1
    exact hd H' s1 (SqL.of h1)
def hide (H : Hp) (W : Addr) : Hp := fun b => if b = W then none else H b
theorem hide_same {H : Hp} {W : Addr} : Same (hide H W) H := fun b o h => by
  unfold hide at h
  by_cases e : b = W
  · rw [if_pos e] at h; cases h
  · rw [if_neg e] at h; exact h
theorem hide_upd {H : Hp} {W : Addr} {o : HO} : Same (hide H W) (hide (L2.upd H W o) W) := fun b u h => by
  unfold hide at h ⊢
  by_cases e : b = W
  · rw [if_pos e] at h; cases h
  · rw [if_neg e] at h ⊢
    rw [upd_ne e]
    exact h
theorem hide_ne {H : Hp} {W b : Addr} {o : HO} (h : H b = some o) (ne : b ≠ W) : hide H W b = some o := by
  unfold hide
  rw [if_neg ne]
  exact h
theorem hide_mono {H H' : Hp} {W : Addr} (s : Same H H') : Same (hide H W) (hide H' W) := fun b u h => by
  unfold hide at h ⊢
  by_cases e : b = W
  · rw [if_pos e] at h; cases h
  · rw [if_neg e] at h ⊢
    exact s b u h
/-- what was there before W came -/
theorem hide_of {H H' : Hp} {W : Addr} (s : Same H H') (h : H W = none) : Same H (hide H' W) := fun b u e => by
  unfold hide
  rw [if_neg (ne_of_none e h)]
  exact s b u e
end Qb
end PySem
namespace PySem
namespace Qb
open PySem.W PySem.Calls PyProof.Rows L2
/-! # errors that are caught and kept -/
/-- the error that was caught, at a: its class and its dict -/
def ErO (cls : Value) (d : Option Addr) (a : Addr) : HO := .ext fun h => ∃ (oe : Obj) (vs : Array Value), h.get? a = some oe ∧ Zc cls d oe ∧ oe.data = .fields vs
theorem erO_ok {P : Program} {w : World} {H : Hp} {h : Heap} {a : Addr} {cls : Value} {d : Option Addr} {oe : Obj} {vs : Array Value} (e : h.get? a = some oe) (z : Zc cls d oe) (f : oe.data = .fields vs) : ObjOk P w H h a (ErO cls d a) :=
  ⟨⟨oe, vs, e, z, f⟩, ⟨_, e⟩, fun h1 h2 ⟨o1, v1, e1, z1, f1⟩ k => ⟨o1, v1, k _ e1, z1, f1⟩⟩
section
variable {X : Cx} {pins : List (Addr × Obj)} {σ : L2.St} {H : Hp} {s : Shared}
/-- a thing that is there and was not spoken of is spoken of from here on -/
theorem inv_track {a : Addr} {o : HO} {oe : Obj} {vs : Array Value} (I : Inv X pins σ H s) (na : H a = none) (ha : s.heap.get? a = some oe) (hd : oe.data = .fields vs) (nL : a ≠ X.env.locals)
    (n0 : ∀ ob, X.s_0.heap.get? a ≠ some ob) (np : ∀ p ∈ X.pn ++ pins, p.1 ≠ a) (new : ObjOk X.prog X.w (L2.upd H a o) s.heap a o) : Inv X pins σ (L2.upd H a o) s where
  ok := I.ok
  os := I.os
  bare := I.bare
  base := {
    keep := I.base.keep
    slot := I.base.slot
    free := fun b ob e n hx => by
      rw [upd_ne (fun z : b = a => n0 ob (z ▸ e))]
      exact I.base.free b ob e n hx
    there := I.base.there
    tups := fun b xs e => by
      have q := I.base.tups b xs e
      rw [upd_ne (ne_of_none q na)]
      exact q
    frzs := fun b ob u e => by
      have q := I.base.frzs b ob u e
      rw [upd_ne (ne_of_none q na)]
      exact q
    tbls := fun b ps e => by
      obtain ⟨more, q⟩ := I.base.tbls b ps e
      exact ⟨more, by rw [upd_ne (ne_of_none q na)]; exact q⟩ }
  loc := I.loc
  cell := I.cell
  free := by
    rw [upd_ne (Ne.symm nL)]
    exact I.free
  freeC := fun x c e => by
    rw [upd_ne (fun z : c = a => by
      obtain ⟨v, ob, h1, h2⟩ := I.cell x c e
      rw [z, ha] at h1
      cases h1
      rw [hd] at h2
      cases h2)]
    exact I.freeC x c e
  pin := fun p hp => by
    obtain ⟨e, n, r⟩ := I.pin p hp
    exact ⟨e, by rw [upd_ne (np p hp)]; exact n, r⟩
  hok := fun b u e => by
    by_cases hb : b = a
    · subst hb
      rw [upd_same] at e
      cases e
      exact new
    · rw [upd_ne hb] at e
      refine (I.hok b u e).stay (fun c v _ q => q) (fun c q => ?_) (fun c xs q => ?_)
      · rw [upd_ne (ne_of_none q na)]
        exact q
      · rw [upd_ne (ne_of_none q na)]
        exact q
  len := I.len
theorem inv_into (a : Addr) (I : Inv X pins σ H s) : Inv (X.suite a (X.pn ++ pins)) [] σ H s where
  ok := I.ok.suite a _
  os := I.os
  bare := I.bare
  base := I.base
  loc := I.loc
  cell := I.cell
  free := I.free
  freeC := I.freeC
  pin := fun p hp => I.pin p (by rw [List.append_nil] at hp; exact hp)
  hok := I.hok
  len := I.len
theorem inv_outof {a : Addr} {qs : List (Addr × Obj)} (good : X.Ok) (I : Inv (X.suite a (X.pn ++ pins)) qs σ H s) : Inv X pins σ H s where
  ok := good
  os := I.os
  bare := I.bare
  base := I.base
  loc := I.loc
  cell := I.cell
  free := I.free
  freeC := I.freeC
  pin := fun p hp => I.pin p (List.mem_append_left _ hp)
  hok := I.hok
  len := I.len
end
/-- what 'except x as n' wishes, where it takes all that comes: slot i is n's, the error stands in the heap from here on -/
def wKeep (K : Frag) (c : Value) (i : Nat) (ts : Addr → Value → Option Addr → TS) (D : Ends) : WX := fun cls d σ H =>
  exmOne K cls c = some true ∧ ∀ a, H a = none → ts a cls d { nx := fun σ' H' => D.nx (σ'.set i none) H', rt := D.rt, bk := fun σ' H' => D.bk (σ'.set i none) H', ct := fun σ' H' => D.ct (σ'.set i none) H' } (σ.set i (some (.ref a))) (L2.upd H a (ErO cls d a))
section
variable {X : Cx} {x n : Str} {c : Value} {i : Nat} {body more : List Stmt} {b0 : Stmt} {p1 p2 p3 : Pos} {tb : WX → TS} {ts : Addr → Value → Option Addr → TS}
theorem ps_try_keep (stk : X.stack = X.env :: X.outer) (frm : X.env.frame = some X.env.locals) (noex : X.ex = []) (nd : X.N.Nodup) (hi : X.N[i]? = some n) (loc : X.env.kindOf n = some .local) (nm : Names X x c)
    (hb : ∀ (W : WX) (pn : List (Addr × Obj)) (xe : Value → Shared → Prop), Takes (X.tr pn xe) W → PassesOwn (model X.prog X.w) X.A X.env xe → PSs (X.tr pn xe) body (tb W))
    (hsu : ∀ (a : Addr) (cls : Value) (d : Option Addr) (pn : List (Addr × Obj)), PSs (X.suite a pn) (b0 :: more) (ts a cls d)) :
    PS X (.Try body [.ExceptHandler (some (.Name x p1)) (some n) (b0 :: more) p2] [] [] p3) (fun D σ H => tb (wKeep X.K c i ts D) D σ H) := by
  refine ⟨fun pins s σ H D I h => ?_⟩
  have good := I.ok
  have allF : X.A.frames = some (X.env :: X.outer) := good.frames.trans (congrArg some stk)
  have lo : L2.Loc X.env.scope n := .inl loc
  have caught : ∀ (u : Value) (z : Shared), XE (X.tr (X.pn ++ pins) fun e z0 => wpAny (model X.prog X.w) X.A (noteFrame e X.env) (fun _ z1 => wpAny (model X.prog X.w) X.A (setFlight e none) (fun _ z2 =>
      wpAny (model X.prog X.w) X.A (handleBy e X.env [.ExceptHandler (some (.Name x p1)) (some n) (b0 :: more) p2]) (SP X pins D) X.xe z2) X.xe z1) X.xe z0) (wKeep X.K c i ts D) u z →
      wpAny (model X.prog X.w) X.A (noteFrame u X.env) (fun _ z1 => wpAny (model X.prog X.w) X.A (setFlight u none) (fun _ z2 =>
      wpAny (model X.prog X.w) X.A (handleBy u X.env [.ExceptHandler (some (.Name x p1)) (some n) (b0 :: more) p2]) (SP X pins D) X.xe z2) X.xe z1) X.xe z := by
    rintro u z ⟨e, B, sI, qs, σ1, H1, cls, d, rfl, J0, inB, ups, air, ne, sameOs, gens, ofC, wish⟩
    have J : Inv X pins σ1 H1 sI := J0.ofTry good
    have air2 : Sky B (X.env :: X.outer) e (Zc cls d) X.env.locals z.heap := stk ▸ air
    refine Sky.land Zc.steady allF frm air2 fun h1 fly ups1 => ?_
    obtain ⟨oe1, vs1, get1, zc1, dat1⟩ := fly.there
    have notF : e ∉ frs (X.env :: X.outer) := fun hm => by
      obtain ⟨_, ob, eo, nofl⟩ := fly.2.2.1.mem hm
      rw [get1] at eo
      cases eo
      exact nofl _ dat1
    have notL : e ≠ X.env.locals := fun q => notF (List.mem_filterMap.mpr ⟨X.env, List.mem_cons_self, by rw [frm, q]⟩)
    have noI : sI.heap.get? e = none := by
      cases q : sI.heap.get? e with
      | none => rfl
      | some ob =>
        have q2 := inB e ob q (by show e ∉ frs X.stack; rw [stk]; exact notF)
        rw [fly.2.1] at q2
        cases q2
    have no0 : ∀ ob, X.s_0.heap.get? e ≠ some ob := fun ob q => by
      obtain ⟨ob2, q2⟩ := J.base.there e ob q (by rw [noex]; exact fun y => nomatch y)
      rw [noI] at q2
      cases q2
    have noP : ∀ p ∈ X.pn ++ pins, p.1 ≠ e := fun p hp q => by
      have q2 := (J.pin p hp).1
      rw [q, noI] at q2
      cases q2
    have S1 : Inv (X.suite e (X.pn ++ pins)) [] σ1 H1 { z with heap := h1 } := inv_into e (J.landed inB fly.1 (ups.trans ups1) sameOs gens)
    refine wpAny_handleBy_cons (codeAny_handlers_test ?_) (by intro q; cases q)
    have LT : Looks (model X.prog X.w) h1 (typeOf (.ref e)) cls := fun A Q E s k q => wpAny_typeOf_ref (k _ _ get1) (by rw [zc1.1]; exact q)
    have LM := exm_one (M := model X.prog X.w) S1.kIn LT ofC
    have named : ∀ {Q : Value → Shared → Prop} {E : Value → Shared → Prop}, Q c { z with heap := h1 } → wpAny (model X.prog X.w) (X.A.mark (some (.ref e))) (eval (.Name x p1) X.env) Q E { z with heap := h1 } := fun {Q E} q => by
      obtain ⟨hg, hdbg, hm | ⟨hm, hv, hnn⟩⟩ := nm
      · exact ld_glob (X := X.suite e (X.pn ++ pins)) S1 hg hm q hdbg
      · exact ld_blt (X := X.suite e (X.pn ++ pins)) S1 hg hm hv q hnn hdbg
    refine named (LM.here ?_)
    refine codeAny_handlers_suite_as ?_
    refine HandSPX.lands_againZ fly fun h2 fly2 ups2 => ?_
    have J2 : Inv X pins σ1 H1 { z with heap := h2 } := J.landed inB fly2.1 ((ups.trans ups1).trans ups2) sameOs gens
    obtain ⟨oe2, vs2, get2, zc2, dat2⟩ := fly2.there
    have S2 := inv_into e (inv_track (o := ErO cls d e) J2 ne get2 dat2 notL no0 noP (erO_ok get2 zc2 dat2))
    refine store_ok (X := X.suite e (X.pn ++ pins)) (v := .ref e) S2 nd hi lo rfl (fun s3 S3 => ?_) (.inr loc)
    refine wpAny_mono ((hsu e cls d (X.pn ++ pins)).run [] s3 _ _ _ S3 (wish e ne)) (fun fl s4 end4 => ?_) (fun _ _ y => y.elim)
    have bye : ∀ {σ4 : L2.St} {H4 : Hp} {Q : Shared → Prop}, Inv (X.suite e (X.pn ++ pins)) [] σ4 H4 s4 → (∀ s5, Inv X pins (σ4.set i none) H4 s5 → Q s5) →
        wpAny (model X.prog X.w) X.A (do bindName X.env n .none; unbindBehindTheSuite X.env n p2) (fun _ s5 => Q s5) X.xe s4 := fun {σ4 H4 Q} S4 q => gone_ok (inv_outof good S4) nd hi loc q
    cases fl with
    | next =>
      obtain ⟨σ4, H4, S4, q4⟩ := end4
      exact bye S4 fun s5 J5 => ⟨_, _, J5, q4⟩
    | brk =>
      obtain ⟨σ4, H4, S4, q4⟩ := end4
      exact bye S4 fun s5 J5 => ⟨_, _, J5, q4⟩
    | cont =>
      obtain ⟨σ4, H4, S4, q4⟩ := end4
      exact bye S4 fun s5 J5 => ⟨_, _, J5, q4⟩
    | ret u =>
      obtain ⟨v4, σ4, H4, S4, r4, q4⟩ := end4
      exact bye S4 fun s5 J5 => ⟨_, _, _, J5, r4, q4⟩
  refine wpAny_Try_except (wpAny_mono ((hb (wKeep X.K c i ts D) (X.pn ++ pins) _ caught PassesOwn.looking).run [] s σ H D (I.toTry _) h) (fun fl s1 end1 => ?_) fun _ _ y => y)
  cases fl with
  | next =>
    obtain ⟨σ1, H1, J1, q⟩ := end1
    exact wpAny_execs_nil ⟨σ1, H1, J1.ofTry good, q⟩
  | brk =>
    obtain ⟨σ1, H1, J1, q⟩ := end1
    exact ⟨σ1, H1, J1.ofTry good, q⟩
  | cont =>
    obtain ⟨σ1, H1, J1, q⟩ := end1
    exact ⟨σ1, H1, J1.ofTry good, q⟩
  | ret u =>
    obtain ⟨v, σ1, H1, J1, r, q⟩ := end1
    exact ⟨v, σ1, H1, J1.ofTry good, r, q⟩
end
/-! # the classes of errors -/
/-- what the written part says of one class of errors: its name x, its object at C, behind itself ms in the order of lookup; fI: the one __init__ -/
structure EC (K : Frag) (mg : Str → Option Value) (fI : Addr) (x : Str) (C : Addr) (ms : List Value) : Prop where
  gC : mg x = some (.ref C)
  cls : ∃ nm q N bs sn sub ab col dd k0 k1 k2 k3 k5,
    K.lookup C = some (excClassObj nm q C N bs ms true sn sub ab col dd k0 k1 k2 k3 k5 "ValueError.__new__")
  rv : HandSPX.refsVE ms = true
  sa : findIn K (.ref C) "__setattr__" = some (some (.builtin "object.__setattr__"))
  ga : findIn K (.ref C) "__getattribute__" = some (some (.builtin "BaseException.__getattribute__"))
  gg : findIn K (.ref C) "__getattr__" = some none
  no : findIn K (.ref C) "value" = some none
  iC : findIn K (.ref C) "__init__" = some (some (.ref fI))
  kC : keepIn K (.ref C) = true
  cc : findIn K (.ref C) "__class__" = some (some (.builtin "object.__class__"))
structure EG (K : Frag) (fI : Addr) : Prop where
  tI : typeIn K (.ref fI) = some (.type "function")
  hn : specialIn K (.builtin "object.__class__") "__get__" = some (some (.builtin "getset_descriptor.__get__"))
  ht : takesIn K (.builtin "object.__class__") = some true
theorem ec_mk {K : Frag} {mg : Str → Option Value} {h : Heap} {fI C N : Addr} {x nm q : Str} {ms bs : List Value} {sn : List Str} {sub : List Value} {ab : Bool} {col : Option Bool} {dd : Option Addr} {k0 k1 k2 k3 k5 : Option Value}
    (X : K.In h) (G : h.Ns mainGlobals mg) (a : nsIn K mainGlobals x = some (some (.ref C))) (l : K.lookup C = some (excClassObj nm q C N bs ms true sn sub ab col dd k0 k1 k2 k3 k5 "ValueError.__new__")) (rv : HandSPX.refsVE ms = true)
    (sa : findIn K (.ref C) "__setattr__" = some (some (.builtin "object.__setattr__"))) (ga : findIn K (.ref C) "__getattribute__" = some (some (.builtin "BaseException.__getattribute__"))) (gg : findIn K (.ref C) "__getattr__" = some none)
    (no : findIn K (.ref C) "value" = some none) (iC : findIn K (.ref C) "__init__" = some (some (.ref fI))) (kC : keepIn K (.ref C) = true) (cc : findIn K (.ref C) "__class__" = some (some (.builtin "object.__class__"))) : EC K mg fI x C ms :=
  ⟨mg_of X G a, ⟨nm, q, N, bs, sn, sub, ab, col, dd, k0, k1, k2, k3, k5, l⟩, rv, sa, ga, gg, no, iC, kC, cc⟩
section
variable {K : Frag} {mg : Str → Option Value} {fI C : Addr} {x : Str} {ms : List Value}
theorem EC.clsIs (T : EC K mg fI x C ms) : ∃ cd : ClassData, clsIn K C = some cd ∧ cd.mro = .ref C :: ms ∧ cd.hasDict = true := by
  obtain ⟨nm, q, N, bs, sn, sub, ab, col, dd, k0, k1, k2, k3, k5, hC⟩ := T.cls
  refine ⟨{ name := nm, bases := bs, mro := .ref C :: ms, ns := N, qualname := q, hasDict := true, slotNames := sn, subclasses := sub, abstract := ab, collection := col, hasDel := false }, ?_, rfl, rfl⟩
  unfold clsIn
  rw [hC] <;> rfl
theorem EC.mro (T : EC K mg fI x C ms) (b : Value) : mroIn K C b = some ((Value.ref C :: ms).contains b) := by
  obtain ⟨cd, h1, h2, _⟩ := T.clsIs
  unfold mroIn
  rw [h1, Option.bind_some, h2]
  rfl
theorem EC.below (T : EC K mg fI x C ms) (n : String) (h : HandSPX.veTail.contains (.type n) = true) : mroIn K C (.type n) = some true := by
  rw [T.mro, List.contains_cons, HandSPX.refsVE_contains n ms T.rv, h, Bool.or_true]
theorem EC.ty (T : EC K mg fI x C ms) : typeIn K (.ref C) = some (.type "type") := by
  obtain ⟨nm, q, N, bs, sn, sub, ab, col, dd, k0, k1, k2, k3, k5, hC⟩ := T.cls
  show (K.lookup C).map (·.cls) = _
  rw [hC] <;> rfl
theorem EC.oex (T : EC K mg fI x C ms) : OexC K C := by
  obtain ⟨nm, q, N, bs, sn, sub, ab, col, dd, k0, k1, k2, k3, k5, hC⟩ := T.cls
  exact { cls := ⟨nm, q, N, bs, ms, sn, sub, ab, col, dd, k0, k1, k2, k3, k5, hC, T.rv⟩, sa := T.sa, exC := T.below "BaseException" (by decide +kernel), tyC := T.ty, kC := T.kC }
theorem EC.kit (T : EC K mg fI x C ms) (G : EG K fI) {e : Addr} {oe : Obj} {od : Option Obj} : KitX K (.ref e) (.ref C) (fun h => InstAt h e oe C od) := by
  obtain ⟨cd, h1, _, _⟩ := T.clsIs
  exact kitx_exc (by rw [h1]; rfl) T.ga T.gg (T.below "BaseException" (by decide +kernel)) T.cc G.hn G.ht (T.below "object" (by decide +kernel))
/-- isinstance of an error of the class at C against another class of errors -/
theorem EC.one (T : EC K mg fI x C ms) {x' : Str} {D : Addr} {ms' : List Value} (T' : EC K mg fI x' D ms') : kitOne K (.ref C) (.ref D) = some ((Value.ref C :: ms).contains (.ref D)) := by
  unfold kitOne
  by_cases h : (Value.ref C == Value.ref D) = true
  · rw [if_pos h, List.contains_cons]
    have e : C = D := Value.ref.inj (beq_iff_eq.mp h)
    subst e
    simp
  · rw [if_neg h]
    obtain ⟨cd, h1, _, _⟩ := T'.clsIs
    show (if ((clsIn K D).isSome && typeIn K (.ref D) == some (.type "type")) = true then subIn K (.ref C) (.ref D) else none) = _
    rw [if_pos (by rw [h1, T'.ty]; rfl)]
    exact T.mro _
theorem EC.oneT (T : EC K mg fI x C ms) : kitOne K (.ref C) (.type "ValueError") = some true := by
  unfold kitOne
  rw [if_neg (fun q => Value.noConfusion (beq_iff_eq.mp q))]
  show (if kitMeta "ValueError" = true then subIn K (.ref C) (.type "ValueError") else none) = _
  rw [if_pos (by decide +kernel)]
  exact T.below "ValueError" (by decide +kernel)
/-- 'except D' takes an error of the class at C, D behind it in the order of lookup -/
theorem EC.takes (T : EC K mg fI x C ms) {x' : Str} {D : Addr} {ms' : List Value} (T' : EC K mg fI x' D ms') (h : (Value.ref C :: ms).contains (.ref D) = true) : exmOne K (.ref C) (.ref D) = some true := by
  have e1 : (subIn K (.ref D) (.type "BaseException") == some true) = true := by
    rw [show subIn K (.ref D) (.type "BaseException") = some true from T'.below "BaseException" (by decide +kernel)]
    rfl
  obtain ⟨cd, h1, _, _⟩ := T'.clsIs
  have e2 : ((clsIn K D).isSome && typeIn K (.ref D) == some (.type "type")) = true := by
    rw [h1, T'.ty]
    rfl
  show (if (subIn K (.ref D) (.type "BaseException") == some true) = true then (if ((clsIn K D).isSome && typeIn K (.ref D) == some (.type "type")) = true then subIn K (.ref C) (.ref D) else none) else none) = some true
  rw [if_pos e1, if_pos e2]
  show mroIn K C (.ref D) = some true
  rw [T.mro, h]
end
/-- at e: a caught error of the class at C that holds v -/
def ErrV (H : Hp) (e C : Addr) (v : V) : Prop := ∃ d, H e = some (ErO (.ref C) (some d) e) ∧ H d = some (.xd [(("value" : Str), v)])
theorem ErrV.same {H H' : Hp} {e C : Addr} {v : V} (h : ErrV H e C v) (s : Same H H') : ErrV H' e C v := by
  obtain ⟨d, h1, h2⟩ := h
  exact ⟨d, s _ _ h1, s _ _ h2⟩
theorem errv_inst {X : Cx} {pins : List (Addr × Obj)} {σ : L2.St} {H : Hp} {s : Shared} {C e : Addr} {v : V} (I : Inv X pins σ H s) (h : ErrV H e C v) : ∃ (oe od : Obj), InstAt s.heap e oe C (some od) ∧ (∃ u, lookIn "value" od = some (some u) ∧ RelV v u) := by
  obtain ⟨d, h1, h2⟩ := h
  have z1 : ObjOk X.prog X.w H s.heap e (ErO (.ref C) (some d) e) := I.hok e _ h1
  obtain ⟨⟨oe, vs, ge, zc, hf⟩, _, _⟩ := z1
  have z2 : ObjOk X.prog X.w H s.heap d (.xd [(("value" : Str), v)]) := I.hok d _ h2
  obtain ⟨mA, hns, hr⟩ := z2
  obtain ⟨od, hd, hl⟩ := lookIn_ns hns
  have l : List.lookup ("value" : Str) [(("value" : Str), v)] = some v := by simp [List.lookup]
  obtain ⟨u, hu, ru⟩ := RelO.some_of (v := v) (o := mA "value") (by rw [← l]; exact hr "value")
  exact ⟨oe, od, ⟨ge, zc.1, by unfold notCls; rw [hf] <;> rfl, by rw [zc.2]; exact hd⟩, u, by rw [hl, hu], ru⟩
/-- e.value, e an error -/
def tErrW (K : Frag) (mg : Str → Option Value) (fI : Addr) (te : TE) : TE := fun σ H Q => te σ H fun y H1 =>
  ∃ (e C : Addr) (v : V) (x : Str) (ms : List Value), y = .ref e ∧ EC K mg fI x C ms ∧ ErrV H1 e C v ∧ Q v H1
/-- isinstance(e, c), e an error -/
def rIsErrW (K : Frag) (mg : Str → Option Value) (fI : Addr) : List V → Hp → VK → Prop := fun xs H Q =>
  ∃ (e C : Addr) (v c : V) (u : Value) (b : Bool) (x : Str) (ms : List Value), xs = [.ref e, c] ∧ ClsV c u ∧ EC K mg fI x C ms ∧ ErrV H e C v ∧ kitOne K (.ref C) u = some b ∧ Q (.bl b) H
/-- what __init__ does for an error that is being made -/
def spInit (K : Frag) : Sp := fun vs H Q _ => ∃ (a C : Addr) (v : V), vs = [.ref a, v] ∧ OexC K C ∧ findIn K (.ref C) "value" = some none ∧ H a = some (exo a C none) ∧
  ∀ dx, H dx = none → dx ≠ a → Q .non (L2.upd (L2.upd H dx (exd dx [(("value" : Str), v)])) a (exo a C (some dx)))
section
variable {X : Cx} {fI C : Addr} {x : Str} {ms : List Value} {te : TE} {ta : TA} {e : Expr} {p pos : Pos}
theorem pe_errw (he : PE X e te) (hb : attributeBase e "value" X.env (eval e X.env) = eval e X.env := by rfl) :
    PE X (.Attribute e "value" pos) (tErrW X.K X.mg fI te) := by
  refine ⟨fun pins s σ H Q I h => attr_of hb (thn (he.run pins s σ H _ I h) fun u s1 hh => ?_)⟩
  obtain ⟨y, H1, I1, ry, e1, C1, v, x1, ms1, ey, T, er, q⟩ := hh
  subst ey
  obtain rfl : u = Value.ref e1 := ry
  obtain ⟨oe, od, J, u, hu, ru⟩ := errv_inst I1 er
  obtain ⟨cd, h1, h2, h3⟩ := T.clsIs
  have hd : hasDictIn X.K C1 = true := by
    show (clsIn X.K C1).any (·.hasDict) = true
    rw [h1]
    exact h3
  exact HandSPX.exc_get I1.kIn J T.ga T.gg (T.below "BaseException" (by decide +kernel)) (findObj_own hd T.no rfl hu) (handed_of ru) ⟨v, H1, I1.tok _, ru, q⟩
theorem call_isErrW (G : EG X.K fI) : CallR X (.builtin "isinstance") (rIsErrW X.K X.mg fI) := by
  intro pins s σ H xs us Q I r h
  obtain ⟨e, C, v, c, w, b, x, ms, rfl, k, T, er, ek, q⟩ := h
  obtain ⟨u1, u2, rfl, r1, r2⟩ := vals2 r
  obtain rfl : u1 = Value.ref e := r1
  have e2 := k.eq r2
  subst e2
  obtain ⟨oe, od, J, _⟩ := errv_inst I er
  exact kia_one (T.kit G) I.kIn J ek (fun z => nomatch z) fun tk => ⟨.bl b, H, I.tok tk, rfl, q⟩
end
/-- the error that was made, and let go -/
theorem init_end {K : Frag} {C : Addr} {v : V} {H1 : Hp} {Q : XK} (T : OexC K C) (no : findIn K (.ref C) "value" = some none)
    (q : ∀ d, H1 d = none → Q (.ref C) (some d) (L2.upd H1 d (.xd [(("value" : Str), v)]))) : [v].length ≤ 1000 ∧ ∀ a, H1 a = none → spInit K (.ref a :: ([v] ++ [])) (L2.upd H1 a (exo a C none))
      (fun y H2 => y = .non ∧ ∃ (d : Addr) (fs : List (Str × V)), H2 a = some (exo a C (some d)) ∧ H2 d = some (exd d fs) ∧ H1 d = none ∧ Q (.ref C) (some d) (L2.upd (del H2 a) d (.xd fs))) (fun _ _ _ => False) := by
  refine ⟨(by show 1 ≤ 1000; decide), fun a na => ⟨a, C, v, rfl, T, no, upd_same, fun dx nd ne => ⟨rfl, dx, [(("value" : Str), v)], upd_same, ?_, ?_, ?_⟩⟩⟩
  · rw [upd_ne ne, upd_same]
  · rw [upd_ne ne] at nd
    exact nd
  · rw [upd_ne ne] at nd
    have z := q dx nd
    refine cast (congrArg _ ?_) z
    funext b
    by_cases h1 : b = dx
    · rw [h1, upd_same, upd_same]
    · rw [upd_ne h1, upd_ne h1]
      by_cases h2 : b = a
      · rw [h2, del_same]
        exact na
      · rw [del_ne h2, upd_ne h2, upd_ne h1, upd_ne h2]
end Qb
end PySem
namespace PySem
namespace Qb
open PySem.W PySem.Calls PyProof.Rows L2
/-! # things that share no list: S holds the places of their lists -/
mutual
inductive Ow (K : Frag) (H : Hp) : V → PyData → List Addr → Prop where
  | non : Ow K H .non .none []
  | bl (b : Bool) : Ow K H (.bl b) (.bool b) []
  | int (i : Int) : Ow K H (.int i) (.int i) []
  | str (x : Str) : Ow K H (.str x) (.str x) []
  | lst {a : Addr} {xs : List V} {ds : List PyData} {S : List Addr} (h : H a = some (.lst xs)) (al : OwAll K H xs ds S) (n : a ∉ S) : Ow K H (.ref a) (.list ds) (a :: S)
  | tup {a : Addr} {xs : List V} {ds : List PyData} {S : List Addr} (h : SqT K H a xs) (al : OwAll K H xs ds S) : Ow K H (.ref a) (.tuple ds) S
inductive OwAll (K : Frag) (H : Hp) : List V → List PyData → List Addr → Prop where
  | nil : OwAll K H [] [] []
  | cons {v : V} {vs : List V} {d : PyData} {ds : List PyData} {S T : List Addr} (h : Ow K H v d S) (t : OwAll K H vs ds T) (n : ∀ b ∈ S, b ∉ T) : OwAll K H (v :: vs) (d :: ds) (S ++ T)
end
/-- H' is H but at the places S -/
def But (S : List Addr) (H H' : Hp) : Prop := ∀ b u, H b = some u → b ∉ S → H' b = some u
/-- lists stand at all places S -/
def Lis (S : List Addr) (H : Hp) : Prop := ∀ b ∈ S, ∃ xs, H b = some (.lst xs)
section
variable {K : Frag} {H H' H'' : Hp}
theorem But.of (s : Same H H') (S : List Addr) : But S H H' := fun b u e _ => s b u e
theorem But.refl (S : List Addr) : But S H H := fun _ _ e _ => e
theorem But.more {S T : List Addr} (h : But S H H') (l : ∀ b ∈ S, b ∈ T) : But T H H' := fun b u e n => h b u e fun m => n (l b m)
theorem But.trans {S : List Addr} (h : But S H H') (h' : But S H' H'') : But S H H'' := fun b u e n => h' b u (h b u e n) n
theorem But.put {a : Addr} {o : HO} : But [a] H (L2.upd H a o) := fun b u e n => by
  rw [upd_ne (fun z => n (by rw [z]; exact .head _))]
  exact e
theorem ow_lis {v : V} {d : PyData} {S : List Addr} (h : Ow K H v d S) : Lis S H :=
  Ow.rec (motive_1 := fun _ _ S _ => Lis S H) (motive_2 := fun _ _ S _ => Lis S H) (fun b m => by cases m) (fun _ b m => by cases m) (fun _ b m => by cases m) (fun _ b m => by cases m)
    (fun h _ _ ih b m => by
      rcases List.mem_cons.mp m with rfl | m
      · exact ⟨_, h⟩
      · exact ih b m) (fun _ _ ih => ih) (fun b m => by cases m) (fun _ _ _ i1 i2 b m => (List.mem_append.mp m).elim (i1 b) (i2 b)) h
theorem owAll_lis : ∀ {vs : List V} {ds : List PyData} {S : List Addr}, OwAll K H vs ds S → Lis S H
  | _, _, _, .nil => fun b m => by cases m
  | _, _, _, .cons h t _ => fun b m => (List.mem_append.mp m).elim (ow_lis h b) (owAll_lis t b)
theorem sqT_but {S : List Addr} {a : Addr} {xs : List V} (f : But S H H') (l : Lis S H) (h : SqT K H a xs) : SqT K H' a xs := by
  rcases h with (h | ⟨o, h⟩) | h
  · refine .inl (.inl (f _ _ h fun m => ?_))
    obtain ⟨ys, e⟩ := l _ m
    rw [h] at e
    cases e
  · refine .inl (.inr ⟨o, f _ _ h fun m => ?_⟩)
    obtain ⟨ys, e⟩ := l _ m
    rw [h] at e
    cases e
  · exact .inr h
theorem ow_frame {S : List Addr} (f : But S H H') (l : Lis S H) {v : V} {d : PyData} {T : List Addr} (h : Ow K H v d T) : (∀ b ∈ T, b ∉ S) → Ow K H' v d T :=
  Ow.rec (motive_1 := fun v d T _ => (∀ b ∈ T, b ∉ S) → Ow K H' v d T) (motive_2 := fun vs ds T _ => (∀ b ∈ T, b ∉ S) → OwAll K H' vs ds T) (fun _ => .non) (fun b _ => .bl b) (fun i _ => .int i) (fun x _ => .str x)
    (fun h _ n ih m => .lst (f _ _ h (m _ (.head _))) (ih fun b mb => m b (.tail _ mb)) n) (fun h _ ih m => .tup (sqT_but f l h) (ih m)) (fun _ => .nil)
    (fun _ _ n i1 i2 m => .cons (i1 fun b mb => m b (List.mem_append_left _ mb)) (i2 fun b mb => m b (List.mem_append_right _ mb)) n) h
theorem owAll_frame {S : List Addr} (f : But S H H') (l : Lis S H) : ∀ {vs : List V} {ds : List PyData} {T : List Addr}, OwAll K H vs ds T → (∀ b ∈ T, b ∉ S) → OwAll K H' vs ds T
  | _, _, _, .nil, _ => .nil
  | _, _, _, .cons h t n, m => .cons (ow_frame f l h fun b mb => m b (List.mem_append_left _ mb)) (owAll_frame f l t fun b mb => m b (List.mem_append_right _ mb)) n
theorem ow_same (s : Same H H') {v : V} {d : PyData} {T : List Addr} (h : Ow K H v d T) : Ow K H' v d T := ow_frame (S := []) (But.of s _) (fun b m => by cases m) h fun b _ z => by cases z
theorem owAll_same (s : Same H H') {v : List V} {d : List PyData} {T : List Addr} (h : OwAll K H v d T) : OwAll K H' v d T := owAll_frame (S := []) (But.of s _) (fun b m => by cases m) h fun b _ z => by cases z
theorem ow_dp {v : V} {d : PyData} {S : List Addr} (h : Ow K H v d S) : Dp K H v d :=
  Ow.rec (motive_1 := fun v d _ _ => Dp K H v d) (motive_2 := fun vs ds _ _ => DpAll K H vs ds) .non (fun b => .bl b) (fun i => .int i) (fun x => .str x) (fun h _ _ ih => .lst (SqL.of h) ih) (fun h _ ih => .tup h ih) .nil (fun _ _ _ i1 i2 => .cons i1 i2) h
theorem owAll_dp : ∀ {vs : List V} {ds : List PyData} {S : List Addr}, OwAll K H vs ds S → DpAll K H vs ds
  | _, _, _, .nil => .nil
  | _, _, _, .cons h t _ => .cons (ow_dp h) (owAll_dp t)
theorem owAll_add : ∀ {vs : List V} {ds : List PyData} {S : List Addr}, OwAll K H vs ds S → ∀ {v : V} {d : PyData} {T : List Addr}, Ow K H v d T → (∀ b ∈ S, b ∉ T) → ∃ U, OwAll K H (vs ++ [v]) (ds ++ [d]) U ∧ ∀ b, b ∈ U ↔ b ∈ S ∨ b ∈ T
  | _, _, _, .nil, v, d, T, h, _ => ⟨T ++ [], .cons h .nil (fun _ _ z => by cases z), fun b => by simp⟩
  | _, _, _, .cons (S := S1) (T := S2) h0 t n, v, d, T, h, m => by
    obtain ⟨U, hU, e⟩ := owAll_add t h fun b mb => m b (List.mem_append_right _ mb)
    refine ⟨S1 ++ U, .cons h0 hU fun b mb z => ?_, fun b => ?_⟩
    · rcases (e b).mp z with z | z
      · exact n b mb z
      · exact m b (List.mem_append_left _ mb) z
    · rw [List.mem_append, e, List.mem_append, or_assoc]
/-- a list of own things that is being made at D -/
def OwB (K : Frag) (H H' : Hp) (D : Addr) (ds : List PyData) : Prop := H D = none ∧ Same H (hide H' D) ∧ ∃ ys S, H' D = some (.lst ys) ∧ OwAll K H' ys ds S ∧ (∀ b ∈ S, H b = none) ∧ D ∉ S
theorem OwB.new {D : Addr} (n : H D = none) : OwB K H (L2.upd H D (.lst [])) D [] := ⟨n, hide_of (same_upd n) n, [], [], upd_same, .nil, (fun b m => by cases m), (fun m => by cases m)⟩
theorem OwB.base {D : Addr} {ds : List PyData} (b : OwB K H H' D ds) : Same H H' := b.2.1.trans hide_same
theorem OwB.there {D : Addr} {ds : List PyData} (b : OwB K H H' D ds) : ∃ ys, H' D = some (.lst ys) := by
  obtain ⟨n, s0, ys, S, h, r⟩ := b
  exact ⟨ys, h⟩
theorem OwB.same {D : Addr} {ds : List PyData} (b : OwB K H H' D ds) (s : Same H' H'') : OwB K H H'' D ds := by
  obtain ⟨n, s0, ys, S, h, a, nw, nd⟩ := b
  exact ⟨n, s0.trans (hide_mono s), ys, S, s _ _ h, owAll_same s a, nw, nd⟩
theorem OwB.put {H2 : Hp} {D : Addr} {ds : List PyData} (b : OwB K H H' D ds) (s : Same H' H2) : ∃ ys, H2 D = some (.lst ys) ∧ ys.length = ds.length ∧ ∀ v d T, Ow K H2 v d T → (∀ b ∈ T, H' b = none) → OwB K H (L2.upd H2 D (.lst (ys ++ [v]))) D (ds ++ [d]) := by
  have base := b.base
  obtain ⟨n, s0, ys, S, h, a, nw, nd⟩ := b
  refine ⟨ys, s _ _ h, dpLen (owAll_dp a), fun v d T hv nT => ?_⟩
  have ls := owAll_lis a
  have dj : ∀ b ∈ S, b ∉ T := fun b mb z => by
    obtain ⟨xs, e⟩ := ls b mb
    rw [nT b z] at e
    cases e
  have dT : D ∉ T := fun z => by
    have e := nT D z
    rw [h] at e
    cases e
  obtain ⟨U, hU, eU⟩ := owAll_add (owAll_same s a) hv dj
  have nU : D ∉ U := fun z => ((eU D).mp z).elim nd dT
  refine ⟨n, (s0.trans (hide_mono s)).trans hide_upd, _, U, upd_same, owAll_frame (S := [D]) But.put (fun b m => ?_) hU (fun b mb z => ?_), fun b mb => ?_, nU⟩
  · rcases List.mem_singleton.mp m with rfl
    exact ⟨_, s _ _ h⟩
  · rcases List.mem_singleton.mp z with rfl
    exact nU mb
  · rcases (eU b).mp mb with mb | mb
    · exact nw b mb
    · cases e : H b with
      | none => rfl
      | some u =>
        have z := base b u e
        rw [nT b mb] at z
        cases z
end
/-! # data by its depth -/
def Pl0 (d : PyData) : Prop := (∃ x, d = .str x) ∨ (∃ b, d = .bool b) ∨ (∃ i, d = .int i) ∨ d = .none
def Pl : Nat → PyData → Prop
  | 0, d => Pl0 d
  | n + 1, d => Pl0 d ∨ ∃ ds : List PyData, (d = .list ds ∨ d = .tuple ds) ∧ ds.length ≤ 1000 ∧ ∀ e ∈ ds, Pl n e
theorem pl_cases {n : Nat} {d : PyData} (hp : Pl n d) : Pl0 d ∨ ∃ m ds, n = m + 1 ∧ (d = .list ds ∨ d = .tuple ds) ∧ ds.length ≤ 1000 ∧ ∀ e ∈ ds, Pl m e := by
  cases n with
  | zero => exact .inl hp
  | succ m =>
    rcases hp with h | ⟨ds, h⟩
    · exact .inl h
    · exact .inr ⟨m, ds, rfl, h⟩
theorem kan {K : PySem.W.Frag} {t c : Value} {cs : List Value} {r : Bool} (h : PySem.W.kitOne K t c = some false) (hr : PySem.W.kitAny K t cs = some r) : PySem.W.kitAny K t (c :: cs) = some r := kitAny_cons h (fun _ => hr) (fun z => by cases z)
theorem kay {K : PySem.W.Frag} {t c : Value} {cs : List Value} (h : PySem.W.kitOne K t c = some true) : PySem.W.kitAny K t (c :: cs) = some true := kitAny_cons h (fun z => by cases z) (fun _ => rfl)
theorem ty_lst {K : Frag} {H : Hp} {a : Addr} {xs : List V} (h : SqL K H a xs) : TyX K H (.ref a) (.type "list") := by
  rcases h with (h | ⟨o, h⟩) | ⟨o, its, n, h, c, _⟩
  · exact .base (.lst h)
  · exact .base (.frz h)
  · exact .kList h c
theorem ty_tup {K : Frag} {H : Hp} {a : Addr} {xs : List V} (h : SqT K H a xs) : TyX K H (.ref a) (.type "tuple") := by
  rcases h with (h | ⟨o, h⟩) | ⟨o, its, n, h, c, _⟩
  · exact .base (.tup h)
  · exact .fTuple h
  · exact .kTuple h c
/-- data that is no list and no tuple, with its type -/
theorem pl0_ty {K : Frag} {H : Hp} {v : V} {d : PyData} (h : Pl0 d) (dp : Dp K H v d) : Ow K H v d [] ∧ ∃ n, TyX K H v (.type n) ∧ (n = "str" ∨ n = "bool" ∨ n = "int" ∨ n = "NoneType") := by
  rcases h with ⟨x, rfl⟩ | ⟨x, rfl⟩ | ⟨x, rfl⟩ | rfl
  · cases dp
    exact ⟨.str x, _, .base (.str x), .inl rfl⟩
  · cases dp
    exact ⟨.bl x, _, .base (.bl x), .inr (.inl rfl)⟩
  · cases dp
    exact ⟨.int x, _, .base (.int x), .inr (.inr (.inl rfl))⟩
  · cases dp
    exact ⟨.non, _, .base .non, .inr (.inr (.inr rfl))⟩
theorem flat_no {K : Frag} {n : String} (h : n = "str" ∨ n = "bool" ∨ n = "int" ∨ n = "NoneType") : kitOne K (.type n) (.type "list") = some false ∧ kitOne K (.type n) (.type "tuple") = some false ∧ kitOne K (.type n) (.type "dict") = some false := by
  rcases h with rfl | rfl | rfl | rfl
  · exact ⟨kit_ty (by decide +kernel), kit_ty (by decide +kernel), kit_ty (by decide +kernel)⟩
  · exact ⟨kit_ty (by decide +kernel), kit_ty (by decide +kernel), kit_ty (by decide +kernel)⟩
  · exact ⟨kit_ty (by decide +kernel), kit_ty (by decide +kernel), kit_ty (by decide +kernel)⟩
  · exact ⟨kit_ty (by decide +kernel), kit_ty (by decide +kernel), kit_ty (by decide +kernel)⟩
/-- an own copy is made -/
def spOw (K : Frag) : Nat → Sp
  | 0 => fun _ _ _ _ => False
  | n + 1 => fun vs H Q _ => ∃ (v : V) (d : PyData), vs = [v] ∧ Dp K H v d ∧ Pl n d ∧ ∀ (H' : Hp) (u : V) (S : List Addr), Same H H' → Ow K H' u d S → (∀ b ∈ S, H b = none) → Q u H'
/-- what was own is spoilt: nothing but its lists changes -/
def spSl (K : Frag) : Nat → Sp
  | 0 => fun _ _ _ _ => False
  | n + 1 => fun vs H Q _ => ∃ (v : V) (d : PyData) (S : List Addr), vs = [v] ∧ Ow K H v d S ∧ Pl n d ∧ ∀ (H' : Hp), But S H H' → Lis S H' → Q .non H'
end Qb
end PySem
namespace PySem
namespace Qb
open PySem.W PySem.Calls PyProof.Rows L2
/-! # sums, shown and read -/
inductive Sm where
  | num (n : Int)
  | of (w : Str)
  | one (s : Str) (a : Sm)
  | two (s : Str) (a b : Sm)
  | three (s : Str) (a b c : Sm)
def Sm.d : Sm → PyData
  | .num n => .tuple [.str "number", .int n]
  | .of w => .tuple [.str "of", .str w]
  | .one s a => .tuple [.str s, a.d]
  | .two s a b => .tuple [.str s, a.d, b.d]
  | .three s a b c => .tuple [.str s, a.d, b.d, c.d]
abbrev L := List Nat
def digC : L := [48, 49, 50, 51, 52, 53, 54, 55, 56, 57]
def staC : L := cs ("abcdefghijklmnopqrstuvwxyzABCDEFGHIJKLMNOPQRSTUVWXYZ_" : Str)
def namC : L := cs ("abcdefghijklmnopqrstuvwxyzABCDEFGHIJKLMNOPQRSTUVWXYZ_0123456789" : Str)
def wsC : L := [32, 10]
/-- the signs of two parts in the order in which they are looked for -/
def tpk : List (Str × L) := [("&&", [38, 38]), ("||", [124, 124]), ("<=", [60, 61]), (">=", [62, 61]), ("==", [61, 61]), ("!=", [33, 61]), ("<", [60]), (">", [62]), ("*", [42]), ("/", [47]), ("^", [94]), ("+", [43]), ("-", [45])]
theorem tpk_cs : ∀ p ∈ tpk, cs p.1 = p.2 := by decide +kernel
def rks : List (Str × Nat) := [("||", 2), ("&&", 3), ("==", 4), ("!=", 4), ("<", 5), ("<=", 5), (">", 5), (">=", 5), ("+", 6), ("-", 6), ("*", 7), ("/", 7), ("^", 7)]
def rk (s : Str) : Nat := (rks.lookup s).getD 0
def isOp (s : Str) : Bool := (rks.lookup s).isSome
theorem tpk_op : ∀ p ∈ tpk, isOp p.1 = true ∧ 2 ≤ rk p.1 ∧ rk p.1 ≤ 7 := by decide +kernel
theorem op_tpk {s : Str} (h : isOp s = true) : ∃ c, (s, c) ∈ tpk := by
  have key : ∀ q ∈ rks, ∃ p ∈ tpk, p.1 = q.1 := by decide +kernel
  unfold isOp at h
  obtain ⟨n, hn⟩ := Option.isSome_iff_exists.mp h
  have m : (s, n) ∈ rks := by
    have g : ∀ (l : List (Str × Nat)), l.lookup s = some n → (s, n) ∈ l := by
      intro l
      induction l with
      | nil => intro z; cases z
      | cons p l ih =>
        intro z
        obtain ⟨a, b⟩ := p
        rw [List.lookup_cons] at z
        cases e : (s == a) with
        | true =>
          rw [e] at z
          cases z
          obtain rfl := beq_iff_eq.mp e
          exact .head _
        | false =>
          rw [e] at z
          exact .tail _ (ih z)
    exact g _ hn
  obtain ⟨⟨s', c⟩, mp, e⟩ := key _ m
  exact ⟨c, by rw [← (show s' = s from e)]; exact mp⟩
/-! ## shown -/
def Sm.rank : Sm → Nat
  | .num _ => 9
  | .of _ => 9
  | .one _ _ => 8
  | .two s _ _ => rk s
  | .three _ _ _ _ => 1
def isNm (l : L) : Bool := match l with
  | [] => false
  | c :: r => decide (c ∈ staC) && r.all fun d => decide (d ∈ namC)
def aheadC (s : Str) : L := if s = "no" then [33] else [45]
def par (b : Bool) (l : L) : L := if b then 40 :: (l ++ [41]) else l
def Sm.shw : Sm → L
  | .num n => cs (Str.ofString (toString n))
  | .of w => if isNm (cs w) then cs w else 36 :: cs w
  | .one s a => aheadC s ++ par (decide (a.rank < 8)) a.shw
  | .two s a b => par (decide (a.rank < rk s)) a.shw ++ 32 :: (cs s ++ 32 :: par (decide (b.rank < rk s + 1)) b.shw)
  | .three _ a b c => par (decide (a.rank < 2)) a.shw ++ 32 :: 63 :: 32 :: (b.shw ++ 32 :: 58 :: 32 :: par (decide (c.rank < 1)) c.shw)
/-! ## read -/
def spc (r : L) : L := r.dropWhile fun c => decide (c ∈ wsC)
def tpSign (r : L) : Option (Str × L) := tpk.find? fun p => p.2.isPrefixOf r
def digVal (l : L) : Nat := l.foldl (fun n c => 10 * n + (c - 48)) 0
def rdDig (r : L) : Option (L × L) :=
  let d := r.takeWhile fun c => decide (c ∈ digC)
  if d = [] ∨ (d.head? = some 48 ∧ 1 < d.length) then none else some (d, r.dropWhile fun c => decide (c ∈ digC))
def rdPlc : L → Option (L × L)
  | 35 :: r => some ([35], r)
  | 63 :: r => some ([63], r)
  | r => rdDig r
def st (l : L) : Str := ⟨l.toArray⟩
theorem cs_st (l : L) : cs (st l) = l := by simp [st, cs]
theorem st_cs (x : Str) : st (cs x) = x := by
  obtain ⟨a⟩ := x
  show (⟨a.toList.toArray⟩ : Str) = ⟨a⟩
  rw [Array.toArray_toList]
abbrev Rd := L → Option (Sm × L)
def loopW (two : Nat → Rd) : Nat → Nat → Sm → Rd
  | 0, _, _, _ => none
  | m + 1, l, t, r => match tpSign r with
    | none => some (t, r)
    | some p => if l ≤ rk p.1 then (match two (rk p.1 + 1) (r.drop p.2.length) with
        | none => none
        | some (u, r2) => loopW two m l (.two p.1 t u) r2) else some (t, r)
def sumF (sum : Rd) (two : Nat → Rd) : Rd := fun r => match two 2 r with
  | none => none
  | some (t, 63 :: r2) => (match sum r2 with
    | some (a, 58 :: r3) => (match sum r3 with
      | none => none
      | some (b, r4) => some (.three "choose" t a b, r4))
    | _ => none)
  | some (t, r1) => some (t, r1)
def twoF (two : Nat → Rd) (ahead : Rd) : Nat → Rd := fun l r => match ahead r with
  | none => none
  | some (t, r1) => loopW two (r1.length + 1) l t r1
def aheadF (ahead plain : Rd) : Rd := fun r => match spc r with
  | 45 :: r1 => (match ahead r1 with
    | none => none
    | some (t, r2) => some (.one "minus" t, r2))
  | 33 :: r1 => (match ahead r1 with
    | none => none
    | some (t, r2) => some (.one "no" t, r2))
  | r1 => (match plain r1 with
    | none => none
    | some (t, r2) => some (t, spc r2))
def plainF (sum : Rd) : Rd := fun r => match r with
  | 40 :: r1 => (match sum r1 with
    | some (t, 41 :: r2) => some (t, r2)
    | _ => none)
  | 36 :: r1 => (match rdPlc r1 with
    | none => none
    | some (w, r2) => some (.of (st w), r2))
  | c :: r1 => if c ∈ staC then some (.of (st ((c :: r1).takeWhile fun d => decide (d ∈ namC))), (c :: r1).dropWhile fun d => decide (d ∈ namC)) else (match rdDig (c :: r1) with
    | none => none
    | some (d, r2) => some (.num (digVal d), r2))
  | [] => none
structure Rds where
  sum : Rd
  two : Nat → Rd
  ahead : Rd
  plain : Rd
def rds : Nat → Rds
  | 0 => ⟨fun _ => none, fun _ _ => none, fun _ => none, fun _ => none⟩
  | n + 1 => let p := rds n; ⟨sumF p.sum p.two, twoF p.two p.ahead, aheadF p.ahead p.plain, plainF p.sum⟩
end Qb
end PySem
namespace PySem
namespace Qb
open PySem.W PySem.Calls PyProof.Rows L2
/-! # what is read says of what was read -/
def Sm.pcs : Sm → Nat
  | .num _ => 0
  | .of _ => 0
  | .one _ a => a.pcs + if a.rank < 8 then 1 else 0
  | .two s a b => (a.pcs + if a.rank < rk s then 1 else 0) + (b.pcs + if b.rank < rk s + 1 then 1 else 0)
  | .three _ a b c => (a.pcs + if a.rank < 2 then 1 else 0) + b.pcs + (c.pcs + if c.rank < 1 then 1 else 0)
def Sm.pcl (l : Nat) (t : Sm) : Nat := t.pcs + if t.rank < l then 1 else 0
theorem pcl_mono {l m : Nat} {t : Sm} (h : l ≤ m) : t.pcl l ≤ t.pcl m := by
  unfold Sm.pcl
  by_cases a : t.rank < l
  · rw [if_pos a, if_pos (by omega)]
    exact Nat.le_refl _
  · rw [if_neg a]
    omega
theorem pcl_eq {l : Nat} {t : Sm} (h : l ≤ t.rank) : t.pcl l = t.pcs := by
  unfold Sm.pcl
  rw [if_neg (by omega)]
  rfl
def Sm.isz : Sm → Nat
  | .num _ => 0
  | .of _ => 0
  | .one _ a => 1 + a.isz
  | .two _ a b => 1 + a.isz + b.isz
  | .three _ a b c => 1 + a.isz + b.isz + c.isz
/-- how long its repr may be -/
def Sm.rl : Sm → Nat
  | .num n => 12 + (toString n).length
  | .of w => 10 + w.length
  | .one _ a => 11 + a.rl
  | .two _ a b => 10 + a.rl + b.rl
  | .three _ a b c => 16 + a.rl + b.rl + c.rl
def safe (c : Nat) : Prop := c ∈ namC ∨ c = 35 ∨ c = 63
def Sm.good : Sm → Prop
  | .num n => 0 ≤ n ∧ n < 10 ^ 80
  | .of w => ∀ c ∈ cs w, safe c
  | .one s a => (s = "minus" ∨ s = "no") ∧ a.good
  | .two s a b => isOp s = true ∧ a.good ∧ b.good
  | .three s a b c => s = "choose" ∧ a.good ∧ b.good ∧ c.good
def cnt (p : L) : Nat := p.countP fun c => c == 40
def w2c (c : Nat) : Nat := if c ∈ [45, 33, 60, 62, 43, 42, 47, 94, 58] then 2 else if c ∈ [38, 124, 61] then 1 else 0
def w2 (p : L) : Nat := (p.map w2c).sum
theorem cnt_app (a b : L) : cnt (a ++ b) = cnt a + cnt b := List.countP_append ..
theorem w2_app (a b : L) : w2 (a ++ b) = w2 a + w2 b := by
  unfold w2
  rw [List.map_append, List.sum_append]
theorem tpk_w2 : ∀ p ∈ tpk, 2 ≤ w2 p.2 ∧ 1 ≤ p.2.length := by decide +kernel
/-- no row of digits is longer than k -/
def Rn (k : Nat) (r : L) : Prop := ∀ p q s, r = p ++ (q ++ s) → (∀ c ∈ q, c ∈ digC) → q.length ≤ k
theorem Rn.tail {k : Nat} {p r : L} (h : Rn k (p ++ r)) : Rn k r := fun p' q s e d => h (p ++ p') q s (by rw [e, List.append_assoc]) d
structure Ate (r : L) (l : Nat) (t : Sm) (p r' : L) : Prop where
  eq : r = p ++ r'
  pc : t.pcl l ≤ cnt p
  good : t.good
  sz : 2 * t.isz ≤ w2 p
  rl : t.rl ≤ 14 * p.length
  ne : 1 ≤ p.length
def NoNext (l : Nat) (r : L) : Prop := ∀ p, tpSign r = some p → rk p.1 < l
theorem tpSign_mem {r : L} {p : Str × L} (h : tpSign r = some p) : p ∈ tpk ∧ ∃ r', r = p.2 ++ r' ∧ r.drop p.2.length = r' := by
  have h1 := List.mem_of_find?_eq_some h
  have h2 := List.find?_some h
  obtain ⟨r', e⟩ := List.isPrefixOf_iff_prefix.mp h2
  exact ⟨h1, r', e.symm, by rw [← e]; simp⟩
theorem drop_pre {q : Nat → Bool} (r : L) : ∃ p, r = p ++ r.dropWhile q ∧ (r.takeWhile q) = p := ⟨r.takeWhile q, (List.takeWhile_append_dropWhile ..).symm, rfl⟩
theorem spc_pre (r : L) : ∃ p, r = p ++ spc r := let ⟨p, e, _⟩ := drop_pre (q := fun c => decide (c ∈ wsC)) r; ⟨p, e⟩
theorem loop_ate {two : Nat → Rd} (k : Nat) (H : ∀ l r t r', l ≤ 8 → Rn k r → two l r = some (t, r') → (∃ p, Ate r l t p r') ∧ NoNext l r') {l : Nat} (hl : l ≤ 8) :
    ∀ (m : Nat) (t : Sm) (r r0 p0 : L) (t' : Sm) (r' : L), Rn k r0 → Ate r0 l t p0 r → (∀ p, tpSign r = some p → t.pcl (rk p.1) ≤ cnt p0) → loopW two m l t r = some (t', r') →
      (∃ p, Ate r0 l t' p r') ∧ NoNext l r'
  | 0, t, r, r0, p0, t', r', _, _, _, e => by cases e
  | m + 1, t, r, r0, p0, t', r', rn, A, nx, e => by
    unfold loopW at e
    cases hs : tpSign r with
    | none =>
      rw [hs] at e
      cases e
      exact ⟨⟨p0, A⟩, fun p z => by rw [hs] at z; cases z⟩
    | some p =>
      rw [hs] at e
      dsimp only at e
      obtain ⟨mp, r1, e1, ed⟩ := tpSign_mem hs
      by_cases c : l ≤ rk p.1
      · rw [if_pos c, ed] at e
        have rn1 : Rn k r1 := by
          rw [A.eq, e1] at rn
          exact (rn.tail).tail
        have hk := tpk_op p mp
        cases h2 : two (rk p.1 + 1) r1 with
        | none =>
          rw [h2] at e
          cases e
        | some o =>
          obtain ⟨u, r2⟩ := o
          rw [h2] at e
          dsimp only at e
          obtain ⟨⟨q, B⟩, nb⟩ := H _ _ _ _ (by omega) rn1 h2
          have w := tpk_w2 p mp
          have A' : Ate r0 l (.two p.1 t u) (p0 ++ (p.2 ++ q)) r2 := by
            refine ⟨?_, ?_, ⟨hk.1, A.good, B.good⟩, ?_, ?_, ?_⟩
            · rw [A.eq, e1, B.eq]
              simp
            · rw [pcl_eq (show l ≤ (Sm.two p.1 t u).rank from c), cnt_app, cnt_app]
              have z1 := nx p hs
              have z2 := B.pc
              show (t.pcs + if t.rank < rk p.1 then 1 else 0) + (u.pcs + if u.rank < rk p.1 + 1 then 1 else 0) ≤ _
              unfold Sm.pcl at z1 z2
              omega
            · show 2 * (1 + t.isz + u.isz) ≤ _
              rw [w2_app, w2_app]
              have := A.sz
              have := B.sz
              omega
            · show 10 + t.rl + u.rl ≤ _
              have := A.rl
              have := B.rl
              simp only [List.length_append]
              omega
            · have := A.ne
              simp only [List.length_append]
              omega
          refine loop_ate k H hl m _ r2 r0 _ t' r' rn A' (fun p' z => ?_) e
          have z1 := nb p' z
          rw [pcl_eq (show rk p'.1 ≤ (Sm.two p.1 t u).rank from Nat.le_of_lt_succ z1), ← pcl_eq (show l ≤ (Sm.two p.1 t u).rank from c)]
          exact A'.pc
      · rw [if_neg c] at e
        cases e
        refine ⟨⟨p0, A⟩, fun p' z => ?_⟩
        rw [hs] at z
        cases z
        omega
theorem Ate.app {r r' : L} {l : Nat} {t : Sm} {p q : L} (A : Ate r l t p r') (x : L) (e : r' = q ++ x) : Ate r l t (p ++ q) x := by
  refine ⟨by rw [A.eq, e, List.append_assoc], ?_, A.good, ?_, ?_, ?_⟩
  · rw [cnt_app]
    exact Nat.le_trans A.pc (by omega)
  · rw [w2_app]
    exact Nat.le_trans A.sz (by omega)
  · have := A.rl
    rw [List.length_append]
    omega
  · have := A.ne
    rw [List.length_append]
    omega
theorem Ate.pre {r r' : L} {l : Nat} {t : Sm} {p q x : L} (A : Ate r l t p r') (e : x = q ++ r) : Ate x l t (q ++ p) r' := by
  refine ⟨by rw [e, A.eq, List.append_assoc], ?_, A.good, ?_, ?_, ?_⟩
  · rw [cnt_app]
    exact Nat.le_trans A.pc (by omega)
  · rw [w2_app]
    exact Nat.le_trans A.sz (by omega)
  · have := A.rl
    rw [List.length_append]
    omega
  · have := A.ne
    rw [List.length_append]
    omega
theorem Ate.le {r r' : L} {l m : Nat} {t : Sm} {p : L} (A : Ate r l t p r') (h : m ≤ l) : Ate r m t p r' := ⟨A.eq, Nat.le_trans (pcl_mono h) A.pc, A.good, A.sz, A.rl, A.ne⟩
theorem digVal_lt : ∀ (l : L), (∀ c ∈ l, c ∈ digC) → digVal l < 10 ^ l.length := by
  have key : ∀ (l : L) (n : Nat), (∀ c ∈ l, c ∈ digC) → l.foldl (fun n c => 10 * n + (c - 48)) n < (n + 1) * 10 ^ l.length := by
    intro l
    induction l with
    | nil => intro n _; simp
    | cons c l ih =>
      intro n h
      have hc : c - 48 ≤ 9 := (by decide +kernel : ∀ c ∈ digC, c - 48 ≤ 9) c (h c (.head _))
      have z := ih (10 * n + (c - 48)) fun d m => h d (.tail _ m)
      rw [List.foldl_cons, List.length_cons, Nat.pow_succ]
      refine Nat.lt_of_lt_of_le z ?_
      rw [show (n + 1) * (10 ^ l.length * 10) = (10 * n + 10) * 10 ^ l.length by rw [Nat.mul_comm (10 ^ l.length) 10, ← Nat.mul_assoc]; congr 1; omega]
      exact Nat.mul_le_mul_right _ (by omega)
  intro l h
  have z := key l 0 h
  rw [Nat.zero_add, Nat.one_mul] at z
  exact z
theorem tw_mem {p : Nat → Bool} : ∀ {l : L} {c : Nat}, c ∈ l.takeWhile p → p c = true
  | [], c, m => by cases m
  | d :: l, c, m => by
    by_cases h : p d = true
    · rw [List.takeWhile_cons_of_pos h] at m
      rcases List.mem_cons.mp m with rfl | m
      · exact h
      · exact tw_mem m
    · rw [List.takeWhile_cons_of_neg h] at m
      cases m
theorem dig_ate {k : Nat} {r d r2 : L} (h : rdDig r = some (d, r2)) : r = d ++ r2 ∧ 1 ≤ d.length ∧ (∀ c ∈ d, c ∈ digC) := by
  unfold rdDig at h
  dsimp only at h
  split at h
  · cases h
  · rename_i hn
    cases h
    refine ⟨(List.takeWhile_append_dropWhile ..).symm, ?_, fun c m => ?_⟩
    · cases e : r.takeWhile fun c => decide (c ∈ digC) with
      | nil => rw [e] at hn; exact (hn (.inl rfl)).elim
      | cons c l => simp
    · have z := tw_mem m
      simpa using z
theorem cnt_ge (p : L) : 0 ≤ cnt p := Nat.zero_le _
theorem len_str_int {n : Nat} {k : Nat} (h : n < 10 ^ k) (hk : 1 ≤ k) : (toString (n : Int)).length ≤ k := by
  show (toString n).length ≤ k
  show (Nat.repr n).length ≤ k
  exact (Nat.length_repr_le_iff (by omega)).mpr h
theorem plc_ate {r w r2 : L} (h : rdPlc r = some (w, r2)) : r = w ++ r2 ∧ 1 ≤ w.length ∧ ∀ c ∈ w, safe c := by
  unfold rdPlc at h
  split at h
  · cases h
    exact ⟨rfl, by simp, fun c m => .inr (.inl (by simpa using m))⟩
  · cases h
    exact ⟨rfl, by simp, fun c m => .inr (.inr (by simpa using m))⟩
  · obtain ⟨a, b, c⟩ := dig_ate (k := 0) h
    exact ⟨a, b, fun x m => .inl ((by decide +kernel : ∀ c ∈ digC, c ∈ namC) x (c x m))⟩
theorem plain_ate {k n : Nat} (hk : k ≤ 80) {sum : Rd} (H : ∀ r t r', Rn k r → sum r = some (t, r') → ∃ p, Ate r 1 t p r') {r : L} {t : Sm} {r' : L} (rn : Rn k r) (h : plainF sum r = some (t, r')) : ∃ p, Ate r 9 t p r' := by
  unfold plainF at h
  split at h
  · rename_i r1
    cases e : sum r1 with
    | none => rw [e] at h; cases h
    | some o =>
      obtain ⟨u, r2⟩ := o
      rw [e] at h
      split at h
      · rename_i a b r3 e2
        cases e2
        cases h
        obtain ⟨p, A⟩ := H _ _ _ (rn.tail (p := [40])) e
        refine ⟨40 :: (p ++ [41]), ?_, ?_, A.good, ?_, ?_, ?_⟩
        · rw [A.eq]
          simp
        · have z := A.pc
          have z2 : cnt (40 :: (p ++ [41])) = 1 + cnt p := by
            show cnt ([40] ++ (p ++ [41])) = _
            rw [cnt_app, cnt_app]
            rfl
          rw [z2]
          unfold Sm.pcl at z ⊢
          split <;> omega
        · have z := A.sz
          show _ ≤ w2 ([40] ++ (p ++ [41]))
          rw [w2_app, w2_app]
          omega
        · have z := A.rl
          simp only [List.length_cons, List.length_append]
          omega
        · simp
      · cases h
  · rename_i r1
    cases e : rdPlc r1 with
    | none => rw [e] at h; cases h
    | some o =>
      obtain ⟨w, r2⟩ := o
      rw [e] at h
      cases h
      obtain ⟨a, b, c⟩ := plc_ate e
      refine ⟨36 :: w, by rw [a]; rfl, ?_, fun x m => c x (by rw [cs_st] at m; exact m), by simp [Sm.isz], ?_, by simp⟩
      · rw [pcl_eq (show 9 ≤ (Sm.of _).rank from Nat.le_refl _)]
        exact Nat.zero_le _
      · show 10 + (st w).length ≤ _
        rw [len_cs, cs_st, List.length_cons]
        omega
  · rename_i c r1 h1 h2
    split at h
    · rename_i hc
      cases h
      have hc' : c ∈ namC := (by decide +kernel : ∀ c ∈ staC, c ∈ namC) c hc
      refine ⟨_, (List.takeWhile_append_dropWhile ..).symm, ?_, fun x m => .inl ?_, by simp [Sm.isz], ?_, ?_⟩
      · rw [pcl_eq (show 9 ≤ (Sm.of _).rank from Nat.le_refl _)]
        exact Nat.zero_le _
      · rw [cs_st] at m
        simpa using tw_mem m
      · show 10 + (st _).length ≤ _
        rw [len_cs, cs_st, List.takeWhile_cons_of_pos (by simpa using hc'), List.length_cons]
        omega
      · rw [List.takeWhile_cons_of_pos (by simpa using hc'), List.length_cons]
        omega
    · cases e : rdDig (c :: r1) with
      | none => rw [e] at h; cases h
      | some o =>
        obtain ⟨d, r2⟩ := o
        rw [e] at h
        cases h
        obtain ⟨a, b, dd⟩ := dig_ate (k := 0) e
        have lt := digVal_lt d dd
        have ld : d.length ≤ k := rn [] d _ a dd
        refine ⟨d, a, ?_, ⟨by omega, ?_⟩, by simp [Sm.isz], ?_, b⟩
        · rw [pcl_eq (show 9 ≤ (Sm.num _).rank from Nat.le_refl _)]
          exact Nat.zero_le _
        · have z : (10 : Nat) ^ d.length ≤ 10 ^ 80 := Nat.pow_le_pow_right (by decide) (by omega)
          have y := Nat.lt_of_lt_of_le lt z
          exact_mod_cast y
        · show 12 + (toString ((digVal d : Nat) : Int)).length ≤ _
          have := len_str_int lt b
          omega
  · cases h
theorem ahead_ate {k n : Nat} {ahead plain : Rd} (HA : ∀ r t r', Rn k r → ahead r = some (t, r') → ∃ p, Ate r 8 t p r') (HP : ∀ r t r', Rn k r → plain r = some (t, r') → ∃ p, Ate r 9 t p r') {r : L} {t : Sm} {r' : L} (rn : Rn k r) (h : aheadF ahead plain r = some (t, r')) :
    ∃ p, Ate r 8 t p r' := by
  obtain ⟨q, eq⟩ := spc_pre r
  have rq : Rn k (spc r) := by rw [eq] at rn; exact rn.tail
  have sg : ∀ (c : Nat) (s : Str) (r1 : L), 2 ≤ w2 [c] → (s = "minus" ∨ s = "no") → spc r = c :: r1 → (match ahead r1 with | none => none | some (t, r2) => some (Sm.one s t, r2)) = some (t, r') → ∃ p, Ate r 8 t p r' := by
    intro c s r1 hw hs e1 h
    cases e : ahead r1 with
    | none => rw [e] at h; cases h
    | some o =>
      obtain ⟨u, r2⟩ := o
      rw [e] at h
      cases h
      obtain ⟨p, A⟩ := HA _ _ _ (by rw [e1] at rq; exact rq.tail (p := [c])) e
      have z : Ate (spc r) 8 (.one s u) ([c] ++ p) r' := by
        refine ⟨by rw [e1, A.eq]; rfl, ?_, ⟨hs, A.good⟩, ?_, ?_, by simp⟩
        · rw [pcl_eq (show 8 ≤ (Sm.one _ _).rank from Nat.le_refl _), cnt_app]
          have := A.pc
          show u.pcl 8 ≤ _
          omega
        · rw [w2_app]
          have := A.sz
          show 2 * (1 + u.isz) ≤ _
          omega
        · have := A.rl
          show 11 + u.rl ≤ _
          simp only [List.length_append, List.length_cons, List.length_nil]
          omega
      exact ⟨_, z.pre eq⟩
  unfold aheadF at h
  split at h
  · rename_i r1 e1
    exact sg 45 "minus" r1 (by decide +kernel) (.inl rfl) e1 h
  · rename_i r1 e1
    exact sg 33 "no" r1 (by decide +kernel) (.inr rfl) e1 h
  · cases e : plain (spc r) with
    | none => rw [e] at h; cases h
    | some o =>
      obtain ⟨u, r2⟩ := o
      rw [e] at h
      cases h
      obtain ⟨p, A⟩ := HP _ _ _ rq e
      obtain ⟨q2, e2⟩ := spc_pre r2
      exact ⟨_, ((A.le (by decide)).app _ e2).pre eq⟩
theorem sum_ate {k n : Nat} {sum : Rd} {two : Nat → Rd} (H : ∀ r t r', Rn k r → sum r = some (t, r') → ∃ p, Ate r 1 t p r') (H2 : ∀ l r t r', l ≤ 8 → Rn k r → two l r = some (t, r') → (∃ p, Ate r l t p r') ∧ NoNext l r') {r : L} {t : Sm} {r' : L} (rn : Rn k r) (h : sumF sum two r = some (t, r')) :
    ∃ p, Ate r 1 t p r' := by
  unfold sumF at h
  split at h
  · cases h
  · skip
    rename_i t1 r2 e
    obtain ⟨⟨p, A⟩, _⟩ := H2 _ _ _ _ (by decide) rn e
    have rn2 : Rn k r2 := by rw [A.eq] at rn; exact (rn.tail).tail (p := [63])
    split at h
    · rename_i a r3 e3
      obtain ⟨p2, A2⟩ := H _ _ _ rn2 e3
      have rn3 : Rn k r3 := by rw [A2.eq] at rn2; exact (rn2.tail).tail (p := [58])
      cases e4 : sum r3 with
      | none => rw [e4] at h; cases h
      | some o =>
        obtain ⟨b, r4⟩ := o
        rw [e4] at h
        cases h
        obtain ⟨p3, A3⟩ := H _ _ _ rn3 e4
        refine ⟨p ++ ([63] ++ (p2 ++ ([58] ++ p3))), ?_, ?_, ⟨rfl, A.good, A2.good, A3.good⟩, ?_, ?_, ?_⟩
        · rw [A.eq, A2.eq, A3.eq]
          simp
        · rw [pcl_eq (show 1 ≤ (Sm.three _ _ _ _).rank from Nat.le_refl _)]
          simp only [cnt_app]
          have z1 := A.pc
          have z2 := A2.pc
          have z3 := A3.pc
          show t1.pcl 2 + a.pcs + b.pcl 1 ≤ _
          have : a.pcs ≤ a.pcl 1 := Nat.le_add_right _ _
          omega
        · simp only [w2_app]
          have := A.sz
          have := A2.sz
          have := A3.sz
          have : w2 [58] = 2 := by decide +kernel
          show 2 * (1 + t1.isz + a.isz + b.isz) ≤ _
          omega
        · have := A.rl
          have := A2.rl
          have := A3.rl
          show 16 + t1.rl + a.rl + b.rl ≤ _
          simp only [List.length_append, List.length_cons, List.length_nil]
          omega
        · have := A.ne
          simp only [List.length_append]
          omega
    · cases h
  · rename_i t1 r1 e1 e
    cases h
    obtain ⟨⟨p, A⟩, _⟩ := H2 _ _ _ _ (by decide) rn e
    exact ⟨p, A.le (by decide)⟩
theorem rds_ate {k : Nat} (hk : k ≤ 80) : ∀ n, (∀ r t r', Rn k r → (rds n).sum r = some (t, r') → ∃ p, Ate r 1 t p r') ∧ (∀ l r t r', l ≤ 8 → Rn k r → (rds n).two l r = some (t, r') → (∃ p, Ate r l t p r') ∧ NoNext l r') ∧
    (∀ r t r', Rn k r → (rds n).ahead r = some (t, r') → ∃ p, Ate r 8 t p r') ∧ (∀ r t r', Rn k r → (rds n).plain r = some (t, r') → ∃ p, Ate r 9 t p r')
  | 0 => ⟨(fun _ _ _ _ e => by cases e), (fun _ _ _ _ _ _ e => by cases e), (fun _ _ _ _ e => by cases e), (fun _ _ _ _ e => by cases e)⟩
  | n + 1 => by
    obtain ⟨i1, i2, i3, i4⟩ := rds_ate hk n
    refine ⟨fun r t r' rn e => sum_ate (n := 0) i1 i2 rn e, fun l r t r' hl rn e => ?_, fun r t r' rn e => ahead_ate (n := 0) i3 i4 rn e, fun r t r' rn e => plain_ate (n := 0) hk i1 rn e⟩
    have e' : twoF (rds n).two (rds n).ahead l r = some (t, r') := e
    unfold twoF at e'
    cases h : (rds n).ahead r with
    | none => rw [h] at e'; cases e'
    | some o =>
      obtain ⟨u, r1⟩ := o
      rw [h] at e'
      dsimp only at e'
      obtain ⟨p, A⟩ := i3 _ _ _ rn h
      refine loop_ate k (fun l' r t r' a b c => i2 l' r t r' a b c) hl _ _ _ _ _ _ _ rn (A.le hl) (fun q z => ?_) e'
      have hq := tpk_op q (tpSign_mem z).1
      exact Nat.le_trans (pcl_mono (by omega)) A.pc
end Qb
end PySem
namespace PySem
namespace Qb
open PySem.W PySem.Calls PyProof.Rows L2
/-! # what is shown is read again -/
abbrev nmC (n : Nat) : L := cs (Str.ofString (toString n))
theorem nmC_eq (n : Nat) : nmC n = (Nat.toDigits 10 n).map Char.toNat := by
  show (Str.ofString (Nat.repr n)).cps.toList = _
  rw [PyProof.Rows.signs_ofString, Nat.repr_eq_ofList_toDigits, String.toList_ofList]
theorem nmC_lt {n : Nat} (h : n < 10) : nmC n = [48 + n] := by
  rw [nmC_eq, Nat.toDigits_of_lt_base h]
  exact congrArg (fun x => [x]) ((by decide : ∀ n < 10, (Nat.digitChar n).toNat = 48 + n) n h)
theorem nmC_ge {n : Nat} (h : 10 ≤ n) : nmC n = nmC (n / 10) ++ [48 + n % 10] := by
  rw [nmC_eq, nmC_eq, Nat.toDigits_eq_if (by decide), if_neg (by omega), List.map_append]
  exact congrArg (fun x => _ ++ [x]) ((by decide : ∀ n < 10, (Nat.digitChar n).toNat = 48 + n) (n % 10) (Nat.mod_lt _ (by decide)))
theorem dig_in {n : Nat} (h : n < 10) : 48 + n ∈ digC := (by decide : ∀ n < 10, 48 + n ∈ digC) n h
theorem digVal_snoc (l : L) (c : Nat) : digVal (l ++ [c]) = 10 * digVal l + (c - 48) := by
  unfold digVal
  rw [List.foldl_append]
  rfl
theorem nmC_ok (n : Nat) : nmC n ≠ [] ∧ (∀ c ∈ nmC n, c ∈ digC) ∧ (n ≠ 0 → (nmC n).head? ≠ some 48) ∧ digVal (nmC n) = n := by
  induction n using Nat.strongRecOn with
  | _ n ih =>
    by_cases h : n < 10
    · rw [nmC_lt h]
      refine ⟨by simp, fun c m => ?_, fun z e => ?_, ?_⟩
      · rw [List.mem_singleton.mp m]
        exact dig_in h
      · have : 48 + n = 48 := Option.some.inj e
        omega
      · show 10 * 0 + (48 + n - 48) = n
        omega
    · obtain ⟨a, b, c, d⟩ := ih (n / 10) (by omega)
      rw [nmC_ge (by omega)]
      refine ⟨by simp, fun x m => ?_, fun _ e => ?_, ?_⟩
      · rcases List.mem_append.mp m with m | m
        · exact b x m
        · rw [List.mem_singleton.mp m]
          exact dig_in (Nat.mod_lt _ (by decide))
      · refine c (by omega) ?_
        cases q : nmC (n / 10) with
        | nil => exact (a q).elim
        | cons x y => rw [q] at e; exact e
      · rw [digVal_snoc, d]
        omega
/-- what can't go on with a name or a number -/
def Tidy (r : L) : Prop := ∀ c l, r = c :: l → c ∉ namC
theorem tidy_no {r : L} (h : Tidy r) {S : L} (hs : ∀ c ∈ S, c ∈ namC) {l : L} (hl : ∀ c ∈ l, c ∈ S) : (l ++ r).takeWhile (fun c => decide (c ∈ S)) = l ∧ (l ++ r).dropWhile (fun c => decide (c ∈ S)) = r := by
  induction l with
  | nil =>
    cases r with
    | nil => exact ⟨rfl, rfl⟩
    | cons c r =>
      have n : ¬ decide (c ∈ S) = true := fun z => h c r rfl (hs c (of_decide_eq_true z))
      exact ⟨List.takeWhile_cons_of_neg n, List.dropWhile_cons_of_neg n⟩
  | cons c l ih =>
    have z := ih fun d m => hl d (.tail _ m)
    have p : decide (c ∈ S) = true := decide_eq_true (hl c (.head _))
    exact ⟨by rw [List.cons_append, List.takeWhile_cons_of_pos (p := fun c => decide (c ∈ S)) p, z.1], by rw [List.cons_append, List.dropWhile_cons_of_pos (p := fun c => decide (c ∈ S)) p, z.2]⟩
theorem rdDig_of {d r : L} (h : Tidy r) (hn : d ≠ []) (ha : ∀ c ∈ d, c ∈ digC) (h0 : d.head? = some 48 → d.length = 1) : rdDig (d ++ r) = some (d, r) := by
  have z := tidy_no h (S := digC) (by decide +kernel) ha
  unfold rdDig
  dsimp only
  rw [z.1, z.2, if_neg]
  rintro (e | ⟨e, f⟩)
  · exact hn e
  · have := h0 e
    omega
def okPl (w : L) : Prop := w = [35] ∨ w = [63] ∨ (w ≠ [] ∧ (∀ c ∈ w, c ∈ digC) ∧ (w.head? = some 48 → w.length = 1))
theorem rdPlc_of {w r : L} (h : Tidy r) (ho : okPl w) : rdPlc (w ++ r) = some (w, r) := by
  rcases ho with rfl | rfl | ⟨a, b, c⟩
  · rfl
  · rfl
  · have z := rdDig_of h a b c
    cases w with
    | nil => exact (a rfl).elim
    | cons x w =>
      have hx := b x (.head _)
      have n1 : x ≠ 35 := fun e => by rw [e] at hx; revert hx; decide
      have n2 : x ≠ 63 := fun e => by rw [e] at hx; revert hx; decide
      unfold rdPlc
      split
      · rename_i e; exact (n1 (List.cons.inj e).1).elim
      · rename_i e; exact (n2 (List.cons.inj e).1).elim
      · exact z
def Sm.nice : Sm → Prop
  | .num n => 0 ≤ n
  | .of w => isNm (cs w) = true ∨ (isNm (cs w) = false ∧ okPl (cs w))
  | .one s a => (s = "minus" ∨ s = "no") ∧ a.nice
  | .two s a b => isOp s = true ∧ a.nice ∧ b.nice
  | .three s a b c => s = "choose" ∧ a.nice ∧ b.nice ∧ c.nice
def Sm.ht : Sm → Nat
  | .num _ => 0
  | .of _ => 0
  | .one _ a => 1 + a.ht
  | .two _ a b => 1 + max a.ht b.ht
  | .three _ a b c => 1 + max a.ht (max b.ht c.ht)
theorem rank_ge {t : Sm} (h : t.nice) : 1 ≤ t.rank := by
  cases t with
  | num n => show 1 ≤ 9; decide
  | of w => show 1 ≤ 9; decide
  | one s a => show 1 ≤ 8; decide
  | two s a b =>
    obtain ⟨c, m⟩ := op_tpk h.1
    have := (tpk_op _ m).2.1
    show 1 ≤ rk s
    have : 2 ≤ rk s := this
    omega
  | three s a b c => exact Nat.le_refl _
/-- a sum's first sign is no blank -/
theorem nm_cons {l : L} (h : isNm l = true) : ∃ c r, l = c :: r ∧ c ∈ staC ∧ ∀ d ∈ r, d ∈ namC := by
  unfold isNm at h
  cases l with
  | nil => cases h
  | cons c r =>
    have h' : (decide (c ∈ staC) && r.all fun d => decide (d ∈ namC)) = true := h
    rw [Bool.and_eq_true, List.all_eq_true] at h'
    exact ⟨c, r, rfl, of_decide_eq_true h'.1, fun d m => of_decide_eq_true (h'.2 d m)⟩
def First (l : L) : Prop := ∃ c r, l = c :: r ∧ c ∉ wsC
theorem first_app {l r : L} (h : First l) : First (l ++ r) := by
  obtain ⟨c, q, rfl, n⟩ := h
  exact ⟨c, q ++ r, rfl, n⟩
theorem first_par {b : Bool} {l : L} (h : First l) : First (par b l) := by
  cases b
  · exact h
  · exact ⟨40, l ++ [41], rfl, by decide⟩
theorem first_shw : ∀ {t : Sm}, t.nice → First t.shw
  | .num n, h => by
    obtain ⟨m, rfl⟩ : ∃ m : Nat, n = m := ⟨n.toNat, (Int.toNat_of_nonneg h).symm⟩
    obtain ⟨a, b, _⟩ := nmC_ok m
    have e : (Sm.num (m : Int)).shw = nmC m := rfl
    rw [e]
    cases q : nmC m with
    | nil => exact (a q).elim
    | cons c r => exact ⟨c, r, rfl, (by decide : ∀ c ∈ digC, c ∉ wsC) c (b c (by rw [q]; exact .head _))⟩
  | .of w, h => by
    show First (if isNm (cs w) then cs w else 36 :: cs w)
    cases e : isNm (cs w) with
    | true =>
      obtain ⟨c, r, q, m, _⟩ := nm_cons e
      rw [if_pos rfl, q]
      exact ⟨c, r, rfl, (by decide +kernel : ∀ c ∈ staC, c ∉ wsC) c m⟩
    | false =>
      rw [if_neg (by decide)]
      exact ⟨36, cs w, rfl, by decide⟩
  | .one s a, h => by
    show First (aheadC s ++ _)
    unfold aheadC
    split
    · exact ⟨33, _, rfl, by decide⟩
    · exact ⟨45, _, rfl, by decide⟩
  | .two s a b, h => first_app (first_par (first_shw h.2.1))
  | .three s a b c, h => first_app (first_par (first_shw h.2.1))
theorem spc_first {l : L} (h : First l) : spc l = l := by
  obtain ⟨c, r, rfl, n⟩ := h
  unfold spc
  rw [List.dropWhile_cons_of_neg (by simpa using n)]
theorem spc_sp (l : L) : spc (32 :: l) = spc l := by
  unfold spc
  rw [List.dropWhile_cons_of_pos (by decide)]
def LoopTo (n l : Nat) (t : Sm) (r : L) (o : Sm × L) : Prop := ∃ m, m ≤ r.length + 1 ∧ loopW (rds n).two m l t r = some o
theorem loop_more {two : Nat → Rd} : ∀ {m l t r o}, loopW two m l t r = some o → loopW two (m + 1) l t r = some o
  | 0, l, t, r, o, h => by cases h
  | m + 1, l, t, r, o, h => by
    unfold loopW at h ⊢
    cases e : tpSign r with
    | none => rw [e] at h; exact h
    | some p =>
      rw [e] at h
      dsimp only at h ⊢
      by_cases c : l ≤ rk p.1
      · rw [if_pos c] at h ⊢
        cases q : two (rk p.1 + 1) (r.drop p.2.length) with
        | none => rw [q] at h; cases h
        | some x =>
          obtain ⟨u, r2⟩ := x
          rw [q] at h
          dsimp only at h ⊢
          exact loop_more h
      · rw [if_neg c] at h ⊢
        exact h
theorem loop_most {two : Nat → Rd} {m l : Nat} {t : Sm} {r : L} {o : Sm × L} (h : loopW two m l t r = some o) : ∀ {k}, m ≤ k → loopW two k l t r = some o := by
  intro k hk
  induction k with
  | zero =>
    obtain rfl : m = 0 := by omega
    exact h
  | succ k ih =>
    by_cases c : m = k + 1
    · rw [← c]; exact h
    · exact loop_more (ih (by omega))
theorem loop_stop {n l : Nat} {t : Sm} {r : L} (h : NoNext l r) : LoopTo n l t r (t, r) := by
  refine ⟨1, by omega, ?_⟩
  unfold loopW
  cases e : tpSign r with
  | none => rfl
  | some p =>
    dsimp only
    rw [if_neg (by have := h p e; omega)]
theorem two_of {n l : Nat} {t : Sm} {r r1 : L} {o : Sm × L} (h : (rds n).ahead r = some (t, r1)) (k : LoopTo n l t r1 o) : (rds (n + 1)).two l r = some o := by
  obtain ⟨m, hm, e⟩ := k
  show twoF (rds n).two (rds n).ahead l r = some o
  unfold twoF
  rw [h]
  exact loop_most e hm
theorem ahead_sp {n : Nat} (r : L) : (rds (n + 1)).ahead (32 :: r) = (rds (n + 1)).ahead r := by
  show aheadF _ _ (32 :: r) = aheadF _ _ r
  unfold aheadF
  rw [spc_sp]
theorem two_sp {n l : Nat} (r : L) : (rds (n + 2)).two l (32 :: r) = (rds (n + 2)).two l r := by
  show twoF _ _ l (32 :: r) = twoF _ _ l r
  unfold twoF
  rw [ahead_sp]
theorem sum_sp {n : Nat} (r : L) : (rds (n + 3)).sum (32 :: r) = (rds (n + 3)).sum r := by
  show sumF _ _ (32 :: r) = sumF _ _ r
  unfold sumF
  rw [two_sp]
theorem ahead_plain {n : Nat} {r r2 : L} {t : Sm} (hf : First r) (h1 : r.head? ≠ some 45) (h2 : r.head? ≠ some 33) (h : (rds n).plain r = some (t, r2)) : (rds (n + 1)).ahead r = some (t, spc r2) := by
  show aheadF (rds n).ahead (rds n).plain r = _
  unfold aheadF
  rw [spc_first hf]
  obtain ⟨c, q, rfl, _⟩ := hf
  split
  · rename_i e
    cases e
    exact (h1 rfl).elim
  · rename_i e
    cases e
    exact (h2 rfl).elim
  · rw [h]
theorem tp_no {r : L} (h : ∀ c l, r = c :: l → c ∉ [38, 124, 60, 62, 61, 33, 42, 47, 94, 43, 45]) : tpSign r = none := by
  unfold tpSign
  rw [List.find?_eq_none]
  intro p hp z
  obtain ⟨r', e⟩ := List.isPrefixOf_iff_prefix.mp z
  have key : ∀ p ∈ tpk, ∃ c ∈ [38, 124, 60, 62, 61, 33, 42, 47, 94, 43, 45], p.2.head? = some c := by decide +kernel
  obtain ⟨c, hc, e2⟩ := key p hp
  cases q : p.2 with
  | nil => rw [q] at e2; cases e2
  | cons d l =>
    rw [q] at e2 e
    obtain rfl := Option.some.inj e2
    exact h d (l ++ r') e.symm hc
theorem tp_op {s : Str} {c : L} (h : (s, c) ∈ tpk) (r : L) : tpSign (c ++ 32 :: r) = some (s, c) := by
  unfold tpk at h
  simp only [List.mem_cons, List.not_mem_nil, or_false, Prod.mk.injEq] at h
  rcases h with ⟨rfl, rfl⟩ | ⟨rfl, rfl⟩ | ⟨rfl, rfl⟩ | ⟨rfl, rfl⟩ | ⟨rfl, rfl⟩ | ⟨rfl, rfl⟩ | ⟨rfl, rfl⟩ | ⟨rfl, rfl⟩ | ⟨rfl, rfl⟩ | ⟨rfl, rfl⟩ | ⟨rfl, rfl⟩ | ⟨rfl, rfl⟩ | ⟨rfl, rfl⟩ <;> rfl
theorem plainF_40 {sum : Rd} {r1 r2 : L} {t : Sm} (h : sum r1 = some (t, 41 :: r2)) : plainF sum (40 :: r1) = some (t, r2) := by
  show (match sum r1 with
    | some (t, 41 :: r2) => some (t, r2)
    | _ => none) = _
  rw [h]
  rfl
theorem plainF_36 {sum : Rd} {r1 r2 w : L} (h : rdPlc r1 = some (w, r2)) : plainF sum (36 :: r1) = some (.of (st w), r2) := by
  show (match rdPlc r1 with
    | none => none
    | some (w, r2) => some (Sm.of (st w), r2)) = _
  rw [h]
theorem aheadF_45 {ahead plain : Rd} {r r1 r2 : L} {t : Sm} (hs : spc r = 45 :: r1) (h : ahead r1 = some (t, r2)) : aheadF ahead plain r = some (.one "minus" t, r2) := by
  unfold aheadF
  rw [hs]
  show (match ahead r1 with
    | none => none
    | some (t, r2) => some (Sm.one "minus" t, r2)) = _
  rw [h]
theorem aheadF_33 {ahead plain : Rd} {r r1 r2 : L} {t : Sm} (hs : spc r = 33 :: r1) (h : ahead r1 = some (t, r2)) : aheadF ahead plain r = some (.one "no" t, r2) := by
  unfold aheadF
  rw [hs]
  show (match ahead r1 with
    | none => none
    | some (t, r2) => some (Sm.one "no" t, r2)) = _
  rw [h]
theorem sumF_63 {sum : Rd} {two : Nat → Rd} {r r2 r3 r4 : L} {t a b : Sm} (h1 : two 2 r = some (t, 63 :: r2)) (h2 : sum r2 = some (a, 58 :: r3)) (h3 : sum r3 = some (b, r4)) : sumF sum two r = some (.three "choose" t a b, r4) := by
  unfold sumF
  rw [h1]
  show (match sum r2 with
    | some (a, 58 :: r3) => (match sum r3 with
      | none => none
      | some (b, r4) => some (Sm.three "choose" t a b, r4))
    | _ => none) = _
  rw [h2]
  show (match sum r3 with
      | none => none
      | some (b, r4) => some (Sm.three "choose" t a b, r4)) = _
  rw [h3]
structure Back (t : Sm) : Prop where
  A : ∀ n l rest o, 6 * t.ht + 6 ≤ n → l ≤ t.rank → 2 ≤ t.rank → Tidy rest → (∀ p, tpSign (spc rest) = some p → rk p.1 ≤ t.rank) → LoopTo n l t (spc rest) o → (rds (n + 1)).two l (t.shw ++ rest) = some o
  B : ∀ n rest, 6 * t.ht + 6 ≤ n → Tidy rest → tpSign (spc rest) = none → (spc rest).head? ≠ some 63 → (rds (n + 2)).sum (t.shw ++ rest) = some (t, spc rest)
  C : ∀ n rest, 6 * t.ht + 6 ≤ n → 8 ≤ t.rank → Tidy rest → (rds n).ahead (t.shw ++ rest) = some (t, spc rest)
theorem sum_two {n : Nat} {t : Sm} {r r1 : L} (h : (rds n).two 2 r = some (t, r1)) (h1 : r1.head? ≠ some 63) : (rds (n + 1)).sum r = some (t, r1) := by
  show sumF _ _ r = _
  unfold sumF
  split
  · rename_i e
    rw [h] at e
    cases e
  · rename_i e
    rw [h] at e
    cases e
    exact (h1 rfl).elim
  · rename_i e
    rw [h] at e
    cases e
    rfl
theorem back_BA {t : Sm} (h2 : 2 ≤ t.rank) (hA : ∀ n l rest o, 6 * t.ht + 6 ≤ n → l ≤ t.rank → 2 ≤ t.rank → Tidy rest → (∀ p, tpSign (spc rest) = some p → rk p.1 ≤ t.rank) → LoopTo n l t (spc rest) o → (rds (n + 1)).two l (t.shw ++ rest) = some o) :
    ∀ n rest, 6 * t.ht + 6 ≤ n → Tidy rest → tpSign (spc rest) = none → (spc rest).head? ≠ some 63 → (rds (n + 2)).sum (t.shw ++ rest) = some (t, spc rest) := fun n rest hn ti h h63 =>
  sum_two (hA n 2 rest _ hn h2 h2 ti (fun p e => by rw [h] at e; cases e) (loop_stop fun p e => by rw [h] at e; cases e)) h63
theorem tidy_41 {r : L} : Tidy (41 :: r) := fun c l e => by
  cases e
  decide +kernel
theorem tidy_32 {r : L} : Tidy (32 :: r) := fun c l e => by
  cases e
  decide +kernel
theorem tidy_nil : Tidy [] := fun c l e => by cases e
theorem spc_41 {r : L} : spc (41 :: r) = 41 :: r := spc_first ⟨41, r, rfl, by decide⟩
theorem paren_plain {a : Sm} (b : Back a) {n : Nat} (hn : 6 * a.ht + 6 ≤ n) (rest : L) : (rds (n + 3)).plain (40 :: (a.shw ++ 41 :: rest)) = some (a, rest) := by
  refine plainF_40 ?_
  rw [b.B n (41 :: rest) hn tidy_41 (by rw [spc_41]; exact tp_no fun c l e => by cases e; decide) (by rw [spc_41]; simp), spc_41]
theorem paren_ahead {a : Sm} (b : Back a) {n : Nat} (hn : 6 * a.ht + 6 ≤ n) (rest : L) : (rds (n + 4)).ahead (40 :: (a.shw ++ 41 :: rest)) = some (a, spc rest) :=
  ahead_plain ⟨40, _, rfl, by decide⟩ (by simp) (by simp) (paren_plain b hn rest)
theorem par_app (c : Bool) (l r : L) : par c l ++ r = if c = true then 40 :: (l ++ 41 :: r) else l ++ r := by
  cases c
  · rfl
  · show (40 :: (l ++ [41])) ++ r = _
    simp
theorem part_two {a : Sm} (b : Back a) {n l l0 : Nat} {rest : L} {o : Sm × L} (hn : 6 * a.ht + 10 ≤ n) (hl : l ≤ l0) (h2 : 2 ≤ l0) (ti : Tidy rest) (nx : ∀ p, tpSign (spc rest) = some p → rk p.1 ≤ l0) (k : LoopTo n l a (spc rest) o) :
    (rds (n + 1)).two l (par (decide (a.rank < l0)) a.shw ++ rest) = some o := by
  rw [par_app]
  by_cases c : a.rank < l0
  · rw [if_pos (decide_eq_true c)]
    obtain ⟨m, rfl⟩ : ∃ m, n = m + 4 := ⟨n - 4, by omega⟩
    exact two_of (paren_ahead b (by omega) rest) k
  · rw [if_neg (by simpa using c)]
    exact b.A n l rest o (by omega) (by omega) (by omega) ti (fun p e => Nat.le_trans (nx p e) (by omega)) k
theorem part_ahead {a : Sm} (b : Back a) {n : Nat} {rest : L} (hn : 6 * a.ht + 10 ≤ n) (ti : Tidy rest) : (rds n).ahead (par (decide (a.rank < 8)) a.shw ++ rest) = some (a, spc rest) := by
  rw [par_app]
  by_cases c : a.rank < 8
  · rw [if_pos (decide_eq_true c)]
    obtain ⟨m, rfl⟩ : ∃ m, n = m + 4 := ⟨n - 4, by omega⟩
    exact paren_ahead b (by omega) rest
  · rw [if_neg (by simpa using c)]
    exact b.C n rest (by omega) (by omega) ti
theorem back_C {t : Sm} (h : 8 ≤ t.rank) (hC : ∀ n rest, 6 * t.ht + 6 ≤ n → 8 ≤ t.rank → Tidy rest → (rds n).ahead (t.shw ++ rest) = some (t, spc rest)) : Back t := by
  have hA : ∀ n l rest o, 6 * t.ht + 6 ≤ n → l ≤ t.rank → 2 ≤ t.rank → Tidy rest → (∀ p, tpSign (spc rest) = some p → rk p.1 ≤ t.rank) → LoopTo n l t (spc rest) o → (rds (n + 1)).two l (t.shw ++ rest) = some o :=
    fun n l rest o hn _ _ ti _ k => two_of (hC n rest hn h ti) k
  exact ⟨hA, back_BA (by omega) hA, hC⟩
theorem leaf_back {t : Sm} (hr : t.rank = 9) (hf : First t.shw) (h1 : t.shw.head? ≠ some 45) (h2 : t.shw.head? ≠ some 33) (hp : ∀ n rest, Tidy rest → (rds (n + 1)).plain (t.shw ++ rest) = some (t, rest)) : Back t := by
  refine back_C (by omega) fun n rest hn _ ti => ?_
  obtain ⟨m, rfl⟩ : ∃ m, n = m + 2 := ⟨n - 2, by omega⟩
  have hd : ∀ x, t.shw.head? ≠ some x → (t.shw ++ rest).head? ≠ some x := fun x z => by
    obtain ⟨c, q, e, _⟩ := hf
    rw [e] at z ⊢
    exact z
  exact ahead_plain (first_app hf) (hd 45 h1) (hd 33 h2) (hp m rest ti)
theorem sta_nam : ∀ c ∈ staC, c ∈ namC := by decide +kernel
theorem plain_dig {n : Nat} {d rest : L} (ti : Tidy rest) (hn : d ≠ []) (ha : ∀ c ∈ d, c ∈ digC) (h0 : d.head? = some 48 → d.length = 1) : (rds (n + 1)).plain (d ++ rest) = some (.num (digVal d), rest) := by
  have z := rdDig_of ti hn ha h0
  cases d with
  | nil => exact (hn rfl).elim
  | cons x d =>
    have hx := ha x (.head _)
    have n1 : x ≠ 40 := fun e => by rw [e] at hx; revert hx; decide
    have n2 : x ≠ 36 := fun e => by rw [e] at hx; revert hx; decide
    have n3 : x ∉ staC := (by decide +kernel : ∀ c ∈ digC, c ∉ staC) x hx
    show plainF _ (x :: (d ++ rest)) = _
    unfold plainF
    split
    · rename_i e; exact (n1 (List.cons.inj e).1).elim
    · rename_i e; exact (n2 (List.cons.inj e).1).elim
    · rename_i e
      cases e
      rw [if_neg n3]
      have z' : rdDig (x :: (d ++ rest)) = some (x :: d, rest) := z
      rw [z']
    · rename_i e; cases e
theorem back : ∀ {t : Sm}, t.nice → Back t
  | .num n, h => by
    obtain ⟨m, rfl⟩ : ∃ m : Nat, n = m := ⟨n.toNat, (Int.toNat_of_nonneg h).symm⟩
    obtain ⟨a, b, c, d⟩ := nmC_ok m
    have e : (Sm.num (m : Int)).shw = nmC m := rfl
    have c' : (nmC m).head? = some 48 → (nmC m).length = 1 := fun z => by
      by_cases z0 : m = 0
      · subst z0
        rw [nmC_lt (by decide)]
        rfl
      · exact (c z0 z).elim
    have hd : ∀ x, x ∉ digC → (Sm.num (m : Int)).shw.head? ≠ some x := fun x hx z => by
      rw [e] at z
      exact hx (b x (List.mem_of_head? z))
    refine leaf_back rfl (first_shw (t := .num m) h) (hd 45 (by decide)) (hd 33 (by decide)) fun n rest ti => ?_
    rw [e, plain_dig ti a b c', d]
  | .of w, h => by
    have es : (Sm.of w).shw = if isNm (cs w) then cs w else 36 :: cs w := rfl
    rcases h with h | ⟨h, hp⟩
    · rw [h, if_pos rfl] at es
      obtain ⟨c, r, q, m, al⟩ := nm_cons h
      have n1 : ∀ x, x ∉ staC → (Sm.of w).shw.head? ≠ some x := fun x hx z => by
        rw [es, q] at z
        exact hx (by rw [← Option.some.inj z]; exact m)
      refine leaf_back rfl (by rw [es, q]; exact ⟨c, r, rfl, (by decide +kernel : ∀ c ∈ staC, c ∉ wsC) c m⟩) (n1 45 (by decide +kernel)) (n1 33 (by decide +kernel)) fun n rest ti => ?_
      rw [es]
      have t2 := tidy_no ti (S := namC) (fun _ z => z) (l := cs w) (by rw [q]; exact fun d md => by rcases List.mem_cons.mp md with rfl | md; exact sta_nam _ m; exact al d md)
      rw [q] at t2
      show plainF _ (cs w ++ rest) = _
      rw [q]
      unfold plainF
      have k1 : c ≠ 40 := fun e => by rw [e] at m; revert m; decide +kernel
      have k2 : c ≠ 36 := fun e => by rw [e] at m; revert m; decide +kernel
      rw [List.cons_append] at t2 ⊢
      split
      · rename_i e; exact (k1 (List.cons.inj e).1).elim
      · rename_i e; exact (k2 (List.cons.inj e).1).elim
      · rename_i e
        cases e
        rw [if_pos m, t2.1, t2.2, ← q, st_cs]
      · rename_i e; cases e
    · rw [h, if_neg (by decide)] at es
      refine leaf_back rfl (by rw [es]; exact ⟨36, _, rfl, by decide⟩) (by rw [es]; simp) (by rw [es]; simp) fun n rest ti => ?_
      rw [es]
      show plainF (rds n).sum (36 :: (cs w ++ rest)) = _
      rw [plainF_36 (rdPlc_of ti hp), st_cs]
  | .one s a, h => by
    have ba := back h.2
    refine back_C (Nat.le_refl _) fun n rest hn _ ti => ?_
    have hh : (Sm.one s a).ht = 1 + a.ht := rfl
    obtain ⟨m, rfl⟩ : ∃ m, n = m + 1 := ⟨n - 1, by omega⟩
    have z := part_ahead ba (n := m) (rest := rest) (by omega) ti
    have es : (Sm.one s a).shw = aheadC s ++ par (decide (a.rank < 8)) a.shw := rfl
    rw [es]
    rcases h.1 with rfl | rfl
    · exact aheadF_45 (plain := (rds m).plain) (spc_first ⟨45, _, rfl, by decide⟩) z
    · exact aheadF_33 (plain := (rds m).plain) (spc_first ⟨33, _, rfl, by decide⟩) z
  | .two s a b, h => by
    have ba := back h.2.1
    have bb := back h.2.2
    obtain ⟨c, mc⟩ := op_tpk h.1
    have hk : 2 ≤ rk s ∧ rk s ≤ 7 := (tpk_op _ mc).2
    have ec : cs s = c := tpk_cs _ mc
    have hh : (Sm.two s a b).ht = 1 + max a.ht b.ht := rfl
    have hA : ∀ n l rest o, 6 * (Sm.two s a b).ht + 6 ≤ n → l ≤ (Sm.two s a b).rank → 2 ≤ (Sm.two s a b).rank → Tidy rest → (∀ p, tpSign (spc rest) = some p → rk p.1 ≤ (Sm.two s a b).rank) → LoopTo n l (.two s a b) (spc rest) o → (rds (n + 1)).two l ((Sm.two s a b).shw ++ rest) = some o := by
      intro n l rest o hn hl h2 ti nx ⟨m, hm, em⟩
      have hl' : l ≤ rk s := hl
      have es : (Sm.two s a b).shw ++ rest = par (decide (a.rank < rk s)) a.shw ++ (32 :: (c ++ 32 :: (par (decide (b.rank < rk s + 1)) b.shw ++ rest))) := by
        show (par (decide (a.rank < rk s)) a.shw ++ 32 :: (cs s ++ 32 :: par (decide (b.rank < rk s + 1)) b.shw)) ++ rest = _
        rw [ec]
        simp
      have fc : First (c ++ 32 :: (par (decide (b.rank < rk s + 1)) b.shw ++ rest)) := first_app ((by
        have key : ∀ p ∈ tpk, ∃ x ∈ [38, 124, 60, 62, 61, 33, 42, 47, 94, 43, 45], p.2.head? = some x := by decide +kernel
        obtain ⟨x, hx, e2⟩ := key _ mc
        have e2 : c.head? = some x := e2
        cases c with
        | nil => cases e2
        | cons d q =>
          obtain rfl := Option.some.inj e2
          exact ⟨d, q, rfl, (by decide : ∀ c ∈ [38, 124, 60, 62, 61, 33, 42, 47, 94, 43, 45], c ∉ wsC) d hx⟩))
      have e1 : spc (32 :: (c ++ 32 :: (par (decide (b.rank < rk s + 1)) b.shw ++ rest))) = c ++ 32 :: (par (decide (b.rank < rk s + 1)) b.shw ++ rest) := by rw [spc_sp, spc_first fc]
      have tp := tp_op mc (par (decide (b.rank < rk s + 1)) b.shw ++ rest)
      rw [es]
      refine part_two ba (by omega) hl' hk.1 tidy_32 (fun p e => by rw [e1, tp] at e; cases e; exact Nat.le_refl _) ?_
      rw [e1]
      obtain ⟨n', rfl⟩ : ∃ n', n = n' + 2 := ⟨n - 2, by omega⟩
      have second : (rds (n' + 2)).two (rk s + 1) (32 :: (par (decide (b.rank < rk s + 1)) b.shw ++ rest)) = some (b, spc rest) := by
        rw [two_sp]
        refine part_two bb (n := n' + 1) (by omega) (Nat.le_refl _) (by omega) ti (fun p e => Nat.le_succ_of_le (nx p e)) (loop_stop fun p e => Nat.lt_succ_of_le (nx p e))
      refine ⟨m + 1, ?_, ?_⟩
      · have : (spc rest).length ≤ rest.length := by
          obtain ⟨p, e⟩ := spc_pre rest
          have z := congrArg List.length e
          rw [List.length_append] at z
          omega
        have : 1 ≤ c.length := (tpk_w2 _ mc).2
        simp only [List.length_append, List.length_cons]
        omega
      · unfold loopW
        rw [tp]
        dsimp only
        rw [if_pos hl', show (c ++ 32 :: (par (decide (b.rank < rk s + 1)) b.shw ++ rest)).drop c.length = 32 :: (par (decide (b.rank < rk s + 1)) b.shw ++ rest) by simp, second]
        exact em
    exact ⟨hA, back_BA hk.1 hA, fun n rest _ h8 _ => by have : 8 ≤ rk s := h8; omega⟩
  | .three s a b c, h => by
    obtain ⟨rfl, ha, hb, hc⟩ := h
    have ba := back ha
    have bb := back hb
    have bc := back hc
    have hh : (Sm.three "choose" a b c).ht = 1 + max a.ht (max b.ht c.ht) := rfl
    refine ⟨fun n l rest o _ _ h2 => by have : 2 ≤ 1 := h2; omega, fun n rest hn ti tn h63 => ?_, fun n rest _ h8 => by have : 8 ≤ 1 := h8; omega⟩
    have rc : decide (c.rank < 1) = false := by
      have := rank_ge hc
      exact decide_eq_false (by omega)
    have es : (Sm.three "choose" a b c).shw ++ rest = par (decide (a.rank < 2)) a.shw ++ (32 :: 63 :: 32 :: (b.shw ++ (32 :: 58 :: 32 :: (c.shw ++ rest)))) := by
      show (par (decide (a.rank < 2)) a.shw ++ 32 :: 63 :: 32 :: (b.shw ++ 32 :: 58 :: 32 :: par (decide (c.rank < 1)) c.shw)) ++ rest = _
      rw [rc]
      simp [par]
    have s63 : ∀ r, spc (32 :: 63 :: r) = 63 :: r := fun r => by rw [spc_sp, spc_first ⟨63, r, rfl, by decide⟩]
    have s58 : ∀ r, spc (32 :: 58 :: r) = 58 :: r := fun r => by rw [spc_sp, spc_first ⟨58, r, rfl, by decide⟩]
    have t63 : ∀ r, tpSign (63 :: r) = none := fun r => tp_no fun c l e => by cases e; decide
    have t58 : ∀ r, tpSign (58 :: r) = none := fun r => tp_no fun c l e => by cases e; decide
    rw [es]
    have h1 := part_two ba (n := n) (l := 2) (l0 := 2) (rest := 32 :: 63 :: 32 :: (b.shw ++ (32 :: 58 :: 32 :: (c.shw ++ rest)))) (by omega) (Nat.le_refl _) (Nat.le_refl _) tidy_32 (fun p e => by rw [s63, t63] at e; cases e) (loop_stop fun p e => by rw [s63, t63] at e; cases e)
    obtain ⟨n', rfl⟩ : ∃ n', n = n' + 2 := ⟨n - 2, by omega⟩
    have h2 : (rds (n' + 3)).sum (32 :: (b.shw ++ (32 :: 58 :: 32 :: (c.shw ++ rest)))) = some (b, 58 :: 32 :: (c.shw ++ rest)) := by
      rw [sum_sp, bb.B (n' + 1) _ (by omega) tidy_32 (by rw [s58, t58]) (by rw [s58]; simp), s58]
    have h3 : (rds (n' + 3)).sum (32 :: (c.shw ++ rest)) = some (c, spc rest) := by
      rw [sum_sp, bc.B (n' + 1) _ (by omega) ti tn h63]
    rw [s63] at h1
    exact sumF_63 h1 h2 h3
end Qb
end PySem
namespace PySem
namespace Qb
open PySem.W PySem.Calls PyProof.Rows L2
def top (i : Nat) : Stmt := PySem.Challenge.pw_quotedback_k51_test_answers.main.body.getD i (.Pass ⟨0, 0, 0, 0⟩)
/-- names of the machine that the text's top leaves as they are -/
structure Blt (mg : Str → Option Value) : Prop where
  abs : mg "abs" = none
  int : mg "int" = none
  len : mg "len" = none
  range : mg "range" = none
  isi : mg "isinstance" = none
  all : mg "all" = none
  str : mg "str" = none
  repr : mg "repr" = none
  dict : mg "dict" = none
  list : mg "list" = none
  tuple : mg "tuple" = none
  bool : mg "bool" = none
  max : mg "max" = none
  min : mg "min" = none
  sum : mg "sum" = none
  reversed : mg "reversed" = none
  ve : mg "ValueError" = none
  any : mg "any" = none
  zip : mg "zip" = none
  enumerate : mg "enumerate" = none
def staS : Str := "abcdefghijklmnopqrstuvwxyzABCDEFGHIJKLMNOPQRSTUVWXYZ_"
def namS : Str := "abcdefghijklmnopqrstuvwxyzABCDEFGHIJKLMNOPQRSTUVWXYZ_0123456789"
def digS : Str := "0123456789"
theorem cs_sta : cs staS = staC := rfl
theorem cs_nam : cs namS = namC := rfl
theorem cs_dig : cs digS = digC := by decide +kernel
def plW : List Str := ["0", "#", "?", "@", "*"]
def alW : List Str := ["@", "*"]
def tpW : List Str := ["&&", "||", "<=", ">=", "==", "!=", "<", ">", "*", "/", "^", "+", "-"]
def bareS : Str := "abcdefghijklmnopqrstuvwxyzABCDEFGHIJKLMNOPQRSTUVWXYZ0123456789./_-,:+@=*?[]!~"
def keyW : List Str := ["if", "then", "elif", "else", "fi", "while", "until", "do", "done", "for", "in", "case", "esac", "{", "}", "!"]
def cutW : List Str := ["#", "##", "^", "^^"]
theorem tpW_eq : tpW = tpk.map (·.1) := by decide +kernel
/-- what the text's top says of its written things -/
structure Wrt (K : Frag) (w : World) (mg : Str → Option Value) : Prop where
  sta : ∃ t, mg "NAME_STARTS" = some (.str staS t)
  nam : ∃ t, mg "NAME_SIGNS" = some (.str namS t)
  dig : ∃ t, mg "DIGITS" = some (.str digS t)
  bare : ∃ t, mg "BARE_SIGNS" = some (.str bareS t)
  pls : ∃ p, mg "PLACE_SIGNS" = some (.ref p) ∧ ∀ H, SqT K H p (plW.map V.str)
  alls : ∃ p, mg "ALL_ARGUMENTS" = some (.ref p) ∧ ∀ H, SqT K H p (alW.map V.str)
  kws : ∃ p, mg "KEY_WORDS" = some (.ref p) ∧ ∀ H, SqT K H p (keyW.map V.str)
  cuts : ∃ p, mg "CUT_MARKS" = some (.ref p) ∧ ∀ H, SqT K H p (cutW.map V.str)
  rks : ∃ (d : Addr) (es : Array DictEntry) (n : Nat), mg "RANKS" = some (.ref d) ∧ KDict K w d es n ∧ ∀ s : Str, (isOp s = false → PySem.W.nsIn K d s = some none) ∧ (isOp s = true → ∃ t, PySem.W.nsIn K d s = some (some (.int (rk s : Nat) t)))
theorem glob_int {X : Cx} {x : Str} {c : Int} {pos : Pos} (hg : Gl X x) (hm : ∃ t, X.mg x = some (.int c t)) (hd : (x == ("__debug__" : Str)) = false := by decide) : PE X (.Name x pos) (tC (.int c)) := by
  obtain ⟨t, e⟩ := hm
  exact pe_glob hg e ⟨t, rfl⟩ hd
theorem small_line {n : Nat} (h : n ≤ 1000000) : n ≤ sizeLine := by
  rw [sizeLine_eq]
  omega
/-- a def that may raise -/
def HasX (P : Program) (w : World) (K : Frag) (mg : Str → Option Value) (base : Heap) (k : Nat) (x : Str) (ps : List Str) (sp : Sp) : Prop :=
  ∃ (f : Addr) (fd : FuncData), mg x = some (.ref f) ∧ PySem.W.keepIn K (.ref f) = true ∧ Binds K fd ps [] ∧ FnOk P w K mg base (L2.CX P w) k f fd ps sp
theorem hasX_of {P : Program} {w : World} {K : Frag} {mg : Str → Option Value} {base : Heap} {k : Nat} {x qual : Str} {st : Stmt} {f : Addr} {fd : FuncData} {ps : List Str} {sp : Sp} (F : Fun K x qual st f fd) (g : mg x = some (.ref f)) (b : Binds K fd ps []) (o : FnOk P w K mg base (L2.CX P w) k f fd ps sp) : HasX P w K mg base k x ps sp := ⟨f, fd, g, F.kp, b, o⟩
def HasM (P : Program) (w : World) (K : Frag) (mg : Str → Option Value) (base : Heap) (C : Addr) (k : Nat) (x : Str) (ps : List Str) (sp : Sp) : Prop :=
  ∃ (f : Addr) (fd : FuncData), Meth K C x f ∧ Binds K fd ps [] ∧ FnOk P w K mg base CX0 k f fd ps sp
def HasMX (P : Program) (w : World) (K : Frag) (mg : Str → Option Value) (base : Heap) (C : Addr) (k : Nat) (x : Str) (ps : List Str) (sp : Sp) : Prop :=
  ∃ (f : Addr) (fd : FuncData), Meth K C x f ∧ Binds K fd ps [] ∧ FnOk P w K mg base (L2.CX P w) k f fd ps sp
theorem pass_of {X : Cx} {E : XK} (tk : Takes X (fun cls d _ H => E cls d H)) : Passes (L2.CX X.prog X.w) X E := fun pins σ H s e s' I h => passAt tk σ pins H s e s' I h
/-! # names and places -/
def startS : Str := staS
def nameS : Str := namS
/-- the longest name at the beginning -/
def nameLen : List Nat → Nat
  | [] => 0
  | c :: r => if c ∈ cs startS then 1 + (r.takeWhile fun d => decide (d ∈ cs nameS)).length else 0
def isNameB (l : List Nat) : Bool := !l.isEmpty && nameLen l == l.length
def big : Nat := 100000
/-- a text in, a value out, nothing made that is kept -/
def spTxt (g : Str → V) : Sp := fun vs H Q _ => ∃ x : Str, vs = [.str x] ∧ x.length ≤ big ∧ ∀ H', Same H H' → Q (g x) H'
def isPlB (l : L) : Bool := inV (.str (st l)) (plW.map V.str) || (!l.isEmpty && l.head? != some 48 && l.all fun d => decide (d ∈ digC))
abbrev spNl : Sp := spTxt fun x => .int (nameLen (cs x))
abbrev spNn : Sp := spTxt fun x => .bl (isNameB (cs x))
abbrev spIp : Sp := spTxt fun x => .bl (isPlB (cs x))
section
variable {P : Program} {w : World} {K : Frag} {mg : Str → Option Value} {base : Heap}
theorem big_line {x : Str} (h : x.length ≤ big) : x.length ≤ sizeLine := by
  rw [sizeLine_eq]
  unfold big at h
  omega
theorem tw_le {p : Nat → Bool} : ∀ (r : List Nat), (r.takeWhile p).length ≤ r.length
  | [] => Nat.le_refl _
  | c :: r => by
    by_cases h : p c = true
    · rw [List.takeWhile_cons_of_pos h, List.length_cons, List.length_cons]
      exact Nat.succ_le_succ (tw_le r)
    · rw [List.takeWhile_cons_of_neg h]
      exact Nat.zero_le _
theorem tw_on {p : Nat → Bool} : ∀ (r : List Nat) (k : Nat) (c : Nat), r[k]? = some c → k ≤ (r.takeWhile p).length → p c = true → k + 1 ≤ (r.takeWhile p).length
  | [], k, c, h, _, _ => by cases h
  | d :: r, 0, c, h, _, hp => by
    have e : d = c := Option.some.inj h
    subst e
    rw [List.takeWhile_cons_of_pos hp, List.length_cons]
    omega
  | d :: r, k + 1, c, h, hk, hp => by
    by_cases hd : p d = true
    · rw [List.takeWhile_cons_of_pos hd, List.length_cons] at hk ⊢
      exact Nat.succ_le_succ (tw_on r k c h (by omega) hp)
    · rw [List.takeWhile_cons_of_neg hd] at hk
      exact absurd hk (by simp)
theorem tw_off {p : Nat → Bool} : ∀ (r : List Nat) (k : Nat), k ≤ (r.takeWhile p).length → (∀ c, r[k]? = some c → p c = false) → k = (r.takeWhile p).length
  | [], k, h, _ => by simpa using h
  | d :: r, 0, _, h => by
    have e := h d rfl
    rw [List.takeWhile_cons_of_neg (by rw [e]; decide)]
    rfl
  | d :: r, k + 1, hk, h => by
    by_cases hd : p d = true
    · rw [List.takeWhile_cons_of_pos hd, List.length_cons] at hk ⊢
      exact congrArg Nat.succ (tw_off r k (by omega) h)
    · rw [List.takeWhile_cons_of_neg hd] at hk
      exact absurd hk (by simp)
theorem cs_nil {x : Str} (h : cs x = []) : x = ("" : Str) := by
  obtain ⟨a⟩ := x
  have e : a = #[] := by
    apply Array.toList_inj.mp
    simpa using h
  subst e
  rfl
abbrev sNl : Stmt := top 10
abbrev nNl : List Str := ["text", "length"]
theorem scNl : FnScope nNl ["text"] (defScope sNl) := ⟨rfl, rfl, rfl, by decide +kernel, rfl, by decide +kernel, by decide +kernel⟩
theorem has_Nl {f : Addr} {fd : FuncData}  (F : Fun K "name_length" "name_length" sNl f fd) (g : mg "name_length" = some (.ref f)) (B : Blt mg) (W : Wrt K w mg)  :
    Has P w K mg base 1 "name_length" ["text"] (spNl) := by
  refine has_of F g (F.binds (ps := ["text"]) fun _ _ _ _ _ _ us hl => match us, hl with | [_], _ => rfl) (F.ok scNl (fun vs H Q E h => ?_) (fun cdv A outer s H vs Q E hr h => ?_))
  · obtain ⟨x, rfl, _⟩ := h
    rfl
  · refine ⟨_, (pss_cons (ps_if (PW.pt (pw_or (pt_cmpR op_eq (pv 0) pe_str (nomark _)) (pw_or1 (pt_cmpR op_notIn_sign (pe_ix ix_str (pv 0) pe_int (fun _ _ => rfl)) (glob_str (by rfl) W.sta) (by rfl))))) (pss_one (ps_ret pe_int)) pss_nil)
        (pss_cons (ps_set (i := 1) scNl.nd rfl (.inl rfl) pe_int)
        (pss_cons (ps_while PassesOwn.never (PW.pt (pw_and (pt_cmpR op_lt (pv 1) (pe_callB call_len (by rfl) B.len PySem.boot_len (pa_cons (pv 0) pa_nil)) (nomark _)) (pw_and1 (pt_cmpR op_in_sign (pe_ix ix_str (pv 0) (pv 1) (fun _ _ => rfl)) (glob_str (by rfl) W.nam) (by rfl))))) (pss_one (ps_aug (i := 1) scNl.nd rfl (.inl rfl) pe_int ip_add)))
        (pss_one (ps_ret (pv 1)))))), ?_⟩
    obtain ⟨x, rfl, hx, k⟩ := h
    have hz := big_line hx
    by_cases h0 : x = ("" : Str)
    · subst h0
      exact ⟨_, rfl, rfl, _, rfl, if_yes (by simp) (k H (Same.refl H))⟩
    · obtain ⟨c, r, hl⟩ : ∃ c r, cs x = c :: r := by
        cases e : cs x with
        | nil => exact absurd (cs_nil e) h0
        | cons c r => exact ⟨c, r, rfl⟩
      have k' : ∀ n, nameLen (c :: r) = n → Q (.int n) H := fun n e => by
        have z : Q (.int (nameLen (cs x))) H := k H (Same.refl H)
        rw [hl, e] at z
        exact z
      have ac : atI (cs x) 0 = some c := atI_nat (j := 0) (by rw [hl]; rfl)
      refine ⟨_, rfl, rfl, _, rfl, if_no (by simpa using h0) ⟨_, rfl, x, 0, c, rfl, rfl, hz, ac, c, startS, rfl, rfl, _, rfl, ?_⟩⟩
      by_cases hc : c ∈ cs startS
      · refine if_no (by simpa using hc) ?_
        have hnl : nameLen (c :: r) = 1 + (r.takeWhile fun d => decide (d ∈ cs nameS)).length := if_pos hc
        have lx : x.length = r.length + 1 := by
          rw [len_cs, hl]
          rfl
        refine while_by (fun σ H' => ∃ j : Nat, σ = [some (.str x), some (.int (1 + (j : Int)))] ∧ H' = H ∧ j ≤ (r.takeWhile fun d => decide (d ∈ cs nameS)).length) (fun σ H' => match σ with
            | [_, some (.int i)] => x.length - i.toNat
            | _ => 0) ⟨0, rfl, rfl, Nat.zero_le _⟩ ?_ ?_
        · rintro σ H' ⟨j, rfl, rfl, hj⟩
          have jl := Nat.le_trans hj (tw_le r)
          refine ⟨_, rfl, _, rfl, .str x, x.length, rfl, ⟨hz, rfl⟩, _, _, rfl, rfl, _, rfl, ?_⟩
          by_cases hlt : j < r.length
          · obtain ⟨d, hd⟩ : ∃ d, r[j]? = some d := ⟨_, List.getElem?_eq_getElem hlt⟩
            have ad : atI (cs x) (1 + (j : Int)) = some d := by
              have z : (cs x)[j + 1]? = some d := by
                rw [hl]
                simpa using hd
              have y := atI_nat z
              rw [show ((j + 1 : Nat) : Int) = 1 + (j : Int) by omega] at y
              exact y
            refine if_yes (by simp; omega) ⟨_, rfl, _, rfl, x, _, d, rfl, rfl, hz, ad, d, nameS, rfl, rfl, _, rfl, ?_⟩
            by_cases hn : d ∈ cs nameS
            · refine if_yes (by simpa using hn) ⟨_, rfl, _, _, rfl, rfl, ⟨j + 1, ?_, rfl, tw_on r j d hd hj (by simpa using hn)⟩, ?_⟩
              · show [some (V.str x), some (V.int (1 + (j : Int) + 1))] = [some (V.str x), some (V.int (1 + ((j + 1 : Nat) : Int)))]
                rw [show (1 + (j : Int) + 1) = 1 + ((j + 1 : Nat) : Int) by omega]
              · show x.length - (1 + (j : Int) + 1).toNat < x.length - (1 + (j : Int)).toNat
                omega
            · refine if_no (by simpa using hn) ⟨_, rfl, ?_⟩
              refine k' _ ?_
              have e := tw_off (p := fun d => decide (d ∈ cs nameS)) r j hj (fun c' hc' => by
                rw [hd] at hc'
                obtain rfl := Option.some.inj hc'
                simpa using hn)
              rw [hnl, ← e] <;> omega
          · refine if_no (by simp; omega) (if_no rfl ⟨_, rfl, ?_⟩)
            refine k' _ ?_
            have e := tw_off (p := fun d => decide (d ∈ cs nameS)) r j hj (fun c' hc' => by
              rw [List.getElem?_eq_none (by omega)] at hc'
              cases hc')
            rw [hnl, ← e] <;> omega
        · intro σ H' Q1 Q2 hq h
          obtain ⟨v, e1, v2, e2, y, n, e3, ln, i, j, e4, e5, b, e6, z⟩ := h
          refine ⟨v, e1, v2, e2, y, n, e3, ln, i, j, e4, e5, b, e6, ?_⟩
          cases b with
          | false => exact hq _ _ z
          | true =>
            obtain ⟨a1, a2, a3, a4, a5, a6, a7, a8, a9, b1, b2, b3, b4, b5, b6, b7, b8, z⟩ := z
            exact ⟨a1, a2, a3, a4, a5, a6, a7, a8, a9, b1, b2, b3, b4, b5, b6, b7, b8, hq _ _ z⟩
      · refine if_yes (by simpa using hc) ?_
        exact k' 0 (if_neg hc)
abbrev sNn : Stmt := top 11
abbrev nNn : List Str := ["text"]
theorem scNn : FnScope nNn ["text"] (defScope sNn) := ⟨rfl, rfl, rfl, by decide +kernel, rfl, by decide +kernel, by decide +kernel⟩
theorem has_Nn {f : Addr} {fd : FuncData}  (F : Fun K "is_name" "is_name" sNn f fd) (g : mg "is_name" = some (.ref f)) (B : Blt mg) (hNl : Has P w K mg base 1 "name_length" ["text"] (spNl)) :
    Has P w K mg base 2 "is_name" ["text"] (spNn) := by
  obtain ⟨fNl, dNl, gNl, kNl, bNl, GNl⟩ := hNl
  refine has_of F g (F.binds (ps := ["text"]) fun _ _ _ _ _ _ us hl => match us, hl with | [_], _ => rfl) (F.ok scNn (fun vs H Q E h => ?_) (fun cdv A outer s H vs Q E hr h => ?_))
  · obtain ⟨x, rfl, _⟩ := h
    rfl
  · refine ⟨_, (pss_one (ps_ret (pe_and (pe_cmpR op_ne (pv 0) pe_str (nomark _)) (pe_one (pe_cmpR op_eq (pe_call GNl hr rfl gNl kNl bNl .nil pass0 (pa_cons (pv 0) pa_nil)) (pe_callB call_len (by rfl) B.len PySem.boot_len (pa_cons (pv 0) pa_nil)) (nomark _)))))), ?_⟩
    obtain ⟨x, rfl, hx, k⟩ := h
    have hz := big_line hx
    refine ⟨_, rfl, rfl, _, rfl, ?_⟩
    have done : ∀ b H', isNameB (cs x) = b → Same H H' → Q (.bl b) H' := fun b H' e s => by
      have z : Q (.bl (isNameB (cs x))) H' := k H' s
      rw [e] at z
      exact z
    by_cases h0 : x = ("" : Str)
    · subst h0
      exact if_no (by simp) (done false H (by decide +kernel) (Same.refl H))
    · refine if_yes (by simpa using h0) ⟨_, rfl, x, rfl, hx, fun H1 s1 => ⟨_, rfl, .str x, x.length, rfl, ⟨hz, rfl⟩, rfl, ?_⟩⟩
      refine done _ H1 ?_ s1
      have ne : (cs x).isEmpty = false := by
        cases e : cs x with
        | nil => exact absurd (cs_nil e) h0
        | cons c r => rfl
      unfold isNameB
      rw [ne, len_cs x]
      show (!false && nameLen (cs x) == (cs x).length) = decide (V.int (nameLen (cs x) : Int) = V.int ((cs x).length : Int))
      by_cases q : nameLen (cs x) = (cs x).length
      · rw [q, decide_eq_true rfl]
        simp
      · have q2 : ¬ ((nameLen (cs x) : Int) = ((cs x).length : Int)) := by omega
        rw [beq_eq_false_iff_ne.mpr q, decide_eq_false (fun z => q2 (V.int.inj z))]
        rfl
abbrev sIp : Stmt := top 12
abbrev nIp : List Str := ["text", "sign"]
theorem scIp : FnScope nIp ["text"] (defScope sIp) := ⟨rfl, rfl, rfl, by decide +kernel, rfl, by decide +kernel, by decide +kernel⟩
theorem has_Ip {f : Addr} {fd : FuncData}  (F : Fun K "is_place" "is_place" sIp f fd) (g : mg "is_place" = some (.ref f)) (B : Blt mg) (W : Wrt K w mg)  :
    Has P w K mg base 1 "is_place" ["text"] (spIp) := by
  refine has_of F g (F.binds (ps := ["text"]) fun _ _ _ _ _ _ us hl => match us, hl with | [_], _ => rfl) (F.ok scIp (fun vs H Q E h => ?_) (fun cdv A outer s H vs Q E hr h => ?_))
  · obtain ⟨x, rfl, _⟩ := h
    rfl
  · obtain ⟨pP, gP, sP⟩ := W.pls
    refine ⟨_, (pss_cons (ps_if (pt_cmpR op_in_seq (pv 0) (pe_glob (v := .ref pP) (by rfl) gP rfl) (by rfl)) (pss_one (ps_ret pe_bl)) pss_nil)
        (pss_one (ps_ret (pe_and (pe_cmpR op_ne (pv 0) pe_str (nomark _)) (pe_and (pe_cmpR op_ne (pe_ix ix_str (pv 0) pe_int (fun _ _ => rfl)) pe_str (nomark _)) (pe_one (pe_callB (cr_all rfl) (by rfl) B.all (by decide +kernel) (pa_cons (pe_lc (own := [("sign", 1)]) (g := gName 1) (tt := tYes) rfl scIp.nd (pi_str (pv 0)) (blkOk_by (N := nIp) (sc := defScope sIp) (by decide +kernel)) (fun _ _ _ _ _ => pg_name (i := 1) scIp.nd rfl (.inl rfl)) (fun _ _ _ _ _ => pts_nil) (fun _ _ _ _ _ => (pe_cmpR op_in_sign (pv 1) (glob_str (by rfl) W.dig) (by rfl)))) pa_nil)))))))), ?_⟩
    obtain ⟨x, rfl, hx, k⟩ := h
    have hz := big_line hx
    have done : ∀ b H', isPlB (cs x) = b → Same H H' → Q (.bl b) H' := fun b H' e s => by
      have z : Q (.bl (isPlB (cs x))) H' := k H' s
      rw [e] at z
      exact z
    have e0 : isPlB (cs x) = (inV (.str x) (plW.map V.str) || (!(cs x).isEmpty && (cs x).head? != some 48 && (cs x).all fun d => decide (d ∈ digC))) := by
      unfold isPlB
      rw [st_cs]
    refine ⟨_, rfl, pP, plW.map V.str, rfl, .inr (sP H), rfl, by decide +kernel, _, rfl, ?_⟩
    dsimp only
    rw [if_neg (by decide : ¬ false = true)]
    refine if_by (fun e => ?_) (fun e => ?_)
    · exact done _ H (by rw [e0, e]; rfl) (Same.refl H)
    rw [e, Bool.false_or] at e0
    refine ⟨_, rfl, rfl, _, rfl, ?_⟩
    by_cases h0 : x = ("" : Str)
    · subst h0
      exact if_no (by simp) (done false H (by rw [e0]; rfl) (Same.refl H))
    · obtain ⟨c, r, hl⟩ : ∃ c r, cs x = c :: r := by
        cases e : cs x with
        | nil => exact absurd (cs_nil e) h0
        | cons c r => exact ⟨c, r, rfl⟩
      have ac : atI (cs x) 0 = some c := atI_nat (j := 0) (by rw [hl]; rfl)
      refine if_yes (by simpa using h0) ⟨_, rfl, x, 0, c, rfl, rfl, hz, ac, rfl, _, rfl, ?_⟩
      have q48 : ∀ c : Nat, decide (V.str (⟨#[c]⟩ : Str) = V.str ("0" : Str)) = (c == 48) := fun c => by
        by_cases e : c = 48
        · subst e
          decide +kernel
        · rw [beq_eq_false_iff_ne.mpr e]
          refine decide_eq_false fun z => e ?_
          have y : cs (⟨#[c]⟩ : Str) = cs ("0" : Str) := congrArg cs (V.str.inj z)
          have w : cs ("0" : Str) = [48] := by decide +kernel
          rw [w] at y
          exact (List.cons.inj y).1
      refine if_by (fun e => ?_) (fun e => ?_)
      · have ec : (c == 48) = false := by rw [q48] at e; simpa using e
        refine ⟨_, rfl, x, rfl, fun D hD => lc_it walk_str (fun i H' => H' = L2.upd H D (.lst (((cs x).take i).map fun d => V.bl (decide (d ∈ cs digS))))) (by simp) (fun _ _ _ _ => trivial) (fun i v H' H2 hi e y => ?_) (fun H' e => ?_)⟩
        · obtain ⟨rfl, d, hd, rfl⟩ := y
          subst e
          have hd' : (cs x)[i]? = some d := by simpa using hd
          refine ⟨rfl, _, rfl, d, digS, rfl, rfl, _, upd_same, ?_, ?_⟩
          · rw [List.length_map, List.length_take]
            have := len_cs x
            rw [sizeLine_eq] at hz ⊢
            unfold big at hx
            omega
          · rw [upd_upd, take_snoc hd', List.map_append]
            rfl
        · subst e
          have e2 : (cs x).take x.cps.size = cs x := List.take_of_length_le (by simp)
          rw [e2]
          refine ⟨D, (cs x).map fun d => decide (d ∈ cs digS), rfl, SqL.of (by rw [upd_same, List.map_map]; rfl), ?_⟩
          refine done _ _ ?_ (same_upd hD)
          rw [e0, cs_dig, List.all_map, hl]
          show (!false && (some c != some 48) && _) = _
          rw [show (some c != some 48) = true by simpa using ec]
          rfl
      · have ec : c = 48 := by rw [q48] at e; simpa using e
        refine done false H ?_ (Same.refl H)
        rw [e0, hl, ec]
        rfl
end
end Qb
end PySem
namespace PySem
namespace Qb
open PySem.W PySem.Calls PyProof.Rows L2
/-! # is_sum, rank -/
def Sm.ok : Sm → Bool
  | .num n => decide (0 ≤ n)
  | .of w => isNameB (cs w) || (isPlB (cs w) && !inV (.str w) (alW.map V.str))
  | .one s a => (s == "minus" || s == "no") && a.ok
  | .two s a b => isOp s && (a.ok && b.ok)
  | .three s a b c => (s == "choose") && (a.ok && (b.ok && c.ok))
/-- kinds that are none of the others' -/
def Sm.fine : Sm → Prop
  | .num _ => True
  | .of w => w.length ≤ big
  | .one s a => s ≠ "number" ∧ s ≠ "of" ∧ a.fine
  | .two s a b => a.fine ∧ b.fine
  | .three s a b c => a.fine ∧ b.fine ∧ c.fine
def spIs (K : Frag) : Nat → Sp
  | 0 => fun _ _ _ _ => False
  | n + 1 => fun vs H Q _ => ∃ (v : V) (t : Sm), vs = [v] ∧ Dp K H v t.d ∧ t.ht ≤ n ∧ t.fine ∧ ∀ H', Same H H' → Q (.bl t.ok) H'
theorem dp_num {K : Frag} {H : Hp} {v : V} {n : Int} (h : Dp K H v (Sm.num n).d) : ∃ a, v = .ref a ∧ SqT K H a [.str "number", .int n] := by
  obtain ⟨a, x, rfl, hq, hx⟩ := pc_two h
  cases hx
  exact ⟨a, rfl, hq⟩
theorem dp_of {K : Frag} {H : Hp} {v : V} {w : Str} (h : Dp K H v (Sm.of w).d) : ∃ a, v = .ref a ∧ SqT K H a [.str "of", .str w] := dp_two h
theorem pc_four {K : Frag} {H : Hp} {v : V} {k : Str} {d e f : PyData} (h : Dp K H v (.tuple [.str k, d, e, f])) : ∃ a x y z, v = .ref a ∧ SqT K H a [.str k, x, y, z] ∧ Dp K H x d ∧ Dp K H y e ∧ Dp K H z f := by
  obtain ⟨a, xs, rfl, hq, all⟩ := dp_tup h
  cases all with
  | cons h1 t1 =>
    obtain rfl := dp_str h1
    cases t1 with
    | cons h2 t2 =>
      cases t2 with
      | cons h3 t3 =>
        cases t3 with
        | cons h4 t4 =>
          cases t4
          exact ⟨a, _, _, _, rfl, hq, h2, h3, h4⟩
theorem all_hit {K : Frag} {n : Nat} {is : List Nat} {t : TS} {rest : List (List Nat × PatR × TS)} {a : Addr} {ys : List V} {D : Ends} {σ : L2.St} {H : Hp} (hq : SqT K H a ys) (h : t D (setAll σ is ys) H) (hn : n = ys.length := by rfl) :
    tCases ((is, rSeq K n (List.replicate ys.length rCap), t) :: rest) (.ref a) D σ H := by
  subst hn
  refine ⟨a, _, rfl, hq, fun ne => absurd rfl ne, fun _ => ?_⟩
  exact each_caps (Q := fun o' => match o' with | none => tCases rest (.ref a) D σ H | some more => t D (setAll σ is more) H) h
theorem len_miss {K : Frag} {n : Nat} {is : List Nat} {rs : List PatR} {t : TS} {rest : List (List Nat × PatR × TS)} {a : Addr} {ys : List V} {D : Ends} {σ : L2.St} {H : Hp} (hq : SqT K H a ys) (hn : ys.length ≠ n) (h : tCases rest (.ref a) D σ H) :
    tCases ((is, rSeq K n rs, t) :: rest) (.ref a) D σ H := ⟨_, _, rfl, hq, fun _ => h, fun z => (hn z).elim⟩
theorem mn_hit {s : Str} (h : s = "minus" ∨ s = "no") : Hit (rOr [rLit "minus", rLit "no"]) s := by
  rcases h with rfl | rfl
  · exact hit_or hit_lit
  · exact hit_or2 (miss_lit (by decide +kernel)) (hit_or hit_lit)
theorem mn_miss {s : Str} (h : ¬(s = "minus" ∨ s = "no")) : Miss (rOr [rLit "minus", rLit "no"]) s :=
  miss_or (miss_lit fun z => h (.inl z)) (miss_or (miss_lit fun z => h (.inr z)) miss_or0)
section
variable {P : Program} {w : World} {K : Frag} {mg : Str → Option Value} {base : Heap}
abbrev sIs : Stmt := top 29
abbrev nIs : List Str := ["tree", "number", "name", "part", "test", "one", "other", "sign"]
theorem scIs : FnScope nIs ["tree"] (defScope sIs) := ⟨rfl, rfl, rfl, by decide +kernel, rfl, by decide +kernel, by decide +kernel⟩
theorem ok_Is {f : Addr} {fd : FuncData} (F : Fun K "is_sum" "is_sum" sIs f fd) (gIs : mg "is_sum" = some (.ref f)) (bIs : Binds K fd ["tree"] []) (B : Blt mg) (W : Wrt K w mg) (hIp : Has P w K mg base 1 "is_place" ["text"] (spIp)) (hNn : Has P w K mg base 2 "is_name" ["text"] (spNn)) :
    ∀ n, FnOk P w K mg base CX0 (n + 3) f fd ["tree"] (spIs K n)
  | 0 => F.ok scIs (fun vs H Q E h => h.elim) (fun cdv A outer s H vs Q E hr h => h.elim)
  | n + 1 => by
    have GIs := ok_Is F gIs bIs B W hIp hNn n
    have kIs := F.kp
    obtain ⟨fIp, dIp, gIp, kIp, bIp, GIp⟩ := hIp
    obtain ⟨fNn, dNn, gNn, kNn, bNn, GNn⟩ := hNn
    obtain ⟨pA, gA, sA⟩ := W.alls
    obtain ⟨dR, eR, nR, gR, DR, ns⟩ := W.rks
    refine F.ok scIs (fun vs H Q E h => ?_) (fun cdv A outer s H vs Q E hr h => ?_)
    · obtain ⟨v, t, rfl, _⟩ := h
      rfl
    · refine ⟨_, (pss_cons (ps_match (pv 0)
        (pcs_cons (is := [1]) scIs.nd (pp_seq rfl (pps_cons pp_lit (pps_cons pp_cap pps_nil))) (.cons ⟨rfl, .inl rfl, .inr rfl⟩ .nil)
          (pss_one (ps_ret (pe_cmpR op_ge (pv 1) pe_int (nomark _))))
        (pcs_cons (is := [2]) scIs.nd (pp_seq rfl (pps_cons pp_lit (pps_cons pp_cap pps_nil))) (.cons ⟨rfl, .inl rfl, .inr rfl⟩ .nil)
          (pss_one (ps_ret (pe_or (pe_call GNn (hr.mono (by omega)) rfl gNn kNn bNn .nil pass0 (pa_cons (pv 2) pa_nil)) (pe_one (pe_and (pe_call GIp (hr.mono (by omega)) rfl gIp kIp bIp .nil pass0 (pa_cons (pv 2) pa_nil)) (pe_one (pe_cmpR op_notIn_seq (pv 2) (pe_glob (v := .ref pA) (by rfl) gA rfl) (by rfl))))))))
        (pcs_cons (is := [3]) scIs.nd (pp_seq rfl (pps_cons (pp_or (pf_cons pp_lit (pf_cons pp_lit pf_nil))) (pps_cons pp_cap pps_nil))) (.cons ⟨rfl, .inl rfl, .inr rfl⟩ .nil)
          (pss_one (ps_ret (pe_call GIs (hr.mono (by omega)) rfl gIs kIs bIs .nil pass0 (pa_cons (pv 3) pa_nil))))
        (pcs_cons (is := [4, 5, 6]) scIs.nd (pp_seq rfl (pps_cons pp_lit (pps_cons pp_cap (pps_cons pp_cap (pps_cons pp_cap pps_nil))))) (.cons ⟨rfl, .inl rfl, .inr rfl⟩ (.cons ⟨rfl, .inl rfl, .inr rfl⟩ (.cons ⟨rfl, .inl rfl, .inr rfl⟩ .nil)))
          (pss_one (ps_ret (pe_and (pe_call GIs (hr.mono (by omega)) rfl gIs kIs bIs .nil pass0 (pa_cons (pv 4) pa_nil)) (pe_and (pe_call GIs (hr.mono (by omega)) rfl gIs kIs bIs .nil pass0 (pa_cons (pv 5) pa_nil)) (pe_one (pe_call GIs (hr.mono (by omega)) rfl gIs kIs bIs .nil pass0 (pa_cons (pv 6) pa_nil)))))))
        (pcs_cons (is := [7, 5, 6]) scIs.nd (pp_seq rfl (pps_cons pp_cap (pps_cons pp_cap (pps_cons pp_cap pps_nil)))) (.cons ⟨rfl, .inl rfl, .inr rfl⟩ (.cons ⟨rfl, .inl rfl, .inr rfl⟩ (.cons ⟨rfl, .inl rfl, .inr rfl⟩ .nil)))
          (pss_one (ps_ret (pe_and (pe_cmpR (op_in_kd DR) (pv 7) (pe_glob (v := .ref dR) (by rfl) gR rfl) (by rfl)) (pe_and (pe_call GIs (hr.mono (by omega)) rfl gIs kIs bIs .nil pass0 (pa_cons (pv 5) pa_nil)) (pe_one (pe_call GIs (hr.mono (by omega)) rfl gIs kIs bIs .nil pass0 (pa_cons (pv 6) pa_nil))))))) pcs_nil))))))
        (pss_one (ps_ret pe_bl))), ?_⟩
      obtain ⟨v, t, rfl, hd, hh, hf, k⟩ := h
      have k0 : Q (.bl t.ok) H := k H (Same.refl H)
      -- a part is asked
      have sub : ∀ {m : Nat} {u : Sm} {x : V} {H1 : Hp} {Q' : VK} {E' : XK}, u.ht + 1 ≤ n + 1 → n + 1 = m → u.fine → Dp K H1 x u.d → (∀ H2, Same H1 H2 → Q' (.bl u.ok) H2) → u.ht + 1 ≤ n → spIs K n ([x] ++ []) H1 Q' E' := by
        intro m u x H1 Q' E' _ _ uf ud q hn
        obtain ⟨n', rfl⟩ : ∃ n', n = n' + 1 := ⟨n - 1, by omega⟩
        exact ⟨x, u, rfl, ud, by omega, uf, q⟩
      cases t with
      | num i =>
        obtain ⟨a, rfl, hq⟩ := dp_num hd
        exact ⟨_, rfl, case_hit hq hit_lit ⟨_, rfl, _, _, rfl, rfl, k0⟩⟩
      | of x =>
        obtain ⟨a, rfl, hq⟩ := dp_of hd
        refine ⟨_, rfl, case_miss hq ml (case_hit hq hit_lit ⟨_, rfl, x, rfl, hf, fun H1 s1 => ⟨_, rfl, ?_⟩⟩)⟩
        have z := k H1 s1
        have e0 : (Sm.of x).ok = (isNameB (cs x) || (isPlB (cs x) && !inV (.str x) (alW.map V.str))) := rfl
        cases e : isNameB (cs x) with
        | true =>
          rw [e0, e] at z
          exact if_yes rfl z
        | false =>
          refine if_no rfl ⟨_, rfl, x, rfl, hf, fun H2 s2 => ⟨_, rfl, ?_⟩⟩
          have z := k H2 (s1.trans s2)
          cases e2 : isPlB (cs x) with
          | false =>
            rw [e0, e, e2] at z
            exact if_no rfl z
          | true =>
            rw [e0, e, e2] at z
            exact if_yes rfl ⟨_, rfl, pA, alW.map V.str, rfl, .inr (sA H2), rfl, by decide +kernel, z⟩
      | one s a =>
        obtain ⟨p, x, rfl, hq, hx⟩ := pc_two hd
        have ha : a.ht + 1 ≤ n := by
          have : 1 + a.ht ≤ n := hh
          omega
        refine ⟨_, rfl, case_miss hq (.inl (miss_lit hf.1)) (case_miss hq (.inl (miss_lit hf.2.1)) ?_)⟩
        by_cases c : s = "minus" ∨ s = "no"
        · refine case_hit hq (mn_hit c) ⟨_, rfl, sub (m := n + 1) (by omega) rfl hf.2.2 hx (fun H1 s1 => ?_) ha⟩
          have z := k H1 s1
          have e0 : (Sm.one s a).ok = ((s == "minus" || s == "no") && a.ok) := rfl
          rw [e0, show (s == "minus" || s == "no") = true by rcases c with rfl | rfl <;> rfl] at z
          exact z
        · refine case_miss hq (.inl (mn_miss c)) (len_miss hq (by simp) (len_miss hq (by simp) ?_))
          have e0 : (Sm.one s a).ok = ((s == "minus" || s == "no") && a.ok) := rfl
          rw [e0, show (s == "minus" || s == "no") = false by
            rw [beq_eq_false_iff_ne.mpr fun z => c (.inl z), beq_eq_false_iff_ne.mpr fun z => c (.inr z)]
            rfl] at k0
          exact k0
      | two s a b =>
        obtain ⟨p, x, y, rfl, hq, hx, hy⟩ := pc_three hd
        have hab : 1 + max a.ht b.ht ≤ n := hh
        refine ⟨_, rfl, len_miss hq (by simp) (len_miss hq (by simp) (len_miss hq (by simp) (len_miss hq (by simp) (all_hit hq ?_))))⟩
        have e0 : (Sm.two s a b).ok = (isOp s && (a.ok && b.ok)) := rfl
        refine ⟨_, rfl, ?_⟩
        cases e : isOp s with
        | false =>
          rw [e0, e] at k0
          exact ⟨s, none, rfl, rfl, (ns s).1 e, _, rfl, if_no rfl k0⟩
        | true =>
          obtain ⟨t, et⟩ := (ns s).2 e
          refine ⟨s, _, rfl, rfl, et, _, rfl, if_yes rfl ⟨_, rfl, sub (m := n + 1) (by omega) rfl hf.1 hx (fun H1 s1 => ⟨_, rfl, ?_⟩) (by omega)⟩⟩
          cases ea : a.ok with
          | false =>
            have z := k H1 s1
            rw [e0, e, ea] at z
            exact if_no rfl z
          | true =>
            refine if_yes rfl ⟨_, rfl, sub (m := n + 1) (by omega) rfl hf.2 (dp_same s1 hy) (fun H2 s2 => ?_) (by omega)⟩
            have z := k H2 (s1.trans s2)
            rw [e0, e, ea] at z
            exact z
      | three s a b c =>
        obtain ⟨p, x, y, z, rfl, hq, hx, hy, hz⟩ := pc_four hd
        have habc : 1 + max a.ht (max b.ht c.ht) ≤ n := hh
        refine ⟨_, rfl, len_miss hq (by simp) (len_miss hq (by simp) (len_miss hq (by simp) ?_))⟩
        have e0 : (Sm.three s a b c).ok = ((s == "choose") && (a.ok && (b.ok && c.ok))) := rfl
        by_cases c0 : s = "choose"
        · subst c0
          refine case_hit hq hit_lit ⟨_, rfl, sub (m := n + 1) (by omega) rfl hf.1 hx (fun H1 s1 => ⟨_, rfl, ?_⟩) (by omega)⟩
          have e1 : (Sm.three "choose" a b c).ok = (a.ok && (b.ok && c.ok)) := rfl
          cases ea : a.ok with
          | false =>
            have z := k H1 s1
            rw [e1, ea] at z
            exact if_no rfl z
          | true =>
            refine if_yes rfl ⟨_, rfl, sub (m := n + 1) (by omega) rfl hf.2.1 (dp_same s1 hy) (fun H2 s2 => ⟨_, rfl, ?_⟩) (by omega)⟩
            cases eb : b.ok with
            | false =>
              have z := k H2 (s1.trans s2)
              rw [e1, ea, eb] at z
              exact if_no rfl z
            | true =>
              refine if_yes rfl ⟨_, rfl, sub (m := n + 1) (by omega) rfl hf.2.2 (dp_same (s1.trans s2) hz) (fun H3 s3 => ?_) (by omega)⟩
              have z := k H3 ((s1.trans s2).trans s3)
              rw [e1, ea, eb] at z
              exact z
        · refine case_miss hq (.inl (miss_lit c0)) (len_miss hq (by simp) ?_)
          rw [e0, beq_eq_false_iff_ne.mpr c0] at k0
          exact k0
end
end Qb
end PySem
namespace PySem
namespace Qb
open PySem.W PySem.Calls PyProof.Rows L2
/-! # is_bare -/
def isBareB (l : List Nat) : Bool := !l.isEmpty && l.all fun d => decide (d ∈ cs bareS)
abbrev spIb : Sp := spTxt fun x => .bl (isBareB (cs x))
section
variable {P : Program} {w : World} {K : Frag} {mg : Str → Option Value} {base : Heap}
abbrev sIb : Stmt := top 13
abbrev nIb : List Str := ["text", "sign"]
theorem scIb : FnScope nIb ["text"] (defScope sIb) := ⟨rfl, rfl, rfl, by decide +kernel, rfl, by decide +kernel, by decide +kernel⟩
theorem has_Ib {f : Addr} {fd : FuncData} (F : Fun K "is_bare" "is_bare" sIb f fd) (g : mg "is_bare" = some (.ref f)) (B : Blt mg) (W : Wrt K w mg) :
    Has P w K mg base 1 "is_bare" ["text"] spIb := by
  refine has_of F g (F.binds (ps := ["text"]) fun _ _ _ _ _ _ us hl => match us, hl with | [_], _ => rfl) (F.ok scIb (fun vs H Q E h => ?_) (fun cdv A outer s H vs Q E hr h => ?_))
  · obtain ⟨x, rfl, _⟩ := h
    rfl
  · refine ⟨_, pss_one (ps_ret (pe_and (pe_cmpR op_ne (pv 0) pe_str (nomark _)) (pe_one (pe_callB (cr_all rfl) (by rfl) B.all (by decide +kernel) (pa_cons
        (pe_lc (own := [("sign", 1)]) (g := gName 1) (tt := tYes) rfl scIb.nd (pi_str (pv 0)) (blkOk_by (N := nIb) (sc := defScope sIb) (by decide +kernel))
          (fun _ _ _ _ _ => pg_name (i := 1) scIb.nd rfl (Or.inl rfl)) (fun _ _ _ _ _ => pts_nil) (fun _ _ _ _ _ => pe_cmpR op_in_sign (pv 1) (glob_str (by rfl) W.bare) (by rfl))) pa_nil))))), ?_⟩
    obtain ⟨x, rfl, hx, k⟩ := h
    have hz := big_line hx
    refine ⟨_, rfl, rfl, _, rfl, ?_⟩
    have done : ∀ b H', isBareB (cs x) = b → Same H H' → Q (.bl b) H' := fun b H' e s => by
      have z : Q (.bl (isBareB (cs x))) H' := k H' s
      rw [e] at z
      exact z
    by_cases h0 : x = ("" : Str)
    · subst h0
      exact if_no (by simp) (done false H (by decide +kernel) (Same.refl H))
    · refine if_yes (by simpa using h0) ⟨_, rfl, x, rfl, fun D hD => lc_it walk_str (fun i H' => H' = L2.upd H D (.lst (((cs x).take i).map fun d => V.bl (decide (d ∈ cs bareS))))) (by simp) (fun _ _ _ _ => trivial) (fun i v H' H2 hi e y => ?_) (fun H' e => ?_)⟩
      · obtain ⟨rfl, c, hc, rfl⟩ := y
        subst e
        have hc' : (cs x)[i]? = some c := by simpa using hc
        refine ⟨rfl, _, rfl, c, bareS, rfl, rfl, _, upd_same, ?_, ?_⟩
        · rw [List.length_map, List.length_take]
          have := len_cs x
          rw [sizeLine_eq] at hz ⊢
          unfold big at hx
          omega
        · rw [upd_upd, take_snoc hc', List.map_append]
          rfl
      · subst e
        have e1 : (cs x).take x.cps.size = cs x := List.take_of_length_le (by simp)
        rw [e1]
        refine ⟨D, (cs x).map fun d => decide (d ∈ cs bareS), rfl, SqL.of (by rw [upd_same, List.map_map]; rfl), ?_⟩
        refine done _ _ ?_ (same_upd hD)
        have ne : (cs x).isEmpty = false := by
          cases e : cs x with
          | nil => exact absurd (cs_nil e) h0
          | cons c r => rfl
        unfold isBareB
        rw [ne, List.all_map]
        simp
end
end Qb
end PySem
namespace PySem
namespace Qb
open PySem.W PySem.Calls PyProof.Rows L2
/-! # trees that may be no sums -/
inductive Tm where
  | num (i : Int)
  | of (w : Str)
  | odd (b : Bool)
  | one (s : Str) (a : Tm)
  | two (s : Str) (a b : Tm)
  | three (s : Str) (a b c : Tm)
def Tm.d : Tm → PyData
  | .num i => .tuple [.str "number", .int i]
  | .of w => .tuple [.str "of", .str w]
  | .odd b => if b = true then .tuple [.str "numbers", .int 1] else .tuple [.str "not"]
  | .one s a => .tuple [.str s, a.d]
  | .two s a b => .tuple [.str s, a.d, b.d]
  | .three s a b c => .tuple [.str s, a.d, b.d, c.d]
def Tm.ht : Tm → Nat
  | .num _ => 0
  | .of _ => 0
  | .odd _ => 0
  | .one _ a => 1 + a.ht
  | .two _ a b => 1 + max a.ht b.ht
  | .three _ a b c => 1 + max a.ht (max b.ht c.ht)
def Tm.ok : Tm → Bool
  | .num n => decide (0 ≤ n)
  | .of w => isNameB (cs w) || (isPlB (cs w) && !inV (.str w) (alW.map V.str))
  | .odd _ => false
  | .one s a => (s == "minus" || s == "no") && a.ok
  | .two s a b => isOp s && (a.ok && b.ok)
  | .three s a b c => (s == "choose") && (a.ok && (b.ok && c.ok))
/-- kinds that are none of the others' -/
def Tm.fine : Tm → Prop
  | .num _ => True
  | .of w => w.length ≤ big
  | .odd _ => True
  | .one s a => s ≠ "number" ∧ s ≠ "of" ∧ a.fine
  | .two s a b => a.fine ∧ b.fine
  | .three s a b c => a.fine ∧ b.fine ∧ c.fine
def Sm.tm : Sm → Tm
  | .num i => .num i
  | .of w => .of w
  | .one s a => .one s a.tm
  | .two s a b => .two s a.tm b.tm
  | .three s a b c => .three s a.tm b.tm c.tm
theorem tm_d : ∀ t : Sm, t.tm.d = t.d
  | .num i => rfl
  | .of w => rfl
  | .one s a => by show PyData.tuple [.str s, a.tm.d] = .tuple [.str s, a.d]; rw [tm_d a]
  | .two s a b => by show PyData.tuple [.str s, a.tm.d, b.tm.d] = .tuple [.str s, a.d, b.d]; rw [tm_d a, tm_d b]
  | .three s a b c => by show PyData.tuple [.str s, a.tm.d, b.tm.d, c.tm.d] = .tuple [.str s, a.d, b.d, c.d]; rw [tm_d a, tm_d b, tm_d c]
theorem tm_ht : ∀ t : Sm, t.tm.ht = t.ht
  | .num i => rfl
  | .of w => rfl
  | .one s a => by show 1 + a.tm.ht = 1 + a.ht; rw [tm_ht a]
  | .two s a b => by show 1 + max a.tm.ht b.tm.ht = 1 + max a.ht b.ht; rw [tm_ht a, tm_ht b]
  | .three s a b c => by show 1 + max a.tm.ht (max b.tm.ht c.tm.ht) = 1 + max a.ht (max b.ht c.ht); rw [tm_ht a, tm_ht b, tm_ht c]
theorem tm_ok : ∀ t : Sm, t.tm.ok = t.ok
  | .num i => rfl
  | .of w => rfl
  | .one s a => by show ((s == "minus" || s == "no") && a.tm.ok) = ((s == "minus" || s == "no") && a.ok); rw [tm_ok a]
  | .two s a b => by show (isOp s && (a.tm.ok && b.tm.ok)) = (isOp s && (a.ok && b.ok)); rw [tm_ok a, tm_ok b]
  | .three s a b c => by show ((s == "choose") && (a.tm.ok && (b.tm.ok && c.tm.ok))) = ((s == "choose") && (a.ok && (b.ok && c.ok))); rw [tm_ok a, tm_ok b, tm_ok c]
theorem tm_fine : ∀ {t : Sm}, t.fine → t.tm.fine
  | .num i, _ => trivial
  | .of w, h => h
  | .one s a, h => ⟨h.1, h.2.1, tm_fine h.2.2⟩
  | .two s a b, h => ⟨tm_fine h.1, tm_fine h.2⟩
  | .three s a b c, h => ⟨tm_fine h.1, tm_fine h.2.1, tm_fine h.2.2⟩
theorem tm_pl : ∀ {t : Tm} {n : Nat}, t.ht ≤ n → Pl (n + 1) t.d := by
  have st : ∀ (n : Nat) (x : Str), Pl n (.str x) := fun n x => by
    cases n with
    | zero => exact .inl ⟨x, rfl⟩
    | succ n => exact .inl (.inl ⟨x, rfl⟩)
  have it : ∀ (n : Nat) (x : Int), Pl n (.int x) := fun n x => by
    cases n with
    | zero => exact .inr (.inr (.inl ⟨x, rfl⟩))
    | succ n => exact .inl (.inr (.inr (.inl ⟨x, rfl⟩)))
  intro t
  induction t with
  | num i => exact fun _ => .inr ⟨_, .inr rfl, by show 2 ≤ 1000; decide, fun e m => by
      rcases List.mem_cons.mp m with rfl | m
      · exact st _ _
      · rw [List.mem_singleton.mp m]; exact it _ _⟩
  | of w => exact fun _ => .inr ⟨_, .inr rfl, by show 2 ≤ 1000; decide, fun e m => by
      rcases List.mem_cons.mp m with rfl | m
      · exact st _ _
      · rw [List.mem_singleton.mp m]; exact st _ _⟩
  | odd b =>
    intro n _
    cases b with
    | true => exact .inr ⟨_, .inr rfl, by show 2 ≤ 1000; decide, fun e m => by
        rcases List.mem_cons.mp m with rfl | m
        · exact st _ _
        · rw [List.mem_singleton.mp m]; exact it _ _⟩
    | false => exact .inr ⟨_, .inr rfl, by show 1 ≤ 1000; decide, fun e m => by
        rw [List.mem_singleton.mp m]; exact st _ _⟩
  | one s a ih =>
    intro n h
    have hh : (Tm.one s a).ht = 1 + a.ht := rfl
    obtain ⟨m, rfl⟩ : ∃ m, n = m + 1 := ⟨n - 1, by omega⟩
    exact .inr ⟨_, .inr rfl, by show 2 ≤ 1000; decide, fun e mm => by
      rcases List.mem_cons.mp mm with rfl | mm
      · exact st _ _
      · rw [List.mem_singleton.mp mm]; exact ih (by omega)⟩
  | two s a b ia ib =>
    intro n h
    have hh : (Tm.two s a b).ht = 1 + max a.ht b.ht := rfl
    obtain ⟨m, rfl⟩ : ∃ m, n = m + 1 := ⟨n - 1, by omega⟩
    exact .inr ⟨_, .inr rfl, by show 3 ≤ 1000; decide, fun e mm => by
      rcases List.mem_cons.mp mm with rfl | mm
      · exact st _ _
      rcases List.mem_cons.mp mm with rfl | mm
      · exact ia (by omega)
      · rw [List.mem_singleton.mp mm]; exact ib (by omega)⟩
  | three s a b c ia ib ic =>
    intro n h
    have hh : (Tm.three s a b c).ht = 1 + max a.ht (max b.ht c.ht) := rfl
    obtain ⟨m, rfl⟩ : ∃ m, n = m + 1 := ⟨n - 1, by omega⟩
    exact .inr ⟨_, .inr rfl, by show 4 ≤ 1000; decide, fun e mm => by
      rcases List.mem_cons.mp mm with rfl | mm
      · exact st _ _
      rcases List.mem_cons.mp mm with rfl | mm
      · exact ia (by omega)
      rcases List.mem_cons.mp mm with rfl | mm
      · exact ib (by omega)
      · rw [List.mem_singleton.mp mm]; exact ic (by omega)⟩
def spIsT (K : Frag) : Nat → Sp
  | 0 => fun _ _ _ _ => False
  | n + 1 => fun vs H Q _ => ∃ (v : V) (t : Tm), vs = [v] ∧ Dp K H v t.d ∧ t.ht ≤ n ∧ t.fine ∧ ∀ H', Same H H' → Q (.bl t.ok) H'
theorem is_imp {K : Frag} : ∀ n vs H Q E, spIs K n vs H Q E → spIsT K n vs H Q E
  | 0, _, _, _, _, h => h
  | n + 1, vs, H, Q, E, h => by
    obtain ⟨v, t, e, hd, hh, hf, k⟩ := h
    exact ⟨v, t.tm, e, by rw [tm_d]; exact hd, by rw [tm_ht]; exact hh, tm_fine hf, by rw [tm_ok]; exact k⟩
section
variable {P : Program} {w : World} {K : Frag} {mg : Str → Option Value} {base : Heap}
theorem ok_IsT {f : Addr} {fd : FuncData} (F : Fun K "is_sum" "is_sum" sIs f fd) (gIs : mg "is_sum" = some (.ref f)) (bIs : Binds K fd ["tree"] []) (B : Blt mg) (W : Wrt K w mg) (hIp : Has P w K mg base 1 "is_place" ["text"] (spIp)) (hNn : Has P w K mg base 2 "is_name" ["text"] (spNn)) :
    ∀ n, FnOk P w K mg base CX0 (n + 3) f fd ["tree"] (spIsT K n)
  | 0 => F.ok scIs (fun vs H Q E h => h.elim) (fun cdv A outer s H vs Q E hr h => h.elim)
  | n + 1 => by
    have GIs := ok_IsT F gIs bIs B W hIp hNn n
    have kIs := F.kp
    obtain ⟨fIp, dIp, gIp, kIp, bIp, GIp⟩ := hIp
    obtain ⟨fNn, dNn, gNn, kNn, bNn, GNn⟩ := hNn
    obtain ⟨pA, gA, sA⟩ := W.alls
    obtain ⟨dR, eR, nR, gR, DR, ns⟩ := W.rks
    refine F.ok scIs (fun vs H Q E h => ?_) (fun cdv A outer s H vs Q E hr h => ?_)
    · obtain ⟨v, t, rfl, _⟩ := h
      rfl
    · refine ⟨_, (pss_cons (ps_match (pv 0)
        (pcs_cons (is := [1]) scIs.nd (pp_seq rfl (pps_cons pp_lit (pps_cons pp_cap pps_nil))) (.cons ⟨rfl, .inl rfl, .inr rfl⟩ .nil)
          (pss_one (ps_ret (pe_cmpR op_ge (pv 1) pe_int (nomark _))))
        (pcs_cons (is := [2]) scIs.nd (pp_seq rfl (pps_cons pp_lit (pps_cons pp_cap pps_nil))) (.cons ⟨rfl, .inl rfl, .inr rfl⟩ .nil)
          (pss_one (ps_ret (pe_or (pe_call GNn (hr.mono (by omega)) rfl gNn kNn bNn .nil pass0 (pa_cons (pv 2) pa_nil)) (pe_one (pe_and (pe_call GIp (hr.mono (by omega)) rfl gIp kIp bIp .nil pass0 (pa_cons (pv 2) pa_nil)) (pe_one (pe_cmpR op_notIn_seq (pv 2) (pe_glob (v := .ref pA) (by rfl) gA rfl) (by rfl))))))))
        (pcs_cons (is := [3]) scIs.nd (pp_seq rfl (pps_cons (pp_or (pf_cons pp_lit (pf_cons pp_lit pf_nil))) (pps_cons pp_cap pps_nil))) (.cons ⟨rfl, .inl rfl, .inr rfl⟩ .nil)
          (pss_one (ps_ret (pe_call GIs (hr.mono (by omega)) rfl gIs kIs bIs .nil pass0 (pa_cons (pv 3) pa_nil))))
        (pcs_cons (is := [4, 5, 6]) scIs.nd (pp_seq rfl (pps_cons pp_lit (pps_cons pp_cap (pps_cons pp_cap (pps_cons pp_cap pps_nil))))) (.cons ⟨rfl, .inl rfl, .inr rfl⟩ (.cons ⟨rfl, .inl rfl, .inr rfl⟩ (.cons ⟨rfl, .inl rfl, .inr rfl⟩ .nil)))
          (pss_one (ps_ret (pe_and (pe_call GIs (hr.mono (by omega)) rfl gIs kIs bIs .nil pass0 (pa_cons (pv 4) pa_nil)) (pe_and (pe_call GIs (hr.mono (by omega)) rfl gIs kIs bIs .nil pass0 (pa_cons (pv 5) pa_nil)) (pe_one (pe_call GIs (hr.mono (by omega)) rfl gIs kIs bIs .nil pass0 (pa_cons (pv 6) pa_nil)))))))
        (pcs_cons (is := [7, 5, 6]) scIs.nd (pp_seq rfl (pps_cons pp_cap (pps_cons pp_cap (pps_cons pp_cap pps_nil)))) (.cons ⟨rfl, .inl rfl, .inr rfl⟩ (.cons ⟨rfl, .inl rfl, .inr rfl⟩ (.cons ⟨rfl, .inl rfl, .inr rfl⟩ .nil)))
          (pss_one (ps_ret (pe_and (pe_cmpR (op_in_kd DR) (pv 7) (pe_glob (v := .ref dR) (by rfl) gR rfl) (by rfl)) (pe_and (pe_call GIs (hr.mono (by omega)) rfl gIs kIs bIs .nil pass0 (pa_cons (pv 5) pa_nil)) (pe_one (pe_call GIs (hr.mono (by omega)) rfl gIs kIs bIs .nil pass0 (pa_cons (pv 6) pa_nil))))))) pcs_nil))))))
        (pss_one (ps_ret pe_bl))), ?_⟩
      obtain ⟨v, t, rfl, hd, hh, hf, k⟩ := h
      have k0 : Q (.bl t.ok) H := k H (Same.refl H)
      -- a part is asked
      have sub : ∀ {m : Nat} {u : Tm} {x : V} {H1 : Hp} {Q' : VK} {E' : XK}, u.ht + 1 ≤ n + 1 → n + 1 = m → u.fine → Dp K H1 x u.d → (∀ H2, Same H1 H2 → Q' (.bl u.ok) H2) → u.ht + 1 ≤ n → spIsT K n ([x] ++ []) H1 Q' E' := by
        intro m u x H1 Q' E' _ _ uf ud q hn
        obtain ⟨n', rfl⟩ : ∃ n', n = n' + 1 := ⟨n - 1, by omega⟩
        exact ⟨x, u, rfl, ud, by omega, uf, q⟩
      cases t with
      | num i =>
        obtain ⟨a, rfl, hq⟩ := dp_num hd
        exact ⟨_, rfl, case_hit hq hit_lit ⟨_, rfl, _, _, rfl, rfl, k0⟩⟩
      | of x =>
        obtain ⟨a, rfl, hq⟩ := dp_of hd
        refine ⟨_, rfl, case_miss hq ml (case_hit hq hit_lit ⟨_, rfl, x, rfl, hf, fun H1 s1 => ⟨_, rfl, ?_⟩⟩)⟩
        have z := k H1 s1
        have e0 : (Tm.of x).ok = (isNameB (cs x) || (isPlB (cs x) && !inV (.str x) (alW.map V.str))) := rfl
        cases e : isNameB (cs x) with
        | true =>
          rw [e0, e] at z
          exact if_yes rfl z
        | false =>
          refine if_no rfl ⟨_, rfl, x, rfl, hf, fun H2 s2 => ⟨_, rfl, ?_⟩⟩
          have z := k H2 (s1.trans s2)
          cases e2 : isPlB (cs x) with
          | false =>
            rw [e0, e, e2] at z
            exact if_no rfl z
          | true =>
            rw [e0, e, e2] at z
            exact if_yes rfl ⟨_, rfl, pA, alW.map V.str, rfl, .inr (sA H2), rfl, by decide +kernel, z⟩
      | odd b =>
        cases b with
        | true =>
          obtain ⟨p, x, rfl, hq, hx⟩ := pc_two (show Dp K H v (.tuple [.str "numbers", .int 1]) from hd)
          exact ⟨_, rfl, case_miss hq (.inl (miss_lit (by decide +kernel))) (case_miss hq (.inl (miss_lit (by decide +kernel))) (case_miss hq (.inl (mn_miss (by decide +kernel))) (len_miss hq (by simp) (len_miss hq (by simp) k0))))⟩
        | false =>
          obtain ⟨p, rfl, hq⟩ : ∃ p, v = .ref p ∧ SqT K H p [.str "not"] := by
            obtain ⟨p, xs, rfl, hq, all⟩ := dp_tup (show Dp K H v (.tuple [.str "not"]) from hd)
            cases all with
            | cons h1 t1 =>
              cases t1
              obtain rfl := dp_str h1
              exact ⟨p, rfl, hq⟩
          exact ⟨_, rfl, len_miss hq (by simp) (len_miss hq (by simp) (len_miss hq (by simp) (len_miss hq (by simp) (len_miss hq (by simp) k0))))⟩
      | one s a =>
        obtain ⟨p, x, rfl, hq, hx⟩ := pc_two hd
        have ha : a.ht + 1 ≤ n := by
          have : 1 + a.ht ≤ n := hh
          omega
        refine ⟨_, rfl, case_miss hq (.inl (miss_lit hf.1)) (case_miss hq (.inl (miss_lit hf.2.1)) ?_)⟩
        by_cases c : s = "minus" ∨ s = "no"
        · refine case_hit hq (mn_hit c) ⟨_, rfl, sub (m := n + 1) (by omega) rfl hf.2.2 hx (fun H1 s1 => ?_) ha⟩
          have z := k H1 s1
          have e0 : (Tm.one s a).ok = ((s == "minus" || s == "no") && a.ok) := rfl
          rw [e0, show (s == "minus" || s == "no") = true by rcases c with rfl | rfl <;> rfl] at z
          exact z
        · refine case_miss hq (.inl (mn_miss c)) (len_miss hq (by simp) (len_miss hq (by simp) ?_))
          have e0 : (Tm.one s a).ok = ((s == "minus" || s == "no") && a.ok) := rfl
          rw [e0, show (s == "minus" || s == "no") = false by
            rw [beq_eq_false_iff_ne.mpr fun z => c (.inl z), beq_eq_false_iff_ne.mpr fun z => c (.inr z)]
            rfl] at k0
          exact k0
      | two s a b =>
        obtain ⟨p, x, y, rfl, hq, hx, hy⟩ := pc_three hd
        have hab : 1 + max a.ht b.ht ≤ n := hh
        refine ⟨_, rfl, len_miss hq (by simp) (len_miss hq (by simp) (len_miss hq (by simp) (len_miss hq (by simp) (all_hit hq ?_))))⟩
        have e0 : (Tm.two s a b).ok = (isOp s && (a.ok && b.ok)) := rfl
        refine ⟨_, rfl, ?_⟩
        cases e : isOp s with
        | false =>
          rw [e0, e] at k0
          exact ⟨s, none, rfl, rfl, (ns s).1 e, _, rfl, if_no rfl k0⟩
        | true =>
          obtain ⟨t, et⟩ := (ns s).2 e
          refine ⟨s, _, rfl, rfl, et, _, rfl, if_yes rfl ⟨_, rfl, sub (m := n + 1) (by omega) rfl hf.1 hx (fun H1 s1 => ⟨_, rfl, ?_⟩) (by omega)⟩⟩
          cases ea : a.ok with
          | false =>
            have z := k H1 s1
            rw [e0, e, ea] at z
            exact if_no rfl z
          | true =>
            refine if_yes rfl ⟨_, rfl, sub (m := n + 1) (by omega) rfl hf.2 (dp_same s1 hy) (fun H2 s2 => ?_) (by omega)⟩
            have z := k H2 (s1.trans s2)
            rw [e0, e, ea] at z
            exact z
      | three s a b c =>
        obtain ⟨p, x, y, z, rfl, hq, hx, hy, hz⟩ := pc_four hd
        have habc : 1 + max a.ht (max b.ht c.ht) ≤ n := hh
        refine ⟨_, rfl, len_miss hq (by simp) (len_miss hq (by simp) (len_miss hq (by simp) ?_))⟩
        have e0 : (Tm.three s a b c).ok = ((s == "choose") && (a.ok && (b.ok && c.ok))) := rfl
        by_cases c0 : s = "choose"
        · subst c0
          refine case_hit hq hit_lit ⟨_, rfl, sub (m := n + 1) (by omega) rfl hf.1 hx (fun H1 s1 => ⟨_, rfl, ?_⟩) (by omega)⟩
          have e1 : (Tm.three "choose" a b c).ok = (a.ok && (b.ok && c.ok)) := rfl
          cases ea : a.ok with
          | false =>
            have z := k H1 s1
            rw [e1, ea] at z
            exact if_no rfl z
          | true =>
            refine if_yes rfl ⟨_, rfl, sub (m := n + 1) (by omega) rfl hf.2.1 (dp_same s1 hy) (fun H2 s2 => ⟨_, rfl, ?_⟩) (by omega)⟩
            cases eb : b.ok with
            | false =>
              have z := k H2 (s1.trans s2)
              rw [e1, ea, eb] at z
              exact if_no rfl z
            | true =>
              refine if_yes rfl ⟨_, rfl, sub (m := n + 1) (by omega) rfl hf.2.2 (dp_same (s1.trans s2) hz) (fun H3 s3 => ?_) (by omega)⟩
              have z := k H3 ((s1.trans s2).trans s3)
              rw [e1, ea, eb] at z
              exact z
        · refine case_miss hq (.inl (miss_lit c0)) (len_miss hq (by simp) ?_)
          rw [e0, beq_eq_false_iff_ne.mpr c0] at k0
          exact k0
end
end Qb
end PySem
namespace PySem
namespace Qb
open PySem.W PySem.Calls PyProof.Rows L2
/-! # has_neighbours; x in a tuple of data -/
/-- the first text of a tuple -/
def headK : PyData → Str
  | .tuple (.str k :: _) => k
  | _ => ""
def nbB (k : Str) (ds : List PyData) : Bool := (ds.zip (ds.drop 1)).any fun p => decide (headK p.1 = k) && decide (headK p.2 = k)
def spNb (K : Frag) : Sp := fun vs H Q _ => ∃ v k ds, vs = [v, .str k] ∧ Dp K H v (.list ds) ∧ ds.length ≤ 1000 ∧ (∀ d ∈ ds, ∃ y r, d = .tuple (.str y :: r)) ∧ ∀ H', Same H H' → Q (.bl (nbB k ds)) H'
theorem cut_tail (xs : List V) : cutV xs (some 1) none = xs.drop 1 := by
  have h1 : HT.sIx xs.length 0 (some (1 : Int)) = min 1 xs.length := HT.sIx_nat xs.length 0 1
  unfold cutV
  rw [h1, HT.sIx_none]
  cases xs with
  | nil => rfl
  | cons x xs =>
    have e : min 1 (x :: xs).length = 1 := by simp
    rw [e]
    exact List.take_of_length_le (by simp)
theorem head_read {K : Frag} {H : Hp} {x : V} {y : Str} {r : List PyData} (h : Dp K H x (.tuple (.str y :: r))) : ∃ b z, x = .ref b ∧ SqT K H b (.str y :: z) := by
  obtain ⟨b, zs, rfl, q, all⟩ := dp_tup h
  cases all with
  | cons h1 h2 =>
    obtain rfl := dp_str h1
    exact ⟨b, _, rfl, q⟩
/-- x in a tuple of data -/
def rInTD (K : PySem.W.Frag) : R2 := fun x y H Q => ∃ d ds, Dp K H x d ∧ Dp K H y (.tuple ds) ∧ SeqAt.shaped d = true ∧ SeqAt.shaped (.tuple ds) = true ∧ Q (.bl (ds.any fun z => PyData.eqv z d)) H
theorem op_inTD {X : Cx} (hu : X.A.units + 65 < cLine) : OpR X (compareOp .In) (rInTD X.K) := by
  intro pins s σ H x y v u Q I rx ry h
  obtain ⟨d, ds, hd, he, sd, se, q⟩ := h
  obtain ⟨as, r1⟩ := Dp.reads I d x v hd rx
  obtain ⟨bs, r2⟩ := Dp.reads I (.tuple ds) y u he ry
  exact SeqAt.in_tuple_reads r2 r1 (SeqAt.canLay_of_shaped (d := .list ds) (by rw [← se]; rfl)) (SeqAt.canLay_of_shaped sd) (room_in_shaped sd hu) ⟨.bl _, H, I, rfl, q⟩
section
variable {P : Program} {w : World} {K : Frag} {mg : Str → Option Value} {base : Heap}
abbrev sHn : Stmt := top 46
abbrev nHn : List Str := ["pieces", "kind", "one", "other"]
theorem scHn : FnScope nHn ["pieces", "kind"] (defScope sHn) := ⟨rfl, rfl, rfl, by decide +kernel, rfl, by decide +kernel, by decide +kernel⟩
theorem has_Hn {f : Addr} {fd : FuncData} (F : Fun K "has_neighbours" "has_neighbours" sHn f fd) (g : mg "has_neighbours" = some (.ref f)) (B : Blt mg) :
    Has P w K mg base 1 "has_neighbours" ["pieces", "kind"] (spNb K) := by
  refine has_of F g (F.binds (ps := ["pieces", "kind"]) fun _ _ _ _ _ _ us hl => match us, hl with | [_, _], _ => rfl) (F.ok scHn (fun vs H Q E h => ?_) (fun cdv A outer s H vs Q E hr h => ?_))
  · obtain ⟨v, k, ds, rfl, _⟩ := h
    rfl
  · refine ⟨_, pss_one (ps_ret (pe_callB (cr_any rfl) (by rfl) B.any (by decide +kernel) (pa_cons
        (pe_lc (te := tAndV (tOp rEq (tOp (rIxT K) (tVar 2) (tC (.int 0))) (tVar 1)) (tOp rEq (tOp (rIxT K) (tVar 3) (tC (.int 0))) (tVar 1))) (own := [("one", 2), ("other", 3)]) (g := gTup K 2 (gCons (gName 2) (gCons (gName 3) gNil))) (tt := tYes) rfl scHn.nd (pi_zip (by rfl) B.zip (pa_cons (pv 0) (pa_cons (pe_slice sl_list (pv 0) (po_some pe_int) po_none) pa_nil)))
          (blkOk_by (N := ["pieces", "kind", "one", "other"]) (sc := defScope sHn) (by decide +kernel))
          (fun _ _ _ _ _ => pg_tup rfl (pgs_cons (pg_name (i := 2) scHn.nd rfl (Or.inl rfl)) (pgs_cons (pg_name (i := 3) scHn.nd rfl (Or.inl rfl)) pgs_nil))) (fun _ _ _ _ _ => pts_nil)
          (fun _ _ _ _ _ => pe_and (pe_cmpR op_eq (pe_ix ix_tup (pv 2) pe_int (fun _ _ => rfl)) (pv 1) (nomark _)) (pe_one (pe_cmpR op_eq (pe_ix ix_tup (pv 3) pe_int (fun _ _ => rfl)) (pv 1) (nomark _))))) pa_nil))), ?_⟩
    obtain ⟨v, k, ds, rfl, hd, hl, hk, kk⟩ := h
    obtain ⟨a, xs, rfl, hq, hxs⟩ := dp_lst hd
    have lx := dpLen hxs
    refine ⟨_, rfl, _, rfl, _, rfl, a, xs, rfl, hq, fun p np => ?_⟩
    have cut : cutV xs (some 1) none = xs.drop 1 := cut_tail xs
    have s1 := same_upd (o := .lst (xs.drop 1)) np
    rw [cut]
    have hmin : min xs.length (xs.drop 1).length = (ds.zip (ds.drop 1)).length := by
      rw [List.length_zip, List.length_drop, List.length_drop, lx]
    refine ⟨a, p, xs, xs.drop 1, rfl, s1.seq hq, SqL.of upd_same, fun D hD => lc_it (walk_zip (n := (ds.zip (ds.drop 1)).length) hmin.symm)
      (fun i H' => Same (L2.upd H p (.lst (xs.drop 1))) H' ∧ H' D = some (.lst (((ds.zip (ds.drop 1)).take i).map fun q => V.bl (decide (headK q.1 = k) && decide (headK q.2 = k)))))
      ⟨same_upd hD, upd_same⟩ (fun i H' _ e => ⟨e.1.seq (s1.seq hq), e.1.seq (SqL.of upd_same)⟩) (fun i v H' H2 hi e y => ?_) (fun H' e => ?_)⟩
    · obtain ⟨sm, hD'⟩ := e
      obtain ⟨T, x1, x2, rfl, nT, rfl, h1, h2⟩ := y
      obtain ⟨q, hq2⟩ : ∃ q, (ds.zip (ds.drop 1))[i]? = some q := ⟨_, List.getElem?_eq_getElem hi⟩
      obtain ⟨d1, d2⟩ := q
      obtain ⟨hd1, hd2⟩ : ds[i]? = some d1 ∧ (ds.drop 1)[i]? = some d2 := by
        rw [List.getElem?_zip_eq_some] at hq2
        exact hq2
      have sT := sm.trans (same_upd (o := .tup [x1, x2]) nT)
      have sA := s1.trans sT
      have hd2' : ds[1 + i]? = some d2 := by rw [← List.getElem?_drop]; exact hd2
      have h2' : xs[1 + i]? = some x2 := by rw [← List.getElem?_drop]; exact h2
      obtain ⟨e1, he1, p1⟩ := dpAt' hxs h1
      obtain ⟨e2, he2, p2⟩ := dpAt' hxs h2'
      rw [hd1] at he1
      obtain rfl := Option.some.inj he1
      rw [hd2'] at he2
      obtain rfl := Option.some.inj he2
      obtain ⟨y1, r1, rfl⟩ := hk d1 (List.mem_of_getElem? hd1)
      obtain ⟨y2, r2, rfl⟩ := hk d2 (List.mem_of_getElem? hd2')
      obtain ⟨b1, z1, rfl, q1⟩ := head_read (dp_same sA p1)
      obtain ⟨b2, z2, rfl, q2⟩ := head_read (dp_same sA p2)
      have hDT : D ≠ T := ne_of_none hD' nT
      have fin : ∀ b, (decide (y1 = k) && decide (y2 = k)) = b → ∃ acc, (L2.upd H' T (.tup [V.ref b1, V.ref b2])) D = some (.lst acc) ∧ acc.length < sizeLine ∧
          (Same (L2.upd H p (.lst (xs.drop 1))) (L2.upd (L2.upd H' T (.tup [V.ref b1, V.ref b2])) D (.lst (acc ++ [V.bl b]))) ∧
            (L2.upd (L2.upd H' T (.tup [V.ref b1, V.ref b2])) D (.lst (acc ++ [V.bl b]))) D = some (.lst (((ds.zip (ds.drop 1)).take (i + 1)).map fun q => V.bl (decide (headK q.1 = k) && decide (headK q.2 = k))))) := fun b eb => by
        refine ⟨_, by rw [upd_ne hDT]; exact hD', ?_, same_upd2 sT hD, ?_⟩
        · rw [List.length_map, List.length_take, sizeLine_eq]
          have : (ds.zip (ds.drop 1)).length ≤ ds.length := by
            rw [List.length_zip]
            omega
          omega
        · rw [upd_same, take_snoc hq2, List.map_append]
          show _ = some (HO.lst (_ ++ [V.bl (decide (y1 = k) && decide (y2 = k))]))
          rw [eb]
      refine ⟨T, [V.ref b1, V.ref b2], rfl, SqT.of upd_same, rfl, _, _, rfl, _, _, rfl, rfl, rfl, ?_⟩
      refine ⟨_, rfl, b1, _, 0, _, rfl, rfl, q1, atI_nat (j := 0) rfl, _, rfl, rfl, _, rfl, if_by (fun e => ?_) (fun e => ?_)⟩
      · have e' : y1 = k := by simpa using e
        refine ⟨_, rfl, b2, _, 0, _, rfl, rfl, q2, atI_nat (j := 0) rfl, _, rfl, rfl, ?_⟩
        refine fin _ ?_
        rw [decide_eq_true e', Bool.true_and]
        by_cases e2 : y2 = k
        · rw [decide_eq_true e2, decide_eq_true (congrArg V.str e2)]
        · rw [decide_eq_false e2, decide_eq_false (fun z => e2 (V.str.inj z))]
      · have e' : ¬ y1 = k := by simpa using e
        exact fin false (by rw [decide_eq_false e', Bool.false_and])
    · obtain ⟨sm, hD'⟩ := e
      rw [List.take_length] at hD'
      refine ⟨D, (ds.zip (ds.drop 1)).map fun q => decide (headK q.1 = k) && decide (headK q.2 = k), rfl, SqL.of (by rw [hD', List.map_map]; rfl), ?_⟩
      have z := kk H' (s1.trans sm)
      have e : nbB k ds = ((ds.zip (ds.drop 1)).map fun q => decide (headK q.1 = k) && decide (headK q.2 = k)).any id := by
        rw [List.any_map]
        rfl
      rw [e] at z
      exact z
end
end Qb
end PySem
namespace PySem
namespace Qb
open PySem.W PySem.Calls PyProof.Rows L2
/-! # words, pieces and deeds, right ones and others -/
inductive All2 {α β : Type} (R : α → β → Prop) : List α → List β → Prop
  | nil : All2 R [] []
  | cons {a : α} {b : β} {as : List α} {bs : List β} (h : R a b) (t : All2 R as bs) : All2 R (a :: as) (b :: bs)
theorem All2.len {α β : Type} {R : α → β → Prop} : ∀ {as : List α} {bs : List β}, All2 R as bs → as.length = bs.length
  | _, _, .nil => rfl
  | _, _, .cons _ t => congrArg Nat.succ t.len
theorem All2.at {α β : Type} {R : α → β → Prop} : ∀ {as : List α} {bs : List β} {i : Nat} {a : α}, All2 R as bs → as[i]? = some a → ∃ b, bs[i]? = some b ∧ R a b
  | _, _, _, _, .nil, e => by cases e
  | _, _, 0, _, .cons h _, e => by
    obtain rfl := Option.some.inj e
    exact ⟨_, rfl, h⟩
  | _, _, i + 1, _, .cons _ t, e => All2.at (i := i) t e
theorem All2.mem {α β : Type} {R : α → β → Prop} {as : List α} {bs : List β} (h : All2 R as bs) {a : α} (m : a ∈ as) : ∃ b ∈ bs, R a b := by
  obtain ⟨i, hi⟩ := List.getElem?_of_mem m
  obtain ⟨b, hb, r⟩ := h.at hi
  exact ⟨b, List.mem_of_getElem? hb, r⟩
theorem All2.app {α β : Type} {R : α → β → Prop} : ∀ {as as' : List α} {bs bs' : List β}, All2 R as bs → All2 R as' bs' → All2 R (as ++ as') (bs ++ bs')
  | _, _, _, _, .nil, h => h
  | _, _, _, _, .cons h t, g => .cons h (t.app g)
theorem All2.imp {α β : Type} {R S : α → β → Prop} (f : ∀ a b, R a b → S a b) : ∀ {as : List α} {bs : List β}, All2 R as bs → All2 S as bs
  | _, _, .nil => .nil
  | _, _, .cons h t => .cons (f _ _ h) (t.imp f)
def sizD : PyData := .tuple [.str "size"]
def must0 : PyData := .tuple [.str "must", .bool false, .list []]
def cut0 : PyData := .tuple [.str "cut", .str "#", .list []]
def shownB (x : Str) (d : PyData) : Bool := decide (x = "#") && [must0, cut0].any fun z => PyData.eqv z d
def dd4 : List Str := ["lack", "set", "must", "other"]
/-- trees as they are drawn here: sums, and a few that are none -/
def Tm.lawf : Tm → Prop
  | .num _ => True
  | .of _ => True
  | .odd _ => False
  | .one s a => (s = "minus" ∨ s = "no" ∨ s = "zip") ∧ a.lawf
  | .two s a b => isOp s = true ∧ a.lawf ∧ b.lawf
  | .three s a b c => s = "choose" ∧ a.lawf ∧ b.lawf ∧ c.lawf
/-- data that can be shown -/
structure Rp (n m : Nat) (d : PyData) : Prop where
  sh : Sh n d
  sw : d.showable = true
  nd : d.hasDict = false
  len : (cs d.shown).length ≤ m
structure Tx (x : Str) : Prop where
  len : x.length ≤ 20
  ok : PyData.strOk x = true
/-- a piece of a kind and a text -/
def txtB (i : Bool) (k x : Str) : Bool :=
  if i = true then decide (k = "plain") && decide (x ≠ "") else
  if k = "bare" then isBareB (cs x) else if k = "held" then !decide (39 ∈ cs x) else if k = "mark" then decide (x.length = 1) && decide (x ≠ "\n") else false
structure TxK (k : Str) : Prop where
  wide : k ≠ "wide"
  name : k ≠ "name"
  sum : k ≠ "sum"
  run : k ≠ "run"
  ok : PyData.strOk k = true
  len : k.length ≤ 20
abbrev WR := List PyData → Bool → Bool → Prop
/-- a deed on the name x: whether it is let, and whether the runs within are right -/
def DdR (W : WR) (x : Str) (d : PyData) (b r : Bool) : Prop :=
  (d = .tuple [] ∧ b = true ∧ r = true) ∨ (d = sizD ∧ b = true ∧ r = true) ∨
  (∃ k c ws bw rw, d = .tuple [.str k, .bool c, .list ws] ∧ (k ∈ dd4 ∨ k = "zip") ∧ W ws bw rw ∧ b = (!shownB x d && (decide (k ∈ dd4) && bw)) ∧ r = (!decide (k ∈ dd4) || rw)) ∨
  (∃ m ws bw rw, d = .tuple [.str "cut", .str m, .list ws] ∧ Tx m ∧ W ws bw rw ∧ b = (!shownB x d && (decide (m ∈ cutW) && bw)) ∧ r = rw)
def DlR (CR : PyData → Bool → Prop) (W : WR) (p : PyData) (b r : Bool) : Prop :=
  (∃ x d bd, p = .tuple [.str "name", .str x, d] ∧ Tx x ∧ DdR W x d bd r ∧ b = ((isNameB (cs x) || isPlB (cs x)) && bd)) ∨
  (∃ t : Tm, p = .tuple [.str "sum", t.d] ∧ (t.fine ∧ t.lawf) ∧ t.ht ≤ 12 ∧ Rp 14 1200 t.d ∧ b = t.ok ∧ r = true) ∨
  (∃ (cs : List PyData) (bs : List Bool), p = .tuple [.str "run", .list cs] ∧ cs.length ≤ 8 ∧ All2 CR cs bs ∧ (∀ c ∈ cs, Sh 40 c) ∧ b = true ∧ r = bs.all id)
def PcR (CR : PyData → Bool → Prop) (Wb Ww : WR) (i : Bool) (p : PyData) (b r : Bool) : Prop :=
  (∃ k x, p = .tuple [.str k, .str x] ∧ TxK k ∧ Tx x ∧ b = txtB i k x ∧ r = true) ∨
  (∃ ws bw rw, p = .tuple [.str "wide", .list ws] ∧ Ww ws bw rw ∧ b = (!i && bw) ∧ r = rw) ∨ DlR CR Wb p b r
def nbK (i : Bool) : Str := if i = true then "plain" else "bare"
def WsR (CR : PyData → Bool → Prop) : Nat → Bool → WR
  | 0, _ => fun _ _ _ => False
  | n + 1, i => fun ws b r => ws.length ≤ n + 3 ∧ ∃ ps : List (Bool × Bool), All2 (fun p q => PcR CR (WsR CR n false) (WsR CR n true) i p q.1 q.2) ws ps ∧ b = (ps.all (·.1) && !nbB (nbK i) ws) ∧ r = ps.all (·.2)
theorem sh_bl {b : Bool} : Sh 0 (.bool b) := ⟨by first | rfl | rw [PyData.canLay0.eq_2] | simp [PyData.canLay0], Nat.le_of_eq rfl⟩
theorem all_two {P : PyData → Prop} {a b : PyData} (ha : P a) (hb : P b) : ∀ d ∈ [a, b], P d := fun d m => by
  rcases List.mem_cons.mp m with rfl | m
  · exact ha
  · rw [List.mem_singleton.mp m]; exact hb
theorem all_three {P : PyData → Prop} {a b c : PyData} (ha : P a) (hb : P b) (hc : P c) : ∀ d ∈ [a, b, c], P d := fun d m => by
  rcases List.mem_cons.mp m with rfl | m
  · exact ha
  · exact all_two hb hc d m
theorem dd_sh {W : WR} {n : Nat} (h : ∀ ws b r, W ws b r → ∀ p ∈ ws, Sh n p) {x : Str} {d : PyData} {b r : Bool} (hd : DdR W x d b r) : Sh (n + 2) d := by
  have s0 : ∀ {m : Nat} {x : Str}, PyData.strOk x = true → Sh m (.str x) := fun h => sh_mono (sh_str h) (Nat.zero_le _)
  rcases hd with ⟨rfl, _, _⟩ | ⟨rfl, _, _⟩ | ⟨k, c, ws, bw, rw, rfl, hk, hw, _, _⟩ | ⟨m, ws, bw, rw, rfl, hm, hw, _, _⟩
  · exact sh_mono (sh_tup (n := 0) (fun d m => by cases m)) (by omega)
  · exact sh_mono (sh_tup (n := 0) (fun d m => by rw [List.mem_singleton.mp m]; exact sh_str (by decide +kernel))) (by omega)
  · have ok : PyData.strOk k = true := by
      rcases hk with hk | rfl
      · exact (by decide +kernel : ∀ k ∈ dd4, PyData.strOk k = true) k hk
      · decide +kernel
    exact sh_tup (n := n + 1) (all_three (s0 ok) (sh_mono sh_bl (Nat.zero_le _)) (sh_lst (h _ _ _ hw)))
  · exact sh_tup (n := n + 1) (all_three (s0 (by decide +kernel)) (s0 hm.ok) (sh_lst (h _ _ _ hw)))
theorem ws_sh {CR : PyData → Bool → Prop} : ∀ (n : Nat) {i : Bool} {ws : List PyData} {b r : Bool}, WsR CR n i ws b r → ∀ p ∈ ws, Sh (42 + 3 * n) p
  | 0, _, _, _, _, h => h.elim
  | n + 1, i, ws, b, r, ⟨_, ps, all, _, _⟩ => fun p m => by
    obtain ⟨q, _, hp⟩ := all.mem m
    have s0 : ∀ {m : Nat} {x : Str}, PyData.strOk x = true → Sh m (.str x) := fun h => sh_mono (sh_str h) (Nat.zero_le _)
    rcases hp with ⟨k, x, rfl, hk, hx, _, _⟩ | ⟨w, bw, rw, rfl, hw, _, _⟩ | ⟨x, d, bd, rfl, hx, hd, _⟩ | ⟨t, rfl, _, _, ht, _, _⟩ | ⟨cs, bs, rfl, _, _, hc, _, _⟩
    · exact sh_mono (sh_tup (n := 0) (all_two (sh_str hk.ok) (sh_str hx.ok))) (by omega)
    · exact sh_mono (sh_tup (n := 43 + 3 * n) (all_two (s0 (by decide +kernel)) (sh_mono (sh_lst (ws_sh n hw)) (by omega)))) (by omega)
    · exact sh_mono (sh_tup (n := 44 + 3 * n) (all_three (s0 (by decide +kernel)) (s0 hx.ok) (sh_mono (dd_sh (n := 42 + 3 * n) (fun _ _ _ h => ws_sh n h) hd) (by omega)))) (by omega)
    · exact sh_mono (sh_tup (n := 14) (all_two (s0 (by decide +kernel)) ht.sh)) (by omega)
    · exact sh_mono (sh_tup (n := 41) (all_two (s0 (by decide +kernel)) (sh_lst hc))) (by omega)
/-- every piece begins with its kind -/
theorem ws_head {CR : PyData → Bool → Prop} {n : Nat} {i : Bool} {ws : List PyData} {b r : Bool} (h : WsR CR n i ws b r) : ∀ p ∈ ws, ∃ y l, p = .tuple (.str y :: l) := by
  cases n with
  | zero => exact h.elim
  | succ n =>
    obtain ⟨_, ps, all, _, _⟩ := h
    intro p m
    obtain ⟨q, _, hp⟩ := all.mem m
    rcases hp with ⟨k, x, rfl, _⟩ | ⟨w, bw, rw, rfl, _⟩ | ⟨x, d, bd, rfl, _⟩ | ⟨t, rfl, _⟩ | ⟨cs, bs, rfl, _⟩
    · exact ⟨_, _, rfl⟩
    · exact ⟨_, _, rfl⟩
    · exact ⟨_, _, rfl⟩
    · exact ⟨_, _, rfl⟩
    · exact ⟨_, _, rfl⟩
def spWs (K : Frag) (CR : PyData → Bool → Prop) (n : Nat) (i : Bool) : Sp := fun vs H Q _ => ∃ (v : V) (ws : List PyData) (b r : Bool), vs = [v] ∧ Dp K H v (.list ws) ∧ WsR CR n i ws b r ∧ ∀ H', Same H H' → Q (.bl b) H'
def spPc (K : Frag) (CR : PyData → Bool → Prop) (n : Nat) (i : Bool) : Sp := fun vs H Q _ => ∃ (v : V) (p : PyData) (b r : Bool), vs = [v] ∧ Dp K H v p ∧ PcR CR (WsR CR n false) (WsR CR n true) i p b r ∧ ∀ H', Same H H' → Q (.bl b) H'
/-- what is no dollar piece is told to be none -/
def spDl (K : Frag) (CR : PyData → Bool → Prop) (n : Nat) : Sp := fun vs H Q _ => ∃ (v : V) (p : PyData) (b : Bool), vs = [v] ∧ Dp K H v p ∧ ((∃ r, DlR CR (WsR CR n false) p b r) ∨ (b = false ∧ ((∃ k x, p = .tuple [.str k, .str x] ∧ TxK k) ∨ ∃ ws, p = .tuple [.str "wide", .list ws]))) ∧ ∀ H', Same H H' → Q (.bl b) H'
def spDd (K : Frag) (CR : PyData → Bool → Prop) (n : Nat) : Sp := fun vs H Q _ => ∃ (v : V) (x : Str) (d : PyData) (b r : Bool), vs = [.str x, v] ∧ Dp K H v d ∧ DdR (WsR CR n false) x d b r ∧ Sh 60 d ∧ ∀ H', Same H H' → Q (.bl b) H'
def spSz (K : Frag) : Sp := fun vs H Q _ => ∃ (v : V) (x : Str) (d : PyData), vs = [.str x, v] ∧ Dp K H v d ∧ Sh 60 d ∧ ∀ H', Same H H' → Q (.bl (shownB x d)) H'
end Qb
end PySem
namespace PySem
namespace Qb
open PySem.W PySem.Calls PyProof.Rows L2
/-! # the defs of words and pieces -/
theorem inV_iff (x : Str) (ws : List Str) : inV (.str x) (ws.map V.str) = decide (x ∈ ws) := by
  induction ws with
  | nil => rfl
  | cons w ws ih =>
    have e : inV (.str x) ((w :: ws).map V.str) = ((w == x) || inV (.str x) (ws.map V.str)) := rfl
    rw [e, ih]
    by_cases h : x = w
    · subst h
      simp
    · rw [beq_eq_false_iff_ne.mpr (Ne.symm h), Bool.false_or]
      exact decide_eq_decide.mpr ⟨fun m => .tail _ m, fun m => by
        rcases List.mem_cons.mp m with rfl | m
        · exact (h rfl).elim
        · exact m⟩
theorem sh60 {d : PyData} (h : Sh 60 d) : SeqAt.shaped d = true := sh_ok h
theorem eqv_d0 (a : PyData) (l : List PyData) : PyData.eqv (.tuple (a :: l)) (.tuple []) = false := rfl
theorem eqv_3s (a b c : PyData) : PyData.eqv (.tuple [a, b, c]) sizD = false := by
  show PyData.eqv (.tuple [a, b, c]) (.tuple [.str "size"]) = false
  simp [PyData.eqv, PyData.eqvAll]
theorem dd4_hit {s : Str} (h : s ∈ dd4) : Hit (rOr [rLit "lack", rLit "set", rLit "must", rLit "other"]) s := by
  simp only [dd4, List.mem_cons, List.not_mem_nil, or_false] at h
  rcases h with rfl | rfl | rfl | rfl
  · exact hit_or hit_lit
  · exact hit_or2 (miss_lit (by decide +kernel)) (hit_or hit_lit)
  · exact hit_or2 (miss_lit (by decide +kernel)) (hit_or2 (miss_lit (by decide +kernel)) (hit_or hit_lit))
  · exact hit_or2 (miss_lit (by decide +kernel)) (hit_or2 (miss_lit (by decide +kernel)) (hit_or2 (miss_lit (by decide +kernel)) (hit_or hit_lit)))
theorem dd4_miss {s : Str} (h : ¬ s ∈ dd4) : Miss (rOr [rLit "lack", rLit "set", rLit "must", rLit "other"]) s := by
  simp only [dd4, List.mem_cons, List.not_mem_nil, or_false, not_or] at h
  exact miss_or (miss_lit h.1) (miss_or (miss_lit h.2.1) (miss_or (miss_lit h.2.2.1) (miss_or (miss_lit h.2.2.2) miss_or0)))
section
variable {P : Program} {w : World} {K : Frag} {mg : Str → Option Value} {base : Heap}
abbrev sSz : Stmt := top 45
abbrev nSz : List Str := ["name", "deed"]
theorem scSz : FnScope nSz ["name", "deed"] (defScope sSz) := ⟨rfl, rfl, rfl, by decide +kernel, rfl, by decide +kernel, by decide +kernel⟩
theorem has_Sz {f : Addr} {fd : FuncData}  (F : Fun K "is_shown_as_size" "is_shown_as_size" sSz f fd) (g : mg "is_shown_as_size" = some (.ref f)) (B : Blt mg)  :
    Has P w K mg base 1 "is_shown_as_size" ["name", "deed"] (spSz K) := by
  refine has_of F g (F.binds (ps := ["name", "deed"]) fun _ _ _ _ _ _ us hl => match us, hl with | [_, _], _ => rfl) (F.ok scSz (fun vs H Q E h => ?_) (fun cdv A outer s H vs Q E hr h => ?_))
  · obtain ⟨v, x, d, rfl, _⟩ := h
    rfl
  · have hu : (A.deeper (envOfC "is_shown_as_size" (defScope sSz) s.heap.objs.size f cdv)).units + 65 < cLine := by
      have := hr.un
      omega
    refine ⟨_, (pss_one (ps_ret (pe_and (pe_cmpR op_eq (pv 0) pe_str (nomark _)) (pe_one (pe_cmpR (op_inTD hu) (pv 1) (pe_tup (pa_cons (pe_tup (pa_cons pe_str (pa_cons pe_bl (pa_cons (pe_lst pa_nil) pa_nil)))) (pa_cons (pe_tup (pa_cons pe_str (pa_cons pe_str (pa_cons (pe_lst pa_nil) pa_nil)))) pa_nil))) (by rfl)))))), ?_⟩
    obtain ⟨v, x, d, rfl, hd, sh, k⟩ := h
    unfold shownB at k
    refine ⟨_, rfl, rfl, _, rfl, ?_⟩
    by_cases c : x = "#"
    · subst c
      rw [decide_eq_true rfl, Bool.true_and] at k
      refine if_yes (decide_eq_true rfl) ?_
      refine ⟨_, rfl, (by decide : 0 ≤ sizeLine), fun L1 n1 => ?_⟩
      have q1 := same_upd (o := .lst []) n1
      have d1 : Dp K (L2.upd H L1 (.lst [])) (.ref L1) (.list []) := .lst (SqL.of upd_same) .nil
      generalize L2.upd H L1 (.lst []) = H1 at q1 d1 ⊢
      refine ⟨(by decide : 3 ≤ sizeLine), fun T1 m1 => ?_⟩
      have q2 := same_upd (o := .tup [.str "must", .bl false, .ref L1]) m1
      have d2 : Dp K (L2.upd H1 T1 (.tup [.str "must", .bl false, .ref L1])) (.ref T1) must0 := .tup (SqT.of upd_same) (.cons (.str _) (.cons (.bl _) (.cons (dp_same q2 d1) .nil)))
      generalize L2.upd H1 T1 (.tup [.str "must", .bl false, .ref L1]) = H2 at q2 d2 ⊢
      refine ⟨(by decide : 0 ≤ sizeLine), fun L2' n2 => ?_⟩
      have q3 := same_upd (o := .lst []) n2
      have d3 : Dp K (L2.upd H2 L2' (.lst [])) (.ref L2') (.list []) := .lst (SqL.of upd_same) .nil
      generalize L2.upd H2 L2' (.lst []) = H3 at q3 d3 ⊢
      refine ⟨(by decide : 3 ≤ sizeLine), fun T2 m2 => ?_⟩
      have q4 := same_upd (o := .tup [.str "cut", .str "#", .ref L2']) m2
      have d4 : Dp K (L2.upd H3 T2 (.tup [.str "cut", .str "#", .ref L2'])) (.ref T2) cut0 := .tup (SqT.of upd_same) (.cons (.str _) (.cons (.str _) (.cons (dp_same q4 d3) .nil)))
      generalize L2.upd H3 T2 (.tup [.str "cut", .str "#", .ref L2']) = H4 at q4 d4 ⊢
      refine ⟨(by decide : 2 ≤ sizeLine), fun T3 m3 => ?_⟩
      have q5 := same_upd (o := .tup [.ref T1, .ref T2]) m3
      have a5 := q1.trans (q2.trans (q3.trans (q4.trans q5)))
      refine ⟨d, [must0, cut0], dp_same a5 hd, .tup (SqT.of upd_same) (.cons (dp_same (q3.trans (q4.trans q5)) d2) (.cons (dp_same q5 d4) .nil)), sh60 sh, by decide +kernel, k _ a5⟩
    · rw [decide_eq_false c, Bool.false_and] at k
      exact if_no (decide_eq_false fun z => c (V.str.inj z)) (k _ (Same.refl H))
abbrev sDd : Stmt := top 44
abbrev nDd : List Str := ["name", "deed", "word", "mark"]
theorem scDd : FnScope nDd ["name", "deed"] (defScope sDd) := ⟨rfl, rfl, rfl, by decide +kernel, rfl, by decide +kernel, by decide +kernel⟩
theorem has_Dd {CR : PyData → Bool → Prop} {n L : Nat} (l1 : 1 ≤ L) (l14 : n ≤ 5) {f : Addr} {fd : FuncData}  (F : Fun K "is_deed_on" "is_deed_on" sDd f fd) (g : mg "is_deed_on" = some (.ref f)) (B : Blt mg) (W : Wrt K w mg) (hSz : Has P w K mg base 1 "is_shown_as_size" ["name", "deed"] (spSz K)) (hAp : Has P w K mg base L "are_pieces" ["pieces"] (spWs K CR n false)) :
    Has P w K mg base (L + 1) "is_deed_on" ["name", "deed"] (spDd K CR n) := by
  obtain ⟨fSz, dSz, gSz, kSz, bSz, GSz⟩ := hSz
  obtain ⟨fAp, dAp, gAp, kAp, bAp, GAp⟩ := hAp
  obtain ⟨pC, gC, sC⟩ := W.cuts
  refine has_of F g (F.binds (ps := ["name", "deed"]) fun _ _ _ _ _ _ us hl => match us, hl with | [_, _], _ => rfl) (F.ok scDd (fun vs H Q E h => ?_) (fun cdv A outer s H vs Q E hr h => ?_))
  · obtain ⟨v, x, d, b, r, rfl, _⟩ := h
    rfl
  · refine ⟨_, (pss_cons (ps_if (PW.pt (pw_or (pt_cmpR (op_eqD hr.units) (pv 1) (pe_tup pa_nil) (nomark _)) (pw_or1 (pt_cmpR (op_eqD hr.units) (pv 1) (pe_tup (pa_cons pe_str pa_nil)) (nomark _))))) (pss_one (ps_ret pe_bl)) pss_nil)
        (pss_cons (ps_if (pt_val (pe_call GSz (hr.mono (by omega)) rfl gSz kSz bSz .nil pass0 (pa_cons (pv 0) (pa_cons (pv 1) pa_nil)))) (pss_one (ps_ret pe_bl)) pss_nil)
        (pss_cons (ps_match (pv 1)
        (pcs_cons (is := [2]) scDd.nd (pp_seq rfl (pps_cons (pp_or (pf_cons pp_lit (pf_cons pp_lit (pf_cons pp_lit (pf_cons pp_lit pf_nil))))) (pps_cons pp_any (pps_cons pp_cap pps_nil)))) (.cons ⟨rfl, .inl rfl, .inr rfl⟩ .nil)
          (pss_one (ps_ret (pe_call GAp hr rfl gAp kAp bAp .nil pass0 (pa_cons (pv 2) pa_nil))))
        (pcs_cons (is := [3, 2]) scDd.nd (pp_seq rfl (pps_cons pp_lit (pps_cons pp_cap (pps_cons pp_cap pps_nil)))) (.cons ⟨rfl, .inl rfl, .inr rfl⟩ (.cons ⟨rfl, .inl rfl, .inr rfl⟩ .nil))
          (pss_one (ps_ret (pe_and (pe_cmpR op_in_seq (pv 3) (pe_glob (v := .ref pC) (by rfl) gC rfl) (by rfl)) (pe_one (pe_call GAp hr rfl gAp kAp bAp .nil pass0 (pa_cons (pv 2) pa_nil)))))) pcs_nil)))
        (pss_one (ps_ret pe_bl))))), ?_⟩
    obtain ⟨v, x, d, b, r, rfl, hd, dr, sh, k⟩ := h
    refine ⟨_, rfl, (by decide : 0 ≤ sizeLine), fun T nT => ?_⟩
    have q1 := same_upd (o := .tup []) nT
    refine ⟨d, .tuple [], dp_same q1 hd, .tup (SqT.of upd_same) .nil, sh60 sh, by decide, _, rfl, ?_⟩
    rcases dr with ⟨rfl, rfl, _⟩ | ⟨rfl, rfl, _⟩ | ⟨kk, c, ws, bw, rw', rfl, hk, hw, rfl, _⟩ | ⟨m, ws, bw, rw', rfl, hm, hw, rfl, _⟩
    · exact if_yes (by decide) (if_yes rfl (k _ q1))
    · refine if_no (by decide +kernel) ?_
      generalize L2.upd H T (.tup []) = H1 at q1 ⊢
      refine ⟨_, rfl, (by decide : 1 ≤ sizeLine), fun T2 nT2 => ?_⟩
      have q2 := same_upd (o := .tup [.str "size"]) nT2
      exact ⟨sizD, sizD, dp_same (q1.trans q2) hd, .tup (SqT.of upd_same) (.cons (.str _) .nil), by decide +kernel, by decide +kernel, _, rfl, if_yes (by decide +kernel) (k _ (q1.trans q2))⟩
    all_goals
      refine if_no (eqv_d0 _ _) ?_
      generalize L2.upd H T (.tup []) = H1 at q1 ⊢
      refine ⟨_, rfl, (by decide : 1 ≤ sizeLine), fun T2 nT2 => ?_⟩
      have q2 := same_upd (o := .tup [.str "size"]) nT2
      refine ⟨_, sizD, dp_same (q1.trans q2) hd, .tup (SqT.of upd_same) (.cons (.str _) .nil), sh60 sh, by decide +kernel, _, rfl, if_no (eqv_3s _ _ _) ?_⟩
      generalize L2.upd H1 T2 (.tup [.str "size"]) = H2 at q2 ⊢
      have a2 := q1.trans q2
      refine ⟨_, rfl, _, rfl, v, x, _, rfl, dp_same a2 hd, sh, fun H3 t3 => ⟨_, rfl, ?_⟩⟩
      have a3 := a2.trans t3
      refine if_by (fun e => ?_) (fun e => ?_)
      · rw [e] at k
        exact k _ a3
      rw [e] at k
      obtain ⟨p, x1, x2, rfl, hq, h1, h2⟩ := pc_three (dp_same a3 hd)
      refine ⟨_, rfl, ?_⟩
    · cases h1
      by_cases c4 : kk ∈ dd4
      · rw [decide_eq_true c4] at k
        refine ⟨p, _, rfl, hq, fun ne => absurd rfl ne, fun _ => dd4_hit c4 H3 _ ⟨_, rfl, x2, ws, bw, rw', rfl, h2, hw, fun H4 t4 => ?_⟩⟩
        exact k H4 (a3.trans t4)
      · rw [decide_eq_false c4] at k
        have nc : kk ≠ "cut" := by
          rcases hk with z | rfl
          · exact (c4 z).elim
          · decide +kernel
        exact case_miss hq (.inl (dd4_miss c4)) (case_miss hq (.inl (miss_lit nc)) (k _ a3))
    · cases h1
      refine case_miss hq (.inl (dd4_miss (by decide +kernel))) (case_hit hq hit_lit ?_)
      refine ⟨_, rfl, pC, cutW.map V.str, rfl, .inr (sC H3), rfl, by decide +kernel, _, rfl, ?_⟩
      rw [if_neg (by decide : ¬ false = true), inV_iff]
      refine if_by (fun c => ?_) (fun c => ?_)
      · rw [c] at k
        exact ⟨_, rfl, x2, ws, bw, rw', rfl, h2, hw, fun H4 t4 => k H4 (a3.trans t4)⟩
      · rw [c] at k
        exact k _ a3
abbrev sDl : Stmt := top 43
abbrev nDl : List Str := ["piece", "name", "deed", "tree"]
theorem scDl : FnScope nDl ["piece"] (defScope sDl) := ⟨rfl, rfl, rfl, by decide +kernel, rfl, by decide +kernel, by decide +kernel⟩
theorem has_Dl {CR : PyData → Bool → Prop} {n L : Nat} (l18 : 18 ≤ L) (l14 : n ≤ 5) {f : Addr} {fd : FuncData}  (F : Fun K "is_dollar" "is_dollar" sDl f fd) (g : mg "is_dollar" = some (.ref f)) (B : Blt mg) (hDd : Has P w K mg base L "is_deed_on" ["name", "deed"] (spDd K CR n)) (hIp : Has P w K mg base 1 "is_place" ["text"] (spIp)) (hNn : Has P w K mg base 2 "is_name" ["text"] (spNn)) (hIs : Has P w K mg base 18 "is_sum" ["tree"] (spIsT K 15)) :
    Has P w K mg base (L + 1) "is_dollar" ["piece"] (spDl K CR n) := by
  obtain ⟨fDd, dDd, gDd, kDd, bDd, GDd⟩ := hDd
  obtain ⟨fIp, dIp, gIp, kIp, bIp, GIp⟩ := hIp
  obtain ⟨fNn, dNn, gNn, kNn, bNn, GNn⟩ := hNn
  obtain ⟨fIs, dIs, gIs, kIs, bIs, GIs⟩ := hIs
  refine has_of F g (F.binds (ps := ["piece"]) fun _ _ _ _ _ _ us hl => match us, hl with | [_], _ => rfl) (F.ok scDl (fun vs H Q E h => ?_) (fun cdv A outer s H vs Q E hr h => ?_))
  · obtain ⟨v, p, b, rfl, _⟩ := h
    rfl
  · refine ⟨_, (pss_cons (ps_match (pv 0)
        (pcs_cons (is := [1, 2]) scDl.nd (pp_seq rfl (pps_cons pp_lit (pps_cons pp_cap (pps_cons pp_cap pps_nil)))) (.cons ⟨rfl, .inl rfl, .inr rfl⟩ (.cons ⟨rfl, .inl rfl, .inr rfl⟩ .nil))
          (pss_one (ps_ret (pe_and (pe_or (pe_call GNn (hr.mono (by omega)) rfl gNn kNn bNn .nil pass0 (pa_cons (pv 1) pa_nil)) (pe_one (pe_call GIp (hr.mono (by omega)) rfl gIp kIp bIp .nil pass0 (pa_cons (pv 1) pa_nil)))) (pe_one (pe_call GDd hr rfl gDd kDd bDd .nil pass0 (pa_cons (pv 1) (pa_cons (pv 2) pa_nil)))))))
        (pcs_cons (is := [3]) scDl.nd (pp_seq rfl (pps_cons pp_lit (pps_cons pp_cap pps_nil))) (.cons ⟨rfl, .inl rfl, .inr rfl⟩ .nil)
          (pss_one (ps_ret (pe_call GIs (hr.mono (by omega)) rfl gIs kIs bIs .nil pass0 (pa_cons (pv 3) pa_nil))))
        (pcs_cons (is := []) scDl.nd (pp_seq rfl (pps_cons pp_lit (pps_cons pp_any pps_nil))) .nil
          (pss_one (ps_ret pe_bl)) pcs_nil))))
        (pss_one (ps_ret pe_bl))), ?_⟩
    obtain ⟨v, p, b, rfl, hd, hp, k⟩ := h
    rcases hp with ⟨r, hp⟩ | ⟨rfl, hp⟩
    · rcases hp with ⟨x, d, bd, rfl, hx, dr, rfl⟩ | ⟨t, rfl, tf, th, ts, rfl, _⟩ | ⟨cs, bs, rfl, _, _, _, rfl, _⟩
      · obtain ⟨q, x1, x2, rfl, hq, h1, h2⟩ := pc_three hd
        cases h1
        have sd : Sh 60 d := sh_mono (dd_sh (n := 42 + 3 * n) (fun _ _ _ h => ws_sh n h) dr) (by omega)
        have lx : x.length ≤ big := Nat.le_trans hx.len (by decide)
        have deed : ∀ H1, Same H H1 → isNameB (cs x) = true ∨ (isNameB (cs x) = false ∧ isPlB (cs x) = true) → spDd K CR n ([.str x, x2] ++ []) H1 Q E0 := fun H1 s1 c =>
          ⟨x2, x, d, bd, r, rfl, dp_same s1 h2, dr, sd, fun H2 s2 => by
            have z := k H2 (s1.trans s2)
            rcases c with c | ⟨c1, c2⟩
            · rw [c] at z; exact z
            · rw [c1, c2] at z; exact z⟩
        refine ⟨_, rfl, case_hit hq hit_lit ?_⟩
        refine ⟨_, rfl, x, rfl, lx, fun H1 s1 => ⟨_, rfl, ?_⟩⟩
        cases c1 : isNameB (cs x) with
        | true => exact if_yes rfl ⟨_, rfl, if_yes rfl ⟨_, rfl, _, rfl, deed H1 s1 (.inl c1)⟩⟩
        | false =>
          refine if_no rfl ⟨_, rfl, x, rfl, lx, fun H2 s2 => ⟨_, rfl, ?_⟩⟩
          have a2 := s1.trans s2
          cases c2 : isPlB (cs x) with
          | true => exact if_yes rfl ⟨_, rfl, _, rfl, deed H2 a2 (.inr ⟨c1, c2⟩)⟩
          | false =>
            have z := k H2 a2
            rw [c1, c2] at z
            exact if_no rfl z
      · obtain ⟨q, x1, rfl, hq, h1⟩ := pc_two hd
        refine ⟨_, rfl, case_miss hq (.inl (miss_lit (by decide +kernel))) (case_hit hq hit_lit ?_)⟩
        exact ⟨_, rfl, x1, t, rfl, h1, Nat.le_trans th (by decide), tf.1, fun H1 s1 => k H1 s1⟩
      · obtain ⟨q, x1, rfl, hq, h1⟩ := pc_two hd
        refine ⟨_, rfl, case_miss hq (.inl (miss_lit (by decide +kernel))) (case_miss hq (.inl (miss_lit (by decide +kernel))) ?_)⟩
        exact ⟨q, _, rfl, hq, fun ne => absurd rfl ne, fun _ => hit_lit (c := "run") H _ (k _ (Same.refl H))⟩
    · rcases hp with ⟨kk, x, rfl, hk⟩ | ⟨ws, rfl⟩
      · obtain ⟨q, x1, rfl, hq, h1⟩ := pc_two hd
        exact ⟨_, rfl, len_miss hq (by simp) (case_miss hq (.inl (miss_lit hk.sum)) (case_miss hq (.inl (miss_lit hk.run)) (k _ (Same.refl H))))⟩
      · obtain ⟨q, x1, rfl, hq, h1⟩ := pc_two hd
        exact ⟨_, rfl, len_miss hq (by simp) (case_miss hq (.inl (miss_lit (by decide +kernel))) (case_miss hq (.inl (miss_lit (by decide +kernel))) (k _ (Same.refl H))))⟩
abbrev sWp : Stmt := top 42
abbrev nWp : List Str := ["piece", "text"]
theorem scWp : FnScope nWp ["piece"] (defScope sWp) := ⟨rfl, rfl, rfl, by decide +kernel, rfl, by decide +kernel, by decide +kernel⟩
theorem has_Wp {CR : PyData → Bool → Prop} {n L : Nat} {f : Addr} {fd : FuncData}  (F : Fun K "is_wide_piece" "is_wide_piece" sWp f fd) (g : mg "is_wide_piece" = some (.ref f)) (B : Blt mg) (hDl : Has P w K mg base L "is_dollar" ["piece"] (spDl K CR n)) :
    Has P w K mg base (L + 1) "is_wide_piece" ["piece"] (spPc K CR n true) := by
  obtain ⟨fDl, dDl, gDl, kDl, bDl, GDl⟩ := hDl
  refine has_of F g (F.binds (ps := ["piece"]) fun _ _ _ _ _ _ us hl => match us, hl with | [_], _ => rfl) (F.ok scWp (fun vs H Q E h => ?_) (fun cdv A outer s H vs Q E hr h => ?_))
  · obtain ⟨v, p, b, r, rfl, _⟩ := h
    rfl
  · refine ⟨_, (pss_cons (ps_match (pv 0)
        (pcs_cons (is := [1]) scWp.nd (pp_seq rfl (pps_cons pp_lit (pps_cons pp_cap pps_nil))) (.cons ⟨rfl, .inl rfl, .inr rfl⟩ .nil)
          (pss_one (ps_ret (pe_cmpR op_ne (pv 1) pe_str (nomark _)))) pcs_nil))
        (pss_one (ps_ret (pe_call GDl hr rfl gDl kDl bDl .nil pass0 (pa_cons (pv 0) pa_nil))))), ?_⟩
    obtain ⟨v, p, b, r, rfl, hd, hp, k⟩ := h
    rcases hp with ⟨kk, x, rfl, hk, hx, rfl, _⟩ | ⟨ws, bw, rw', rfl, hw, rfl, _⟩ | hp
    · obtain ⟨q, x1, rfl, hq, h1⟩ := pc_two hd
      cases h1
      by_cases c : kk = "plain"
      · subst c
        have z := k H (Same.refl H)
        have e : txtB true "plain" x = !decide (V.str x = V.str "") := by
          unfold txtB
          rw [if_pos rfl, decide_eq_true rfl, Bool.true_and]
          by_cases c0 : x = ""
          · subst c0; decide +kernel
          · rw [decide_eq_true c0, decide_eq_false (fun z => c0 (V.str.inj z))]; rfl
        rw [e] at z
        exact ⟨_, rfl, case_hit hq hit_lit ⟨_, rfl, rfl, z⟩⟩
      · have z := k
        have e : txtB true kk x = false := by
          unfold txtB
          rw [if_pos rfl, decide_eq_false c, Bool.false_and]
        rw [e] at z
        exact ⟨_, rfl, case_miss hq (.inl (miss_lit c)) ⟨_, rfl, .ref q, _, false, rfl, hd, .inr ⟨rfl, .inl ⟨kk, x, rfl, hk⟩⟩, z⟩⟩
    · obtain ⟨q, x1, rfl, hq, h1⟩ := pc_two hd
      exact ⟨_, rfl, case_miss hq (.inl (miss_lit (by decide +kernel))) ⟨_, rfl, .ref q, _, false, rfl, hd, .inr ⟨rfl, .inr ⟨ws, rfl⟩⟩, k⟩⟩
    · have go : spDl K CR n ([v] ++ []) H Q E0 := ⟨v, p, b, rfl, hd, .inl ⟨r, hp⟩, k⟩
      rcases hp with ⟨x, d, bd, rfl, _⟩ | ⟨t, rfl, _⟩ | ⟨cs, bs, rfl, _⟩
      · obtain ⟨q, x1, x2, rfl, hq, _⟩ := pc_three hd
        exact ⟨_, rfl, len_miss hq (by simp) ⟨_, rfl, go⟩⟩
      · obtain ⟨q, x1, rfl, hq, _⟩ := pc_two hd
        exact ⟨_, rfl, case_miss hq (.inl (miss_lit (by decide +kernel))) ⟨_, rfl, go⟩⟩
      · obtain ⟨q, x1, rfl, hq, _⟩ := pc_two hd
        exact ⟨_, rfl, case_miss hq (.inl (miss_lit (by decide +kernel))) ⟨_, rfl, go⟩⟩
abbrev sPc : Stmt := top 41
abbrev nPc : List Str := ["piece", "text", "sign", "pieces"]
theorem scPc : FnScope nPc ["piece"] (defScope sPc) := ⟨rfl, rfl, rfl, by decide +kernel, rfl, by decide +kernel, by decide +kernel⟩
theorem has_Pc {CR : PyData → Bool → Prop} {n L L' : Nat} (l1 : 1 ≤ L) (ll : L' ≤ L) {f : Addr} {fd : FuncData}  (F : Fun K "is_piece" "is_piece" sPc f fd) (g : mg "is_piece" = some (.ref f)) (B : Blt mg) (hIb : Has P w K mg base 1 "is_bare" ["text"] (spIb)) (hAw : Has P w K mg base L' "are_wide" ["pieces"] (spWs K CR n true)) (hDl : Has P w K mg base L "is_dollar" ["piece"] (spDl K CR n)) :
    Has P w K mg base (L + 1) "is_piece" ["piece"] (spPc K CR n false) := by
  obtain ⟨fIb, dIb, gIb, kIb, bIb, GIb⟩ := hIb
  obtain ⟨fAw, dAw, gAw, kAw, bAw, GAw⟩ := hAw
  obtain ⟨fDl, dDl, gDl, kDl, bDl, GDl⟩ := hDl
  refine has_of F g (F.binds (ps := ["piece"]) fun _ _ _ _ _ _ us hl => match us, hl with | [_], _ => rfl) (F.ok scPc (fun vs H Q E h => ?_) (fun cdv A outer s H vs Q E hr h => ?_))
  · obtain ⟨v, p, b, r, rfl, _⟩ := h
    rfl
  · refine ⟨_, (pss_cons (ps_match (pv 0)
        (pcs_cons (is := [1]) scPc.nd (pp_seq rfl (pps_cons pp_lit (pps_cons pp_cap pps_nil))) (.cons ⟨rfl, .inl rfl, .inr rfl⟩ .nil)
          (pss_one (ps_ret (pe_call GIb (hr.mono (by omega)) rfl gIb kIb bIb .nil pass0 (pa_cons (pv 1) pa_nil))))
        (pcs_cons (is := [1]) scPc.nd (pp_seq rfl (pps_cons pp_lit (pps_cons pp_cap pps_nil))) (.cons ⟨rfl, .inl rfl, .inr rfl⟩ .nil)
          (pss_one (ps_ret (pe_cmpR op_notIn_sign pe_str (pv 1) (by rfl))))
        (pcs_cons (is := [2]) scPc.nd (pp_seq rfl (pps_cons pp_lit (pps_cons pp_cap pps_nil))) (.cons ⟨rfl, .inl rfl, .inr rfl⟩ .nil)
          (pss_one (ps_ret (pe_and (pe_cmpR op_eq (pe_callB call_len (by rfl) B.len PySem.boot_len (pa_cons (pv 2) pa_nil)) pe_int (nomark _)) (pe_one (pe_cmpR op_ne (pv 2) pe_str (nomark _))))))
        (pcs_cons (is := [3]) scPc.nd (pp_seq rfl (pps_cons pp_lit (pps_cons pp_cap pps_nil))) (.cons ⟨rfl, .inl rfl, .inr rfl⟩ .nil)
          (pss_one (ps_ret (pe_call GAw (hr.mono (by omega)) rfl gAw kAw bAw .nil pass0 (pa_cons (pv 3) pa_nil)))) pcs_nil)))))
        (pss_one (ps_ret (pe_call GDl hr rfl gDl kDl bDl .nil pass0 (pa_cons (pv 0) pa_nil))))), ?_⟩
    obtain ⟨v, p, b, r, rfl, hd, hp, k⟩ := h
    rcases hp with ⟨kk, x, rfl, hk, hx, rfl, _⟩ | ⟨ws, bw, rw', rfl, hw, rfl, _⟩ | hp
    · have lx : x.length ≤ big := Nat.le_trans hx.len (by decide)
      obtain ⟨q, x1, rfl, hq, h1⟩ := pc_two hd
      cases h1
      have e0 : txtB false kk x = (if kk = "bare" then isBareB (cs x) else if kk = "held" then !decide (39 ∈ cs x) else if kk = "mark" then decide (x.length = 1) && decide (x ≠ "
") else false) := by
        unfold txtB
        rw [if_neg (by decide)]
      rw [e0] at k
      by_cases c1 : kk = "bare"
      · subst c1
        rw [if_pos rfl] at k
        exact ⟨_, rfl, case_hit hq hit_lit ⟨_, rfl, x, rfl, lx, fun H1 s1 => k H1 s1⟩⟩
      rw [if_neg c1] at k
      by_cases c2 : kk = "held"
      · subst c2
        rw [if_pos rfl] at k
        exact ⟨_, rfl, case_miss hq (.inl (miss_lit c1)) (case_hit hq hit_lit ⟨_, rfl, 39, x, rfl, rfl, k H (Same.refl H)⟩)⟩
      rw [if_neg c2] at k
      by_cases c3 : kk = "mark"
      · subst c3
        rw [if_pos rfl] at k
        have z := k H (Same.refl H)
        refine ⟨_, rfl, case_miss hq (.inl (miss_lit c1)) (case_miss hq (.inl (miss_lit c2)) (case_hit hq hit_lit ?_))⟩
        refine ⟨_, rfl, .str x, x.length, rfl, ⟨small_line (Nat.le_trans hx.len (by decide)), rfl⟩, rfl, _, rfl, ?_⟩
        by_cases l1 : x.length = 1
        · rw [decide_eq_true l1, Bool.true_and] at z
          refine if_yes (by rw [l1]; decide) ⟨_, rfl, rfl, ?_⟩
          by_cases c0 : x = "
"
          · subst c0
            rw [decide_eq_true rfl]
            rw [decide_eq_false (fun h => h rfl)] at z
            exact z
          · rw [decide_eq_false (fun z => c0 (V.str.inj z))]
            rw [decide_eq_true c0] at z
            exact z
        · rw [decide_eq_false l1, Bool.false_and] at z
          refine if_no (decide_eq_false fun w => l1 ?_) z
          injection w with w
          omega
      rw [if_neg c3] at k
      exact ⟨_, rfl, case_miss hq (.inl (miss_lit c1)) (case_miss hq (.inl (miss_lit c2)) (case_miss hq (.inl (miss_lit c3)) (case_miss hq (.inl (miss_lit hk.wide)) ⟨_, rfl, .ref q, _, false, rfl, hd, .inr ⟨rfl, .inl ⟨kk, x, rfl, hk⟩⟩, k⟩)))⟩
    · obtain ⟨q, x1, rfl, hq, h1⟩ := pc_two hd
      exact ⟨_, rfl, case_miss hq (.inl (miss_lit (by decide +kernel))) (case_miss hq (.inl (miss_lit (by decide +kernel))) (case_miss hq (.inl (miss_lit (by decide +kernel))) (case_hit hq hit_lit ⟨_, rfl, x1, ws, _, rw', rfl, h1, hw, k⟩)))⟩
    · have go : spDl K CR n ([v] ++ []) H Q E0 := ⟨v, p, b, rfl, hd, .inl ⟨r, hp⟩, k⟩
      rcases hp with ⟨x, d, bd, rfl, _⟩ | ⟨t, rfl, _⟩ | ⟨cs, bs, rfl, _⟩
      · obtain ⟨q, x1, x2, rfl, hq, _⟩ := pc_three hd
        exact ⟨_, rfl, len_miss hq (by simp) (len_miss hq (by simp) (len_miss hq (by simp) (len_miss hq (by simp) ⟨_, rfl, go⟩)))⟩
      · obtain ⟨q, x1, rfl, hq, _⟩ := pc_two hd
        exact ⟨_, rfl, case_miss hq (.inl (miss_lit (by decide +kernel))) (case_miss hq (.inl (miss_lit (by decide +kernel))) (case_miss hq (.inl (miss_lit (by decide +kernel))) (case_miss hq (.inl (miss_lit (by decide +kernel))) ⟨_, rfl, go⟩)))⟩
      · obtain ⟨q, x1, rfl, hq, _⟩ := pc_two hd
        exact ⟨_, rfl, case_miss hq (.inl (miss_lit (by decide +kernel))) (case_miss hq (.inl (miss_lit (by decide +kernel))) (case_miss hq (.inl (miss_lit (by decide +kernel))) (case_miss hq (.inl (miss_lit (by decide +kernel))) ⟨_, rfl, go⟩)))⟩
abbrev sAp : Stmt := top 38
abbrev nAp : List Str := ["pieces", "piece"]
theorem scAp : FnScope nAp ["pieces"] (defScope sAp) := ⟨rfl, rfl, rfl, by decide +kernel, rfl, by decide +kernel, by decide +kernel⟩
theorem has_Ap {CR : PyData → Bool → Prop} {n L : Nat} (l1 : 1 ≤ L) (l14 : n ≤ 5) {f : Addr} {fd : FuncData}  (F : Fun K "are_pieces" "are_pieces" sAp f fd) (g : mg "are_pieces" = some (.ref f)) (B : Blt mg) (hHn : Has P w K mg base 1 "has_neighbours" ["pieces", "kind"] (spNb K)) (hSb : Has P w K mg base L "is_piece" ["piece"] (spPc K CR n false)) :
    Has P w K mg base (L + 1) "are_pieces" ["pieces"] (spWs K CR (n + 1) false) := by
  obtain ⟨fHn, dHn, gHn, kHn, bHn, GHn⟩ := hHn
  obtain ⟨fPc, dPc, gPc, kPc, bPc, GPc⟩ := hSb
  refine has_of F g (F.binds (ps := ["pieces"]) fun _ _ _ _ _ _ us hl => match us, hl with | [_], _ => rfl) (F.ok scAp (fun vs H Q E h => ?_) (fun cdv A outer s H vs Q E hr h => ?_))
  · obtain ⟨v, ws, b, r, rfl, _⟩ := h
    rfl
  · refine ⟨_, (pss_one (ps_ret (pe_and (pe_callB (cr_all rfl) (by rfl) B.all (by decide +kernel) (pa_cons (pe_lc (own := [("piece", 1)]) (g := gName 1) (tt := tYes) rfl scAp.nd (pi_list (pv 0)) (blkOk_by (N := nAp) (sc := defScope sAp) (by decide +kernel)) (fun _ _ _ _ _ => pg_name (i := 1) scAp.nd rfl (.inl rfl)) (fun _ _ _ _ _ => pts_nil) (fun _ _ _ _ _ => (pe_call GPc hr rfl gPc kPc bPc .nil pass0 (pa_cons (pv 1) pa_nil)))) pa_nil)) (pe_one (pe_not (pe_call GHn (hr.mono (by omega)) rfl gHn kHn bHn .nil pass0 (pa_cons (pv 0) (pa_cons pe_str pa_nil)))))))), ?_⟩
    obtain ⟨v, ws, b, r, rfl, hd, hw, k⟩ := h
    have heads := ws_head hw
    obtain ⟨hl, ps, all, rfl, _⟩ := hw
    obtain ⟨a, xs, rfl, hq, dall⟩ := dp_lst hd
    have lx := dpLen dall
    have lp := all.len
    refine ⟨_, rfl, a, rfl, ⟨_, hq⟩, fun D hD => lc_all (bs := ps.map (·.1)) hq hD (by rw [List.length_map, lx, lp]) (by rw [lx]; omega) (fun i x b' H' Q' hx hb s1 q => ?_) (fun H1 s1 q1 => ?_)⟩
    · obtain ⟨d, hdi, dp⟩ := dpAt' dall hx
      obtain ⟨pq, hpq, hr'⟩ := all.at hdi
      rw [List.getElem?_map, hpq] at hb
      obtain rfl := Option.some.inj hb
      exact ⟨rfl, _, rfl, x, d, pq.1, pq.2, rfl, dp_same s1 dp, hr', q⟩
    · refine ⟨D, _, rfl, q1, _, rfl, ?_⟩
      have e : (ps.map (·.1)).all id = ps.all (·.1) := by rw [List.all_map]; rfl
      rw [e]
      cases c : ps.all (·.1) with
      | false =>
        rw [c] at k
        exact if_no rfl (k _ s1)
      | true =>
        rw [c] at k
        exact if_yes rfl ⟨_, rfl, .ref a, "bare", ws, rfl, dp_same s1 hd, by omega, heads, fun H2 s2 => ⟨_, rfl, k H2 (s1.trans s2)⟩⟩
abbrev sAw : Stmt := top 39
abbrev nAw : List Str := ["pieces", "piece"]
theorem scAw : FnScope nAw ["pieces"] (defScope sAw) := ⟨rfl, rfl, rfl, by decide +kernel, rfl, by decide +kernel, by decide +kernel⟩
theorem has_Aw {CR : PyData → Bool → Prop} {n L : Nat} (l1 : 1 ≤ L) (l14 : n ≤ 5) {f : Addr} {fd : FuncData}  (F : Fun K "are_wide" "are_wide" sAw f fd) (g : mg "are_wide" = some (.ref f)) (B : Blt mg) (hHn : Has P w K mg base 1 "has_neighbours" ["pieces", "kind"] (spNb K)) (hSb : Has P w K mg base L "is_wide_piece" ["piece"] (spPc K CR n true)) :
    Has P w K mg base (L + 1) "are_wide" ["pieces"] (spWs K CR (n + 1) true) := by
  obtain ⟨fHn, dHn, gHn, kHn, bHn, GHn⟩ := hHn
  obtain ⟨fWp, dWp, gWp, kWp, bWp, GWp⟩ := hSb
  refine has_of F g (F.binds (ps := ["pieces"]) fun _ _ _ _ _ _ us hl => match us, hl with | [_], _ => rfl) (F.ok scAw (fun vs H Q E h => ?_) (fun cdv A outer s H vs Q E hr h => ?_))
  · obtain ⟨v, ws, b, r, rfl, _⟩ := h
    rfl
  · refine ⟨_, (pss_one (ps_ret (pe_and (pe_callB (cr_all rfl) (by rfl) B.all (by decide +kernel) (pa_cons (pe_lc (own := [("piece", 1)]) (g := gName 1) (tt := tYes) rfl scAw.nd (pi_list (pv 0)) (blkOk_by (N := nAw) (sc := defScope sAw) (by decide +kernel)) (fun _ _ _ _ _ => pg_name (i := 1) scAw.nd rfl (.inl rfl)) (fun _ _ _ _ _ => pts_nil) (fun _ _ _ _ _ => (pe_call GWp hr rfl gWp kWp bWp .nil pass0 (pa_cons (pv 1) pa_nil)))) pa_nil)) (pe_one (pe_not (pe_call GHn (hr.mono (by omega)) rfl gHn kHn bHn .nil pass0 (pa_cons (pv 0) (pa_cons pe_str pa_nil)))))))), ?_⟩
    obtain ⟨v, ws, b, r, rfl, hd, hw, k⟩ := h
    have heads := ws_head hw
    obtain ⟨hl, ps, all, rfl, _⟩ := hw
    obtain ⟨a, xs, rfl, hq, dall⟩ := dp_lst hd
    have lx := dpLen dall
    have lp := all.len
    refine ⟨_, rfl, a, rfl, ⟨_, hq⟩, fun D hD => lc_all (bs := ps.map (·.1)) hq hD (by rw [List.length_map, lx, lp]) (by rw [lx]; omega) (fun i x b' H' Q' hx hb s1 q => ?_) (fun H1 s1 q1 => ?_)⟩
    · obtain ⟨d, hdi, dp⟩ := dpAt' dall hx
      obtain ⟨pq, hpq, hr'⟩ := all.at hdi
      rw [List.getElem?_map, hpq] at hb
      obtain rfl := Option.some.inj hb
      exact ⟨rfl, _, rfl, x, d, pq.1, pq.2, rfl, dp_same s1 dp, hr', q⟩
    · refine ⟨D, _, rfl, q1, _, rfl, ?_⟩
      have e : (ps.map (·.1)).all id = ps.all (·.1) := by rw [List.all_map]; rfl
      rw [e]
      cases c : ps.all (·.1) with
      | false =>
        rw [c] at k
        exact if_no rfl (k _ s1)
      | true =>
        rw [c] at k
        exact if_yes rfl ⟨_, rfl, .ref a, "plain", ws, rfl, dp_same s1 hd, by omega, heads, fun H2 s2 => ⟨_, rfl, k H2 (s1.trans s2)⟩⟩
/-- words and what stands in double quotes, by depth -/
theorem ok_words {CR : PyData → Bool → Prop} {fAp fAw fPc fWp fDl fDd : Addr} {dAp dAw dPc dWp dDl dDd : FuncData} (FAp : Fun K "are_pieces" "are_pieces" sAp fAp dAp) (gAp : mg "are_pieces" = some (.ref fAp)) (FAw : Fun K "are_wide" "are_wide" sAw fAw dAw) (gAw : mg "are_wide" = some (.ref fAw)) (FPc : Fun K "is_piece" "is_piece" sPc fPc dPc) (gPc : mg "is_piece" = some (.ref fPc)) (FWp : Fun K "is_wide_piece" "is_wide_piece" sWp fWp dWp) (gWp : mg "is_wide_piece" = some (.ref fWp))
    (FDl : Fun K "is_dollar" "is_dollar" sDl fDl dDl) (gDl : mg "is_dollar" = some (.ref fDl)) (FDd : Fun K "is_deed_on" "is_deed_on" sDd fDd dDd) (gDd : mg "is_deed_on" = some (.ref fDd)) (B : Blt mg) (W : Wrt K w mg)
    (hSz : Has P w K mg base 1 "is_shown_as_size" ["name", "deed"] (spSz K)) (hHn : Has P w K mg base 1 "has_neighbours" ["pieces", "kind"] (spNb K)) (hIb : Has P w K mg base 1 "is_bare" ["text"] (spIb)) (hIp : Has P w K mg base 1 "is_place" ["text"] (spIp)) (hNn : Has P w K mg base 2 "is_name" ["text"] (spNn)) (hIs : Has P w K mg base 18 "is_sum" ["tree"] (spIsT K 15)) :
    ∀ n, n ≤ 5 → Has P w K mg base (20 + 4 * n) "are_pieces" ["pieces"] (spWs K CR n false) ∧ Has P w K mg base (20 + 4 * n) "are_wide" ["pieces"] (spWs K CR n true)
  | 0, _ => by
    constructor
    · exact has_of FAp gAp (FAp.binds (ps := ["pieces"]) fun _ _ _ _ _ _ us hl => match us, hl with | [_], _ => rfl) (FAp.ok scAp (fun vs H Q E h => by obtain ⟨_, _, _, _, _, _, h, _⟩ := h; exact h.elim) (fun cdv A outer s H vs Q E hr h => by obtain ⟨_, _, _, _, _, _, h, _⟩ := h; exact h.elim))
    · exact has_of FAw gAw (FAw.binds (ps := ["pieces"]) fun _ _ _ _ _ _ us hl => match us, hl with | [_], _ => rfl) (FAw.ok scAw (fun vs H Q E h => by obtain ⟨_, _, _, _, _, _, h, _⟩ := h; exact h.elim) (fun cdv A outer s H vs Q E hr h => by obtain ⟨_, _, _, _, _, _, h, _⟩ := h; exact h.elim))
  | n + 1, l => by
    obtain ⟨hAp, hAw⟩ := ok_words (CR := CR) FAp gAp FAw gAw FPc gPc FWp gWp FDl gDl FDd gDd B W hSz hHn hIb hIp hNn hIs n (by omega)
    have hDd := has_Dd (L := 20 + 4 * n) (by omega) (by omega) FDd gDd B W hSz hAp
    have hDl := has_Dl (L := 20 + 4 * n + 1) (by omega) (by omega) FDl gDl B hDd hIp hNn hIs
    have hWp := has_Wp FWp gWp B hDl
    have hPc := has_Pc (L' := 20 + 4 * n) (by omega) (by omega) FPc gPc B hIb hAw hDl
    exact ⟨has_Ap (L := 20 + 4 * n + 3) (by omega) (by omega) FAp gAp B hHn hPc, has_Aw (L := 20 + 4 * n + 3) (by omega) (by omega) FAw gAw B hHn hWp⟩
end
end Qb
end PySem
namespace PySem
namespace Qb
open PySem.W PySem.Calls PyProof.Rows L2
/-! # commands that are right, of any kind -/
def beginsB (l : List Nat) : Bool := decide (0 < nameLen l) && (l[nameLen l]? == some 61)
theorem cut_one (x : Str) (n : Nat) : cutS x (some (n : Int)) (some ((n : Int) + 1)) = ("=" : Str) ↔ (cs x)[n]? = some 61 := by
  have h1 : HT.sIx x.length 0 (some (n : Int)) = min n x.length := HT.sIx_nat ..
  have h2 : HT.sIx x.length x.length (some ((n : Int) + 1)) = min (n + 1) x.length := HT.sIx_nat x.length x.length (n + 1)
  have hl := len_cs x
  have hq : ("=" : Str) = ⟨#[61]⟩ := by decide +kernel
  unfold cutS
  rw [h1, h2, hq]
  have key : ((cs x).drop (min n x.length)).take (min (n + 1) x.length - min n x.length) = [61] ↔ (cs x)[n]? = some 61 := by
    by_cases hn : n < (cs x).length
    · have e1 : min n x.length = n := by omega
      have e2 : min (n + 1) x.length - n = 1 := by omega
      rw [e1, e2, List.drop_eq_getElem_cons hn, List.getElem?_eq_getElem hn]
      simp
    · have e1 : min n x.length = x.length := by omega
      rw [e1, List.drop_eq_nil_of_le (by omega), List.getElem?_eq_none (by omega)]
      simp
  rw [← key]
  constructor
  · intro z
    have y := congrArg (fun s : Str => s.cps.toList) z
    simpa using y
  · intro z
    rw [z]
/-- v == [] -/
theorem rd_eqnil {K : Frag} {σ : L2.St} {H : Hp} {Q : VK} {i : Nat} {v : V} {ds : List PyData} (hv : σ[i]? = some (some v)) (hd : Dp K H v (.list ds)) (hs : SeqAt.shaped (.list ds) = true) (k : ∀ H1, Same H H1 → Q (.bl ds.isEmpty) H1) :
    tOp (rEqD K) (tVar i) (tLst tNil) σ H Q := by
  refine ⟨v, hv, (by decide : 0 ≤ sizeLine), fun p np => ?_⟩
  have s1 := same_upd (o := .lst []) np
  refine ⟨.list ds, .list [], dp_same s1 hd, .lst (SqL.of upd_same) .nil, hs, by decide, ?_⟩
  rw [eqv_nil]
  exact k _ s1
theorem rd_nenil {K : Frag} {σ : L2.St} {H : Hp} {Q : VK} {i : Nat} {v : V} {ds : List PyData} (hv : σ[i]? = some (some v)) (hd : Dp K H v (.list ds)) (hs : SeqAt.shaped (.list ds) = true) (k : ∀ H1, Same H H1 → Q (.bl (!ds.isEmpty)) H1) :
    tOp (rNeD K) (tVar i) (tLst tNil) σ H Q := by
  refine ⟨v, hv, (by decide : 0 ≤ sizeLine), fun p np => ?_⟩
  have s1 := same_upd (o := .lst []) np
  refine ⟨.list ds, .list [], dp_same s1 hd, .lst (SqL.of upd_same) .nil, hs, by decide, ?_⟩
  rw [eqv_nil]
  exact k _ s1
theorem dec_str (x y : Str) : decide (V.str x = V.str y) = decide (x = y) := by
  by_cases h : x = y
  · rw [decide_eq_true h, decide_eq_true (congrArg V.str h)]
  · rw [decide_eq_false h, decide_eq_false fun z => h (V.str.inj z)]
abbrev spBs : Sp := spTxt fun x => .bl (beginsB (cs x))
theorem sh_ti {n : Nat} {ds : List PyData} (h : Sh n (.tuple ds)) : ∀ d ∈ ds, Sh n d := fun d m => by
  have h1 := h.1
  have h2 := h.2
  rw [PyData.canLay0.eq_6] at h1
  rw [PyData.depth.eq_2] at h2
  have key : ∀ l : List PyData, PyData.canLayAll0 l = true → d ∈ l → d.canLay0 = true ∧ d.depth ≤ PyData.depthAll l := by
    intro l
    induction l with
    | nil => intro _ m; cases m
    | cons e l ih =>
      intro hc m
      rw [PyData.canLayAll0.eq_2, Bool.and_eq_true] at hc
      rw [PyData.depthAll.eq_2]
      rcases List.mem_cons.mp m with rfl | m
      · exact ⟨hc.1, Nat.le_max_left _ _⟩
      · exact ⟨(ih hc.2 m).1, Nat.le_trans (ih hc.2 m).2 (Nat.le_max_right _ _)⟩
  have z := key ds h1 m
  exact ⟨z.1, by omega⟩
theorem sh_li {n : Nat} {ds : List PyData} (h : Sh n (.list ds)) : ∀ d ∈ ds, Sh n d := fun d m => by
  have h1 := h.1
  have h2 := h.2
  rw [PyData.canLay0.eq_5] at h1
  rw [PyData.depth.eq_1] at h2
  exact sh_ti (n := n) (ds := ds) ⟨by rw [PyData.canLay0.eq_6]; exact h1, by rw [PyData.depth.eq_2]; exact h2⟩ d m
/-- the answer of what lies in a run: commands that are right -/
def CRg (C : PyData → Prop) : PyData → Bool → Prop := fun c b => b = true ∧ C c
def WdR (C : PyData → Prop) (w : List PyData) : Prop := WsR (CRg C) 5 false w true true
def WsO (C : PyData → Prop) (ws : List PyData) : Prop := ws.length ≤ 50 ∧ ∀ w ∈ ws, ∃ l, w = .list l ∧ WdR C l ∧ l ≠ []
def pmW : List Str := ["<", ">", ">>"]
def smW : List Str := ["0", "1", "2", "-"]
def bareD (x : Str) : PyData := .tuple [.str "bare", .str x]
def TuR (C : PyData → Prop) (t : PyData) : Prop := ∃ (k : Int) (m : Str) (l : List PyData), t = .tuple [.int k, .str m, .list l] ∧ (k = 0 ∨ k = 1 ∨ k = 2) ∧ ((m ∈ pmW ∧ WdR C l ∧ l ≠ []) ∨ (m = ">&" ∧ ∃ s ∈ smW, l = [bareD s]))
def TsR (C : PyData → Prop) (ts : List PyData) : Prop := ts.length ≤ 50 ∧ ∀ t ∈ ts, TuR C t
def StR (C : PyData → Prop) (s : PyData) : Prop := ∃ (x : Str) (l : List PyData), s = .tuple [.str x, .list l] ∧ isNameB (cs x) = true ∧ x.length ≤ 1000 ∧ WdR C l
def SsR (C : PyData → Prop) (ss : List PyData) : Prop := ss.length ≤ 50 ∧ ∀ s ∈ ss, StR C s
def keyP : PyData → Bool
  | .tuple [.str k, .str x] => decide (k = "bare") && decide (x ∈ keyW)
  | _ => false
def keyB : List PyData → Bool
  | [p] => keyP p
  | _ => false
def begB : PyData → Bool
  | .tuple [.str k, .str x] => decide (k = "bare") && beginsB (cs x)
  | _ => false
def fwB (ss : List PyData) : List PyData → Bool
  | [] => false
  | p :: r => !(ss.isEmpty && keyB (p :: r)) && !begB p
def DoR (C : PyData → Prop) (ss ws ts : List PyData) : Prop := SsR C ss ∧ WsO C ws ∧ TsR C ts ∧ (ss ≠ [] ∨ ws ≠ [] ∨ ts ≠ []) ∧ ∀ l r, ws = .list l :: r → fwB ss l = true
/-- a piece is a bare text, or begins otherwise -/
theorem pc_bare {CR : PyData → Bool → Prop} {Wb Ww : WR} {i : Bool} {p : PyData} {b r : Bool} (h : PcR CR Wb Ww i p b r) : (∃ x, p = bareD x ∧ Tx x) ∨ ∃ y l, p = .tuple (.str y :: l) ∧ y ≠ "bare" ∧ begB p = false := by
  rcases h with ⟨k, x, rfl, hk, hx, _⟩ | ⟨w, bw, rw, rfl, _⟩ | ⟨x, d, bd, rfl, _⟩ | ⟨t, rfl, _⟩ | ⟨cs, bs, rfl, _⟩
  · by_cases e : k = "bare"
    · subst e; exact .inl ⟨x, rfl, hx⟩
    · refine .inr ⟨k, _, rfl, e, ?_⟩
      show (decide (k = "bare") && _) = false
      rw [decide_eq_false e, Bool.false_and]
  · exact .inr ⟨_, _, rfl, by decide +kernel, rfl⟩
  · exact .inr ⟨_, _, rfl, by decide +kernel, rfl⟩
  · refine .inr ⟨_, _, rfl, by decide +kernel, ?_⟩
    obtain ⟨ds, e⟩ : ∃ ds, t.d = .tuple ds := by
      cases t with
      | odd b => cases b <;> exact ⟨_, rfl⟩
      | _ => exact ⟨_, rfl⟩
    rw [e]
    rfl
  · exact .inr ⟨_, _, rfl, by decide +kernel, rfl⟩
theorem wd_at {C : PyData → Prop} {l : List PyData} (h : WdR C l) : ∀ p ∈ l, (∃ x, p = bareD x ∧ Tx x) ∨ ∃ y m, p = .tuple (.str y :: m) ∧ y ≠ "bare" ∧ begB p = false := fun p m => by
  obtain ⟨_, ps, al, _, _⟩ := h
  obtain ⟨q, _, hp⟩ := al.mem m
  exact pc_bare hp
theorem wd_len {C : PyData → Prop} {l : List PyData} (h : WdR C l) : l.length ≤ 7 := h.1
def spKw (K : Frag) (C : PyData → Prop) : Sp := fun vs H Q _ => ∃ v l, vs = [v] ∧ Dp K H v (.list l) ∧ WdR C l ∧ l ≠ [] ∧ ∀ H', Same H H' → Q (.bl (keyB l)) H'
def spFi (K : Frag) (C : PyData → Prop) : Sp := fun vs H Q _ => ∃ v u l ss, vs = [v, u] ∧ Dp K H v (.list l) ∧ Dp K H u (.list ss) ∧ WdR C l ∧ l ≠ [] ∧ SeqAt.shaped (.list ss) = true ∧ ∀ H', Same H H' → Q (.bl (fwB ss l)) H'
/-- a full word that is right -/
def spFw (K : Frag) (C : PyData → Prop) : Sp := fun vs H Q _ => ∃ v l, vs = [v] ∧ Dp K H v (.list l) ∧ SeqAt.shaped (.list l) = true ∧ WdR C l ∧ l ≠ [] ∧ ∀ H', Same H H' → Q (.bl true) H'
def spAws (K : Frag) (C : PyData → Prop) : Sp := fun vs H Q _ => ∃ v ws, vs = [v] ∧ Dp K H v (.list ws) ∧ WsO C ws ∧ Sh 60 (.list ws) ∧ ∀ H', Same H H' → Q (.bl true) H'
def spTu (K : Frag) (C : PyData → Prop) : Sp := fun vs H Q _ => ∃ k m v l, vs = [.int k, .str m, v] ∧ Dp K H v (.list l) ∧ TuR C (.tuple [.int k, .str m, .list l]) ∧ Sh 60 (.list l) ∧ ∀ H', Same H H' → Q (.bl true) H'
def spAt (K : Frag) (C : PyData → Prop) : Sp := fun vs H Q _ => ∃ v ts, vs = [v] ∧ Dp K H v (.list ts) ∧ TsR C ts ∧ Sh 60 (.list ts) ∧ ∀ H', Same H H' → Q (.bl true) H'
def spDo (K : Frag) (C : PyData → Prop) : Sp := fun vs H Q _ => ∃ v u t ss ws ts, vs = [v, u, t] ∧ Dp K H v (.list ss) ∧ Dp K H u (.list ws) ∧ Dp K H t (.list ts) ∧ DoR C ss ws ts ∧ Sh 60 (.list ss) ∧ Sh 60 (.list ws) ∧ Sh 60 (.list ts) ∧ ∀ H', Same H H' → Q (.bl true) H'
/-- marks and names of the top that commands read -/
structure WrtC (K : Frag) (mg : Str → Option Value) : Prop where
  pms : ∃ p, mg "PATH_MARKS" = some (.ref p) ∧ ∀ H, SqT K H p (pmW.map V.str)
  sms : ∃ p, mg "SAME_PIECES" = some (.ref p) ∧ ∀ H, Dp K H (.ref p) (.tuple (smW.map bareD))
section
variable {P : Program} {w : World} {K : Frag} {mg : Str → Option Value} {base : Heap}
abbrev sBs : Stmt := top 14
abbrev nBs : List Str := ["text", "length"]
theorem scBs : FnScope nBs ["text"] (defScope sBs) := ⟨rfl, rfl, rfl, by decide +kernel, rfl, by decide +kernel, by decide +kernel⟩
theorem has_Bs {f : Addr} {fd : FuncData}  (F : Fun K "begins_set" "begins_set" sBs f fd) (g : mg "begins_set" = some (.ref f)) (B : Blt mg) (hNl : Has P w K mg base 1 "name_length" ["text"] (spNl)) :
    Has P w K mg base 2 "begins_set" ["text"] (spBs) := by
  obtain ⟨fNl, dNl, gNl, kNl, bNl, GNl⟩ := hNl
  refine has_of F g (F.binds (ps := ["text"]) fun _ _ _ _ _ _ us hl => match us, hl with | [_], _ => rfl) (F.ok scBs (fun vs H Q E h => ?_) (fun cdv A outer s H vs Q E hr h => ?_))
  · obtain ⟨x, rfl, _⟩ := h
    rfl
  · refine ⟨_, (pss_cons (ps_set (i := 1) scBs.nd rfl (.inl rfl) (pe_call GNl hr rfl gNl kNl bNl .nil pass0 (pa_cons (pv 0) pa_nil)))
        (pss_one (ps_ret (pe_and (pe_cmpR op_gt (pv 1) pe_int (nomark _)) (pe_one (pe_cmpR op_eq (pe_slice sl_str (pv 0) (po_some (pv 1)) (po_some (pe_op op_add (pv 1) pe_int))) pe_str (nomark _))))))), ?_⟩
    obtain ⟨x, rfl, hx, k⟩ := h
    have hz := big_line hx
    refine ⟨_, rfl, x, rfl, hx, fun H1 s1 => ⟨_, rfl, _, _, rfl, rfl, _, rfl, ?_⟩⟩
    have done : ∀ b, beginsB (cs x) = b → Q (.bl b) H1 := fun b e => by
      have z : Q (.bl (beginsB (cs x))) H1 := k H1 s1
      rw [e] at z
      exact z
    by_cases h0 : 0 < nameLen (cs x)
    · have h0' : (0 : Int) < (nameLen (cs x) : Int) := by omega
      refine if_yes (by simpa using h0) ⟨_, rfl, _, rfl, _, rfl, _, rfl, _, _, rfl, rfl, _, rfl, x, rfl, hz, rfl, ?_⟩
      refine done _ ?_
      unfold beginsB
      rw [decide_eq_true h0, Bool.true_and]
      have cut := cut_one x (nameLen (cs x))
      show ((cs x)[nameLen (cs x)]? == some 61) = decide (V.str (cutS x (some (nameLen (cs x) : Int)) (some ((nameLen (cs x) : Int) + 1))) = V.str "=")
      by_cases q : (cs x)[nameLen (cs x)]? = some 61
      · rw [decide_eq_true (congrArg V.str (cut.mpr q)), q]
        rfl
      · rw [decide_eq_false (fun z => q (cut.mp (V.str.inj z))), beq_eq_false_iff_ne.mpr q]
    · refine if_no (by simpa using h0) (done false ?_)
      unfold beginsB
      rw [decide_eq_false h0]
      rfl
abbrev sKw : Stmt := top 58
abbrev nKw : List Str := ["word"]
theorem scKw : FnScope nKw ["word"] (defScope sKw) := ⟨rfl, rfl, rfl, by decide +kernel, rfl, by decide +kernel, by decide +kernel⟩
theorem has_Kw {C : PyData → Prop} {f : Addr} {fd : FuncData}  (F : Fun K "is_key_word" "is_key_word" sKw f fd) (g : mg "is_key_word" = some (.ref f)) (B : Blt mg) (W : Wrt K w mg) :
    Has P w K mg base 1 "is_key_word" ["word"] (spKw K C) := by
  obtain ⟨pK, gK, sK⟩ := W.kws
  refine has_of F g (F.binds (ps := ["word"]) fun _ _ _ _ _ _ us hl => match us, hl with | [_], _ => rfl) (F.ok scKw (fun vs H Q E h => ?_) (fun cdv A outer s H vs Q E hr h => ?_))
  · obtain ⟨v, l, rfl, _⟩ := h
    rfl
  · refine ⟨_, (pss_one (ps_ret (pe_and (pe_cmpR op_eq (pe_callB call_len_seq (by rfl) B.len PySem.boot_len (pa_cons (pv 0) pa_nil)) pe_int (nomark _)) (pe_and (pe_cmpR op_eq (pe_ix ix_tup (pe_ix ix_list (pv 0) pe_int (fun _ _ => rfl)) pe_int (fun _ _ => rfl)) pe_str (nomark _)) (pe_one (pe_cmpR op_in_seq (pe_ix ix_tup (pe_ix ix_list (pv 0) pe_int (fun _ _ => rfl)) pe_int (fun _ _ => rfl)) (pe_glob (v := .ref pK) (by rfl) gK rfl) (by rfl))))))), ?_⟩
    obtain ⟨v, l, rfl, hd, hw, ne, k⟩ := h
    obtain ⟨a, xs, rfl, hq, all⟩ := dp_lst hd
    have lx := dpLen all
    have ll := wd_len hw
    refine ⟨_, rfl, a, xs, rfl, .inl hq, rfl, _, rfl, ?_⟩
    cases l with
    | nil => exact absurd rfl ne
    | cons p r =>
    cases r with
    | cons q r =>
      refine if_no (decide_eq_false fun z => ?_) ?_
      · have := V.int.inj z
        rw [lx] at this
        have : ((p :: q :: r).length : Int) = 1 := this
        rw [List.length_cons, List.length_cons] at this
        omega
      · have e : keyB (p :: q :: r) = false := rfl
        rw [e] at k
        exact k H (Same.refl H)
    | nil =>
      refine if_yes (decide_eq_true (by rw [lx]; rfl)) ?_
      cases all with
      | @cons x _ xs _ h1 t1 =>
      cases t1
      rcases wd_at hw p (.head _) with ⟨x', rfl, hx⟩ | ⟨y, m, rfl, hy, _⟩
      · obtain ⟨b, rfl, q1⟩ := dp_two h1
        refine ⟨_, rfl, a, _, 0, _, rfl, rfl, hq, atI_nat (j := 0) rfl, b, _, 0, _, rfl, rfl, q1, atI_nat (j := 0) rfl, rfl, _, rfl, if_yes (by decide +kernel) ?_⟩
        refine ⟨_, rfl, a, _, 0, _, rfl, rfl, hq, atI_nat (j := 0) rfl, b, _, 1, _, rfl, rfl, q1, atI_nat (j := 1) rfl, pK, keyW.map V.str, rfl, .inr (sK _), rfl, by decide +kernel, ?_⟩
        have e : keyB [bareD x'] = decide (x' ∈ keyW) := by
          show (decide (("bare" : Str) = "bare") && _) = _
          rw [show decide (("bare" : Str) = "bare") = true from by decide +kernel]
          rfl
        rw [if_neg (by decide : ¬ false = true), inV_iff]
        rw [e] at k
        exact k H (Same.refl H)
      · obtain ⟨b, z, rfl, q1⟩ := head_read h1
        refine ⟨_, rfl, a, _, 0, _, rfl, rfl, hq, atI_nat (j := 0) rfl, b, _, 0, _, rfl, rfl, q1, atI_nat (j := 0) rfl, rfl, _, rfl, if_no (decide_eq_false fun z => hy (V.str.inj z)) ?_⟩
        have e : keyB [.tuple (.str y :: m)] = false := by
          show keyP _ = _
          unfold keyP
          split
          · rename_i e
            injection e with e
            injection e with e1 e2
            injection e1 with e1
            rw [← e1, decide_eq_false hy, Bool.false_and]
          · rfl
        rw [e] at k
        exact k H (Same.refl H)
abbrev sFi : Stmt := top 57
abbrev nFi : List Str := ["word", "sets"]
theorem scFi : FnScope nFi ["word", "sets"] (defScope sFi) := ⟨rfl, rfl, rfl, by decide +kernel, rfl, by decide +kernel, by decide +kernel⟩
theorem has_Fi {C : PyData → Prop} {f : Addr} {fd : FuncData}  (F : Fun K "is_first_word" "is_first_word" sFi f fd) (g : mg "is_first_word" = some (.ref f)) (B : Blt mg) (hKw : Has P w K mg base 1 "is_key_word" ["word"] (spKw K C)) (hBs : Has P w K mg base 2 "begins_set" ["text"] spBs) :
    Has P w K mg base 3 "is_first_word" ["word", "sets"] (spFi K C) := by
  obtain ⟨fKw, dKw, gKw, kKw, bKw, GKw⟩ := hKw
  obtain ⟨fBs, dBs, gBs, kBs, bBs, GBs⟩ := hBs
  refine has_of F g (F.binds (ps := ["word", "sets"]) fun _ _ _ _ _ _ us hl => match us, hl with | [_, _], _ => rfl) (F.ok scFi (fun vs H Q E h => ?_) (fun cdv A outer s H vs Q E hr h => ?_))
  · obtain ⟨v, u, l, ss, rfl, _⟩ := h
    rfl
  · refine ⟨_, (pss_cons (ps_if (PW.pt (pw_and (pt_cmpR (op_eqD hr.units) (pv 1) (pe_lst pa_nil) (nomark _)) (pw_and1 (pt_val (pe_call GKw (hr.mono (by decide)) rfl gKw kKw bKw .nil pass0 (pa_cons (pv 0) pa_nil)))))) (pss_one (ps_ret pe_bl)) pss_nil)
        (pss_one (ps_ret (pe_or (pe_cmpR op_ne (pe_ix ix_tup (pe_ix ix_list (pv 0) pe_int (fun _ _ => rfl)) pe_int (fun _ _ => rfl)) pe_str (nomark _)) (pe_one (pe_not (pe_call GBs (hr.mono (by decide)) rfl gBs kBs bBs .nil pass0 (pa_cons (pe_ix ix_tup (pe_ix ix_list (pv 0) pe_int (fun _ _ => rfl)) pe_int (fun _ _ => rfl)) pa_nil)))))))), ?_⟩
    obtain ⟨v, u, l, ss, rfl, hd, hu, hw, ne, sh, k⟩ := h
    cases l with
    | nil => exact absurd rfl ne
    | cons p r =>
    have tail : ∀ H1, Same H H1 → (ss.isEmpty && keyB (p :: r)) = false → tOrV (tOp rNe (tOp (rIxT K) (tOp (rIxL K) (tVar 0) (tC (.int 0))) (tC (.int 0))) (tC (.str "bare"))) (tNotV (tCall spBs [] E0 (tCons (tOp (rIxT K) (tOp (rIxL K) (tVar 0) (tC (.int 0))) (tC (.int 1))) tNil)))
        (L2.start nFi [v, u]) H1 Q := fun H1 s1 e => by
      have k : ∀ H', Same H H' → Q (.bl (!begB p)) H' := fun H' s' => by
        have z := k H' s'
        rw [show fwB ss (p :: r) = !begB p from by show (!(ss.isEmpty && keyB (p :: r)) && !begB p) = _; rw [e]; rfl] at z
        exact z
      obtain ⟨a, xs, rfl, hq, all⟩ := dp_lst (dp_same s1 hd)
      cases all with
      | @cons x _ xs _ h1 t1 =>
      rcases wd_at hw p (.head _) with ⟨x', rfl, hx⟩ | ⟨y, m, rfl, hy, hb⟩
      · obtain ⟨b, rfl, q1⟩ := dp_two h1
        refine ⟨_, rfl, a, _, 0, _, rfl, rfl, hq, atI_nat (j := 0) rfl, b, _, 0, _, rfl, rfl, q1, atI_nat (j := 0) rfl, rfl, _, rfl, if_no (by decide +kernel) ?_⟩
        refine ⟨_, rfl, a, _, 0, _, rfl, rfl, hq, atI_nat (j := 0) rfl, b, _, 1, _, rfl, rfl, q1, atI_nat (j := 1) rfl, x', rfl, Nat.le_trans hx.len (by decide), fun H3 s3 => ⟨_, rfl, ?_⟩⟩
        have e : begB (bareD x') = beginsB (cs x') := by
          show (decide (("bare" : Str) = "bare") && _) = _
          rw [show decide (("bare" : Str) = "bare") = true from by decide +kernel]
          rfl
        rw [e] at k
        exact k H3 (s1.trans s3)
      · obtain ⟨b, z, rfl, q1⟩ := head_read h1
        refine ⟨_, rfl, a, _, 0, _, rfl, rfl, hq, atI_nat (j := 0) rfl, b, _, 0, _, rfl, rfl, q1, atI_nat (j := 0) rfl, rfl, _, rfl, if_yes (by rw [decide_eq_false fun z => hy (V.str.inj z)]; rfl) ?_⟩
        rw [hb] at k
        exact k H1 s1
    refine rd_eqnil rfl hu sh fun H1 s1 => ⟨_, rfl, if_by (fun e => ⟨_, rfl, v, p :: r, rfl, dp_same s1 hd, hw, ne, fun H2 s2 => ⟨_, rfl, if_by (fun e2 => ?_) (fun e2 => ?_)⟩⟩) (fun e => if_no rfl ?_)⟩
    · have z := k H2 (s1.trans s2)
      rw [show fwB ss (p :: r) = false from by show (!(ss.isEmpty && keyB (p :: r)) && !begB p) = _; rw [e, e2]; rfl] at z
      exact z
    · exact tail _ (s1.trans s2) (by rw [e2, Bool.and_false])
    · exact tail _ s1 (by rw [e, Bool.false_and])
abbrev sFw : Stmt := top 40
abbrev nFw : List Str := ["word"]
theorem scFw : FnScope nFw ["word"] (defScope sFw) := ⟨rfl, rfl, rfl, by decide +kernel, rfl, by decide +kernel, by decide +kernel⟩
theorem has_Fw {C : PyData → Prop} {f : Addr} {fd : FuncData}  (F : Fun K "is_full_word" "is_full_word" sFw f fd) (g : mg "is_full_word" = some (.ref f)) (B : Blt mg) (hAp : Has P w K mg base 40 "are_pieces" ["pieces"] (spWs K (CRg C) 5 false)) :
    Has P w K mg base 41 "is_full_word" ["word"] (spFw K C) := by
  obtain ⟨fAp, dAp, gAp, kAp, bAp, GAp⟩ := hAp
  refine has_of F g (F.binds (ps := ["word"]) fun _ _ _ _ _ _ us hl => match us, hl with | [_], _ => rfl) (F.ok scFw (fun vs H Q E h => ?_) (fun cdv A outer s H vs Q E hr h => ?_))
  · obtain ⟨v, l, rfl, _⟩ := h
    rfl
  · refine ⟨_, (pss_one (ps_ret (pe_and (pe_cmpR (op_neD hr.units) (pv 0) (pe_lst pa_nil) (nomark _)) (pe_one (pe_call GAp (hr.mono (by decide)) rfl gAp kAp bAp .nil pass0 (pa_cons (pv 0) pa_nil)))))), ?_⟩
    obtain ⟨v, l, rfl, hd, sh, hw, ne, k⟩ := h
    refine rd_nenil rfl hd sh fun H1 s1 => ⟨_, rfl, if_yes (by cases l with | nil => exact absurd rfl ne | cons _ _ => rfl) ?_⟩
    exact ⟨_, rfl, v, l, true, true, rfl, dp_same s1 hd, hw, fun H2 s2 => k _ (s1.trans s2)⟩
abbrev sAws : Stmt := top 59
abbrev nAws : List Str := ["words", "word"]
theorem scAws : FnScope nAws ["words"] (defScope sAws) := ⟨rfl, rfl, rfl, by decide +kernel, rfl, by decide +kernel, by decide +kernel⟩
theorem has_Aws {C : PyData → Prop} {f : Addr} {fd : FuncData}  (F : Fun K "are_words" "are_words" sAws f fd) (g : mg "are_words" = some (.ref f)) (B : Blt mg) (hFw : Has P w K mg base 41 "is_full_word" ["word"] (spFw K C)) :
    Has P w K mg base 42 "are_words" ["words"] (spAws K C) := by
  obtain ⟨fFw, dFw, gFw, kFw, bFw, GFw⟩ := hFw
  refine has_of F g (F.binds (ps := ["words"]) fun _ _ _ _ _ _ us hl => match us, hl with | [_], _ => rfl) (F.ok scAws (fun vs H Q E h => ?_) (fun cdv A outer s H vs Q E hr h => ?_))
  · obtain ⟨v, ws, rfl, _⟩ := h
    rfl
  · refine ⟨_, (pss_one (ps_ret (pe_callB (cr_all rfl) (by rfl) B.all (by decide +kernel) (pa_cons (pe_lc (own := [("word", 1)]) (g := gName 1) (tt := tYes) rfl scAws.nd (pi_list (pv 0)) (blkOk_by (N := nAws) (sc := defScope sAws) (by decide +kernel)) (fun _ _ _ _ _ => pg_name (i := 1) scAws.nd rfl (.inl rfl)) (fun _ _ _ _ _ => pts_nil) (fun _ _ _ _ _ => (pe_call GFw hr rfl gFw kFw bFw .nil pass0 (pa_cons (pv 1) pa_nil)))) pa_nil)))), ?_⟩
    obtain ⟨v, ws, rfl, hd, hw, sh, k⟩ := h
    obtain ⟨a, xs, rfl, hq, all⟩ := dp_lst hd
    have lx := dpLen all
    have l50 := hw.1
    refine ⟨_, rfl, a, rfl, ⟨_, hq⟩, fun D hD => lc_all (bs := ws.map fun _ => true) hq hD (by rw [List.length_map, lx]) (by omega) (fun i x b' H' Q' hx hb s2 q => ?_) (fun H2 s2 q1 => ⟨D, _, rfl, q1, ?_⟩)⟩
    · obtain ⟨d, hdi, dp⟩ := dpAt' all hx
      rw [List.getElem?_map, hdi] at hb
      obtain rfl := Option.some.inj hb
      have m := List.mem_of_getElem? hdi
      obtain ⟨l, rfl, h1, h2⟩ := hw.2 d m
      exact ⟨rfl, _, rfl, x, l, rfl, dp_same s2 dp, sh_ok (sh_li sh _ m), h1, h2, fun H3 s3 => q H3 s3⟩
    · have e : (ws.map fun _ => true).all id = true := by simp
      rw [e]
      exact k _ s2
abbrev sTu : Stmt := top 64
abbrev nTu : List Str := ["number", "mark", "word"]
theorem scTu : FnScope nTu ["number", "mark", "word"] (defScope sTu) := ⟨rfl, rfl, rfl, by decide +kernel, rfl, by decide +kernel, by decide +kernel⟩
theorem has_Tu {C : PyData → Prop} {f : Addr} {fd : FuncData}  (F : Fun K "is_turn" "is_turn" sTu f fd) (g : mg "is_turn" = some (.ref f)) (B : Blt mg) (hFw : Has P w K mg base 41 "is_full_word" ["word"] (spFw K C)) (Wc : WrtC K mg) :
    Has P w K mg base 42 "is_turn" ["number", "mark", "word"] (spTu K C) := by
  obtain ⟨fFw, dFw, gFw, kFw, bFw, GFw⟩ := hFw
  obtain ⟨pM, gM, sM⟩ := Wc.pms
  obtain ⟨pS, gS, sS⟩ := Wc.sms
  refine has_of F g (F.binds (ps := ["number", "mark", "word"]) fun _ _ _ _ _ _ us hl => match us, hl with | [_, _, _], _ => rfl) (F.ok scTu (fun vs H Q E h => ?_) (fun cdv A outer s H vs Q E hr h => ?_))
  · obtain ⟨k, m, v, l, rfl, _⟩ := h
    rfl
  · have hu : (A.deeper (envOfC "is_turn" (defScope sTu) s.heap.objs.size f cdv)).units + 65 < cLine := by
      have := hr.un
      omega
    refine ⟨_, (pss_cons (ps_if (pt_cmpR op_notIn_seq (pv 0) (pe_tup (pa_cons pe_int (pa_cons pe_int (pa_cons pe_int pa_nil)))) (by rfl)) (pss_one (ps_ret pe_bl)) pss_nil)
        (pss_cons (ps_if (pt_cmpR op_in_seq (pv 1) (pe_glob (v := .ref pM) (by rfl) gM rfl) (by rfl)) (pss_one (ps_ret (pe_call GFw hr rfl gFw kFw bFw .nil pass0 (pa_cons (pv 2) pa_nil)))) pss_nil)
        (pss_cons (ps_if (pt_cmpR op_eq (pv 1) pe_str (nomark _)) (pss_one (ps_ret (pe_and (pe_cmpR op_eq (pe_callB call_len_seq (by rfl) B.len PySem.boot_len (pa_cons (pv 2) pa_nil)) pe_int (nomark _)) (pe_one (pe_cmpR (op_inTD hu) (pe_ix ix_list (pv 2) pe_int (fun _ _ => rfl)) (pe_glob (v := .ref pS) (by rfl) gS rfl) (by rfl)))))) pss_nil)
        pss_never))), ?_⟩
    obtain ⟨k, m, v, l, rfl, hd, ⟨k', m', l', e, hk, ht⟩, sh, q⟩ := h
    injection e with e
    injection e with e1 e
    injection e with e2 e
    injection e with e3 _
    injection e1 with e1
    injection e2 with e2
    injection e3 with e3
    subst e1
    subst e2
    subst e3
    have kin : inV (.int k) [.int 0, .int 1, .int 2] = true := by rcases hk with rfl | rfl | rfl <;> decide
    refine ⟨_, rfl, (by decide : 3 ≤ sizeLine), fun T nT => ?_⟩
    have s1 := same_upd (o := .tup [.int 0, .int 1, .int 2]) nT
    refine ⟨T, [.int 0, .int 1, .int 2], rfl, .inr (SqT.of upd_same), ?_, by decide, _, rfl, ?_⟩
    · rfl
    generalize L2.upd H T (.tup [.int 0, .int 1, .int 2]) = H1 at s1 ⊢
    rw [if_pos rfl, kin]
    refine if_no rfl ⟨_, rfl, pM, pmW.map V.str, rfl, .inr (sM _), rfl, by decide +kernel, _, rfl, ?_⟩
    rw [if_neg (by decide : ¬ false = true), inV_iff]
    rcases ht with ⟨hm, hw, ne⟩ | ⟨rfl, x, hx, rfl⟩
    · exact if_yes (decide_eq_true hm) ⟨_, rfl, v, l, rfl, dp_same s1 hd, sh_ok sh, hw, ne, fun H2 s2 => q _ (s1.trans s2)⟩
    · refine if_no (by decide +kernel) ⟨_, rfl, rfl, _, rfl, if_yes rfl ?_⟩
      obtain ⟨a, xs, rfl, hq, all⟩ := dp_lst (dp_same s1 hd)
      cases all with
      | @cons y _ xs _ h1 t1 =>
      cases t1
      refine ⟨_, rfl, a, [y], rfl, .inl hq, rfl, _, rfl, if_yes rfl ?_⟩
      refine ⟨_, rfl, a, _, 0, _, rfl, rfl, hq, atI_nat (j := 0) rfl, bareD x, smW.map bareD, h1, sS _, ?_, by decide +kernel, ?_⟩
      · exact sh_ok (sh_li sh _ (.head _))
      · have e : ((smW.map bareD).any fun z => PyData.eqv z (bareD x)) = true := (by decide +kernel : ∀ x ∈ smW, ((smW.map bareD).any fun z => PyData.eqv z (bareD x)) = true) x hx
        rw [e]
        exact q _ s1
end
end Qb
end PySem
namespace PySem
namespace Qb
open PySem.W PySem.Calls PyProof.Rows L2
/-! # commands that are right, of any kind -/
def bdW : List Str := ["group", "apart", "if", "while", "until", "each", "case"]
def ndW : List Str := ["pipe", "not", "and", "or"]
def ntW : List Str := ["not", "and", "or"]
def ltW : List Str := ["and", "or"]
def deW : List Str := [":", "true", "false", "echo", "read", "set", "shift", "unset", "cd", "pwd", "test", "break", "continue", "return", "exit"]
def toW : List Str := ["cat", "keep", "drop", "first", "last", "order", "once", "count", "number", "swap", "part", "tee", "make", "remove", "move", "copy", "list"]
def mayB (x : Str) : Bool := isNameB (cs x) && (!decide (x ∈ deW) && (!decide (x ∈ toW) && !decide (x ∈ keyW)))
def esacW : List PyData := [bareD "esac"]
def ScR (C : PyData → Prop) (s : List PyData) : Prop := s.length ≤ 50 ∧ ∀ c ∈ s, C c
def IfR (C : PyData → Prop) (as : List PyData) : Prop := as ≠ [] ∧ as.length ≤ 50 ∧ ∀ a ∈ as, ∃ t s, a = .tuple [.list t, .list s] ∧ t ≠ [] ∧ s ≠ [] ∧ ScR C t ∧ ScR C s
def CaR (C : PyData → Prop) (as : List PyData) : Prop := as.length ≤ 50 ∧ ∀ a ∈ as, ∃ w ws s, a = .tuple [.list (.list w :: ws), .list s] ∧ WsO C (.list w :: ws) ∧ PyData.eqv (.list w) (.list esacW) = false ∧ ScR C s
/-- blocks -/
def BkA (C : PyData → Prop) (c : PyData) : Prop :=
  (∃ k s ts, c = .tuple [.str k, .list s, .list ts] ∧ (k = "group" ∨ k = "apart") ∧ ScR C s ∧ s ≠ [] ∧ TsR C ts) ∨
  (∃ as o ts, c = .tuple [.str "if", .list as, o, .list ts] ∧ IfR C as ∧ (o = .none ∨ ∃ s, o = .list s ∧ s ≠ [] ∧ ScR C s) ∧ TsR C ts) ∨
  (∃ k t s ts, c = .tuple [.str k, .list t, .list s, .list ts] ∧ (k = "while" ∨ k = "until") ∧ ScR C t ∧ t ≠ [] ∧ ScR C s ∧ s ≠ [] ∧ TsR C ts) ∨
  (∃ x o s ts, c = .tuple [.str "each", .str x, o, .list s, .list ts] ∧ isNameB (cs x) = true ∧ x.length ≤ 1000 ∧ (o = .none ∨ ∃ ws, o = .list ws ∧ WsO C ws) ∧ ScR C s ∧ s ≠ [] ∧ TsR C ts) ∨
  (∃ l as ts, c = .tuple [.str "case", .list l, .list as, .list ts] ∧ WdR C l ∧ l ≠ [] ∧ CaR C as ∧ TsR C ts)
/-- commands over commands C -/
def CmA (C : PyData → Prop) (c : PyData) : Prop :=
  (∃ ss ws ts, c = .tuple [.str "do", .list ss, .list ws, .list ts] ∧ DoR C ss ws ts) ∨
  (∃ x b, c = .tuple [.str "make", .str x, b] ∧ mayB x = true ∧ x.length ≤ 1000 ∧ headK b ∈ bdW ∧ C b) ∨
  (∃ l, c = .tuple [.str "pipe", .list l] ∧ 2 ≤ l.length ∧ l.length ≤ 50 ∧ ∀ p ∈ l, C p ∧ ¬ headK p ∈ ndW) ∨
  (∃ b, c = .tuple [.str "not", b] ∧ C b ∧ ¬ headK b ∈ ntW) ∨
  (∃ k a b, c = .tuple [.str k, a, b] ∧ (k = "and" ∨ k = "or") ∧ C a ∧ C b ∧ ¬ headK b ∈ ltW) ∨ BkA C c
def CmG : Nat → PyData → Prop
  | 0 => fun _ => False
  | n + 1 => fun c => Sh 40 c ∧ CmA (CmG n) c
/-- things of which each begins with a text -/
def Hds (C : PyData → Prop) : Prop := ∀ c, C c → ∃ y l, c = .tuple (.str y :: l)
theorem cm_hd {C : PyData → Prop} {c : PyData} (h : CmA C c) : ∃ y l, c = .tuple (.str y :: l) := by
  rcases h with ⟨_, _, _, rfl, _⟩ | ⟨_, _, rfl, _⟩ | ⟨_, rfl, _⟩ | ⟨_, rfl, _⟩ | ⟨_, _, _, rfl, _⟩ | ⟨_, _, _, rfl, _⟩ | ⟨_, _, _, rfl, _⟩ | ⟨_, _, _, _, rfl, _⟩ | ⟨_, _, _, _, rfl, _⟩ | ⟨_, _, _, rfl, _⟩
  all_goals exact ⟨_, _, rfl⟩
theorem cg_hd : ∀ n, Hds (CmG n)
  | 0 => fun c h => h.elim
  | n + 1 => fun c h => cm_hd h.2
abbrev spMb : Sp := spTxt fun x => .bl (mayB x)
def spIa (K : Frag) (C : PyData → Prop) : Sp := fun vs H Q _ => ∃ v as, vs = [v] ∧ Dp K H v (.list as) ∧ IfR C as ∧ Sh 60 (.list as) ∧ ∀ H', Same H H' → Q (.bl true) H'
def spAh (K : Frag) (C : PyData → Prop) : Sp := fun vs H Q _ => ∃ v w ws, vs = [v] ∧ Dp K H v (.list (.list w :: ws)) ∧ WsO C (.list w :: ws) ∧ PyData.eqv (.list w) (.list esacW) = false ∧ Sh 60 (.list (.list w :: ws)) ∧ ∀ H', Same H H' → Q (.bl true) H'
def spCa (K : Frag) (C : PyData → Prop) : Sp := fun vs H Q _ => ∃ v as, vs = [v] ∧ Dp K H v (.list as) ∧ CaR C as ∧ Sh 60 (.list as) ∧ ∀ H', Same H H' → Q (.bl true) H'
def spBk (K : Frag) (C : PyData → Prop) : Sp := fun vs H Q _ => ∃ v c, vs = [v] ∧ Dp K H v c ∧ BkA C c ∧ Sh 60 c ∧ ∀ H', Same H H' → Q (.bl true) H'
def spCm (K : Frag) (C : PyData → Prop) : Sp := fun vs H Q _ => ∃ v c, vs = [v] ∧ Dp K H v c ∧ CmA C c ∧ Sh 60 c ∧ ∀ H', Same H H' → Q (.bl true) H'
structure WrtD (K : Frag) (mg : Str → Option Value) : Prop where
  des : ∃ p, mg "DEEDS" = some (.ref p) ∧ ∀ H, SqT K H p (deW.map V.str)
  tos : ∃ p, mg "TOOLS" = some (.ref p) ∧ ∀ H, SqT K H p (toW.map V.str)
  bds : ∃ p, mg "BODIES" = some (.ref p) ∧ ∀ H, SqT K H p (bdW.map V.str)
  nds : ∃ p, mg "NOT_PIPED" = some (.ref p) ∧ ∀ H, SqT K H p (ndW.map V.str)
  nts : ∃ p, mg "NOT_TURNED_ABOUT" = some (.ref p) ∧ ∀ H, SqT K H p (ntW.map V.str)
  lts : ∃ p, mg "LISTS" = some (.ref p) ∧ ∀ H, SqT K H p (ltW.map V.str)
theorem len_all (n : Nat) (l : List PyData) : (l.map fun _ => true).all id = true := by simp
section
variable {P : Program} {w : World} {K : Frag} {mg : Str → Option Value} {base : Heap}
abbrev sAt : Stmt := top 63
abbrev nAt : List Str := ["turns", "number", "mark", "word"]
theorem scAt : FnScope nAt ["turns"] (defScope sAt) := ⟨rfl, rfl, rfl, by decide +kernel, rfl, by decide +kernel, by decide +kernel⟩
theorem has_At {C : PyData → Prop} {f : Addr} {fd : FuncData}  (F : Fun K "are_turns" "are_turns" sAt f fd) (g : mg "are_turns" = some (.ref f)) (B : Blt mg) (hTu : Has P w K mg base 42 "is_turn" ["number", "mark", "word"] (spTu K C)) :
    Has P w K mg base 43 "are_turns" ["turns"] (spAt K C) := by
  obtain ⟨fTu, dTu, gTu, kTu, bTu, GTu⟩ := hTu
  refine has_of F g (F.binds (ps := ["turns"]) fun _ _ _ _ _ _ us hl => match us, hl with | [_], _ => rfl) (F.ok scAt (fun vs H Q E h => ?_) (fun cdv A outer s H vs Q E hr h => ?_))
  · obtain ⟨v, ts, rfl, _⟩ := h
    rfl
  · refine ⟨_, (pss_one (ps_ret (pe_callB (cr_all rfl) (by rfl) B.all (by decide +kernel) (pa_cons (pe_lc (own := [("number", 1), ("mark", 2), ("word", 3)]) (g := gTup K 3 (gCons (gName 1) (gCons (gName 2) (gCons (gName 3) gNil)))) (tt := tYes) rfl scAt.nd (pi_list (pv 0)) (blkOk_by (N := nAt) (sc := defScope sAt) (by decide +kernel)) (fun _ _ _ _ _ => pg_tup rfl (pgs_cons (pg_name (i := 1) scAt.nd rfl (.inl rfl)) (pgs_cons (pg_name (i := 2) scAt.nd rfl (.inl rfl)) (pgs_cons (pg_name (i := 3) scAt.nd rfl (.inl rfl)) pgs_nil)))) (fun _ _ _ _ _ => pts_nil) (fun _ _ _ _ _ => (pe_call GTu hr rfl gTu kTu bTu .nil pass0 (pa_cons (pv 1) (pa_cons (pv 2) (pa_cons (pv 3) pa_nil)))))) pa_nil)))), ?_⟩
    obtain ⟨v, ts, rfl, hd, ht, sh, k⟩ := h
    obtain ⟨a, xs, rfl, hq, all⟩ := dp_lst hd
    have lx := dpLen all
    have l50 := ht.1
    refine ⟨_, rfl, a, rfl, ⟨_, hq⟩, fun D hD => lc_all (bs := ts.map fun _ => true) hq hD (by rw [List.length_map, lx]) (by omega) (fun i x b' H' Q' hx hb s2 q => ?_) (fun H2 s2 q1 => ⟨D, _, rfl, q1, ?_⟩)⟩
    · obtain ⟨d, hdi, dp⟩ := dpAt' all hx
      rw [List.getElem?_map, hdi] at hb
      obtain rfl := Option.some.inj hb
      have m := List.mem_of_getElem? hdi
      obtain ⟨n', m', l', rfl, ht'⟩ := ht.2 d m
      obtain ⟨b, zs, rfl, q1, allb⟩ := dp_tup dp
      cases allb with
      | cons g1 allb => cases allb with
        | cons g2 allb => cases allb with
          | cons g3 allb =>
            cases allb
            cases g1
            cases g2
            exact ⟨b, _, rfl, sqT_same s2 q1, rfl, _, _, rfl, _, _, rfl, _, _, rfl, rfl, rfl, _, rfl, _, rfl, _, rfl, n', m', _, l', rfl, dp_same s2 g3, ⟨n', m', l', rfl, ht'⟩, sh_ti (sh_li sh _ m) _ (.tail _ (.tail _ (.head _))), fun H3 s3 => q H3 s3⟩
    · rw [len_all 0]
      exact k _ s2
abbrev sDo : Stmt := top 56
abbrev nDo : List Str := ["sets", "words", "turns", "name", "word"]
theorem scDo : FnScope nDo ["sets", "words", "turns"] (defScope sDo) := ⟨rfl, rfl, rfl, by decide +kernel, rfl, by decide +kernel, by decide +kernel⟩
theorem has_Do {C : PyData → Prop} {f : Addr} {fd : FuncData}  (F : Fun K "is_do" "is_do" sDo f fd) (g : mg "is_do" = some (.ref f)) (B : Blt mg) (hAp : Has P w K mg base 40 "are_pieces" ["pieces"] (spWs K (CRg C) 5 false)) (hNn : Has P w K mg base 2 "is_name" ["text"] (spNn)) (hAt : Has P w K mg base 43 "are_turns" ["turns"] (spAt K C)) (hAws : Has P w K mg base 42 "are_words" ["words"] (spAws K C)) (hFi : Has P w K mg base 3 "is_first_word" ["word", "sets"] (spFi K C)) :
    Has P w K mg base 44 "is_do" ["sets", "words", "turns"] (spDo K C) := by
  obtain ⟨fAp, dAp, gAp, kAp, bAp, GAp⟩ := hAp
  obtain ⟨fNn, dNn, gNn, kNn, bNn, GNn⟩ := hNn
  obtain ⟨fAt, dAt, gAt, kAt, bAt, GAt⟩ := hAt
  obtain ⟨fAws, dAws, gAws, kAws, bAws, GAws⟩ := hAws
  obtain ⟨fFi, dFi, gFi, kFi, bFi, GFi⟩ := hFi
  refine has_of F g (F.binds (ps := ["sets", "words", "turns"]) fun _ _ _ _ _ _ us hl => match us, hl with | [_, _, _], _ => rfl) (F.ok scDo (fun vs H Q E h => ?_) (fun cdv A outer s H vs Q E hr h => ?_))
  · obtain ⟨v, u, t, ss, ws, ts, rfl, _⟩ := h
    rfl
  · refine ⟨_, (pss_cons (ps_if (PW.pt (pw_and (pt_cmpR (op_eqD hr.units) (pv 0) (pe_lst pa_nil) (nomark _)) (pw_and (pt_cmpR (op_eqD hr.units) (pv 1) (pe_lst pa_nil) (nomark _)) (pw_and1 (pt_cmpR (op_eqD hr.units) (pv 2) (pe_lst pa_nil) (nomark _)))))) (pss_one (ps_ret pe_bl)) pss_nil)
        (pss_cons (ps_if (pt_not (pt_val (pe_callB (cr_all rfl) (by rfl) B.all (by decide +kernel) (pa_cons (pe_lc (te := tAndV (tCall spNn [] E0 (tCons (tVar 3) tNil)) (tCall (spWs K (CRg C) 5 false) [] E0 (tCons (tVar 4) tNil))) (own := [("name", 3), ("word", 4)]) (g := gTup K 2 (gCons (gName 3) (gCons (gName 4) gNil))) (tt := tYes) rfl scDo.nd (pi_list (pv 0)) (blkOk_by (N := nDo) (sc := defScope sDo) (by decide +kernel)) (fun _ _ _ _ _ => pg_tup rfl (pgs_cons (pg_name (i := 3) scDo.nd rfl (.inl rfl)) (pgs_cons (pg_name (i := 4) scDo.nd rfl (.inl rfl)) pgs_nil))) (fun _ _ _ _ _ => pts_nil) (fun _ _ _ _ _ => (pe_and (pe_call GNn (hr.mono (by decide)) rfl gNn kNn bNn .nil pass0 (pa_cons (pv 3) pa_nil)) (pe_one (pe_call GAp (hr.mono (by decide)) rfl gAp kAp bAp .nil pass0 (pa_cons (pv 4) pa_nil)))))) pa_nil)))) (pss_one (ps_ret pe_bl)) pss_nil)
        (pss_cons (ps_if (PW.pt (pw_or (pt_not (pt_val (pe_call GAws (hr.mono (by decide)) rfl gAws kAws bAws .nil pass0 (pa_cons (pv 1) pa_nil)))) (pw_or1 (pt_not (pt_val (pe_call GAt hr rfl gAt kAt bAt .nil pass0 (pa_cons (pv 2) pa_nil))))))) (pss_one (ps_ret pe_bl)) pss_nil)
        (pss_one (ps_ret (pe_or (pe_cmpR (op_eqD hr.units) (pv 1) (pe_lst pa_nil) (nomark _)) (pe_one (pe_call GFi (hr.mono (by decide)) rfl gFi kFi bFi .nil pass0 (pa_cons (pe_ix ix_list (pv 1) pe_int (fun _ _ => rfl)) (pa_cons (pv 0) pa_nil)))))))))), ?_⟩
    obtain ⟨v, u, t, ss, ws, ts, rfl, hv, hu, ht, ⟨hss, hws, hts, hne, hfw⟩, sh1, sh2, sh3, k⟩ := h
    have o1 := sh_ok sh1
    have o2 := sh_ok sh2
    have o3 := sh_ok sh3
    have main : ∀ H1, Same H H1 → tSeq (tIfS (tNot (tB (tCB (rAll K) (tCons (tLc (iList K (tVar 0)) (gTup K 2 (gCons (gName 3) (gCons (gName 4) gNil))) tYes (tAndV (tCall spNn [] E0 (tCons (tVar 3) tNil)) (tCall (spWs K (CRg C) 5 false) [] E0 (tCons (tVar 4) tNil))) [3, 4]) tNil)))) (tRet (tC (.bl false))) tNext)
        (tSeq (tIfS (tOr (tNot (tB (tCall (spAws K C) [] E0 (tCons (tVar 1) tNil)))) (tNot (tB (tCall (spAt K C) [] E0 (tCons (tVar 2) tNil))))) (tRet (tC (.bl false))) tNext)
          (tRet (tOrV (tOp (rEqD K) (tVar 1) (tLst tNil)) (tCall (spFi K C) [] E0 (tCons (tOp (rIxL K) (tVar 1) (tC (.int 0))) (tCons (tVar 0) tNil)))))) { nx := fun _ H' => Q .non H', rt := Q } (L2.start nDo [v, u, t]) H1 := fun H1 s1 => by
      obtain ⟨a, xs, rfl, hq, all⟩ := dp_lst (dp_same s1 hv)
      have lx := dpLen all
      have l50 := hss.1
      refine ⟨_, rfl, a, rfl, ⟨_, hq⟩, fun D hD => lc_all (bs := ss.map fun _ => true) hq hD (by rw [List.length_map, lx]) (by omega) (fun i x b' H' Q' hx hb s2 q => ?_) (fun H2 s2 q1 => ⟨D, _, rfl, q1, _, rfl, if_no (by rw [len_all 0]; rfl) ?_⟩)⟩
      · obtain ⟨d, hdi, dp⟩ := dpAt' all hx
        rw [List.getElem?_map, hdi] at hb
        obtain rfl := Option.some.inj hb
        have m := List.mem_of_getElem? hdi
        obtain ⟨x', l', rfl, hn, hx', hw'⟩ := hss.2 d m
        obtain ⟨b, y, rfl, q1, hy⟩ := pc_two dp
        refine ⟨b, _, rfl, sqT_same s2 q1, rfl, _, _, rfl, _, _, rfl, rfl, rfl, _, rfl, x', rfl, Nat.le_trans hx' (by decide), fun H3 s3 => ⟨_, rfl, if_yes hn ?_⟩⟩
        exact ⟨_, rfl, y, l', true, true, rfl, dp_same (s2.trans s3) hy, hw', fun H4 s4 => q H4 (s3.trans s4)⟩
      · have a2 := s1.trans s2
        refine ⟨_, rfl, u, ws, rfl, dp_same a2 hu, hws, sh2, fun H3 s3 => ⟨_, rfl, if_no rfl ?_⟩⟩
        refine ⟨_, rfl, t, ts, rfl, dp_same (a2.trans s3) ht, hts, sh3, fun H4 s4 => ⟨_, rfl, if_no rfl ?_⟩⟩
        have a4 := (a2.trans s3).trans s4
        refine rd_eqnil rfl (dp_same a4 hu) o2 fun H5 s5 => ⟨_, rfl, if_by (fun e => ?_) (fun e => ?_)⟩
        · exact k _ (a4.trans s5)
        · have a5 := a4.trans s5
          obtain ⟨c, ys, rfl, hqc, allc⟩ := dp_lst (dp_same a5 hu)
          cases allc with
          | nil => cases e
          | @cons y d ys ds h1 h2 =>
            obtain ⟨l, rfl, hl1, hl2⟩ := hws.2 _ (.head _)
            have fw := hfw l ds rfl
            refine ⟨_, rfl, c, _, 0, _, rfl, rfl, hqc, atI_nat (j := 0) rfl, _, rfl, y, .ref a, l, ss, rfl, h1, dp_same a5 hv, hl1, hl2, o1, fun H6 s6 => ?_⟩
            rw [fw]
            exact k _ (a5.trans s6)
    refine rd_eqnil rfl hv o1 fun H1 s1 => ⟨_, rfl, if_by (fun e1 => ?_) (fun e1 => if_no rfl (main _ s1))⟩
    refine rd_eqnil rfl (dp_same s1 hu) o2 fun H2 s2 => ⟨_, rfl, if_by (fun e2 => ?_) (fun e2 => if_no rfl (main _ (s1.trans s2)))⟩
    have a2 := s1.trans s2
    refine rd_eqnil rfl (dp_same a2 ht) o3 fun H3 s3 => ⟨_, rfl, if_by (fun e3 => ?_) (fun e3 => main _ (a2.trans s3))⟩
    rw [List.isEmpty_iff] at e1 e2 e3
    rcases hne with z | z | z
    · exact absurd e1 z
    · exact absurd e2 z
    · exact absurd e3 z
abbrev sMb : Stmt := top 15
abbrev nMb : List Str := ["name"]
theorem scMb : FnScope nMb ["name"] (defScope sMb) := ⟨rfl, rfl, rfl, by decide +kernel, rfl, by decide +kernel, by decide +kernel⟩
theorem has_Mb {f : Addr} {fd : FuncData}  (F : Fun K "may_be_made" "may_be_made" sMb f fd) (g : mg "may_be_made" = some (.ref f)) (W : Wrt K w mg) (Wd : WrtD K mg) (hNn : Has P w K mg base 2 "is_name" ["text"] spNn) :
    Has P w K mg base 3 "may_be_made" ["name"] spMb := by
  obtain ⟨pD, gD, sD⟩ := Wd.des
  obtain ⟨pO, gO, sO⟩ := Wd.tos
  obtain ⟨pK, gK, sK⟩ := W.kws
  obtain ⟨fNn, dNn, gNn, kNn, bNn, GNn⟩ := hNn
  refine has_of F g (F.binds (ps := ["name"]) fun _ _ _ _ _ _ us hl => match us, hl with | [_], _ => rfl) (F.ok scMb (fun vs H Q E h => ?_) (fun cdv A outer s H vs Q E hr h => ?_))
  · obtain ⟨x, rfl, _⟩ := h
    rfl
  · refine ⟨_, (pss_one (ps_ret (pe_and (pe_call GNn hr rfl gNn kNn bNn .nil pass0 (pa_cons (pv 0) pa_nil)) (pe_and (pe_cmpR op_notIn_seq (pv 0) (pe_glob (v := .ref pD) (by rfl) gD rfl) (by rfl)) (pe_and (pe_cmpR op_notIn_seq (pv 0) (pe_glob (v := .ref pO) (by rfl) gO rfl) (by rfl)) (pe_one (pe_cmpR op_notIn_seq (pv 0) (pe_glob (v := .ref pK) (by rfl) gK rfl) (by rfl)))))))), ?_⟩
    obtain ⟨x, rfl, hx, k⟩ := h
    have k : ∀ H', Same H H' → Q (.bl (mayB x)) H' := k
    unfold mayB at k
    refine ⟨_, rfl, x, rfl, hx, fun H1 s1 => ⟨_, rfl, if_by (fun e => ?_) (fun e => ?_)⟩⟩
    · rw [e, Bool.true_and] at k
      refine ⟨_, rfl, pD, deW.map V.str, rfl, .inr (sD _), rfl, by decide +kernel, _, rfl, ?_⟩
      rw [if_pos rfl, inV_iff]
      by_cases c1 : x ∈ deW
      · rw [decide_eq_true c1] at k ⊢
        exact if_no rfl (k _ s1)
      rw [decide_eq_false c1] at k ⊢
      refine if_yes rfl ⟨_, rfl, pO, toW.map V.str, rfl, .inr (sO _), rfl, by decide +kernel, _, rfl, ?_⟩
      rw [if_pos rfl, inV_iff]
      by_cases c2 : x ∈ toW
      · rw [decide_eq_true c2] at k ⊢
        exact if_no rfl (k _ s1)
      rw [decide_eq_false c2] at k ⊢
      refine if_yes rfl ⟨_, rfl, pK, keyW.map V.str, rfl, .inr (sK _), rfl, by decide +kernel, ?_⟩
      rw [if_pos rfl, inV_iff]
      exact k _ s1
    · rw [e, Bool.false_and] at k
      exact k _ s1
abbrev sIa : Stmt := top 60
abbrev nIa : List Str := ["arms", "test", "script"]
theorem scIa : FnScope nIa ["arms"] (defScope sIa) := ⟨rfl, rfl, rfl, by decide +kernel, rfl, by decide +kernel, by decide +kernel⟩
theorem has_Ia {C : PyData → Prop} {f : Addr} {fd : FuncData}  (F : Fun K "are_if_arms" "are_if_arms" sIa f fd) (g : mg "are_if_arms" = some (.ref f)) (B : Blt mg)  :
    Has P w K mg base 1 "are_if_arms" ["arms"] (spIa K C) := by
  refine has_of F g (F.binds (ps := ["arms"]) fun _ _ _ _ _ _ us hl => match us, hl with | [_], _ => rfl) (F.ok scIa (fun vs H Q E h => ?_) (fun cdv A outer s H vs Q E hr h => ?_))
  · obtain ⟨v, as, rfl, _⟩ := h
    rfl
  · refine ⟨_, (pss_one (ps_ret (pe_and (pe_cmpR (op_neD hr.units) (pv 0) (pe_lst pa_nil) (nomark _)) (pe_one (pe_callB (cr_all rfl) (by rfl) B.all (by decide +kernel) (pa_cons (pe_lc (te := tAndV (tOp (rNeD K) (tVar 1) (tLst tNil)) (tOp (rNeD K) (tVar 2) (tLst tNil))) (own := [("test", 1), ("script", 2)]) (g := gTup K 2 (gCons (gName 1) (gCons (gName 2) gNil))) (tt := tYes) rfl scIa.nd (pi_list (pv 0)) (blkOk_by (N := nIa) (sc := defScope sIa) (by decide +kernel)) (fun _ _ _ _ _ => pg_tup rfl (pgs_cons (pg_name (i := 1) scIa.nd rfl (.inl rfl)) (pgs_cons (pg_name (i := 2) scIa.nd rfl (.inl rfl)) pgs_nil))) (fun _ _ _ _ _ => pts_nil) (fun _ _ _ _ _ => (pe_and (pe_cmpR (op_neD hr.units) (pv 1) (pe_lst pa_nil) (nomark _)) (pe_one (pe_cmpR (op_neD hr.units) (pv 2) (pe_lst pa_nil) (nomark _)))))) pa_nil)))))), ?_⟩
    obtain ⟨v, as, rfl, hd, ⟨ne, l50, ha⟩, sh, k⟩ := h
    have neB : ∀ {l : List PyData}, l ≠ [] → (!l.isEmpty) = true := fun {l} h => by cases l with | nil => exact absurd rfl h | cons _ _ => rfl
    refine rd_nenil rfl hd (sh_ok sh) fun H1 s1 => ⟨_, rfl, if_yes (neB ne) ?_⟩
    obtain ⟨a, xs, rfl, hq, all⟩ := dp_lst (dp_same s1 hd)
    have lx := dpLen all
    refine ⟨_, rfl, a, rfl, ⟨_, hq⟩, fun D hD => lc_all (bs := as.map fun _ => true) hq hD (by rw [List.length_map, lx]) (by omega) (fun i x b' H' Q' hx hb s2 q => ?_) (fun H2 s2 q1 => ⟨D, _, rfl, q1, ?_⟩)⟩
    · obtain ⟨d, hdi, dp⟩ := dpAt' all hx
      rw [List.getElem?_map, hdi] at hb
      obtain rfl := Option.some.inj hb
      have m := List.mem_of_getElem? hdi
      obtain ⟨t, s', rfl, n1, n2, _⟩ := ha d m
      have shd := sh_li sh _ m
      obtain ⟨b, zs, rfl, q1, allb⟩ := dp_tup dp
      cases allb with
      | cons g1 allb => cases allb with
        | cons g2 allb =>
          cases allb
          refine ⟨b, _, rfl, sqT_same s2 q1, rfl, _, _, rfl, _, _, rfl, rfl, rfl, ?_⟩
          refine rd_nenil rfl (dp_same s2 g1) (sh_ok (sh_ti shd _ (.head _))) fun H3 s3 => ⟨_, rfl, if_yes (neB n1) ?_⟩
          refine rd_nenil rfl (dp_same (s2.trans s3) g2) (sh_ok (sh_ti shd _ (.tail _ (.head _)))) fun H4 s4 => ?_
          rw [neB n2]
          exact q _ (s3.trans s4)
    · rw [len_all 0]
      exact k _ (s1.trans s2)
abbrev sAh : Stmt := top 62
abbrev nAh : List Str := ["words"]
theorem scAh : FnScope nAh ["words"] (defScope sAh) := ⟨rfl, rfl, rfl, by decide +kernel, rfl, by decide +kernel, by decide +kernel⟩
theorem has_Ah {C : PyData → Prop} {f : Addr} {fd : FuncData}  (F : Fun K "is_arm_head" "is_arm_head" sAh f fd) (g : mg "is_arm_head" = some (.ref f)) (B : Blt mg) (hAws : Has P w K mg base 42 "are_words" ["words"] (spAws K C)) :
    Has P w K mg base 43 "is_arm_head" ["words"] (spAh K C) := by
  obtain ⟨fAws, dAws, gAws, kAws, bAws, GAws⟩ := hAws
  refine has_of F g (F.binds (ps := ["words"]) fun _ _ _ _ _ _ us hl => match us, hl with | [_], _ => rfl) (F.ok scAh (fun vs H Q E h => ?_) (fun cdv A outer s H vs Q E hr h => ?_))
  · obtain ⟨v, w, ws, rfl, _⟩ := h
    rfl
  · refine ⟨_, (pss_one (ps_ret (pe_and (pe_cmpR (op_neD hr.units) (pv 0) (pe_lst pa_nil) (nomark _)) (pe_and (pe_call GAws hr rfl gAws kAws bAws .nil pass0 (pa_cons (pv 0) pa_nil)) (pe_one (pe_cmpR (op_neD hr.units) (pe_ix ix_list (pv 0) pe_int (fun _ _ => rfl)) (pe_lst (pa_cons (pe_tup (pa_cons pe_str (pa_cons pe_str pa_nil))) pa_nil)) (nomark _))))))), ?_⟩
    obtain ⟨v, w', ws, rfl, hd, hw, he, sh, k⟩ := h
    refine rd_nenil rfl hd (sh_ok sh) fun H1 s1 => ⟨_, rfl, if_yes rfl ⟨_, rfl, v, _, rfl, dp_same s1 hd, hw, sh, fun H2 s2 => ⟨_, rfl, if_yes rfl ?_⟩⟩⟩
    have a2 := s1.trans s2
    obtain ⟨a, xs, rfl, hq, all⟩ := dp_lst (dp_same a2 hd)
    cases all with
    | @cons x _ xs _ h1 t1 =>
    refine ⟨_, rfl, a, _, 0, _, rfl, rfl, hq, atI_nat (j := 0) rfl, (by decide : 2 ≤ sizeLine), fun T nT => ⟨(by decide : 1 ≤ sizeLine), fun L nL => ?_⟩⟩
    have q1 := same_upd (o := .tup [.str "bare", .str "esac"]) nT
    have d1 : Dp K (L2.upd H2 T (.tup [.str "bare", .str "esac"])) (.ref T) (bareD "esac") := .tup (SqT.of upd_same) (.cons (.str _) (.cons (.str _) .nil))
    have q2 := same_upd (o := .lst [.ref T]) nL
    refine ⟨.list w', .list esacW, dp_same (q1.trans q2) h1, .lst (SqL.of upd_same) (.cons (dp_same q2 d1) .nil), sh_ok (sh_li sh _ (.head _)), by decide +kernel, ?_⟩
    rw [he]
    exact k _ (a2.trans (q1.trans q2))
abbrev sCa : Stmt := top 61
abbrev nCa : List Str := ["arms", "words", "_"]
theorem scCa : FnScope nCa ["arms"] (defScope sCa) := ⟨rfl, rfl, rfl, by decide +kernel, rfl, by decide +kernel, by decide +kernel⟩
theorem has_Ca {C : PyData → Prop} {f : Addr} {fd : FuncData}  (F : Fun K "are_case_arms" "are_case_arms" sCa f fd) (g : mg "are_case_arms" = some (.ref f)) (B : Blt mg) (hAh : Has P w K mg base 43 "is_arm_head" ["words"] (spAh K C)) :
    Has P w K mg base 44 "are_case_arms" ["arms"] (spCa K C) := by
  obtain ⟨fAh, dAh, gAh, kAh, bAh, GAh⟩ := hAh
  refine has_of F g (F.binds (ps := ["arms"]) fun _ _ _ _ _ _ us hl => match us, hl with | [_], _ => rfl) (F.ok scCa (fun vs H Q E h => ?_) (fun cdv A outer s H vs Q E hr h => ?_))
  · obtain ⟨v, as, rfl, _⟩ := h
    rfl
  · refine ⟨_, (pss_one (ps_ret (pe_callB (cr_all rfl) (by rfl) B.all (by decide +kernel) (pa_cons (pe_lc (own := [("words", 1), ("_", 2)]) (g := gTup K 2 (gCons (gName 1) (gCons (gName 2) gNil))) (tt := tYes) rfl scCa.nd (pi_list (pv 0)) (blkOk_by (N := nCa) (sc := defScope sCa) (by decide +kernel)) (fun _ _ _ _ _ => pg_tup rfl (pgs_cons (pg_name (i := 1) scCa.nd rfl (.inl rfl)) (pgs_cons (pg_name (i := 2) scCa.nd rfl (.inl rfl)) pgs_nil))) (fun _ _ _ _ _ => pts_nil) (fun _ _ _ _ _ => (pe_call GAh hr rfl gAh kAh bAh .nil pass0 (pa_cons (pv 1) pa_nil)))) pa_nil)))), ?_⟩
    obtain ⟨v, as, rfl, hd, ⟨l50, ha⟩, sh, k⟩ := h
    obtain ⟨a, xs, rfl, hq, all⟩ := dp_lst hd
    have lx := dpLen all
    refine ⟨_, rfl, a, rfl, ⟨_, hq⟩, fun D hD => lc_all (bs := as.map fun _ => true) hq hD (by rw [List.length_map, lx]) (by omega) (fun i x b' H' Q' hx hb s2 q => ?_) (fun H2 s2 q1 => ⟨D, _, rfl, q1, ?_⟩)⟩
    · obtain ⟨d, hdi, dp⟩ := dpAt' all hx
      rw [List.getElem?_map, hdi] at hb
      obtain rfl := Option.some.inj hb
      have m := List.mem_of_getElem? hdi
      obtain ⟨w', ws, s', rfl, hw, he, _⟩ := ha d m
      have shd := sh_li sh _ m
      obtain ⟨b, zs, rfl, q1, allb⟩ := dp_tup dp
      cases allb with
      | cons g1 allb => cases allb with
        | cons g2 allb =>
          cases allb
          exact ⟨b, _, rfl, sqT_same s2 q1, rfl, _, _, rfl, _, _, rfl, rfl, rfl, _, rfl, _, w', ws, rfl, dp_same s2 g1, hw, he, sh_ti shd _ (.head _), fun H3 s3 => q H3 s3⟩
    · rw [len_all 0]
      exact k _ s2
end
end Qb
end PySem
namespace PySem
namespace Qb
open PySem.W PySem.Calls PyProof.Rows L2
theorem neB {l : List PyData} (h : l ≠ []) : (!l.isEmpty) = true := by cases l with | nil => exact absurd rfl h | cons _ _ => rfl
theorem case_hitA {K : Frag} {r : PatR} {is : List Nat} {t : TS} {rest : List (List Nat × PatR × TS)} {a : Addr} {c : Str} {y1 y2 : V} {D : Ends} {σ : L2.St} {H : Hp} (hq : SqT K H a [.str c, y1, y2]) (hh : Hit r c) (h : t D (setAll σ is [y2]) H) : tCases ((is, rSeq K 3 [r, rAny1, rCap], t) :: rest) (.ref a) D σ H := by
  refine ⟨a, _, rfl, hq, fun ne => absurd rfl ne, fun _ => ?_⟩
  refine hh H _ ?_
  exact h
section
variable {P : Program} {w : World} {K : Frag} {mg : Str → Option Value} {base : Heap}
abbrev sBk : Stmt := top 55
abbrev nBk : List Str := ["command", "script", "turns", "arms", "other", "test", "name", "words", "word"]
theorem scBk : FnScope nBk ["command"] (defScope sBk) := ⟨rfl, rfl, rfl, by decide +kernel, rfl, by decide +kernel, by decide +kernel⟩
theorem has_Bk {C : PyData → Prop} {f : Addr} {fd : FuncData}  (F : Fun K "is_block" "is_block" sBk f fd) (g : mg "is_block" = some (.ref f)) (B : Blt mg) (hAt : Has P w K mg base 43 "are_turns" ["turns"] (spAt K C)) (hIa : Has P w K mg base 1 "are_if_arms" ["arms"] (spIa K C)) (hAws : Has P w K mg base 42 "are_words" ["words"] (spAws K C)) (hNn : Has P w K mg base 2 "is_name" ["text"] spNn) (hCa : Has P w K mg base 44 "are_case_arms" ["arms"] (spCa K C)) (hFw : Has P w K mg base 41 "is_full_word" ["word"] (spFw K C)) :
    Has P w K mg base 45 "is_block" ["command"] (spBk K C) := by
  obtain ⟨fAt, dAt, gAt, kAt, bAt, GAt⟩ := hAt
  obtain ⟨fIa, dIa, gIa, kIa, bIa, GIa⟩ := hIa
  obtain ⟨fAws, dAws, gAws, kAws, bAws, GAws⟩ := hAws
  obtain ⟨fNn, dNn, gNn, kNn, bNn, GNn⟩ := hNn
  obtain ⟨fCa, dCa, gCa, kCa, bCa, GCa⟩ := hCa
  obtain ⟨fFw, dFw, gFw, kFw, bFw, GFw⟩ := hFw
  refine has_of F g (F.binds (ps := ["command"]) fun _ _ _ _ _ _ us hl => match us, hl with | [_], _ => rfl) (F.ok scBk (fun vs H Q E h => ?_) (fun cdv A outer s H vs Q E hr h => ?_))
  · obtain ⟨v, c, rfl, _⟩ := h
    rfl
  · refine ⟨_, (pss_cons (ps_match (pv 0)
        (pcs_cons (is := [1, 2]) scBk.nd (pp_seq rfl (pps_cons (pp_or (pf_cons pp_lit (pf_cons pp_lit pf_nil))) (pps_cons pp_cap (pps_cons pp_cap pps_nil)))) (.cons ⟨rfl, .inl rfl, .inr rfl⟩ (.cons ⟨rfl, .inl rfl, .inr rfl⟩ .nil))
          (pss_one (ps_ret (pe_and (pe_cmpR (op_neD hr.units) (pv 1) (pe_lst pa_nil) (nomark _)) (pe_one (pe_call GAt (hr.mono (by decide)) rfl gAt kAt bAt .nil pass0 (pa_cons (pv 2) pa_nil))))))
        (pcs_cons (is := [3, 4, 2]) scBk.nd (pp_seq rfl (pps_cons pp_lit (pps_cons pp_cap (pps_cons pp_cap (pps_cons pp_cap pps_nil))))) (.cons ⟨rfl, .inl rfl, .inr rfl⟩ (.cons ⟨rfl, .inl rfl, .inr rfl⟩ (.cons ⟨rfl, .inl rfl, .inr rfl⟩ .nil)))
          (pss_one (ps_ret (pe_and (pe_call GIa (hr.mono (by decide)) rfl gIa kIa bIa .nil pass0 (pa_cons (pv 3) pa_nil)) (pe_and (pe_cmpR (op_neD hr.units) (pv 4) (pe_lst pa_nil) (nomark _)) (pe_one (pe_call GAt (hr.mono (by decide)) rfl gAt kAt bAt .nil pass0 (pa_cons (pv 2) pa_nil)))))))
        (pcs_cons (is := [5, 1, 2]) scBk.nd (pp_seq rfl (pps_cons (pp_or (pf_cons pp_lit (pf_cons pp_lit pf_nil))) (pps_cons pp_cap (pps_cons pp_cap (pps_cons pp_cap pps_nil))))) (.cons ⟨rfl, .inl rfl, .inr rfl⟩ (.cons ⟨rfl, .inl rfl, .inr rfl⟩ (.cons ⟨rfl, .inl rfl, .inr rfl⟩ .nil)))
          (pss_one (ps_ret (pe_and (pe_cmpR (op_neD hr.units) (pv 5) (pe_lst pa_nil) (nomark _)) (pe_and (pe_cmpR (op_neD hr.units) (pv 1) (pe_lst pa_nil) (nomark _)) (pe_one (pe_call GAt (hr.mono (by decide)) rfl gAt kAt bAt .nil pass0 (pa_cons (pv 2) pa_nil)))))))
        (pcs_cons (is := [6, 7, 1, 2]) scBk.nd (pp_seq rfl (pps_cons pp_lit (pps_cons pp_cap (pps_cons pp_cap (pps_cons pp_cap (pps_cons pp_cap pps_nil)))))) (.cons ⟨rfl, .inl rfl, .inr rfl⟩ (.cons ⟨rfl, .inl rfl, .inr rfl⟩ (.cons ⟨rfl, .inl rfl, .inr rfl⟩ (.cons ⟨rfl, .inl rfl, .inr rfl⟩ .nil))))
          (pss_one (ps_ret (pe_and (pe_call GNn (hr.mono (by decide)) rfl gNn kNn bNn .nil pass0 (pa_cons (pv 6) pa_nil)) (pe_and (pe_or (pe_cmpR op_isN (pv 7) pe_non (nomark _)) (pe_one (pe_call GAws (hr.mono (by decide)) rfl gAws kAws bAws .nil pass0 (pa_cons (pv 7) pa_nil)))) (pe_and (pe_cmpR (op_neD hr.units) (pv 1) (pe_lst pa_nil) (nomark _)) (pe_one (pe_call GAt (hr.mono (by decide)) rfl gAt kAt bAt .nil pass0 (pa_cons (pv 2) pa_nil))))))))
        (pcs_cons (is := [8, 3, 2]) scBk.nd (pp_seq rfl (pps_cons pp_lit (pps_cons pp_cap (pps_cons pp_cap (pps_cons pp_cap pps_nil))))) (.cons ⟨rfl, .inl rfl, .inr rfl⟩ (.cons ⟨rfl, .inl rfl, .inr rfl⟩ (.cons ⟨rfl, .inl rfl, .inr rfl⟩ .nil)))
          (pss_one (ps_ret (pe_and (pe_call GFw (hr.mono (by decide)) rfl gFw kFw bFw .nil pass0 (pa_cons (pv 8) pa_nil)) (pe_and (pe_call GCa hr rfl gCa kCa bCa .nil pass0 (pa_cons (pv 3) pa_nil)) (pe_one (pe_call GAt (hr.mono (by decide)) rfl gAt kAt bAt .nil pass0 (pa_cons (pv 2) pa_nil))))))) pcs_nil))))))
        (pss_one (ps_ret pe_bl))), ?_⟩
    obtain ⟨v, c, rfl, hd, hc, sh, k⟩ := h
    rcases hc with ⟨kk, s', ts, rfl, hk, hs, ne, ht⟩ | ⟨as, o, ts, rfl, hi, ho, ht⟩ | ⟨kk, t, s', ts, rfl, hk, h1', n1, h2', n2, ht⟩ | ⟨x, o, s', ts, rfl, hn, lx, ho, hs, ne, ht⟩ | ⟨l, as, ts, rfl, hw, nw, ha, ht⟩
    · obtain ⟨a, y1, y2, rfl, hq, h1, h2⟩ := pc_three hd
      have go : tAndV (tOp (rNeD K) (tVar 1) (tLst tNil)) (tCall (spAt K C) [] E0 (tCons (tVar 2) tNil)) (setAll (L2.start nBk [.ref a]) [1, 2] [y1, y2]) H Q := by
        refine rd_nenil rfl h1 (sh_ok (sh_ti sh _ (.tail _ (.head _)))) fun H1 s1 => ⟨_, rfl, if_yes (neB ne) ⟨_, rfl, y2, ts, rfl, dp_same s1 h2, ht, sh_ti sh _ (.tail _ (.tail _ (.head _))), fun H2 s2 => k _ (s1.trans s2)⟩⟩
      rcases hk with rfl | rfl
      · exact ⟨_, rfl, case_hit hq (hit_or hit_lit) go⟩
      · exact ⟨_, rfl, case_hit hq (hit_or2 (miss_lit (by decide +kernel)) (hit_or hit_lit)) go⟩
    · obtain ⟨a, y1, y2, y3, rfl, hq, h1, h2, h3⟩ := pc_four hd
      refine ⟨_, rfl, case_miss hq (.inr (by simp)) (case_hit hq hit_lit ?_)⟩
      refine ⟨_, rfl, y1, as, rfl, h1, hi, sh_ti sh _ (.tail _ (.head _)), fun H1 s1 => ⟨_, rfl, if_yes rfl ⟨_, rfl, (by decide : 0 ≤ sizeLine), fun p np => ?_⟩⟩⟩
      have s2 := same_upd (o := .lst []) np
      refine ⟨o, .list [], dp_same (s1.trans s2) h2, .lst (SqL.of upd_same) .nil, sh_ok (sh_ti sh _ (.tail _ (.tail _ (.head _)))), by decide, _, rfl, if_yes ?_ ⟨_, rfl, y3, ts, rfl, dp_same (s1.trans s2) h3, ht, sh_ti sh _ (.tail _ (.tail _ (.tail _ (.head _)))), fun H2 s3 => k _ ((s1.trans s2).trans s3)⟩⟩
      rcases ho with rfl | ⟨s', rfl, n', _⟩
      · rfl
      · rw [eqv_nil]; exact neB n'
    · obtain ⟨a, y1, y2, y3, rfl, hq, h1, h2, h3⟩ := pc_four hd
      have go : tAndV (tOp (rNeD K) (tVar 5) (tLst tNil)) (tAndV (tOp (rNeD K) (tVar 1) (tLst tNil)) (tCall (spAt K C) [] E0 (tCons (tVar 2) tNil))) (setAll (L2.start nBk [.ref a]) [5, 1, 2] [y1, y2, y3]) H Q := by
        refine rd_nenil rfl h1 (sh_ok (sh_ti sh _ (.tail _ (.head _)))) fun H1 s1 => ⟨_, rfl, if_yes (neB n1) ?_⟩
        refine rd_nenil rfl (dp_same s1 h2) (sh_ok (sh_ti sh _ (.tail _ (.tail _ (.head _))))) fun H2 s2 => ⟨_, rfl, if_yes (neB n2) ⟨_, rfl, y3, ts, rfl, dp_same (s1.trans s2) h3, ht, sh_ti sh _ (.tail _ (.tail _ (.tail _ (.head _)))), fun H3 s3 => k _ ((s1.trans s2).trans s3)⟩⟩
      rcases hk with rfl | rfl
      · exact ⟨_, rfl, case_miss hq (.inr (by simp)) (case_miss hq (.inl (miss_lit (by decide +kernel))) (case_hit hq (hit_or hit_lit) go))⟩
      · exact ⟨_, rfl, case_miss hq (.inr (by simp)) (case_miss hq (.inl (miss_lit (by decide +kernel))) (case_hit hq (hit_or2 (miss_lit (by decide +kernel)) (hit_or hit_lit)) go))⟩
    · obtain ⟨a, zs, rfl, hq, all⟩ := dp_tup hd
      cases all with
      | cons g0 all => cases all with
        | cons g1 all => cases all with
          | @cons o' _ _ _ g2 all => cases all with
            | @cons y3 _ _ _ g3 all => cases all with
              | @cons y4 _ _ _ g4 all =>
              cases all
              cases g0
              cases g1
              refine ⟨_, rfl, case_miss hq (.inr (by simp)) (case_miss hq (.inr (by simp)) (case_miss hq (.inr (by simp)) (case_hit hq hit_lit ?_)))⟩
              refine ⟨_, rfl, x, rfl, Nat.le_trans lx (by decide), fun H1 s1 => ⟨_, rfl, if_yes hn ?_⟩⟩
              have rest : ∀ (o' : V) H2, Same H H2 → tAndV (tOp (rNeD K) (tVar 1) (tLst tNil)) (tCall (spAt K C) [] E0 (tCons (tVar 2) tNil)) (setAll (L2.start nBk [.ref a]) [6, 7, 1, 2] [.str x, o', y3, y4]) H2 Q := fun o' H2 s2 => by
                refine rd_nenil rfl (dp_same s2 g3) (sh_ok (sh_ti sh _ (.tail _ (.tail _ (.tail _ (.head _)))))) fun H3 s3 => ⟨_, rfl, if_yes (neB ne) ⟨_, rfl, _, ts, rfl, dp_same (s2.trans s3) g4, ht, sh_ti sh _ (.tail _ (.tail _ (.tail _ (.tail _ (.head _))))), fun H4 s4 => k _ ((s2.trans s3).trans s4)⟩⟩
              rcases ho with rfl | ⟨ws, rfl, hws⟩
              · cases g2
                exact ⟨_, rfl, rfl, _, rfl, if_yes rfl ⟨_, rfl, if_yes rfl (rest _ _ s1)⟩⟩
              · obtain ⟨b, bs, rfl, hqb, _⟩ := dp_lst g2
                refine ⟨_, rfl, rfl, _, rfl, if_no rfl ⟨_, rfl, .ref b, ws, rfl, dp_same s1 g2, hws, sh_ti sh _ (.tail _ (.tail _ (.head _))), fun H2 s2 => ⟨_, rfl, if_yes rfl (rest _ _ (s1.trans s2))⟩⟩⟩
    · obtain ⟨a, y1, y2, y3, rfl, hq, h1, h2, h3⟩ := pc_four hd
      refine ⟨_, rfl, case_miss hq (.inr (by simp)) (case_miss hq (.inl (miss_lit (by decide +kernel))) (case_miss hq (.inl (miss_or (miss_lit (by decide +kernel)) (miss_or (miss_lit (by decide +kernel)) miss_or0))) (case_miss hq (.inr (by simp)) (case_hit hq hit_lit ?_))))⟩
      refine ⟨_, rfl, y1, l, rfl, h1, sh_ok (sh_ti sh _ (.tail _ (.head _))), hw, nw, fun H1 s1 => ⟨_, rfl, if_yes rfl ⟨_, rfl, y2, as, rfl, dp_same s1 h2, ha, sh_ti sh _ (.tail _ (.tail _ (.head _))), fun H2 s2 => ⟨_, rfl, if_yes rfl ?_⟩⟩⟩⟩
      exact ⟨_, rfl, y3, ts, rfl, dp_same (s1.trans s2) h3, ht, sh_ti sh _ (.tail _ (.tail _ (.tail _ (.head _)))), fun H3 s3 => k _ ((s1.trans s2).trans s3)⟩
abbrev sCm : Stmt := top 54
abbrev nCm : List Str := ["command", "sets", "words", "turns", "name", "body", "commands", "piped", "part", "other"]
theorem scCm : FnScope nCm ["command"] (defScope sCm) := ⟨rfl, rfl, rfl, by decide +kernel, rfl, by decide +kernel, by decide +kernel⟩
theorem has_Cm {C : PyData → Prop} (hh : Hds C) {f : Addr} {fd : FuncData}  (F : Fun K "is_command" "is_command" sCm f fd) (g : mg "is_command" = some (.ref f)) (B : Blt mg) (Wd : WrtD K mg) (hDo : Has P w K mg base 44 "is_do" ["sets", "words", "turns"] (spDo K C)) (hMb : Has P w K mg base 3 "may_be_made" ["name"] spMb) (hBk : Has P w K mg base 45 "is_block" ["command"] (spBk K C)) :
    Has P w K mg base 46 "is_command" ["command"] (spCm K C) := by
  obtain ⟨pB, gB, sB⟩ := Wd.bds
  obtain ⟨pN, gN, sN⟩ := Wd.nds
  obtain ⟨pT, gT, sT⟩ := Wd.nts
  obtain ⟨pL, gL, sL⟩ := Wd.lts
  obtain ⟨fDo, dDo, gDo, kDo, bDo, GDo⟩ := hDo
  obtain ⟨fMb, dMb, gMb, kMb, bMb, GMb⟩ := hMb
  obtain ⟨fBk, dBk, gBk, kBk, bBk, GBk⟩ := hBk
  refine has_of F g (F.binds (ps := ["command"]) fun _ _ _ _ _ _ us hl => match us, hl with | [_], _ => rfl) (F.ok scCm (fun vs H Q E h => ?_) (fun cdv A outer s H vs Q E hr h => ?_))
  · obtain ⟨v, c, rfl, _⟩ := h
    rfl
  · refine ⟨_, (pss_cons (ps_match (pv 0)
        (pcs_cons (is := [1, 2, 3]) scCm.nd (pp_seq rfl (pps_cons pp_lit (pps_cons pp_cap (pps_cons pp_cap (pps_cons pp_cap pps_nil))))) (.cons ⟨rfl, .inl rfl, .inr rfl⟩ (.cons ⟨rfl, .inl rfl, .inr rfl⟩ (.cons ⟨rfl, .inl rfl, .inr rfl⟩ .nil)))
          (pss_one (ps_ret (pe_call GDo (hr.mono (by decide)) rfl gDo kDo bDo .nil pass0 (pa_cons (pv 1) (pa_cons (pv 2) (pa_cons (pv 3) pa_nil))))))
        (pcs_cons (is := [4, 5]) scCm.nd (pp_seq rfl (pps_cons pp_lit (pps_cons pp_cap (pps_cons pp_cap pps_nil)))) (.cons ⟨rfl, .inl rfl, .inr rfl⟩ (.cons ⟨rfl, .inl rfl, .inr rfl⟩ .nil))
          (pss_one (ps_ret (pe_and (pe_call GMb (hr.mono (by decide)) rfl gMb kMb bMb .nil pass0 (pa_cons (pv 4) pa_nil)) (pe_one (pe_cmpR op_in_seq (pe_ix ix_tup (pv 5) pe_int (fun _ _ => rfl)) (pe_glob (v := .ref pB) (by rfl) gB rfl) (by rfl))))))
        (pcs_cons (is := [6]) scCm.nd (pp_seq rfl (pps_cons pp_lit (pps_cons pp_cap pps_nil))) (.cons ⟨rfl, .inl rfl, .inr rfl⟩ .nil)
          (pss_one (ps_ret (pe_and (pe_cmpR op_ge (pe_callB call_len_seq (by rfl) B.len PySem.boot_len (pa_cons (pv 6) pa_nil)) pe_int (nomark _)) (pe_one (pe_callB (cr_all rfl) (by rfl) B.all (by decide +kernel) (pa_cons (pe_lc (te := tOp (rIn K true) (tOp (rIxT K) (tVar 7) (tC (.int 0))) (tC (.ref pN))) (own := [("piped", 7)]) (g := gName 7) (tt := tYes) rfl scCm.nd (pi_list (pv 6)) (blkOk_by (N := nCm) (sc := defScope sCm) (by decide +kernel)) (fun _ _ _ _ _ => pg_name (i := 7) scCm.nd rfl (.inl rfl)) (fun _ _ _ _ _ => pts_nil) (fun _ _ _ _ _ => (pe_cmpR op_notIn_seq (pe_ix ix_tup (pv 7) pe_int (fun _ _ => rfl)) (pe_glob (v := .ref pN) (by rfl) gN rfl) (by rfl)))) pa_nil))))))
        (pcs_cons (is := [8]) scCm.nd (pp_seq rfl (pps_cons pp_lit (pps_cons pp_cap pps_nil))) (.cons ⟨rfl, .inl rfl, .inr rfl⟩ .nil)
          (pss_one (ps_ret (pe_cmpR op_notIn_seq (pe_ix ix_tup (pv 8) pe_int (fun _ _ => rfl)) (pe_glob (v := .ref pT) (by rfl) gT rfl) (by rfl))))
        (pcs_cons (is := [9]) scCm.nd (pp_seq rfl (pps_cons (pp_or (pf_cons pp_lit (pf_cons pp_lit pf_nil))) (pps_cons pp_any (pps_cons pp_cap pps_nil)))) (.cons ⟨rfl, .inl rfl, .inr rfl⟩ .nil)
          (pss_one (ps_ret (pe_cmpR op_notIn_seq (pe_ix ix_tup (pv 9) pe_int (fun _ _ => rfl)) (pe_glob (v := .ref pL) (by rfl) gL rfl) (by rfl)))) pcs_nil))))))
        (pss_one (ps_ret (pe_call GBk hr rfl gBk kBk bBk .nil pass0 (pa_cons (pv 0) pa_nil))))), ?_⟩
    obtain ⟨v, c, rfl, hd, hc, sh, k⟩ := h
    rcases hc with ⟨ss, ws, ts, rfl, hdo⟩ | ⟨x, b, rfl, hm, lx, hb, hcb⟩ | ⟨l, rfl, l2, l50, hl⟩ | ⟨b, rfl, hcb, hb⟩ | ⟨kk, a1, b, rfl, hk, hca, hcb, hb⟩ | hbk
    · obtain ⟨a, y1, y2, y3, rfl, hq, h1, h2, h3⟩ := pc_four hd
      refine ⟨_, rfl, case_hit hq hit_lit ?_⟩
      exact ⟨_, rfl, _, rfl, _, rfl, y1, y2, y3, ss, ws, ts, rfl, h1, h2, h3, hdo, sh_ti sh _ (.tail _ (.head _)), sh_ti sh _ (.tail _ (.tail _ (.head _))), sh_ti sh _ (.tail _ (.tail _ (.tail _ (.head _)))), k⟩
    · obtain ⟨a, y1, y2, rfl, hq, h1, h2⟩ := pc_three hd
      cases h1
      obtain ⟨y, m, rfl⟩ := hh b hcb
      refine ⟨_, rfl, case_miss hq (.inr (by simp)) (case_hit hq hit_lit ?_)⟩
      refine ⟨_, rfl, x, rfl, Nat.le_trans lx (by decide), fun H1 s1 => ⟨_, rfl, if_yes hm ?_⟩⟩
      obtain ⟨bb, z, rfl, q1⟩ := head_read (dp_same s1 h2)
      refine ⟨_, rfl, bb, _, 0, _, rfl, rfl, q1, atI_nat (j := 0) rfl, pB, bdW.map V.str, rfl, .inr (sB _), rfl, by decide +kernel, ?_⟩
      rw [if_neg (by decide : ¬ false = true), inV_iff, decide_eq_true (show y ∈ bdW from hb)]
      exact k _ s1
    · obtain ⟨a, y1, rfl, hq, h1⟩ := pc_two hd
      obtain ⟨b, xs, rfl, hqb, all⟩ := dp_lst h1
      have lx := dpLen all
      refine ⟨_, rfl, case_miss hq (.inr (by simp)) (case_miss hq (.inr (by simp)) (case_hit hq hit_lit ?_))⟩
      refine ⟨_, rfl, b, xs, rfl, .inl hqb, _, _, rfl, rfl, _, rfl, if_yes (decide_eq_true (by omega)) ⟨_, rfl, b, rfl, ⟨_, hqb⟩, fun D hD => lc_all (bs := l.map fun _ => true) hqb hD (by rw [List.length_map, lx]) (by omega) (fun i x b' H' Q' hx hb s2 q => ?_) (fun H2 s2 q1 => ⟨D, _, rfl, q1, by rw [len_all 0]; exact k _ s2⟩)⟩⟩
      obtain ⟨d, hdi, dp⟩ := dpAt' all hx
      rw [List.getElem?_map, hdi] at hb
      obtain rfl := Option.some.inj hb
      obtain ⟨hcd, hnd⟩ := hl d (List.mem_of_getElem? hdi)
      obtain ⟨y, m, rfl⟩ := hh d hcd
      obtain ⟨bb, z, rfl, q1⟩ := head_read (dp_same s2 dp)
      refine ⟨rfl, _, rfl, bb, _, 0, _, rfl, rfl, q1, atI_nat (j := 0) rfl, pN, ndW.map V.str, rfl, .inr (sN _), rfl, by decide +kernel, ?_⟩
      rw [if_pos rfl, inV_iff, decide_eq_false (show ¬ y ∈ ndW from hnd)]
      exact q _ (Same.refl _)
    · obtain ⟨a, y1, rfl, hq, h1⟩ := pc_two hd
      obtain ⟨y, m, rfl⟩ := hh b hcb
      obtain ⟨bb, z, rfl, q1⟩ := head_read h1
      refine ⟨_, rfl, case_miss hq (.inr (by simp)) (case_miss hq (.inr (by simp)) (case_miss hq (.inl (miss_lit (by decide +kernel))) (case_hit hq hit_lit ?_)))⟩
      refine ⟨_, rfl, bb, _, 0, _, rfl, rfl, q1, atI_nat (j := 0) rfl, pT, ntW.map V.str, rfl, .inr (sT _), rfl, by decide +kernel, ?_⟩
      rw [if_pos rfl, inV_iff, decide_eq_false (show ¬ y ∈ ntW from hb)]
      exact k _ (Same.refl _)
    · obtain ⟨a, y1, y2, rfl, hq, h1, h2⟩ := pc_three hd
      obtain ⟨y, m, rfl⟩ := hh b hcb
      obtain ⟨bb, z, rfl, q1⟩ := head_read h2
      have go : tOp (rIn K true) (tOp (rIxT K) (tVar 9) (tC (.int 0))) (tC (.ref pL)) (setAll (L2.start nCm [.ref a]) [9] [.ref bb]) H Q := by
        refine ⟨_, rfl, bb, _, 0, _, rfl, rfl, q1, atI_nat (j := 0) rfl, pL, ltW.map V.str, rfl, .inr (sL _), rfl, by decide +kernel, ?_⟩
        rw [if_pos rfl, inV_iff, decide_eq_false (show ¬ y ∈ ltW from hb)]
        exact k _ (Same.refl _)
      rcases hk with rfl | rfl
      · exact ⟨_, rfl, case_miss hq (.inr (by simp)) (case_miss hq (.inl (miss_lit (by decide +kernel))) (case_miss hq (.inr (by simp)) (case_miss hq (.inr (by simp)) (case_hitA hq (hit_or hit_lit) go))))⟩
      · exact ⟨_, rfl, case_miss hq (.inr (by simp)) (case_miss hq (.inl (miss_lit (by decide +kernel))) (case_miss hq (.inr (by simp)) (case_miss hq (.inr (by simp)) (case_hitA hq (hit_or2 (miss_lit (by decide +kernel)) (hit_or hit_lit)) go))))⟩
    · have go : ∀ a, v = .ref a → spBk K C ([.ref a] ++ []) H Q E0 := fun a e => ⟨.ref a, c, rfl, e ▸ hd, hbk, sh, k⟩
      have two : Miss (rOr [rLit "and", rLit "or"]) "group" ∧ Miss (rOr [rLit "and", rLit "or"]) "apart" := ⟨miss_or (miss_lit (by decide +kernel)) (miss_or (miss_lit (by decide +kernel)) miss_or0), miss_or (miss_lit (by decide +kernel)) (miss_or (miss_lit (by decide +kernel)) miss_or0)⟩
      rcases id hbk with ⟨kk, s', ts, rfl, hk, _⟩ | ⟨as, o, ts, rfl, _⟩ | ⟨kk, t, s', ts, rfl, hk, _⟩ | ⟨x, o, s', ts, rfl, _⟩ | ⟨l, as, ts, rfl, _⟩
      · obtain ⟨a, y1, y2, rfl, hq, h1, h2⟩ := pc_three hd
        rcases hk with rfl | rfl
        · exact ⟨_, rfl, case_miss hq (.inr (by simp)) (case_miss hq (.inl (miss_lit (by decide +kernel))) (case_miss hq (.inr (by simp)) (case_miss hq (.inr (by simp)) (case_miss hq (.inl two.1) ⟨_, rfl, go a rfl⟩))))⟩
        · exact ⟨_, rfl, case_miss hq (.inr (by simp)) (case_miss hq (.inl (miss_lit (by decide +kernel))) (case_miss hq (.inr (by simp)) (case_miss hq (.inr (by simp)) (case_miss hq (.inl two.2) ⟨_, rfl, go a rfl⟩))))⟩
      · obtain ⟨a, y1, y2, y3, rfl, hq, _⟩ := pc_four hd
        exact ⟨_, rfl, case_miss hq (.inl (miss_lit (by decide +kernel))) (case_miss hq (.inr (by simp)) (case_miss hq (.inr (by simp)) (case_miss hq (.inr (by simp)) (case_miss hq (.inr (by simp)) ⟨_, rfl, go a rfl⟩))))⟩
      · obtain ⟨a, y1, y2, y3, rfl, hq, _⟩ := pc_four hd
        have nd : kk ≠ "do" := by rcases hk with rfl | rfl <;> decide +kernel
        exact ⟨_, rfl, case_miss hq (.inl (miss_lit nd)) (case_miss hq (.inr (by simp)) (case_miss hq (.inr (by simp)) (case_miss hq (.inr (by simp)) (case_miss hq (.inr (by simp)) ⟨_, rfl, go a rfl⟩))))⟩
      · obtain ⟨a, zs, rfl, hq, all⟩ := dp_tup hd
        cases all with
        | cons g0 all => cases all with
          | cons g1 all => cases all with
            | cons g2 all => cases all with
              | cons g3 all => cases all with
                | cons g4 all =>
                cases all
                cases g0
                exact ⟨_, rfl, case_miss hq (.inr (by simp)) (case_miss hq (.inr (by simp)) (case_miss hq (.inr (by simp)) (case_miss hq (.inr (by simp)) (case_miss hq (.inr (by simp)) ⟨_, rfl, go a rfl⟩))))⟩
      · obtain ⟨a, y1, y2, y3, rfl, hq, _⟩ := pc_four hd
        exact ⟨_, rfl, case_miss hq (.inl (miss_lit (by decide +kernel))) (case_miss hq (.inr (by simp)) (case_miss hq (.inr (by simp)) (case_miss hq (.inr (by simp)) (case_miss hq (.inr (by simp)) ⟨_, rfl, go a rfl⟩))))⟩
end
end Qb
end PySem
namespace PySem
namespace Qb
open PySem.W PySem.Calls PyProof.Rows L2
/-! # the scripts and the commands in words -/
def Pth (H : Hp) (n : Nat) (a : Addr) : Prop := ∃ zs, H a = some (.lst zs) ∧ zs.length ≤ n
theorem Pth.same {H H' : Hp} {n m : Nat} {a : Addr} (h : Pth H n a) (s : Same H H') (l : n ≤ m) : Pth H' m a := by
  obtain ⟨zs, h, l2⟩ := h
  exact ⟨zs, s _ _ h, Nat.le_trans l2 l⟩
/-- new tuples (path, part), the part's data as they stood in G -/
def Inn (K : Frag) (m : Nat) (G H H' : Hp) (v : V) (d : PyData) : Prop := ∃ t pa x, v = .ref t ∧ H t = none ∧ H' t = some (.tup [.ref pa, x]) ∧ H pa = none ∧ Pth H' m pa ∧ Dp K G x d
theorem Inn.same {K : Frag} {n m : Nat} {G H0 H H' H2 : Hp} {v : V} {q : PyData} (h : Inn K n G H H' v q) (s0 : Same H0 H) (s : Same H' H2) (l : n ≤ m) : Inn K m G H0 H2 v q := by
  obtain ⟨t, pa, x, e, n1, h1, n2, h2, h3⟩ := h
  exact ⟨t, pa, x, e, s0.free n1, s _ _ h1, s0.free n2, h2.same s l, h3⟩
/-- what is new is not what was there -/
theorem Inn.hide {K : Frag} {n : Nat} {G H H' : Hp} {W : Addr} {o : HO} {v : V} {q : PyData} (h : Inn K n G H H' v q) (hW : H W = some o) : Inn K n G H (hide H' W) v q := by
  obtain ⟨t, pa, x, e, n1, h1, n2, ⟨zs, hz, lz⟩, h3⟩ := h
  exact ⟨t, pa, x, e, n1, hide_ne h1 (fun z => by rw [z, hW] at n1; cases n1), n2, ⟨zs, hide_ne hz (fun z => by rw [z, hW] at n2; cases n2), lz⟩, h3⟩
/-- a list that is being made -/
def MkL {α : Type} (R : Hp → V → α → Prop) (D : Addr) (as : List α) (H : Hp) : Prop := ∃ ys, H D = some (.lst ys) ∧ All2 (R (hide H D)) ys as
theorem MkL.start {α : Type} {R : Hp → V → α → Prop} {D : Addr} {H : Hp} : MkL R D [] (L2.upd H D (.lst [])) := ⟨[], upd_same, .nil⟩
theorem MkL.same {α : Type} {R : Hp → V → α → Prop} {D : Addr} {as : List α} {H H' : Hp} (mono : ∀ H1 H2 y a, Same H1 H2 → R H1 y a → R H2 y a) (h : MkL R D as H) (s : Same H H') : MkL R D as H' := by
  obtain ⟨ys, hD, al⟩ := h
  exact ⟨ys, s _ _ hD, al.imp fun _ _ r => mono _ _ _ _ (hide_mono s) r⟩
theorem MkL.add {α : Type} {R : Hp → V → α → Prop} {D : Addr} {as : List α} {H : Hp} (mono : ∀ H1 H2 y a, Same H1 H2 → R H1 y a → R H2 y a) (h : MkL R D as H) {u : V} {a : α} (r : R (hide H D) u a) (l : as.length + 1 ≤ sizeLine) :
    ∃ ys, H D = some (.lst ys) ∧ ys.length + 1 ≤ sizeLine ∧ MkL R D (as ++ [a]) (L2.upd H D (.lst (ys ++ [u]))) := by
  obtain ⟨ys, hD, al⟩ := h
  exact ⟨ys, hD, by rw [al.len]; exact l, _, upd_same, (al.imp fun _ _ r => mono _ _ _ _ hide_upd r).app (.cons (mono _ _ _ _ hide_upd r) .nil)⟩
theorem MkL.ext {α : Type} {R : Hp → V → α → Prop} {D : Addr} {as bs : List α} {zs : List V} {H : Hp} (mono : ∀ H1 H2 y a, Same H1 H2 → R H1 y a → R H2 y a) (h : MkL R D as H) (r : All2 (R (Qb.hide H D)) zs bs) (l : as.length + bs.length ≤ sizeLine) :
    ∃ ys, H D = some (.lst ys) ∧ ys.length + zs.length ≤ sizeLine ∧ MkL R D (as ++ bs) (L2.upd H D (.lst (ys ++ zs))) := by
  obtain ⟨ys, hD, al⟩ := h
  exact ⟨ys, hD, by rw [al.len, r.len]; exact l, _, upd_same, (al.imp fun _ _ r => mono _ _ _ _ hide_upd r).app (r.imp fun _ _ r => mono _ _ _ _ hide_upd r)⟩
theorem Inn.mono {K : Frag} {m : Nat} {G H : Hp} : ∀ (H1 H2 : Hp) (y : V) (a : PyData), Same H1 H2 → Inn K m G H H1 y a → Inn K m G H H2 y a := fun _ _ _ _ s r => r.same (Same.refl _) s (Nat.le_refl _)
theorem Inn.monoD {K : Frag} {m : Nat} {G H : Hp} {D : Addr} : ∀ (H1 H2 : Hp) (y : V) (a : PyData), Same H1 H2 → Inn K m G H (Qb.hide H1 D) y a → Inn K m G H (Qb.hide H2 D) y a := fun _ _ _ _ s r => r.same (Same.refl _) (hide_mono s) (Nat.le_refl _)
def dd5 : List Str := ["lack", "set", "must", "other", "cut"]
theorem dd5_hit {s : Str} (h : s ∈ dd5) : Hit (rOr [rLit "lack", rLit "set", rLit "must", rLit "other", rLit "cut"]) s := by
  rcases List.mem_cons.mp h with rfl | h
  · exact hit_or hit_lit
  rcases List.mem_cons.mp h with rfl | h
  · exact hit_or2 (miss_lit (by decide +kernel)) (hit_or hit_lit)
  rcases List.mem_cons.mp h with rfl | h
  · exact hit_or2 (miss_lit (by decide +kernel)) (hit_or2 (miss_lit (by decide +kernel)) (hit_or hit_lit))
  rcases List.mem_cons.mp h with rfl | h
  · exact hit_or2 (miss_lit (by decide +kernel)) (hit_or2 (miss_lit (by decide +kernel)) (hit_or2 (miss_lit (by decide +kernel)) (hit_or hit_lit)))
  · rw [List.mem_singleton.mp h]
    exact hit_or2 (miss_lit (by decide +kernel)) (hit_or2 (miss_lit (by decide +kernel)) (hit_or2 (miss_lit (by decide +kernel)) (hit_or2 (miss_lit (by decide +kernel)) (hit_or hit_lit))))
theorem zip_miss : Miss (rOr [rLit "lack", rLit "set", rLit "must", rLit "other", rLit "cut"]) "zip" :=
  miss_or (miss_lit (by decide +kernel)) (miss_or (miss_lit (by decide +kernel)) (miss_or (miss_lit (by decide +kernel)) (miss_or (miss_lit (by decide +kernel)) (miss_or (miss_lit (by decide +kernel)) miss_or0))))
/-- the scripts of a piece; f: those of the words within -/
def scrP (f : List PyData → List PyData) : PyData → List PyData
  | .tuple [.str k, d] => match d with
    | .list l => if k = "run" then [.list l] else if k = "wide" then f l else []
    | _ => []
  | .tuple [.str k, _, .tuple [.str q, _, .list l]] => if k = "name" then if q ∈ dd5 then f l else [] else []
  | _ => []
theorem scr_two (f : List PyData → List PyData) (k : Str) (l : List PyData) : scrP f (.tuple [.str k, .list l]) = if k = "run" then [.list l] else if k = "wide" then f l else [] := rfl
theorem scr_three (f : List PyData → List PyData) (k x q : Str) (c : PyData) (l : List PyData) : scrP f (.tuple [.str k, .str x, .tuple [.str q, c, .list l]]) = if k = "name" then if q ∈ dd5 then f l else [] else [] := rfl
def scr : Nat → List PyData → List PyData
  | 0, _ => []
  | n + 1, ws => ws.flatMap (scrP (scr n))
def spSw (K : Frag) (CR : PyData → Bool → Prop) (n : Nat) : Sp := fun vs H Q _ => ∃ (G : Hp) (v : V) (ws : List PyData) (i b r : Bool), vs = [v] ∧ Same G H ∧ Dp K G v (.list ws) ∧ WsR CR n i ws b r ∧ (scr n ws).length ≤ 5000 ∧
  ∀ H' a xs, Same H H' → H a = none → H' a = some (.lst xs) → All2 (Inn K (3 * n) G H H') xs (scr n ws) → Q (.ref a) H'
section
variable {P : Program} {w : World} {K : Frag} {mg : Str → Option Value} {base : Heap}
abbrev sSw : Stmt := top 74
abbrev nSw : List Str := ["pieces", "found", "at", "piece", "script", "inner", "path", "deeper", "word"]
theorem scSw : FnScope nSw ["pieces"] (defScope sSw) := ⟨rfl, rfl, rfl, by decide +kernel, rfl, by decide +kernel, by decide +kernel⟩
theorem has_Sw {CR : PyData → Bool → Prop} {n : Nat} (n14 : n ≤ 14) {f : Addr} {fd : FuncData}  (F : Fun K "scripts_in_word" "scripts_in_word" sSw f fd) (g : mg "scripts_in_word" = some (.ref f)) (B : Blt mg) (hSw : Has P w K mg base (n + 1) "scripts_in_word" ["pieces"] (spSw K CR n)) :
    Has P w K mg base (n + 2) "scripts_in_word" ["pieces"] (spSw K CR (n + 1)) := by
  obtain ⟨fSw, dSw, gSw, kSw, bSw, GSw⟩ := hSw
  refine has_of F g (F.binds (ps := ["pieces"]) fun _ _ _ _ _ _ us hl => match us, hl with | [_], _ => rfl) (F.ok scSw (fun vs H Q E h => ?_) (fun cdv A outer s H vs Q E hr h => ?_))
  · obtain ⟨G, v, ws, i, b, r, rfl, _⟩ := h
    rfl
  · refine ⟨_, (pss_cons (ps_set (i := 1) scSw.nd rfl (.inl rfl) (pe_lst pa_nil))
        (pss_cons (ps_for PassesOwn.never rfl (pi_enum (by rfl) B.enumerate (pa_cons (pv 0) pa_nil)) (pg_tup rfl (pgs_cons (pg_name (i := 2) scSw.nd rfl (.inr rfl)) (pgs_cons (pg_name (i := 3) scSw.nd rfl (.inl rfl)) pgs_nil)))
          (pss_one (ps_match (pv 3)
          (pcs_cons (is := [4]) scSw.nd (pp_seq rfl (pps_cons pp_lit (pps_cons pp_cap pps_nil))) (.cons ⟨rfl, .inl rfl, .inr rfl⟩ .nil)
            (pss_one (ps_expr (pe_bm PySem.F.plainAttrs_list PySem.F.slot_list_append PySem.F.type_list_append mt_append (pv 1) (pa_cons (pe_tup (pa_cons (pe_lst (pa_cons (pv 2) (pa_cons pe_int pa_nil))) (pa_cons (pv 4) pa_nil))) pa_nil))))
          (pcs_cons (is := [5]) scSw.nd (pp_seq rfl (pps_cons pp_lit (pps_cons pp_cap pps_nil))) (.cons ⟨rfl, .inl rfl, .inr rfl⟩ .nil)
            (pss_one (ps_expr (pe_bm PySem.F.plainAttrs_list PySem.F.slot_list_extend PySem.F.type_list_extend mt_extend (pv 1) (pa_cons (pe_lc (te := tTup (tCons (tOp rCat (tLst (tCons (tVar 2) (tCons (tC (.int 1)) tNil))) (tVar 6)) (tCons (tVar 7) tNil))) (own := [("path", 6), ("deeper", 7)]) (g := gTup K 2 (gCons (gName 6) (gCons (gName 7) gNil))) (tt := tYes) rfl scSw.nd (pi_list (pe_call GSw hr rfl gSw kSw bSw .nil pass0 (pa_cons (pv 5) pa_nil))) (blkOk_by (N := nSw) (sc := defScope sSw) (by decide +kernel)) (fun _ _ _ _ _ => pg_tup rfl (pgs_cons (pg_name (i := 6) scSw.nd rfl (.inl rfl)) (pgs_cons (pg_name (i := 7) scSw.nd rfl (.inl rfl)) pgs_nil))) (fun _ _ _ _ _ => pts_nil) (fun _ _ _ _ _ => (pe_tup (pa_cons (pe_op op_cat (pe_lst (pa_cons (pv 2) (pa_cons pe_int pa_nil))) (pv 6)) (pa_cons (pv 7) pa_nil))))) pa_nil))))
          (pcs_cons (is := [8]) scSw.nd (pp_seq rfl (pps_cons pp_lit (pps_cons pp_any (pps_cons (pp_seq rfl (pps_cons (pp_or (pf_cons pp_lit (pf_cons pp_lit (pf_cons pp_lit (pf_cons pp_lit (pf_cons pp_lit pf_nil)))))) (pps_cons pp_any (pps_cons pp_cap pps_nil)))) pps_nil)))) (.cons ⟨rfl, .inl rfl, .inr rfl⟩ .nil)
            (pss_one (ps_expr (pe_bm PySem.F.plainAttrs_list PySem.F.slot_list_extend PySem.F.type_list_extend mt_extend (pv 1) (pa_cons (pe_lc (te := tTup (tCons (tOp rCat (tLst (tCons (tVar 2) (tCons (tC (.int 2)) (tCons (tC (.int 2)) tNil)))) (tVar 6)) (tCons (tVar 7) tNil))) (own := [("path", 6), ("deeper", 7)]) (g := gTup K 2 (gCons (gName 6) (gCons (gName 7) gNil))) (tt := tYes) rfl scSw.nd (pi_list (pe_call GSw hr rfl gSw kSw bSw .nil pass0 (pa_cons (pv 8) pa_nil))) (blkOk_by (N := nSw) (sc := defScope sSw) (by decide +kernel)) (fun _ _ _ _ _ => pg_tup rfl (pgs_cons (pg_name (i := 6) scSw.nd rfl (.inl rfl)) (pgs_cons (pg_name (i := 7) scSw.nd rfl (.inl rfl)) pgs_nil))) (fun _ _ _ _ _ => pts_nil) (fun _ _ _ _ _ => (pe_tup (pa_cons (pe_op op_cat (pe_lst (pa_cons (pv 2) (pa_cons pe_int (pa_cons pe_int pa_nil)))) (pv 6)) (pa_cons (pv 7) pa_nil))))) pa_nil)))) pcs_nil))))))
        (pss_one (ps_ret (pv 1))))), ?_⟩
    obtain ⟨G, v, ws, i0, b, r, rfl, sG, hd, hws, hl, k⟩ := h
    obtain ⟨l, xs, rfl, hq, all⟩ := dp_lst hd
    have lx := dpLen all
    have l200 : ws.length ≤ n + 3 := hws.1
    refine ⟨(by decide : 0 ≤ sizeLine), fun D nD => ?_⟩
    have qD := same_upd (o := .lst []) nD
    refine ⟨_, rfl, l, xs, rfl, (sG.trans qD).seq hq, for_it (walk_enum (xs := xs)) (fun i σ H' => (∃ a b c d e f g, σ = [some (.ref l), some (.ref D), a, b, c, d, e, f, g]) ∧ Same H H' ∧ MkL (Inn K (3 * (n + 1)) G H) D ((ws.take i).flatMap (scrP (scr n))) H') ⟨⟨_, _, _, _, _, _, _, rfl⟩, qD, MkL.start⟩
      (fun i σ H' _ e => (sG.trans e.2.1).seq hq) (fun i x σ H' H2 hi e y => ?_) (fun σ H' e => ?_)⟩
    · obtain ⟨⟨s1, s2, s3, s4, s5, s6, s7, rfl⟩, sH, mk⟩ := e
      obtain ⟨T, x1, x2, rfl, nT, rfl, h1, hx⟩ := y
      have h1 : some (V.int (i : Nat)) = some x1 := h1
      obtain rfl := Option.some.inj h1
      obtain ⟨p, hp, dp⟩ := dpAt' all hx
      have sT := same_upd (o := .tup [.int (i : Nat), x2]) nT
      have sA := sH.trans sT
      have mk := mk.same Inn.mono sT
      refine ⟨T, _, rfl, SqT.of upd_same, rfl, _, _, rfl, _, _, rfl, rfl, _, rfl, ?_⟩
      generalize L2.upd H' T (.tup [.int (i : Nat), x2]) = H2 at sT sA mk ⊢
      rw [take_snoc hp, List.flatMap_append, List.flatMap_singleton]
      obtain ⟨_, ps, allp, _, _⟩ := hws
      obtain ⟨q, _, hpc⟩ := allp.mem (List.mem_of_getElem? hp)
      have tot : ((ws.take i).flatMap (scrP (scr n))).length + (scrP (scr n) p).length ≤ 5000 := by
        have e1 : ws = ws.take i ++ p :: ws.drop (i + 1) := by
          obtain ⟨hi', rfl⟩ := List.getElem?_eq_some_iff.mp hp
          rw [List.getElem_cons_drop, List.take_append_drop]
        have e2 : scr (n + 1) ws = (ws.take i).flatMap (scrP (scr n)) ++ (scrP (scr n) p ++ (ws.drop (i + 1)).flatMap (scrP (scr n))) := by
          show ws.flatMap (scrP (scr n)) = _
          conv => lhs; rw [e1]
          rw [List.flatMap_append, List.flatMap_cons]
        rw [e2, List.length_append, List.length_append] at hl
        omega
      have line : ∀ {a b : Nat}, a + b ≤ 5000 → a + b ≤ sizeLine := fun h => by rw [sizeLine_eq]; omega
      have none' : scrP (scr n) p = [] → (∃ a b c d e f g, [some (V.ref l), some (.ref D), some (V.int (i : Nat)), some x2, s3, s4, s5, s6, s7] = [some (V.ref l), some (.ref D), a, b, c, d, e, f, g]) ∧ Same H H2 ∧ MkL (Inn K (3 * (n + 1)) G H) D ((ws.take i).flatMap (scrP (scr n)) ++ scrP (scr n) p) H2 := fun e => by
        rw [e, List.append_nil]
        exact ⟨⟨_, _, _, _, _, _, _, rfl⟩, sA, mk⟩
      obtain ⟨ys0, hDy, al0⟩ := id mk
      rcases hpc with ⟨kk, x, rfl, hk, hx', _, _⟩ | ⟨w', bw, rw', rfl, hw, _, _⟩ | ⟨x, d, bd, rfl, hx', hd', _⟩ | ⟨t, rfl, _, _, _, _, _⟩ | ⟨cs, bs, rfl, hcl, _, _, _, _⟩
      · obtain ⟨a, y, rfl, hqa, h1⟩ := pc_two (dp_same (sG.trans sA) dp)
        exact case_miss hqa (.inl (miss_lit hk.run)) (case_miss hqa (.inl (miss_lit hk.wide)) (case_miss hqa (.inr (by simp)) (none' rfl)))
      · obtain ⟨a, y, rfl, hqa, h1⟩ := pc_two dp
        have hqa := sqT_same (sG.trans sA) hqa
        have ew : scrP (scr n) (.tuple [.str "wide", .list w']) = scr n w' := by
          rw [scr_two, if_neg (by decide +kernel), if_pos rfl]
        refine case_miss hqa (.inl (miss_lit (by decide +kernel))) (case_hit hqa hit_lit ?_)
        rw [ew] at tot ⊢
        refine ⟨_, rfl, .inl ⟨rfl, _, SqL.of hDy⟩, _, rfl, G, y, w', true, bw, rw', rfl, sG.trans sA, h1, hw, by omega, fun H3 r3 zs s3 fr3 hr3 a3 => ⟨r3, rfl, ⟨_, SqL.of hr3⟩, fun D2 nD2 => ?_⟩⟩
        have mk3 := mk.same Inn.mono s3
        have hD3 := s3 _ _ hDy
        have D2D : D2 ≠ D := fun z => by rw [z, hD3] at nD2; cases nD2
        have lz := a3.len
        refine lc_it (walk_list (xs := zs)) (fun j H' => Same H3 H' ∧ MkL (fun hp y d => Inn K (3 * (n + 1)) G H (hide hp D) y d) D2 ((scr n w').take j) H') ⟨same_upd nD2, MkL.start⟩ (fun j H' _ e => e.1.seq (SqL.of hr3)) (fun j x H' H2' hj e y => ?_) (fun H4 e => ?_)
        · obtain ⟨s4, mk4⟩ := e
          obtain ⟨rfl, hx⟩ := y
          obtain ⟨d, hdj, t2, pa, z, rfl, n1, q1, n2, ⟨zs1, q2, l2⟩, q3⟩ := a3.at hx
          obtain ⟨ys4, hD4, _⟩ := id mk4
          have hD5 := s4 _ _ hD3
          refine ⟨t2, _, rfl, SqT.of (s4 _ _ q1), rfl, _, _, rfl, _, _, rfl, rfl, rfl, ?_⟩
          refine ⟨_, rfl, (by decide : 2 ≤ sizeLine), fun p np => ⟨_, rfl, p, pa, _, zs1, rfl, rfl, upd_same, same_upd np _ _ (s4 _ _ q2), ?_, fun q nq => ⟨_, rfl, (by decide : 2 ≤ sizeLine), fun t nt => ?_⟩⟩⟩
          · show 2 + zs1.length ≤ sizeLine
            rw [sizeLine_eq]
            omega
          have sp := same_upd (o := .lst [V.int (i : Nat), .int 1]) np
          have sq := same_upd (o := .lst ([V.int (i : Nat), .int 1] ++ zs1)) nq
          have st := same_upd (o := .tup [.ref q, z]) nt
          have aA := (sp.trans sq).trans st
          have sB := (sA.trans s3).trans s4
          have qD : q ≠ D := fun z => by rw [z, sp _ _ hD5] at nq; cases nq
          have qD2 : q ≠ D2 := fun z => by rw [z, sp _ _ hD4] at nq; cases nq
          have tD : t ≠ D := fun z => by rw [z, sq _ _ (sp _ _ hD5)] at nt; cases nt
          have tD2 : t ≠ D2 := fun z => by rw [z, sq _ _ (sp _ _ hD4)] at nt; cases nt
          have lt := List.length_take_le j (scr n w')
          have lt2 := List.length_take_le' j (scr n w')
          obtain ⟨ys1, f1, f2, f3⟩ := (mk4.same Inn.monoD aA).add Inn.monoD (u := .ref t) (a := d) ⟨t, q, z, rfl, (sB.trans (sp.trans sq)).free nt, hide_ne (hide_ne upd_same tD2) tD, (sB.trans sp).free nq, ⟨_, hide_ne (hide_ne (st _ _ upd_same) qD2) qD, by rw [List.length_append]; show 2 + zs1.length ≤ _; omega⟩, q3⟩ (line (by omega))
          exact ⟨ys1, f1, f2, same_upd2 (s4.trans aA) nD2, by rw [take_snoc hdj]; exact f3⟩
        · obtain ⟨s4, ys, hD2', al⟩ := e
          rw [List.take_of_length_le (Nat.le_of_eq lz.symm)] at al
          obtain ⟨ys1, f1, f2, f3⟩ := (mk3.same Inn.mono s4).ext Inn.mono (zs := ys) (bs := scr n w') (al.imp fun _ _ r => r.same (Same.refl H) (hide_mono hide_same) (Nat.le_refl _)) (line tot)
          exact ⟨D, D2, ys1, ys, rfl, rfl, f1, hD2', f2, ⟨_, _, _, _, _, _, _, rfl⟩, same_upd2 ((sA.trans s3).trans s4) nD, f3⟩
      · obtain ⟨a, y, z, rfl, hqa, h1, h2⟩ := pc_three dp
        have hqa := sqT_same (sG.trans sA) hqa
        refine case_miss hqa (.inr (by simp)) (case_miss hqa (.inr (by simp)) ?_)
        have nameE : ∀ (q : Str) (c : PyData) (l' : List PyData), scrP (scr n) (.tuple [.str "name", .str x, .tuple [.str q, c, .list l']]) = if q ∈ dd5 then scr n l' else [] := fun q c l' => by
          rw [scr_three, if_pos rfl]
        refine ⟨a, _, rfl, hqa, fun ne => absurd rfl ne, fun _ => hit_lit _ _ ?_⟩
        rcases hd' with ⟨rfl, _, _⟩ | ⟨rfl, _, _⟩ | ⟨kk, c, w', bw, rw', rfl, hkk, hw, _, _⟩ | ⟨m, w', bw, rw', rfl, _, hw, _, _⟩
        · obtain ⟨b, zs, rfl, hqb, allb⟩ := dp_tup h2
          cases allb
          exact ⟨b, [], rfl, sqT_same (sG.trans sA) hqb, fun _ => none' rfl, fun e => absurd e (by simp)⟩
        · obtain ⟨b, zs, rfl, hqb, allb⟩ := dp_tup h2
          cases allb with
          | cons _ allb =>
            cases allb
            exact ⟨b, [_], rfl, sqT_same (sG.trans sA) hqb, fun _ => none' rfl, fun e => absurd e (by simp)⟩
        · obtain ⟨b, cv, y, rfl, hqb, h3, h4⟩ := pc_three h2
          have hqb := sqT_same (sG.trans sA) hqb
          by_cases c5 : kk ∈ dd5
          · have ew := (nameE kk (.bool c) w').trans (if_pos c5)
            refine ⟨b, _, rfl, hqb, fun ne => absurd rfl ne, fun _ => dd5_hit c5 _ _ ?_⟩
            rw [ew] at tot ⊢
            refine ⟨_, rfl, .inl ⟨rfl, _, SqL.of hDy⟩, _, rfl, G, y, w', false, bw, rw', rfl, sG.trans sA, h4, hw, by omega, fun H3 r3 zs s3 fr3 hr3 a3 => ⟨r3, rfl, ⟨_, SqL.of hr3⟩, fun D2 nD2 => ?_⟩⟩
            have mk3 := mk.same Inn.mono s3
            have hD3 := s3 _ _ hDy
            have D2D : D2 ≠ D := fun z => by rw [z, hD3] at nD2; cases nD2
            have lz := a3.len
            refine lc_it (walk_list (xs := zs)) (fun j H' => Same H3 H' ∧ MkL (fun hp y d => Inn K (3 * (n + 1)) G H (hide hp D) y d) D2 ((scr n w').take j) H') ⟨same_upd nD2, MkL.start⟩ (fun j H' _ e => e.1.seq (SqL.of hr3)) (fun j x H' H2' hj e y => ?_) (fun H4 e => ?_)
            · obtain ⟨s4, mk4⟩ := e
              obtain ⟨rfl, hx⟩ := y
              obtain ⟨d, hdj, t2, pa, z, rfl, n1, q1, n2, ⟨zs1, q2, l2⟩, q3⟩ := a3.at hx
              obtain ⟨ys4, hD4, _⟩ := id mk4
              have hD5 := s4 _ _ hD3
              refine ⟨t2, _, rfl, SqT.of (s4 _ _ q1), rfl, _, _, rfl, _, _, rfl, rfl, rfl, ?_⟩
              refine ⟨_, rfl, (by decide : 3 ≤ sizeLine), fun p np => ⟨_, rfl, p, pa, _, zs1, rfl, rfl, upd_same, same_upd np _ _ (s4 _ _ q2), ?_, fun q nq => ⟨_, rfl, (by decide : 2 ≤ sizeLine), fun t nt => ?_⟩⟩⟩
              · show 3 + zs1.length ≤ sizeLine
                rw [sizeLine_eq]
                omega
              have sp := same_upd (o := .lst [V.int (i : Nat), .int 2, .int 2]) np
              have sq := same_upd (o := .lst ([V.int (i : Nat), .int 2, .int 2] ++ zs1)) nq
              have st := same_upd (o := .tup [.ref q, z]) nt
              have aA := (sp.trans sq).trans st
              have sB := (sA.trans s3).trans s4
              have qD : q ≠ D := fun z => by rw [z, sp _ _ hD5] at nq; cases nq
              have qD2 : q ≠ D2 := fun z => by rw [z, sp _ _ hD4] at nq; cases nq
              have tD : t ≠ D := fun z => by rw [z, sq _ _ (sp _ _ hD5)] at nt; cases nt
              have tD2 : t ≠ D2 := fun z => by rw [z, sq _ _ (sp _ _ hD4)] at nt; cases nt
              have lt := List.length_take_le j (scr n w')
              have lt2 := List.length_take_le' j (scr n w')
              obtain ⟨ys1, f1, f2, f3⟩ := (mk4.same Inn.monoD aA).add Inn.monoD (u := .ref t) (a := d) ⟨t, q, z, rfl, (sB.trans (sp.trans sq)).free nt, hide_ne (hide_ne upd_same tD2) tD, (sB.trans sp).free nq, ⟨_, hide_ne (hide_ne (st _ _ upd_same) qD2) qD, by rw [List.length_append]; show 3 + zs1.length ≤ _; omega⟩, q3⟩ (line (by omega))
              exact ⟨ys1, f1, f2, same_upd2 (s4.trans aA) nD2, by rw [take_snoc hdj]; exact f3⟩
            · obtain ⟨s4, ys, hD2', al⟩ := e
              rw [List.take_of_length_le (Nat.le_of_eq lz.symm)] at al
              obtain ⟨ys1, f1, f2, f3⟩ := (mk3.same Inn.mono s4).ext Inn.mono (zs := ys) (bs := scr n w') (al.imp fun _ _ r => r.same (Same.refl H) (hide_mono hide_same) (Nat.le_refl _)) (line tot)
              exact ⟨D, D2, ys1, ys, rfl, rfl, f1, hD2', f2, ⟨_, _, _, _, _, _, _, rfl⟩, same_upd2 ((sA.trans s3).trans s4) nD, f3⟩
          · have hz : kk = "zip" := by
              rcases hkk with z | z
              · exact (c5 ((by decide +kernel : ∀ k ∈ dd4, k ∈ dd5) kk z)).elim
              · exact z
            subst hz
            refine ⟨b, _, rfl, hqb, fun ne => absurd rfl ne, fun _ => zip_miss _ _ ?_⟩
            exact none' ((nameE "zip" (.bool c) w').trans (if_neg c5))
        · obtain ⟨b, cv, y, rfl, hqb, h3, h4⟩ := pc_three h2
          have hqb := sqT_same (sG.trans sA) hqb
          have ew := (nameE "cut" (.str m) w').trans (if_pos (by decide +kernel))
          refine ⟨b, _, rfl, hqb, fun ne => absurd rfl ne, fun _ => dd5_hit (by decide +kernel) _ _ ?_⟩
          rw [ew] at tot ⊢
          refine ⟨_, rfl, .inl ⟨rfl, _, SqL.of hDy⟩, _, rfl, G, y, w', false, bw, rw', rfl, sG.trans sA, h4, hw, by omega, fun H3 r3 zs s3 fr3 hr3 a3 => ⟨r3, rfl, ⟨_, SqL.of hr3⟩, fun D2 nD2 => ?_⟩⟩
          have mk3 := mk.same Inn.mono s3
          have hD3 := s3 _ _ hDy
          have D2D : D2 ≠ D := fun z => by rw [z, hD3] at nD2; cases nD2
          have lz := a3.len
          refine lc_it (walk_list (xs := zs)) (fun j H' => Same H3 H' ∧ MkL (fun hp y d => Inn K (3 * (n + 1)) G H (hide hp D) y d) D2 ((scr n w').take j) H') ⟨same_upd nD2, MkL.start⟩ (fun j H' _ e => e.1.seq (SqL.of hr3)) (fun j x H' H2' hj e y => ?_) (fun H4 e => ?_)
          · obtain ⟨s4, mk4⟩ := e
            obtain ⟨rfl, hx⟩ := y
            obtain ⟨d, hdj, t2, pa, z, rfl, n1, q1, n2, ⟨zs1, q2, l2⟩, q3⟩ := a3.at hx
            obtain ⟨ys4, hD4, _⟩ := id mk4
            have hD5 := s4 _ _ hD3
            refine ⟨t2, _, rfl, SqT.of (s4 _ _ q1), rfl, _, _, rfl, _, _, rfl, rfl, rfl, ?_⟩
            refine ⟨_, rfl, (by decide : 3 ≤ sizeLine), fun p np => ⟨_, rfl, p, pa, _, zs1, rfl, rfl, upd_same, same_upd np _ _ (s4 _ _ q2), ?_, fun q nq => ⟨_, rfl, (by decide : 2 ≤ sizeLine), fun t nt => ?_⟩⟩⟩
            · show 3 + zs1.length ≤ sizeLine
              rw [sizeLine_eq]
              omega
            have sp := same_upd (o := .lst [V.int (i : Nat), .int 2, .int 2]) np
            have sq := same_upd (o := .lst ([V.int (i : Nat), .int 2, .int 2] ++ zs1)) nq
            have st := same_upd (o := .tup [.ref q, z]) nt
            have aA := (sp.trans sq).trans st
            have sB := (sA.trans s3).trans s4
            have qD : q ≠ D := fun z => by rw [z, sp _ _ hD5] at nq; cases nq
            have qD2 : q ≠ D2 := fun z => by rw [z, sp _ _ hD4] at nq; cases nq
            have tD : t ≠ D := fun z => by rw [z, sq _ _ (sp _ _ hD5)] at nt; cases nt
            have tD2 : t ≠ D2 := fun z => by rw [z, sq _ _ (sp _ _ hD4)] at nt; cases nt
            have lt := List.length_take_le j (scr n w')
            have lt2 := List.length_take_le' j (scr n w')
            obtain ⟨ys1, f1, f2, f3⟩ := (mk4.same Inn.monoD aA).add Inn.monoD (u := .ref t) (a := d) ⟨t, q, z, rfl, (sB.trans (sp.trans sq)).free nt, hide_ne (hide_ne upd_same tD2) tD, (sB.trans sp).free nq, ⟨_, hide_ne (hide_ne (st _ _ upd_same) qD2) qD, by rw [List.length_append]; show 3 + zs1.length ≤ _; omega⟩, q3⟩ (line (by omega))
            exact ⟨ys1, f1, f2, same_upd2 (s4.trans aA) nD2, by rw [take_snoc hdj]; exact f3⟩
          · obtain ⟨s4, ys, hD2', al⟩ := e
            rw [List.take_of_length_le (Nat.le_of_eq lz.symm)] at al
            obtain ⟨ys1, f1, f2, f3⟩ := (mk3.same Inn.mono s4).ext Inn.mono (zs := ys) (bs := scr n w') (al.imp fun _ _ r => r.same (Same.refl H) (hide_mono hide_same) (Nat.le_refl _)) (line tot)
            exact ⟨D, D2, ys1, ys, rfl, rfl, f1, hD2', f2, ⟨_, _, _, _, _, _, _, rfl⟩, same_upd2 ((sA.trans s3).trans s4) nD, f3⟩
      · obtain ⟨a, y, rfl, hqa, h1⟩ := pc_two (dp_same (sG.trans sA) dp)
        have e0 : scrP (scr n) (.tuple [.str "sum", t.d]) = [] := by
          cases ht : t.d with
          | list l => rw [scr_two, if_neg (by decide +kernel), if_neg (by decide +kernel)]
          | _ => rfl
        exact case_miss hqa (.inl (miss_lit (by decide +kernel))) (case_miss hqa (.inl (miss_lit (by decide +kernel))) (case_miss hqa (.inr (by simp)) (none' e0)))
      · obtain ⟨a, y, rfl, hqa, h1⟩ := pc_two dp
        have hqa := sqT_same (sG.trans sA) hqa
        have ew : scrP (scr n) (.tuple [.str "run", .list cs]) = [.list cs] := by
          rw [scr_two, if_pos rfl]
        refine case_hit hqa hit_lit ?_
        rw [ew] at tot ⊢
        refine ⟨_, rfl, .inl ⟨rfl, _, SqL.of hDy⟩, _, rfl, (by decide : 2 ≤ sizeLine), fun p np => ⟨_, rfl, (by decide : 2 ≤ sizeLine), fun t nt => ?_⟩⟩
        have sp := same_upd (o := .lst [.int (i : Nat), .int 1]) np
        have st := same_upd (o := .tup [.ref p, y]) nt
        have pD : p ≠ D := fun z => by rw [z, hDy] at np; cases np
        have tD : t ≠ D := fun z => by rw [z, sp _ _ hDy] at nt; cases nt
        obtain ⟨ys1, f1, f2, f3⟩ := ((mk.same Inn.mono sp).same Inn.mono st).add Inn.mono (u := .ref t) (a := .list cs) ⟨t, p, y, rfl, (sA.trans sp).free nt, hide_ne upd_same tD, sA.free np, ⟨_, hide_ne (st _ _ upd_same) pD, by show 2 ≤ _; omega⟩, h1⟩ (line tot)
        exact ⟨D, ys1, _, rfl, rfl, f1, f2, ⟨_, _, _, _, _, _, _, rfl⟩, same_upd2 ((sA.trans sp).trans st) nD, f3⟩
    · obtain ⟨⟨s1, s2, s3, s4, s5, s6, s7, rfl⟩, sH, mk⟩ := e
      rw [List.take_of_length_le (Nat.le_of_eq lx.symm)] at mk
      obtain ⟨ys, hD, al⟩ := mk
      exact ⟨_, rfl, k _ D ys sH nD hD (al.imp fun _ _ r => r.same (Same.refl H) hide_same (Nat.le_refl _))⟩
end
end Qb
end PySem
namespace PySem
namespace Qb
open PySem.W PySem.Calls PyProof.Rows L2
def lstOf : PyData → List PyData
  | .list l => l
  | _ => []
def cms (n : Nat) (ws : List PyData) : List PyData := (scr n ws).flatMap lstOf
theorem scrP_lists {f : List PyData → List PyData} (h : ∀ ws, ∀ d ∈ f ws, ∃ l, d = .list l) (p : PyData) : ∀ d ∈ scrP f p, ∃ l, d = .list l := fun d m => by
  unfold scrP at m
  split at m
  · split at m
    · split at m
      · exact ⟨_, List.mem_singleton.mp m⟩
      · split at m
        · exact h _ _ m
        · cases m
    · cases m
  · split at m
    · split at m
      · exact h _ _ m
      · cases m
    · cases m
  · cases m
theorem scr_lists : ∀ (n : Nat) (ws : List PyData), ∀ d ∈ scr n ws, ∃ l, d = .list l
  | 0, _ => fun d m => by cases m
  | n + 1, ws => fun d m => by
    obtain ⟨p, _, hp⟩ := List.mem_flatMap.mp m
    exact scrP_lists (scr_lists n) p d hp
def spCiw (K : Frag) (CR : PyData → Bool → Prop) (n : Nat) : Sp := fun vs H Q _ => ∃ (G : Hp) (v : V) (ws : List PyData) (i b r : Bool), vs = [v] ∧ Same G H ∧ Dp K G v (.list ws) ∧ WsR CR n i ws b r ∧ (scr n ws).length ≤ 5000 ∧ (cms n ws).length ≤ 5000 ∧
  ∀ H' a xs, Same H H' → H a = none → H' a = some (.lst xs) → All2 (Inn K (3 * n + 1) G H H') xs (cms n ws) → Q (.ref a) H'
section
variable {P : Program} {w : World} {K : Frag} {mg : Str → Option Value} {base : Heap}
abbrev sCiw : Stmt := top 75
abbrev nCiw : List Str := ["word", "found", "path", "script", "at", "command"]
theorem scCiw : FnScope nCiw ["word"] (defScope sCiw) := ⟨rfl, rfl, rfl, by decide +kernel, rfl, by decide +kernel, by decide +kernel⟩
theorem has_Ciw {CR : PyData → Bool → Prop} {n : Nat} (n14 : n ≤ 14) {f : Addr} {fd : FuncData}  (F : Fun K "commands_in_word" "commands_in_word" sCiw f fd) (g : mg "commands_in_word" = some (.ref f)) (B : Blt mg) (hSw : Has P w K mg base (n + 1) "scripts_in_word" ["pieces"] (spSw K CR n)) :
    Has P w K mg base (n + 2) "commands_in_word" ["word"] (spCiw K CR n) := by
  obtain ⟨fSw, dSw, gSw, kSw, bSw, GSw⟩ := hSw
  refine has_of F g (F.binds (ps := ["word"]) fun _ _ _ _ _ _ us hl => match us, hl with | [_], _ => rfl) (F.ok scCiw (fun vs H Q E h => ?_) (fun cdv A outer s H vs Q E hr h => ?_))
  · obtain ⟨G, v, ws, i, b, r, rfl, _⟩ := h
    rfl
  · refine ⟨_, (pss_cons (ps_set (i := 1) scCiw.nd rfl (.inl rfl) (pe_lst pa_nil))
        (pss_cons (ps_for PassesOwn.never rfl (pi_list (pe_call GSw hr rfl gSw kSw bSw .nil pass0 (pa_cons (pv 0) pa_nil))) (pg_tup rfl (pgs_cons (pg_name (i := 2) scCiw.nd rfl (.inr rfl)) (pgs_cons (pg_name (i := 3) scCiw.nd rfl (.inl rfl)) pgs_nil)))
          (pss_one (ps_expr (pe_bm PySem.F.plainAttrs_list PySem.F.slot_list_extend PySem.F.type_list_extend mt_extend (pv 1) (pa_cons (pe_lc (te := tTup (tCons (tOp rCat (tVar 2) (tLst (tCons (tVar 4) tNil))) (tCons (tVar 5) tNil))) (own := [("at", 4), ("command", 5)]) (g := gTup K 2 (gCons (gName 4) (gCons (gName 5) gNil))) (tt := tYes) rfl scCiw.nd (pi_enum (by rfl) B.enumerate (pa_cons (pv 3) pa_nil)) (blkOk_by (N := nCiw) (sc := defScope sCiw) (by decide +kernel)) (fun _ _ _ _ _ => pg_tup rfl (pgs_cons (pg_name (i := 4) scCiw.nd rfl (.inl rfl)) (pgs_cons (pg_name (i := 5) scCiw.nd rfl (.inl rfl)) pgs_nil))) (fun _ _ _ _ _ => pts_nil) (fun _ _ _ _ _ => (pe_tup (pa_cons (pe_op op_cat (pv 2) (pe_lst (pa_cons (pv 4) pa_nil))) (pa_cons (pv 5) pa_nil))))) pa_nil)))))
        (pss_one (ps_ret (pv 1))))), ?_⟩
    obtain ⟨G, v, ws, i0, b, r, rfl, sG, hd, hws, hl, hc, k⟩ := h
    refine ⟨(by decide : 0 ≤ sizeLine), fun D nD => ?_⟩
    have qD := same_upd (o := .lst []) nD
    refine ⟨_, rfl, G, v, ws, i0, b, r, rfl, sG.trans qD, hd, hws, hl, fun H2 rr xs s2 fr hr2 aI0 => ?_⟩
    have hD2 := s2 _ _ (upd_same (H := H) (a := D) (o := .lst []))
    have aI := aI0.imp fun _ _ h => h.hide (W := D) upd_same
    have rD : rr ≠ D := fun z => by
      rw [z, upd_same] at fr
      cases fr
    have hrh := hide_ne hr2 rD
    refine ⟨rr, rfl, ⟨_, SqL.of hr2⟩, for_it (walk_list (xs := xs)) (fun i σ H' => (∃ b c d e, σ = [some v, some (.ref D), b, c, d, e]) ∧ Same H H' ∧ Same (hide H2 D) (hide H' D) ∧ MkL (Inn K (3 * n + 1) G H) D (((scr n ws).take i).flatMap lstOf) H')
      ⟨⟨_, _, _, _, rfl⟩, qD.trans s2, Same.refl _, [], hD2, .nil⟩ (fun i σ H' _ e => SqL.of (hide_same _ _ (e.2.2.1 _ _ hrh))) (fun i x σ Ha H' hi e y => ?_) (fun σ H' e => ?_)⟩
    · obtain ⟨⟨s1, s3, s4, s5, rfl⟩, sH, sh, mk⟩ := e
      obtain ⟨rfl, hx⟩ := y
      obtain ⟨d, hdi, t, pa, z, rfl, n1, q1, n2, ⟨zs1, q2, l2⟩, q3⟩ := aI.at hx
      obtain ⟨cs, rfl⟩ := scr_lists n ws d (List.mem_of_getElem? hdi)
      have tot : (((scr n ws).take i).flatMap lstOf).length + cs.length ≤ 5000 := by
        have e1 : scr n ws = (scr n ws).take i ++ .list cs :: (scr n ws).drop (i + 1) := by
          obtain ⟨hi', e⟩ := List.getElem?_eq_some_iff.mp hdi
          rw [← e, List.getElem_cons_drop, List.take_append_drop]
        have e2 : cms n ws = ((scr n ws).take i).flatMap lstOf ++ (cs ++ ((scr n ws).drop (i + 1)).flatMap lstOf) := by
          show (scr n ws).flatMap lstOf = _
          conv => lhs; rw [e1]
          rw [List.flatMap_append, List.flatMap_cons]
          rfl
        rw [e2, List.length_append, List.length_append] at hc
        omega
      have line : ∀ {a b : Nat}, a + b ≤ 5000 → a + b ≤ sizeLine := fun h => by rw [sizeLine_eq]; omega
      have ht := hide_same _ _ (sh _ _ q1)
      have hpa := sh _ _ q2
      obtain ⟨ys0, hDy, _⟩ := id mk
      obtain ⟨ca, cx, rfl, hqc, allc⟩ := dp_lst q3
      have lx := dpLen allc
      refine ⟨t, _, rfl, SqT.of ht, rfl, _, _, rfl, _, _, rfl, rfl, ?_⟩
      refine ⟨_, rfl, .inl ⟨rfl, _, SqL.of hDy⟩, _, rfl, ca, cx, rfl, (sG.trans sH).seq hqc, fun D2 nD2 => ?_⟩
      have D2D : D2 ≠ D := fun z => by rw [z, hDy] at nD2; cases nD2
      refine lc_it (walk_enum (xs := cx)) (fun j H3 => Same H' H3 ∧ MkL (fun hp y d => Inn K (3 * n + 1) G H (hide hp D) y d) D2 (cs.take j) H3) ⟨same_upd nD2, MkL.start⟩ (fun j H3 _ e => ((sG.trans sH).trans e.1).seq hqc) (fun j x H3 H2' hj e y => ?_) (fun H4 e => ?_)
      · obtain ⟨s4, mk4⟩ := e
        obtain ⟨T, x1, x2, rfl, nT, rfl, h1, hx2⟩ := y
        obtain ⟨d, hdj, dp⟩ := dpAt' allc hx2
        obtain ⟨ys4, hD4, _⟩ := id mk4
        have hD5 := s4 _ _ hDy
        have sT := same_upd (o := .tup [x1, x2]) nT
        refine ⟨T, _, rfl, SqT.of upd_same, rfl, _, _, rfl, _, _, rfl, rfl, rfl, ?_⟩
        refine ⟨_, rfl, _, rfl, (by decide : 1 ≤ sizeLine), fun p np => ⟨pa, p, zs1, _, rfl, rfl, same_upd np _ _ (sT _ _ (s4 _ _ (hide_same _ _ hpa))), upd_same, ?_, fun q nq => ⟨_, rfl, (by decide : 2 ≤ sizeLine), fun t3 nt => ?_⟩⟩⟩
        · show zs1.length + 1 ≤ sizeLine
          rw [sizeLine_eq]
          omega
        have sp := same_upd (o := .lst [x1]) np
        have sq := same_upd (o := .lst (zs1 ++ [x1])) nq
        have st := same_upd (o := .tup [.ref q, x2]) nt
        have aA := ((sT.trans sp).trans sq).trans st
        have sB := sH.trans s4
        have qD' : q ≠ D := fun z => by rw [z, sp _ _ (sT _ _ hD5)] at nq; cases nq
        have qD2 : q ≠ D2 := fun z => by rw [z, sp _ _ (sT _ _ hD4)] at nq; cases nq
        have tD : t3 ≠ D := fun z => by rw [z, sq _ _ (sp _ _ (sT _ _ hD5))] at nt; cases nt
        have tD2 : t3 ≠ D2 := fun z => by rw [z, sq _ _ (sp _ _ (sT _ _ hD4))] at nt; cases nt
        have lt := List.length_take_le j cs
        have lt2 := List.length_take_le' j cs
        obtain ⟨ys1, f1, f2, f3⟩ := (mk4.same Inn.monoD aA).add Inn.monoD (u := .ref t3) (a := d) ⟨t3, q, x2, rfl, (sB.trans ((sT.trans sp).trans sq)).free nt, hide_ne (hide_ne upd_same tD2) tD, (sB.trans (sT.trans sp)).free nq, ⟨_, hide_ne (hide_ne (st _ _ upd_same) qD2) qD', by rw [List.length_append]; show zs1.length + 1 ≤ _; omega⟩, dp⟩ (by rw [sizeLine_eq]; omega)
        exact ⟨ys1, f1, f2, same_upd2 (s4.trans aA) nD2, by rw [take_snoc hdj]; exact f3⟩
      · obtain ⟨s4, ys, hD2', al⟩ := e
        rw [List.take_of_length_le (Nat.le_of_eq lx.symm)] at al
        obtain ⟨ys1, f1, f2, f3⟩ := (mk.same Inn.mono s4).ext Inn.mono (zs := ys) (bs := cs) (al.imp fun _ _ r => r.same (Same.refl H) (hide_mono hide_same) (Nat.le_refl _)) (line tot)
        refine ⟨D, D2, ys1, ys, rfl, rfl, f1, hD2', f2, ⟨_, _, _, _, rfl⟩, same_upd2 (sH.trans s4) nD, sh.trans ((hide_mono s4).trans hide_upd), ?_⟩
        rw [take_snoc hdi, List.flatMap_append, List.flatMap_singleton]
        exact f3
    · obtain ⟨⟨s1, s3, s4, s5, rfl⟩, sH, sh, mk⟩ := e
      have lx := aI0.len
      rw [List.take_of_length_le (Nat.le_of_eq lx.symm)] at mk
      obtain ⟨ys, hD, al⟩ := mk
      exact ⟨_, rfl, k _ D ys sH nD hD (al.imp fun _ _ r => r.same (Same.refl H) hide_same (Nat.le_refl _))⟩
end
end Qb
end PySem
namespace PySem
namespace Qb
open PySem.W PySem.Calls PyProof.Rows L2
/-! # the parts of commands -/
def wP (d : PyData) : Str × PyData := ("word", d)
def cP (d : PyData) : Str × PyData := ("command", d)
def snd1 : PyData → PyData
  | .tuple [_, d] => d
  | _ => .none
def thd : PyData → PyData
  | .tuple [_, _, d] => d
  | _ => .none
def armP (k l : Str) : PyData → List (Str × PyData)
  | .tuple [.list t, .list s] => (t.map fun d => (k, d)) ++ s.map fun d => (l, d)
  | _ => []
def twP (ts : List PyData) : List (Str × PyData) := ts.map fun t => wP (thd t)
def prt4 (k : Str) (a : List PyData) (o : PyData) (ts : List PyData) : List (Str × PyData) :=
  if k = "do" then (a.map fun s => wP (snd1 s)) ++ (lstOf o).map wP ++ twP ts
  else if k = "if" then a.flatMap (armP "command" "command") ++ (lstOf o).map cP ++ twP ts
  else if k = "case" then [wP (.list a)] ++ (lstOf o).flatMap (armP "word" "command") ++ twP ts
  else a.map cP ++ (lstOf o).map cP ++ twP ts
/-- the parts of a command -/
def prt : PyData → List (Str × PyData)
  | .tuple [.str _, .list l] => l.map cP
  | .tuple [.str _, b] => [cP b]
  | .tuple [.str _, .list s, .list ts] => s.map cP ++ twP ts
  | .tuple [.str _, .str _, b] => [cP b]
  | .tuple [.str _, a, b] => [cP a, cP b]
  | .tuple [.str k, .list a, o, .list ts] => prt4 k a o ts
  | .tuple [.str _, .str _, o, .list s, .list ts] => (lstOf o).map wP ++ s.map cP ++ twP ts
  | _ => []
/-- new tuples (path, kind, part), the part's data as they stood in G -/
def Itm (K : Frag) (G H H' : Hp) (v : V) (q : Str × PyData) : Prop := ∃ t pa x, v = .ref t ∧ H t = none ∧ H' t = some (.tup [.ref pa, .str q.1, x]) ∧ H pa = none ∧ Pth H' 5 pa ∧ Dp K G x q.2
theorem Itm.same {K : Frag} {G H0 H H' H2 : Hp} {v : V} {q : Str × PyData} (h : Itm K G H H' v q) (s0 : Same H0 H) (s : Same H' H2) : Itm K G H0 H2 v q := by
  obtain ⟨t, pa, x, e, n1, h1, n2, h2, h3⟩ := h
  exact ⟨t, pa, x, e, s0.free n1, s _ _ h1, s0.free n2, h2.same s (Nat.le_refl _), h3⟩
theorem Itm.hide {K : Frag} {G H H' : Hp} {W : Addr} {o : HO} {v : V} {q : Str × PyData} (h : Itm K G H H' v q) (hW : H W = some o) : Itm K G H (hide H' W) v q := by
  obtain ⟨t, pa, x, e, n1, h1, n2, ⟨zs, hz, lz⟩, h3⟩ := h
  exact ⟨t, pa, x, e, n1, hide_ne h1 (fun z => by rw [z, hW] at n1; cases n1), n2, ⟨zs, hide_ne hz (fun z => by rw [z, hW] at n2; cases n2), lz⟩, h3⟩
theorem Itm.mono {K : Frag} {G H : Hp} : ∀ (H1 H2 : Hp) (y : V) (a : Str × PyData), Same H1 H2 → Itm K G H H1 y a → Itm K G H H2 y a := fun _ _ _ _ s r => r.same (Same.refl _) s
/-- a new list of parts -/
def PL (K : Frag) (G H0 H' : Hp) (r : Addr) (ps : List (Str × PyData)) : Prop := ∃ xs, H' r = some (.lst xs) ∧ H0 r = none ∧ All2 (Itm K G H0 H') xs ps
theorem PL.same {K : Frag} {G H0 H H' H2 : Hp} {r : Addr} {ps : List (Str × PyData)} (h : PL K G H H' r ps) (s0 : Same H0 H) (s : Same H' H2) : PL K G H0 H2 r ps := by
  obtain ⟨xs, h1, n, al⟩ := h
  exact ⟨xs, s _ _ h1, s0.free n, al.imp fun _ _ r => r.same s0 s⟩
/-- what a term gives: a new list of parts -/
def GiP (K : Frag) (G : Hp) (σ : L2.St) (tm : TE) (ps : List (Str × PyData)) : Prop := ∀ H Q, Same G H → (∀ H' r, Same H H' → PL K G H H' r ps → Q (.ref r) H') → tm σ H Q
theorem sl {n : Nat} (h : n ≤ 100000) : n ≤ sizeLine := by rw [sizeLine_eq]; omega
theorem GiP.cat {K : Frag} {G : Hp} {σ : L2.St} {a b : TE} {ps qs : List (Str × PyData)} (ha : GiP K G σ a ps) (hb : GiP K G σ b qs) (l : ps.length + qs.length ≤ 100000) : GiP K G σ (tOp rCat a b) (ps ++ qs) := fun H Q sG k =>
  ha H _ sG fun H1 r1 s1 p1 => hb H1 _ (sG.trans s1) fun H2 r2 s2 p2 => by
    obtain ⟨xs, h1, n1, a1⟩ := p1.same (Same.refl _) s2
    obtain ⟨ys, h2, n2, a2⟩ := p2.same s1 (Same.refl _)
    refine ⟨r1, r2, xs, ys, rfl, rfl, h1, h2, by rw [a1.len, a2.len]; exact sl l, fun p np => ?_⟩
    have sp := same_upd (o := .lst (xs ++ ys)) np
    exact k _ p ((s1.trans s2).trans sp) ⟨_, upd_same, (s1.trans s2).free np, (a1.imp fun _ _ r => r.same (Same.refl _) sp).app (a2.imp fun _ _ r => r.same (Same.refl _) sp)⟩
def spAa (K : Frag) : Sp := fun vs H Q _ => ∃ G pa k v ds, vs = [.ref pa, .str k, v] ∧ Pth H 4 pa ∧ Same G H ∧ ((v = .non ∧ ds = []) ∨ Dp K G v (.list ds)) ∧ ds.length ≤ 60 ∧ ∀ H' r, Same H H' → PL K G H H' r (ds.map fun d => (k, d)) → Q (.ref r) H'
def TuS (t : PyData) : Prop := ∃ a b c, t = .tuple [a, b, c]
def spTw (K : Frag) : Sp := fun vs H Q _ => ∃ G i v ts, vs = [i, v] ∧ Same G H ∧ Dp K G v (.list ts) ∧ ts.length ≤ 60 ∧ (∀ t ∈ ts, TuS t) ∧ ∀ H' r, Same H H' → PL K G H H' r (twP ts) → Q (.ref r) H'
def ArS (a : PyData) : Prop := ∃ t s, a = .tuple [.list t, .list s] ∧ t.length ≤ 60 ∧ s.length ≤ 60
def spAr (K : Frag) (k l : Str) : Sp := fun vs H Q _ => ∃ G v as, vs = [v] ∧ Same G H ∧ Dp K G v (.list as) ∧ as.length ≤ 60 ∧ (∀ a ∈ as, ArS a) ∧ ∀ H' r, Same H H' → PL K G H H' r (as.flatMap (armP k l)) → Q (.ref r) H'
abbrev spIfa (K : Frag) : Sp := spAr K "command" "command"
abbrev spCaa (K : Frag) : Sp := spAr K "word" "command"
theorem GiP.aa {K : Frag} {G : Hp} {σ : L2.St} {i : V} {k : Str} {j : Nat} {v : V} {ds : List PyData} (hv : σ[j]? = some (some v)) (hd : (v = .non ∧ ds = []) ∨ Dp K G v (.list ds)) (l : ds.length ≤ 60) : GiP K G σ (tCall (spAa K) [] E0 (tCons (tLst (tCons (tC i) tNil)) (tCons (tC (.str k)) (tCons (tVar j) tNil)))) (ds.map fun d => (k, d)) := fun H Q sG kk =>
  ⟨(by decide : 1 ≤ sizeLine), fun p np => ⟨v, hv, G, p, k, v, ds, rfl, ⟨_, upd_same, (by decide : 1 ≤ 4)⟩, sG.trans (same_upd np), hd, l, fun H' r s pl => kk H' r ((same_upd np).trans s) (pl.same (same_upd np) (Same.refl _))⟩⟩
theorem GiP.tw {K : Frag} {G : Hp} {σ : L2.St} {i : V} {j : Nat} {v : V} {ts : List PyData} (hv : σ[j]? = some (some v)) (hd : Dp K G v (.list ts)) (l : ts.length ≤ 60) (ht : ∀ t ∈ ts, TuS t) : GiP K G σ (tCall (spTw K) [] E0 (tCons (tC i) (tCons (tVar j) tNil))) (twP ts) := fun H Q sG kk =>
  ⟨v, hv, G, i, v, ts, rfl, sG, hd, l, ht, kk⟩
theorem GiP.ar {K : Frag} {G : Hp} {σ : L2.St} {k l : Str} {j : Nat} {v : V} {as : List PyData} (hv : σ[j]? = some (some v)) (hd : Dp K G v (.list as)) (la : as.length ≤ 60) (ha : ∀ a ∈ as, ArS a) : GiP K G σ (tCall (spAr K k l) [] E0 (tCons (tVar j) tNil)) (as.flatMap (armP k l)) := fun H Q sG kk =>
  ⟨v, hv, G, v, as, rfl, sG, hd, la, ha, kk⟩
/-- [([i], k, v)] -/
theorem GiP.one {K : Frag} {G : Hp} {σ : L2.St} {i : V} {k : Str} {j : Nat} {v : V} {d : PyData} (hv : σ[j]? = some (some v)) (hd : Dp K G v d) : GiP K G σ (tLst (tCons (tTup (tCons (tLst (tCons (tC i) tNil)) (tCons (tC (.str k)) (tCons (tVar j) tNil)))) tNil)) [(k, d)] := fun H Q sG kk => by
  refine ⟨(by decide : 1 ≤ sizeLine), fun p np => ⟨v, hv, (by decide : 3 ≤ sizeLine), fun t nt => ⟨(by decide : 1 ≤ sizeLine), fun r nr => ?_⟩⟩⟩
  have sp := same_upd (o := .lst [i]) np
  have st := same_upd (o := .tup [.ref p, .str k, v]) nt
  have sr := same_upd (o := .lst [.ref t]) nr
  exact kk _ r ((sp.trans st).trans sr) ⟨_, upd_same, (sp.trans st).free nr, .cons ⟨t, p, v, rfl, sp.free nt, sr _ _ upd_same, np, ⟨_, (st.trans sr) _ _ upd_same, (by decide : 1 ≤ 5)⟩, hd⟩ .nil⟩
theorem GiP.two {K : Frag} {G : Hp} {σ : L2.St} {i i2 : V} {k k2 : Str} {j j2 : Nat} {v v2 : V} {d d2 : PyData} (hv : σ[j]? = some (some v)) (hd : Dp K G v d) (hv2 : σ[j2]? = some (some v2)) (hd2 : Dp K G v2 d2) :
    GiP K G σ (tLst (tCons (tTup (tCons (tLst (tCons (tC i) tNil)) (tCons (tC (.str k)) (tCons (tVar j) tNil)))) (tCons (tTup (tCons (tLst (tCons (tC i2) tNil)) (tCons (tC (.str k2)) (tCons (tVar j2) tNil)))) tNil))) [(k, d), (k2, d2)] := fun H Q sG kk => by
  refine ⟨(by decide : 1 ≤ sizeLine), fun p np => ⟨v, hv, (by decide : 3 ≤ sizeLine), fun t nt => ⟨(by decide : 1 ≤ sizeLine), fun p2 np2 => ⟨v2, hv2, (by decide : 3 ≤ sizeLine), fun t2 nt2 => ⟨(by decide : 2 ≤ sizeLine), fun r nr => ?_⟩⟩⟩⟩⟩
  have sp := same_upd (o := .lst [i]) np
  have st := same_upd (o := .tup [.ref p, .str k, v]) nt
  have sp2 := same_upd (o := .lst [i2]) np2
  have st2 := same_upd (o := .tup [.ref p2, .str k2, v2]) nt2
  have sr := same_upd (o := .lst [.ref t, .ref t2]) nr
  have s3 := (sp2.trans st2).trans sr
  exact kk _ r ((sp.trans st).trans s3) ⟨_, upd_same, ((sp.trans st).trans (sp2.trans st2)).free nr, .cons ⟨t, p, v, rfl, sp.free nt, s3 _ _ upd_same, np, ⟨_, (st.trans s3) _ _ upd_same, (by decide : 1 ≤ 5)⟩, hd⟩ (.cons ⟨t2, p2, v2, rfl, ((sp.trans st).trans sp2).free nt2, sr _ _ upd_same, (sp.trans st).free np2, ⟨_, (st2.trans sr) _ _ upd_same, (by decide : 1 ≤ 5)⟩, hd2⟩ .nil)⟩
section
variable {P : Program} {w : World} {K : Frag} {mg : Str → Option Value} {base : Heap}
abbrev sAa : Stmt := top 70
abbrev nAa : List Str := ["path", "kind", "parts", "at", "part"]
theorem scAa : FnScope nAa ["path", "kind", "parts"] (defScope sAa) := ⟨rfl, rfl, rfl, by decide +kernel, rfl, by decide +kernel, by decide +kernel⟩
theorem has_Aa {f : Addr} {fd : FuncData}  (F : Fun K "all_at" "all_at" sAa f fd) (g : mg "all_at" = some (.ref f)) (B : Blt mg)  :
    Has P w K mg base 1 "all_at" ["path", "kind", "parts"] (spAa K) := by
  refine has_of F g (F.binds (ps := ["path", "kind", "parts"]) fun _ _ _ _ _ _ us hl => match us, hl with | [_, _, _], _ => rfl) (F.ok scAa (fun vs H Q E h => ?_) (fun cdv A outer s H vs Q E hr h => ?_))
  · obtain ⟨G, pa, k, v, ds, rfl, _⟩ := h
    rfl
  · refine ⟨_, (pss_cons (ps_if (pt_cmpR op_isN (pv 2) pe_non (nomark _)) (pss_one (ps_ret (pe_lst pa_nil))) pss_nil)
        (pss_one (ps_ret (pe_lc (te := tTup (tCons (tOp rCat (tVar 0) (tLst (tCons (tVar 3) tNil))) (tCons (tVar 1) (tCons (tVar 4) tNil)))) (own := [("at", 3), ("part", 4)]) (g := gTup K 2 (gCons (gName 3) (gCons (gName 4) gNil))) (tt := tYes) rfl scAa.nd (pi_enum (by rfl) B.enumerate (pa_cons (pv 2) pa_nil)) (blkOk_by (N := nAa) (sc := defScope sAa) (by decide +kernel)) (fun _ _ _ _ _ => pg_tup rfl (pgs_cons (pg_name (i := 3) scAa.nd rfl (.inl rfl)) (pgs_cons (pg_name (i := 4) scAa.nd rfl (.inl rfl)) pgs_nil))) (fun _ _ _ _ _ => pts_nil) (fun _ _ _ _ _ => (pe_tup (pa_cons (pe_op op_cat (pv 0) (pe_lst (pa_cons (pv 3) pa_nil))) (pa_cons (pv 1) (pa_cons (pv 4) pa_nil))))))))), ?_⟩
    obtain ⟨G, pa, k, v, ds, rfl, hp, sG, hd, hl, kk⟩ := h
    rcases hd with ⟨rfl, rfl⟩ | hd
    · refine ⟨_, rfl, rfl, _, rfl, if_yes rfl ⟨(by decide : 0 ≤ sizeLine), fun p np => ?_⟩⟩
      exact kk _ p (same_upd np) ⟨_, upd_same, np, .nil⟩
    obtain ⟨a, xs, rfl, hq0, all⟩ := dp_lst hd
    have hq := sG.seq hq0
    have lx := dpLen all
    refine ⟨_, rfl, rfl, _, rfl, if_no rfl ?_⟩
    refine ⟨_, rfl, a, xs, rfl, hq, fun D hD => lc_it (walk_enum (xs := xs)) (fun i H' => Same H H' ∧ MkL (Itm K G H) D ((ds.take i).map fun d => (k, d)) H') ⟨same_upd hD, MkL.start⟩ (fun i H' _ e => e.1.seq hq) (fun i x H' H2 hi e y => ?_) (fun H' e => ?_)⟩
    · obtain ⟨s1, mk⟩ := e
      obtain ⟨T, x1, x2, rfl, nT, rfl, h1, hx⟩ := y
      obtain ⟨ys0, hDy, _⟩ := id mk
      obtain ⟨zs, hz, lz⟩ := hp
      obtain ⟨d, hdi, dp⟩ := dpAt' all hx
      have sT := same_upd (o := .tup [x1, x2]) nT
      refine ⟨T, _, rfl, SqT.of upd_same, rfl, _, _, rfl, _, _, rfl, rfl, rfl, ?_⟩
      refine ⟨_, rfl, _, rfl, (by decide : 1 ≤ sizeLine), fun p np => ⟨pa, p, zs, _, rfl, rfl, same_upd np _ _ (sT _ _ (s1 _ _ hz)), upd_same, sl (show zs.length + 1 ≤ 100000 by omega), fun q nq => ⟨_, rfl, _, rfl, (by decide : 3 ≤ sizeLine), fun t nt => ?_⟩⟩⟩
      have sp := same_upd (o := .lst [x1]) np
      have sq := same_upd (o := .lst (zs ++ [x1])) nq
      have st := same_upd (o := .tup [.ref q, .str k, x2]) nt
      have sA := ((sT.trans sp).trans sq).trans st
      have tD : t ≠ D := fun z => by rw [z, sq _ _ (sp _ _ (sT _ _ hDy))] at nt; cases nt
      have qD : q ≠ D := fun z => by rw [z, sp _ _ (sT _ _ hDy)] at nq; cases nq
      have l1 := List.length_take_le i ds
      have l2 := List.length_take_le' i ds
      obtain ⟨ys1, f1, f2, f3⟩ := (mk.same Itm.mono sA).add Itm.mono (u := .ref t) (a := (k, d)) ⟨t, q, x2, rfl, (s1.trans ((sT.trans sp).trans sq)).free nt, hide_ne upd_same tD, (s1.trans (sT.trans sp)).free nq, ⟨_, hide_ne (st _ _ upd_same) qD, by rw [List.length_append]; show zs.length + 1 ≤ _; omega⟩, dp⟩ (by rw [List.length_map]; exact sl (by omega))
      exact ⟨ys1, f1, f2, same_upd2 (s1.trans sA) hD, by rw [take_snoc hdi, List.map_append]; exact f3⟩
    · obtain ⟨s1, ys, hDy, al⟩ := e
      rw [List.take_of_length_le (Nat.le_of_eq lx.symm)] at al
      exact kk H' D s1 ⟨ys, hDy, hD, al.imp fun _ _ r => r.same (Same.refl _) hide_same⟩
abbrev sTw : Stmt := top 71
abbrev nTw : List Str := ["index", "turns", "at", "turn"]
theorem scTw : FnScope nTw ["index", "turns"] (defScope sTw) := ⟨rfl, rfl, rfl, by decide +kernel, rfl, by decide +kernel, by decide +kernel⟩
theorem has_Tw {f : Addr} {fd : FuncData}  (F : Fun K "turn_words" "turn_words" sTw f fd) (g : mg "turn_words" = some (.ref f)) (B : Blt mg)  :
    Has P w K mg base 1 "turn_words" ["index", "turns"] (spTw K) := by
  refine has_of F g (F.binds (ps := ["index", "turns"]) fun _ _ _ _ _ _ us hl => match us, hl with | [_, _], _ => rfl) (F.ok scTw (fun vs H Q E h => ?_) (fun cdv A outer s H vs Q E hr h => ?_))
  · obtain ⟨G, i, v, ts, rfl, _⟩ := h
    rfl
  · refine ⟨_, (pss_one (ps_ret (pe_lc (te := tTup (tCons (tLst (tCons (tVar 0) (tCons (tVar 2) (tCons (tC (.int 2)) tNil)))) (tCons (tC (.str "word")) (tCons (tOp (rIxT K) (tVar 3) (tC (.int 2))) tNil)))) (own := [("at", 2), ("turn", 3)]) (g := gTup K 2 (gCons (gName 2) (gCons (gName 3) gNil))) (tt := tYes) rfl scTw.nd (pi_enum (by rfl) B.enumerate (pa_cons (pv 1) pa_nil)) (blkOk_by (N := nTw) (sc := defScope sTw) (by decide +kernel)) (fun _ _ _ _ _ => pg_tup rfl (pgs_cons (pg_name (i := 2) scTw.nd rfl (.inl rfl)) (pgs_cons (pg_name (i := 3) scTw.nd rfl (.inl rfl)) pgs_nil))) (fun _ _ _ _ _ => pts_nil) (fun _ _ _ _ _ => (pe_tup (pa_cons (pe_lst (pa_cons (pv 0) (pa_cons (pv 2) (pa_cons pe_int pa_nil)))) (pa_cons pe_str (pa_cons (pe_ix ix_tup (pv 3) pe_int (fun _ _ => rfl)) pa_nil)))))))), ?_⟩
    obtain ⟨G, i0, v, ts, rfl, sG, hd, hl, ht, kk⟩ := h
    obtain ⟨a, xs, rfl, hq0, all⟩ := dp_lst hd
    have hq := sG.seq hq0
    have lx := dpLen all
    refine ⟨_, rfl, a, xs, rfl, hq, fun D hD => lc_it (walk_enum (xs := xs)) (fun i H' => Same H H' ∧ MkL (Itm K G H) D (twP (ts.take i)) H') ⟨same_upd hD, MkL.start⟩ (fun i H' _ e => e.1.seq hq) (fun i x H' H2 hi e y => ?_) (fun H' e => ?_)⟩
    · obtain ⟨s1, mk⟩ := e
      obtain ⟨T, x1, x2, rfl, nT, rfl, h1, hx⟩ := y
      obtain ⟨ys0, hDy, _⟩ := id mk
      obtain ⟨d, hdi, dp⟩ := dpAt' all hx
      obtain ⟨d1, d2, d3, rfl⟩ := ht d (List.mem_of_getElem? hdi)
      have sT := same_upd (o := .tup [x1, x2]) nT
      obtain ⟨c, zs, rfl, hqc, allc⟩ := dp_tup dp
      cases allc with
      | @cons w1 _ _ _ g1 allc => cases allc with
        | @cons w2 _ _ _ g2 allc => cases allc with
          | @cons w3 _ _ _ g3 allc =>
            cases allc
            refine ⟨T, _, rfl, SqT.of upd_same, rfl, _, _, rfl, _, _, rfl, rfl, rfl, ?_⟩
            refine ⟨_, rfl, _, rfl, (by decide : 3 ≤ sizeLine), fun p np => ⟨_, rfl, c, _, 2, w3, rfl, rfl, sqT_same (((sG.trans s1).trans sT).trans (same_upd np)) hqc, atI_nat (j := 2) rfl, (by decide : 3 ≤ sizeLine), fun t nt => ?_⟩⟩
            have sp := same_upd (o := .lst [i0, x1, V.int 2]) np
            have st := same_upd (o := .tup [.ref p, .str "word", w3]) nt
            have sA := (sT.trans sp).trans st
            have tD : t ≠ D := fun z => by rw [z, sp _ _ (sT _ _ hDy)] at nt; cases nt
            have pD : p ≠ D := fun z => by rw [z, sT _ _ hDy] at np; cases np
            have l1 := List.length_take_le i ts
            have l2 := List.length_take_le' i ts
            obtain ⟨ys1, f1, f2, f3⟩ := (mk.same Itm.mono sA).add Itm.mono (u := .ref t) (a := wP d3) ⟨t, p, w3, rfl, (s1.trans (sT.trans sp)).free nt, hide_ne upd_same tD, (s1.trans sT).free np, ⟨_, hide_ne (st _ _ upd_same) pD, (by decide : 3 ≤ 5)⟩, g3⟩ (by unfold twP; rw [List.length_map]; exact sl (by omega))
            refine ⟨ys1, f1, f2, same_upd2 (s1.trans sA) hD, ?_⟩
            unfold twP at f3 ⊢
            rw [take_snoc hdi, List.map_append]
            exact f3
    · obtain ⟨s1, ys, hDy, al⟩ := e
      rw [List.take_of_length_le (Nat.le_of_eq lx.symm)] at al
      exact kk H' D s1 ⟨ys, hDy, hD, al.imp fun _ _ r => r.same (Same.refl _) hide_same⟩
abbrev sIfa : Stmt := top 72
abbrev nIfa : List Str := ["arms", "found", "at", "arm"]
theorem scIfa : FnScope nIfa ["arms"] (defScope sIfa) := ⟨rfl, rfl, rfl, by decide +kernel, rfl, by decide +kernel, by decide +kernel⟩
theorem has_Ifa {f : Addr} {fd : FuncData}  (F : Fun K "if_arms" "if_arms" sIfa f fd) (g : mg "if_arms" = some (.ref f)) (B : Blt mg) (hAa : Has P w K mg base 1 "all_at" ["path", "kind", "parts"] (spAa K)) :
    Has P w K mg base 2 "if_arms" ["arms"] (spIfa K) := by
  obtain ⟨fAa, dAa, gAa, kAa, bAa, GAa⟩ := hAa
  refine has_of F g (F.binds (ps := ["arms"]) fun _ _ _ _ _ _ us hl => match us, hl with | [_], _ => rfl) (F.ok scIfa (fun vs H Q E h => ?_) (fun cdv A outer s H vs Q E hr h => ?_))
  · obtain ⟨G, v, as, rfl, _⟩ := h
    rfl
  · refine ⟨_, (pss_cons (ps_set (i := 1) scIfa.nd rfl (.inl rfl) (pe_lst pa_nil))
        (pss_cons (ps_for PassesOwn.never rfl (pi_enum (by rfl) B.enumerate (pa_cons (pv 0) pa_nil)) (pg_tup rfl (pgs_cons (pg_name (i := 2) scIfa.nd rfl (.inl rfl)) (pgs_cons (pg_name (i := 3) scIfa.nd rfl (.inl rfl)) pgs_nil)))
          (pss_cons (ps_expr (pe_bm PySem.F.plainAttrs_list PySem.F.slot_list_extend PySem.F.type_list_extend mt_extend (pv 1) (pa_cons (pe_call GAa hr rfl gAa kAa bAa .nil pass0 (pa_cons (pe_lst (pa_cons pe_int (pa_cons (pv 2) (pa_cons pe_int pa_nil)))) (pa_cons pe_str (pa_cons (pe_ix ix_tup (pv 3) pe_int (fun _ _ => rfl)) pa_nil)))) pa_nil)))
          (pss_one (ps_expr (pe_bm PySem.F.plainAttrs_list PySem.F.slot_list_extend PySem.F.type_list_extend mt_extend (pv 1) (pa_cons (pe_call GAa hr rfl gAa kAa bAa .nil pass0 (pa_cons (pe_lst (pa_cons pe_int (pa_cons (pv 2) (pa_cons pe_int pa_nil)))) (pa_cons pe_str (pa_cons (pe_ix ix_tup (pv 3) pe_int (fun _ _ => rfl)) pa_nil)))) pa_nil))))))
        (pss_one (ps_ret (pv 1))))), ?_⟩
    obtain ⟨G, v, as, rfl, sG, hd, la, ha, k⟩ := h
    obtain ⟨a, xs, rfl, hq0, all⟩ := dp_lst hd
    have lx := dpLen all
    refine ⟨(by decide : 0 ≤ sizeLine), fun D nD => ?_⟩
    have qD := same_upd (o := .lst []) nD
    refine ⟨_, rfl, a, xs, rfl, (sG.trans qD).seq hq0, for_it (walk_enum (xs := xs)) (fun i σ H' => (∃ a1 b, σ = [some (.ref a), some (.ref D), a1, b]) ∧ Same H H' ∧ MkL (Itm K G H) D ((as.take i).flatMap (armP "command" "command")) H') ⟨⟨_, _, rfl⟩, qD, MkL.start⟩
      (fun i σ H' _ e => (sG.trans e.2.1).seq hq0) (fun i x σ H' H2 hi e y => ?_) (fun σ H' e => ?_)⟩
    · obtain ⟨⟨s1, s2, rfl⟩, sH, mk⟩ := e
      obtain ⟨T, x1, x2, rfl, nT, rfl, h1, hx⟩ := y
      obtain ⟨d, hdi, dp⟩ := dpAt' all hx
      obtain ⟨t, s, rfl, lt, ls⟩ := ha d (List.mem_of_getElem? hdi)
      have sT := same_upd (o := .tup [x1, x2]) nT
      have mk := mk.same Itm.mono sT
      have sA := sH.trans sT
      have bnd : ∀ i, ((as.take i).flatMap (armP "command" "command")).length ≤ 120 * i := by
        intro i
        induction i with
        | zero => exact Nat.le_refl _
        | succ i ih =>
          cases e : as[i]? with
          | none =>
            rw [List.getElem?_eq_none_iff] at e
            rw [List.take_of_length_le (by omega)]
            rw [List.take_of_length_le e] at ih
            omega
          | some d =>
            obtain ⟨t, s, rfl, lt, ls⟩ := ha d (List.mem_of_getElem? e)
            rw [take_snoc e, List.flatMap_append, List.flatMap_singleton, List.length_append]
            show _ + (t.map _ ++ s.map _).length ≤ _
            rw [List.length_append, List.length_map, List.length_map]
            omega
      have b1 := bnd i
      have hi' : i < as.length := by
        rcases Nat.lt_or_ge i as.length with l | l
        · exact l
        · rw [List.getElem?_eq_none l] at hdi; cases hdi
      obtain ⟨c, zs, rfl, hqc, allc⟩ := dp_tup dp
      cases allc with
      | @cons w1 _ _ _ g1 allc => cases allc with
        | @cons w2 _ _ _ g2 allc =>
            cases allc
            refine ⟨T, _, rfl, SqT.of upd_same, rfl, _, _, rfl, _, _, rfl, rfl, ?_⟩
            generalize L2.upd H' T (.tup [x1, .ref c]) = H3 at sT sA mk ⊢
            obtain ⟨ys0, hDy, _⟩ := id mk
            refine ⟨_, rfl, .inl ⟨rfl, _, SqL.of hDy⟩, _, rfl, (by decide : 3 ≤ sizeLine), fun p np => ⟨_, rfl, c, _, 0, w1, rfl, rfl, sqT_same ((sG.trans sA).trans (same_upd np)) hqc, atI_nat (j := 0) rfl, G, p, "command", w1, t, rfl, ⟨_, upd_same, (by decide : 3 ≤ 4)⟩, (sG.trans sA).trans (same_upd np), .inr g1, lt, fun H4 r4 s4 pl4 => ?_⟩⟩
            obtain ⟨zs4, q4, n4, al4⟩ := pl4.same (same_upd np) (Same.refl _)
            have s34 := (same_upd np).trans s4
            obtain ⟨ys1, f1, f2, f3⟩ := (mk.same Itm.mono s34).ext Itm.mono (zs := zs4) (bs := t.map fun d => (("command" : Str), d)) (al4.imp fun _ _ r => (r.hide hDy).same sA (Same.refl _)) (by rw [List.length_map]; exact sl (by omega))
            refine ⟨D, r4, ys1, zs4, rfl, rfl, f1, q4, f2, ?_⟩
            have sB := sA.trans s34
            have sC : Same H (L2.upd H4 D (.lst (ys1 ++ zs4))) := same_upd2 sB nD
            have hD5 : (L2.upd H4 D (.lst (ys1 ++ zs4))) D = some (.lst (ys1 ++ zs4)) := upd_same
            generalize L2.upd H4 D (.lst (ys1 ++ zs4)) = H5 at sC f3 hD5 ⊢
            refine ⟨_, rfl, .inl ⟨rfl, _, SqL.of hD5⟩, _, rfl, (by decide : 3 ≤ sizeLine), fun p np => ⟨_, rfl, c, _, 1, w2, rfl, rfl, sqT_same ((sG.trans sC).trans (same_upd np)) hqc, atI_nat (j := 1) rfl, G, p, "command", w2, s, rfl, ⟨_, upd_same, (by decide : 3 ≤ 4)⟩, (sG.trans sC).trans (same_upd np), .inr g2, ls, fun H6 r6 s6 pl6 => ?_⟩⟩
            obtain ⟨zs6, q6, n6, al6⟩ := pl6.same (same_upd np) (Same.refl _)
            have s56 := (same_upd np).trans s6
            obtain ⟨ys2, i1, i2, i3⟩ := (f3.same Itm.mono s56).ext Itm.mono (zs := zs6) (bs := s.map fun d => (("command" : Str), d)) (al6.imp fun _ _ r => (r.hide hD5).same sC (Same.refl _)) (by rw [List.length_append, List.length_map, List.length_map]; exact sl (by omega))
            refine ⟨D, r6, ys2, zs6, rfl, rfl, i1, q6, i2, ⟨_, _, rfl⟩, same_upd2 (sC.trans s56) nD, ?_⟩
            rw [take_snoc hdi, List.flatMap_append, List.flatMap_singleton]
            rw [List.append_assoc] at i3
            exact i3
    · obtain ⟨⟨s1, s2, rfl⟩, sH, ys, hDy, al⟩ := e
      rw [List.take_of_length_le (Nat.le_of_eq lx.symm)] at al
      exact ⟨_, rfl, k _ D sH ⟨ys, hDy, nD, al.imp fun _ _ r => r.same (Same.refl _) hide_same⟩⟩
abbrev sCaa : Stmt := top 73
abbrev nCaa : List Str := ["arms", "found", "at", "arm"]
theorem scCaa : FnScope nCaa ["arms"] (defScope sCaa) := ⟨rfl, rfl, rfl, by decide +kernel, rfl, by decide +kernel, by decide +kernel⟩
theorem has_Caa {f : Addr} {fd : FuncData}  (F : Fun K "case_arms" "case_arms" sCaa f fd) (g : mg "case_arms" = some (.ref f)) (B : Blt mg) (hAa : Has P w K mg base 1 "all_at" ["path", "kind", "parts"] (spAa K)) :
    Has P w K mg base 2 "case_arms" ["arms"] (spCaa K) := by
  obtain ⟨fAa, dAa, gAa, kAa, bAa, GAa⟩ := hAa
  refine has_of F g (F.binds (ps := ["arms"]) fun _ _ _ _ _ _ us hl => match us, hl with | [_], _ => rfl) (F.ok scCaa (fun vs H Q E h => ?_) (fun cdv A outer s H vs Q E hr h => ?_))
  · obtain ⟨G, v, as, rfl, _⟩ := h
    rfl
  · refine ⟨_, (pss_cons (ps_set (i := 1) scCaa.nd rfl (.inl rfl) (pe_lst pa_nil))
        (pss_cons (ps_for PassesOwn.never rfl (pi_enum (by rfl) B.enumerate (pa_cons (pv 0) pa_nil)) (pg_tup rfl (pgs_cons (pg_name (i := 2) scCaa.nd rfl (.inl rfl)) (pgs_cons (pg_name (i := 3) scCaa.nd rfl (.inl rfl)) pgs_nil)))
          (pss_cons (ps_expr (pe_bm PySem.F.plainAttrs_list PySem.F.slot_list_extend PySem.F.type_list_extend mt_extend (pv 1) (pa_cons (pe_call GAa hr rfl gAa kAa bAa .nil pass0 (pa_cons (pe_lst (pa_cons pe_int (pa_cons (pv 2) (pa_cons pe_int pa_nil)))) (pa_cons pe_str (pa_cons (pe_ix ix_tup (pv 3) pe_int (fun _ _ => rfl)) pa_nil)))) pa_nil)))
          (pss_one (ps_expr (pe_bm PySem.F.plainAttrs_list PySem.F.slot_list_extend PySem.F.type_list_extend mt_extend (pv 1) (pa_cons (pe_call GAa hr rfl gAa kAa bAa .nil pass0 (pa_cons (pe_lst (pa_cons pe_int (pa_cons (pv 2) (pa_cons pe_int pa_nil)))) (pa_cons pe_str (pa_cons (pe_ix ix_tup (pv 3) pe_int (fun _ _ => rfl)) pa_nil)))) pa_nil))))))
        (pss_one (ps_ret (pv 1))))), ?_⟩
    obtain ⟨G, v, as, rfl, sG, hd, la, ha, k⟩ := h
    obtain ⟨a, xs, rfl, hq0, all⟩ := dp_lst hd
    have lx := dpLen all
    refine ⟨(by decide : 0 ≤ sizeLine), fun D nD => ?_⟩
    have qD := same_upd (o := .lst []) nD
    refine ⟨_, rfl, a, xs, rfl, (sG.trans qD).seq hq0, for_it (walk_enum (xs := xs)) (fun i σ H' => (∃ a1 b, σ = [some (.ref a), some (.ref D), a1, b]) ∧ Same H H' ∧ MkL (Itm K G H) D ((as.take i).flatMap (armP "word" "command")) H') ⟨⟨_, _, rfl⟩, qD, MkL.start⟩
      (fun i σ H' _ e => (sG.trans e.2.1).seq hq0) (fun i x σ H' H2 hi e y => ?_) (fun σ H' e => ?_)⟩
    · obtain ⟨⟨s1, s2, rfl⟩, sH, mk⟩ := e
      obtain ⟨T, x1, x2, rfl, nT, rfl, h1, hx⟩ := y
      obtain ⟨d, hdi, dp⟩ := dpAt' all hx
      obtain ⟨t, s, rfl, lt, ls⟩ := ha d (List.mem_of_getElem? hdi)
      have sT := same_upd (o := .tup [x1, x2]) nT
      have mk := mk.same Itm.mono sT
      have sA := sH.trans sT
      have bnd : ∀ i, ((as.take i).flatMap (armP "word" "command")).length ≤ 120 * i := by
        intro i
        induction i with
        | zero => exact Nat.le_refl _
        | succ i ih =>
          cases e : as[i]? with
          | none =>
            rw [List.getElem?_eq_none_iff] at e
            rw [List.take_of_length_le (by omega)]
            rw [List.take_of_length_le e] at ih
            omega
          | some d =>
            obtain ⟨t, s, rfl, lt, ls⟩ := ha d (List.mem_of_getElem? e)
            rw [take_snoc e, List.flatMap_append, List.flatMap_singleton, List.length_append]
            show _ + (t.map _ ++ s.map _).length ≤ _
            rw [List.length_append, List.length_map, List.length_map]
            omega
      have b1 := bnd i
      have hi' : i < as.length := by
        rcases Nat.lt_or_ge i as.length with l | l
        · exact l
        · rw [List.getElem?_eq_none l] at hdi; cases hdi
      obtain ⟨c, zs, rfl, hqc, allc⟩ := dp_tup dp
      cases allc with
      | @cons w1 _ _ _ g1 allc => cases allc with
        | @cons w2 _ _ _ g2 allc =>
            cases allc
            refine ⟨T, _, rfl, SqT.of upd_same, rfl, _, _, rfl, _, _, rfl, rfl, ?_⟩
            generalize L2.upd H' T (.tup [x1, .ref c]) = H3 at sT sA mk ⊢
            obtain ⟨ys0, hDy, _⟩ := id mk
            refine ⟨_, rfl, .inl ⟨rfl, _, SqL.of hDy⟩, _, rfl, (by decide : 3 ≤ sizeLine), fun p np => ⟨_, rfl, c, _, 0, w1, rfl, rfl, sqT_same ((sG.trans sA).trans (same_upd np)) hqc, atI_nat (j := 0) rfl, G, p, "word", w1, t, rfl, ⟨_, upd_same, (by decide : 3 ≤ 4)⟩, (sG.trans sA).trans (same_upd np), .inr g1, lt, fun H4 r4 s4 pl4 => ?_⟩⟩
            obtain ⟨zs4, q4, n4, al4⟩ := pl4.same (same_upd np) (Same.refl _)
            have s34 := (same_upd np).trans s4
            obtain ⟨ys1, f1, f2, f3⟩ := (mk.same Itm.mono s34).ext Itm.mono (zs := zs4) (bs := t.map fun d => (("word" : Str), d)) (al4.imp fun _ _ r => (r.hide hDy).same sA (Same.refl _)) (by rw [List.length_map]; exact sl (by omega))
            refine ⟨D, r4, ys1, zs4, rfl, rfl, f1, q4, f2, ?_⟩
            have sB := sA.trans s34
            have sC : Same H (L2.upd H4 D (.lst (ys1 ++ zs4))) := same_upd2 sB nD
            have hD5 : (L2.upd H4 D (.lst (ys1 ++ zs4))) D = some (.lst (ys1 ++ zs4)) := upd_same
            generalize L2.upd H4 D (.lst (ys1 ++ zs4)) = H5 at sC f3 hD5 ⊢
            refine ⟨_, rfl, .inl ⟨rfl, _, SqL.of hD5⟩, _, rfl, (by decide : 3 ≤ sizeLine), fun p np => ⟨_, rfl, c, _, 1, w2, rfl, rfl, sqT_same ((sG.trans sC).trans (same_upd np)) hqc, atI_nat (j := 1) rfl, G, p, "command", w2, s, rfl, ⟨_, upd_same, (by decide : 3 ≤ 4)⟩, (sG.trans sC).trans (same_upd np), .inr g2, ls, fun H6 r6 s6 pl6 => ?_⟩⟩
            obtain ⟨zs6, q6, n6, al6⟩ := pl6.same (same_upd np) (Same.refl _)
            have s56 := (same_upd np).trans s6
            obtain ⟨ys2, i1, i2, i3⟩ := (f3.same Itm.mono s56).ext Itm.mono (zs := zs6) (bs := s.map fun d => (("command" : Str), d)) (al6.imp fun _ _ r => (r.hide hD5).same sC (Same.refl _)) (by rw [List.length_append, List.length_map, List.length_map]; exact sl (by omega))
            refine ⟨D, r6, ys2, zs6, rfl, rfl, i1, q6, i2, ⟨_, _, rfl⟩, same_upd2 (sC.trans s56) nD, ?_⟩
            rw [take_snoc hdi, List.flatMap_append, List.flatMap_singleton]
            rw [List.append_assoc] at i3
            exact i3
    · obtain ⟨⟨s1, s2, rfl⟩, sH, ys, hDy, al⟩ := e
      rw [List.take_of_length_le (Nat.le_of_eq lx.symm)] at al
      exact ⟨_, rfl, k _ D sH ⟨ys, hDy, nD, al.imp fun _ _ r => r.same (Same.refl _) hide_same⟩⟩
end
end Qb
end PySem
namespace PySem
namespace Qb
open PySem.W PySem.Calls PyProof.Rows L2
theorem case_hitA4 {K : Frag} {r : PatR} {is : List Nat} {t : TS} {rest : List (List Nat × PatR × TS)} {a : Addr} {c : Str} {y1 y2 y3 y4 : V} {D : Ends} {σ : L2.St} {H : Hp} (hq : SqT K H a [.str c, y1, y2, y3, y4]) (hh : Hit r c) (h : t D (setAll σ is [y2, y3, y4]) H) : tCases ((is, rSeq K 5 [r, rAny1, rCap, rCap, rCap], t) :: rest) (.ref a) D σ H := by
  refine ⟨a, _, rfl, hq, fun ne => absurd rfl ne, fun _ => ?_⟩
  refine hh H _ ?_
  exact h
theorem PL.mk {K : Frag} {G H H' : Hp} {D : Addr} {ps : List (Str × PyData)} (nD : H D = none) (h : MkL (Itm K G H) D ps H') : PL K G H H' D ps := by
  obtain ⟨ys, hD, al⟩ := h
  exact ⟨ys, hD, nD, al.imp fun _ _ r => r.same (Same.refl _) hide_same⟩
theorem GiP.catV {K : Frag} {G H H1 : Hp} {σ : L2.St} {j : Nat} {D : Addr} {b c : TE} {ps qs rs : List (Str × PyData)} {Q : VK} (hv : σ[j]? = some (some (.ref D))) (pl : PL K G H H1 D ps) (hb : GiP K G σ b qs) (hc : GiP K G σ c rs) (sG : Same G H) (s1 : Same H H1) (l : ps.length + qs.length + rs.length ≤ 100000)
    (k : ∀ H' r, Same H H' → PL K G H H' r (ps ++ qs ++ rs) → Q (.ref r) H') : tOp rCat (tOp rCat (tVar j) b) c σ H1 Q := by
  refine ⟨_, hv, hb H1 _ (sG.trans s1) fun H2 r2 s2 p2 => ?_⟩
  obtain ⟨xs, h1, n1, a1⟩ := pl.same (Same.refl _) s2
  obtain ⟨ys, h2, n2, a2⟩ := p2.same s1 (Same.refl _)
  refine ⟨D, r2, xs, ys, rfl, rfl, h1, h2, by rw [a1.len, a2.len]; exact sl (by omega), fun p np => ?_⟩
  have sp := same_upd (o := .lst (xs ++ ys)) np
  have s12 := s1.trans s2
  refine hc _ _ ((sG.trans s12).trans sp) fun H3 r3 s3 p3 => ?_
  obtain ⟨zs, h3, n3, a3⟩ := p3.same (s12.trans sp) (Same.refl _)
  have q1 := s3 _ _ (upd_same (H := H2) (a := p) (o := .lst (xs ++ ys)))
  refine ⟨p, r3, _, zs, rfl, rfl, q1, h3, by rw [List.length_append, a1.len, a2.len, a3.len]; exact sl (by omega), fun q nq => ?_⟩
  have sq := same_upd (o := .lst (xs ++ ys ++ zs)) nq
  have s4 := sp.trans (s3.trans sq)
  exact k _ q (s12.trans s4) ⟨_, upd_same, ((s12.trans sp).trans s3).free nq, ((a1.imp fun _ _ r => r.same (Same.refl _) s4).app (a2.imp fun _ _ r => r.same (Same.refl _) s4)).app (a3.imp fun _ _ r => r.same (Same.refl _) sq)⟩
theorem ts_tu {C : PyData → Prop} {ts : List PyData} (h : TsR C ts) : ts.length ≤ 60 ∧ ∀ t ∈ ts, TuS t := by
  refine ⟨Nat.le_trans h.1 (by decide), fun t m => ?_⟩
  obtain ⟨_, _, _, rfl, _⟩ := h.2 t m
  exact ⟨_, _, _, rfl⟩
theorem if_ar {C : PyData → Prop} {as : List PyData} (h : IfR C as) : as.length ≤ 60 ∧ ∀ a ∈ as, ArS a := by
  refine ⟨Nat.le_trans h.2.1 (by decide), fun a m => ?_⟩
  obtain ⟨t, s, rfl, _, _, h1, h2⟩ := h.2.2 a m
  exact ⟨t, s, rfl, Nat.le_trans h1.1 (by decide), Nat.le_trans h2.1 (by decide)⟩
theorem ca_ar {C : PyData → Prop} {as : List PyData} (h : CaR C as) : as.length ≤ 60 ∧ ∀ a ∈ as, ArS a := by
  refine ⟨Nat.le_trans h.1 (by decide), fun a m => ?_⟩
  obtain ⟨w, ws, s, rfl, h1, _, h2⟩ := h.2 a m
  exact ⟨_, s, rfl, Nat.le_trans h1.1 (by decide), Nat.le_trans h2.1 (by decide)⟩
theorem tw_len (ts : List PyData) : (twP ts).length = ts.length := List.length_map ..
theorem ar_len {k l : Str} : ∀ (as : List PyData), (∀ a ∈ as, ArS a) → (as.flatMap (armP k l)).length ≤ 120 * as.length
  | [], _ => Nat.le_refl _
  | a :: as, h => by
    have ih := ar_len (k := k) (l := l) as fun b m => h b (.tail _ m)
    obtain ⟨t, s, rfl, lt, ls⟩ := h _ (.head _)
    rw [List.flatMap_cons, List.length_append, List.length_cons]
    show (t.map _ ++ s.map _).length + _ ≤ _
    rw [List.length_append, List.length_map, List.length_map]
    omega
theorem prt_do (a o ts : List PyData) : prt (.tuple [.str "do", .list a, .list o, .list ts]) = (a.map fun s => wP (snd1 s)) ++ o.map wP ++ twP ts := by
  show prt4 _ _ _ _ = _
  unfold prt4
  rw [if_pos rfl]
  rfl
theorem prt_if (a : List PyData) (o : PyData) (ts : List PyData) : prt (.tuple [.str "if", .list a, o, .list ts]) = a.flatMap (armP "command" "command") ++ (lstOf o).map cP ++ twP ts := by
  have e : prt (.tuple [.str "if", .list a, o, .list ts]) = prt4 "if" a o ts := by cases o <;> rfl
  rw [e]
  unfold prt4
  rw [if_neg (by decide +kernel), if_pos rfl]
theorem prt_case (a o ts : List PyData) : prt (.tuple [.str "case", .list a, .list o, .list ts]) = [wP (.list a)] ++ o.flatMap (armP "word" "command") ++ twP ts := by
  show prt4 _ _ _ _ = _
  unfold prt4
  rw [if_neg (by decide +kernel), if_neg (by decide +kernel), if_pos rfl]
  rfl
theorem prt_wh {k : Str} (h : k = "while" ∨ k = "until") (a o ts : List PyData) : prt (.tuple [.str k, .list a, .list o, .list ts]) = a.map cP ++ o.map cP ++ twP ts := by
  show prt4 _ _ _ _ = _
  unfold prt4
  rcases h with rfl | rfl
  · rw [if_neg (by decide +kernel), if_neg (by decide +kernel), if_neg (by decide +kernel)]
    rfl
  · rw [if_neg (by decide +kernel), if_neg (by decide +kernel), if_neg (by decide +kernel)]
    rfl
def spBp (K : Frag) (C : PyData → Prop) : Sp := fun vs H Q _ => ∃ G v c, vs = [v] ∧ Same G H ∧ Dp K G v c ∧ BkA C c ∧ ∀ H' r, Same H H' → PL K G H H' r (prt c) → Q (.ref r) H'
def spPo (K : Frag) (C : PyData → Prop) : Sp := fun vs H Q _ => ∃ G v c, vs = [v] ∧ Same G H ∧ Dp K G v c ∧ CmA C c ∧ ∀ H' r, Same H H' → PL K G H H' r (prt c) → Q (.ref r) H'
theorem o_ok {K : Frag} {G : Hp} {y : V} {o : PyData} {P : List PyData → Prop} (h : Dp K G y o) (ho : o = .none ∨ ∃ s, o = .list s ∧ P s) (hl : ∀ s, P s → s.length ≤ 60) : ((y = .non ∧ lstOf o = []) ∨ Dp K G y (.list (lstOf o))) ∧ (lstOf o).length ≤ 60 := by
  rcases ho with rfl | ⟨s, rfl, hs⟩
  · cases h
    exact ⟨.inl ⟨rfl, rfl⟩, by decide⟩
  · exact ⟨.inr h, hl s hs⟩
section
variable {P : Program} {w : World} {K : Frag} {mg : Str → Option Value} {base : Heap}
abbrev sBp : Stmt := top 69
abbrev nBp : List Str := ["command", "script", "turns", "arms", "other", "test", "words", "word"]
theorem scBp : FnScope nBp ["command"] (defScope sBp) := ⟨rfl, rfl, rfl, by decide +kernel, rfl, by decide +kernel, by decide +kernel⟩
theorem has_Bp {C : PyData → Prop} {f : Addr} {fd : FuncData}  (F : Fun K "block_parts" "block_parts" sBp f fd) (g : mg "block_parts" = some (.ref f)) (B : Blt mg) (hAa : Has P w K mg base 1 "all_at" ["path", "kind", "parts"] (spAa K)) (hTw : Has P w K mg base 1 "turn_words" ["index", "turns"] (spTw K)) (hIfa : Has P w K mg base 2 "if_arms" ["arms"] (spIfa K)) (hCaa : Has P w K mg base 2 "case_arms" ["arms"] (spCaa K)) :
    Has P w K mg base 3 "block_parts" ["command"] (spBp K C) := by
  obtain ⟨fAa, dAa, gAa, kAa, bAa, GAa⟩ := hAa
  obtain ⟨fTw, dTw, gTw, kTw, bTw, GTw⟩ := hTw
  obtain ⟨fIfa, dIfa, gIfa, kIfa, bIfa, GIfa⟩ := hIfa
  obtain ⟨fCaa, dCaa, gCaa, kCaa, bCaa, GCaa⟩ := hCaa
  refine has_of F g (F.binds (ps := ["command"]) fun _ _ _ _ _ _ us hl => match us, hl with | [_], _ => rfl) (F.ok scBp (fun vs H Q E h => ?_) (fun cdv A outer s H vs Q E hr h => ?_))
  · obtain ⟨G, v, c, rfl, _⟩ := h
    rfl
  · refine ⟨_, (pss_cons (ps_match (pv 0)
        (pcs_cons (is := [1, 2]) scBp.nd (pp_seq rfl (pps_cons (pp_or (pf_cons pp_lit (pf_cons pp_lit pf_nil))) (pps_cons pp_cap (pps_cons pp_cap pps_nil)))) (.cons ⟨rfl, .inl rfl, .inr rfl⟩ (.cons ⟨rfl, .inl rfl, .inr rfl⟩ .nil))
          (pss_one (ps_ret (pe_op op_cat (pe_call GAa (hr.mono (by decide)) rfl gAa kAa bAa .nil pass0 (pa_cons (pe_lst (pa_cons pe_int pa_nil)) (pa_cons pe_str (pa_cons (pv 1) pa_nil)))) (pe_call GTw (hr.mono (by decide)) rfl gTw kTw bTw .nil pass0 (pa_cons pe_int (pa_cons (pv 2) pa_nil))))))
        (pcs_cons (is := [3, 4, 2]) scBp.nd (pp_seq rfl (pps_cons pp_lit (pps_cons pp_cap (pps_cons pp_cap (pps_cons pp_cap pps_nil))))) (.cons ⟨rfl, .inl rfl, .inr rfl⟩ (.cons ⟨rfl, .inl rfl, .inr rfl⟩ (.cons ⟨rfl, .inl rfl, .inr rfl⟩ .nil)))
          (pss_one (ps_ret (pe_op op_cat (pe_op op_cat (pe_call GIfa hr rfl gIfa kIfa bIfa .nil pass0 (pa_cons (pv 3) pa_nil)) (pe_call GAa (hr.mono (by decide)) rfl gAa kAa bAa .nil pass0 (pa_cons (pe_lst (pa_cons pe_int pa_nil)) (pa_cons pe_str (pa_cons (pv 4) pa_nil))))) (pe_call GTw (hr.mono (by decide)) rfl gTw kTw bTw .nil pass0 (pa_cons pe_int (pa_cons (pv 2) pa_nil))))))
        (pcs_cons (is := [5, 1, 2]) scBp.nd (pp_seq rfl (pps_cons (pp_or (pf_cons pp_lit (pf_cons pp_lit pf_nil))) (pps_cons pp_cap (pps_cons pp_cap (pps_cons pp_cap pps_nil))))) (.cons ⟨rfl, .inl rfl, .inr rfl⟩ (.cons ⟨rfl, .inl rfl, .inr rfl⟩ (.cons ⟨rfl, .inl rfl, .inr rfl⟩ .nil)))
          (pss_one (ps_ret (pe_op op_cat (pe_op op_cat (pe_call GAa (hr.mono (by decide)) rfl gAa kAa bAa .nil pass0 (pa_cons (pe_lst (pa_cons pe_int pa_nil)) (pa_cons pe_str (pa_cons (pv 5) pa_nil)))) (pe_call GAa (hr.mono (by decide)) rfl gAa kAa bAa .nil pass0 (pa_cons (pe_lst (pa_cons pe_int pa_nil)) (pa_cons pe_str (pa_cons (pv 1) pa_nil))))) (pe_call GTw (hr.mono (by decide)) rfl gTw kTw bTw .nil pass0 (pa_cons pe_int (pa_cons (pv 2) pa_nil))))))
        (pcs_cons (is := [6, 1, 2]) scBp.nd (pp_seq rfl (pps_cons pp_lit (pps_cons pp_any (pps_cons pp_cap (pps_cons pp_cap (pps_cons pp_cap pps_nil)))))) (.cons ⟨rfl, .inl rfl, .inr rfl⟩ (.cons ⟨rfl, .inl rfl, .inr rfl⟩ (.cons ⟨rfl, .inl rfl, .inr rfl⟩ .nil)))
          (pss_one (ps_ret (pe_op op_cat (pe_op op_cat (pe_call GAa (hr.mono (by decide)) rfl gAa kAa bAa .nil pass0 (pa_cons (pe_lst (pa_cons pe_int pa_nil)) (pa_cons pe_str (pa_cons (pv 6) pa_nil)))) (pe_call GAa (hr.mono (by decide)) rfl gAa kAa bAa .nil pass0 (pa_cons (pe_lst (pa_cons pe_int pa_nil)) (pa_cons pe_str (pa_cons (pv 1) pa_nil))))) (pe_call GTw (hr.mono (by decide)) rfl gTw kTw bTw .nil pass0 (pa_cons pe_int (pa_cons (pv 2) pa_nil))))))
        (pcs_cons (is := [7, 3, 2]) scBp.nd (pp_seq rfl (pps_cons pp_lit (pps_cons pp_cap (pps_cons pp_cap (pps_cons pp_cap pps_nil))))) (.cons ⟨rfl, .inl rfl, .inr rfl⟩ (.cons ⟨rfl, .inl rfl, .inr rfl⟩ (.cons ⟨rfl, .inl rfl, .inr rfl⟩ .nil)))
          (pss_one (ps_ret (pe_op op_cat (pe_op op_cat (pe_lst (pa_cons (pe_tup (pa_cons (pe_lst (pa_cons pe_int pa_nil)) (pa_cons pe_str (pa_cons (pv 7) pa_nil)))) pa_nil)) (pe_call GCaa hr rfl gCaa kCaa bCaa .nil pass0 (pa_cons (pv 3) pa_nil))) (pe_call GTw (hr.mono (by decide)) rfl gTw kTw bTw .nil pass0 (pa_cons pe_int (pa_cons (pv 2) pa_nil)))))) pcs_nil))))))
        (pss_one (ps_ret (pe_lst pa_nil)))), ?_⟩
    obtain ⟨G, v, c, rfl, sG, hd, hc, k⟩ := h
    rcases hc with ⟨kk, s', ts, rfl, hk, hs, ne, ht⟩ | ⟨as, o, ts, rfl, hi, ho, ht⟩ | ⟨kk, t, s', ts, rfl, hk, h1', n1, h2', n2, ht⟩ | ⟨x, o, s', ts, rfl, hn, lx, ho, hs, ne, ht⟩ | ⟨l, as, ts, rfl, hw, nw, ha, ht⟩
    · obtain ⟨a, y1, y2, rfl, hq, h1, h2⟩ := pc_three hd
      have hq := sqT_same sG hq
      obtain ⟨l2, t2⟩ := ts_tu ht
      have ls := hs.1
      have go : tRet (tOp rCat (tCall (spAa K) [] E0 (tCons (tLst (tCons (tC (.int 1)) tNil)) (tCons (tC (.str "command")) (tCons (tVar 1) tNil)))) (tCall (spTw K) [] E0 (tCons (tC (.int 2)) (tCons (tVar 2) tNil)))) { nx := tRet (tLst tNil) { nx := fun _ H' => Q V.non H', rt := Q }, rt := Q } (setAll (L2.start nBp [.ref a]) [1, 2] [y1, y2]) H :=
        GiP.cat (GiP.aa rfl (.inr h1) (by omega)) (GiP.tw rfl h2 l2 t2) (by rw [List.length_map, tw_len]; omega) H _ sG k
      rcases hk with rfl | rfl
      · exact ⟨_, rfl, case_hit hq (hit_or hit_lit) go⟩
      · exact ⟨_, rfl, case_hit hq (hit_or2 (miss_lit (by decide +kernel)) (hit_or hit_lit)) go⟩
    · obtain ⟨a, y1, y2, y3, rfl, hq, h1, h2, h3⟩ := pc_four hd
      have hq := sqT_same sG hq
      obtain ⟨l2, t2⟩ := ts_tu ht
      obtain ⟨l1, t1⟩ := if_ar hi
      obtain ⟨o1, o2⟩ := o_ok (P := fun s => s ≠ [] ∧ ScR C s) h2 ho (fun s h => Nat.le_trans h.2.1 (by decide))
      rw [prt_if] at k
      have la := ar_len (k := "command") (l := "command") as t1
      exact ⟨_, rfl, case_miss hq (.inr (by simp)) (case_hit hq hit_lit (GiP.cat (GiP.cat (GiP.ar rfl h1 l1 t1) (GiP.aa rfl o1 o2) (by rw [List.length_map]; omega)) (GiP.tw rfl h3 l2 t2) (by rw [List.length_append, List.length_map, tw_len]; omega) H _ sG k))⟩
    · obtain ⟨a, y1, y2, y3, rfl, hq, h1, h2, h3⟩ := pc_four hd
      have hq := sqT_same sG hq
      obtain ⟨l2, t2⟩ := ts_tu ht
      have m1 := h1'.1
      have m2 := h2'.1
      rw [prt_wh hk] at k
      have go : tRet (tOp rCat (tOp rCat (tCall (spAa K) [] E0 (tCons (tLst (tCons (tC (.int 1)) tNil)) (tCons (tC (.str "command")) (tCons (tVar 5) tNil)))) (tCall (spAa K) [] E0 (tCons (tLst (tCons (tC (.int 2)) tNil)) (tCons (tC (.str "command")) (tCons (tVar 1) tNil))))) (tCall (spTw K) [] E0 (tCons (tC (.int 3)) (tCons (tVar 2) tNil)))) { nx := tRet (tLst tNil) { nx := fun _ H' => Q V.non H', rt := Q }, rt := Q } (setAll (L2.start nBp [.ref a]) [5, 1, 2] [y1, y2, y3]) H :=
        GiP.cat (GiP.cat (GiP.aa rfl (.inr h1) (by omega)) (GiP.aa rfl (.inr h2) (by omega)) (by rw [List.length_map, List.length_map]; omega)) (GiP.tw rfl h3 l2 t2) (by rw [List.length_append, List.length_map, List.length_map, tw_len]; omega) H _ sG k
      rcases hk with rfl | rfl
      · exact ⟨_, rfl, case_miss hq (.inr (by simp)) (case_miss hq (.inl (miss_lit (by decide +kernel))) (case_hit hq (hit_or hit_lit) go))⟩
      · exact ⟨_, rfl, case_miss hq (.inr (by simp)) (case_miss hq (.inl (miss_lit (by decide +kernel))) (case_hit hq (hit_or2 (miss_lit (by decide +kernel)) (hit_or hit_lit)) go))⟩
    · obtain ⟨a, zs, rfl, hq, all⟩ := dp_tup hd
      have hq := sqT_same sG hq
      cases all with
      | cons g0 all => cases all with
        | cons g1 all => cases all with
          | @cons y2 _ _ _ g2 all => cases all with
            | @cons y3 _ _ _ g3 all => cases all with
              | @cons y4 _ _ _ g4 all =>
              cases all
              cases g0
              obtain ⟨l2, t2⟩ := ts_tu ht
              have m1 := hs.1
              obtain ⟨o1, o2⟩ := o_ok (P := fun s => WsO C s) g2 ho (fun s h => Nat.le_trans h.1 (by decide))
              have k : ∀ H' r, Same H H' → PL K G H H' r ((lstOf o).map wP ++ s'.map cP ++ twP ts) → Q (.ref r) H' := k
              exact ⟨_, rfl, case_miss hq (.inr (by simp)) (case_miss hq (.inr (by simp)) (case_miss hq (.inr (by simp)) (case_hitA4 hq hit_lit (GiP.cat (GiP.cat (GiP.aa rfl o1 o2) (GiP.aa rfl (.inr g3) (by omega)) (by rw [List.length_map, List.length_map]; omega)) (GiP.tw rfl g4 l2 t2) (by rw [List.length_append, List.length_map, List.length_map, tw_len]; omega) H _ sG k))))⟩
    · obtain ⟨a, y1, y2, y3, rfl, hq, h1, h2, h3⟩ := pc_four hd
      have hq := sqT_same sG hq
      obtain ⟨l2, t2⟩ := ts_tu ht
      obtain ⟨l1, t1⟩ := ca_ar ha
      have la := ar_len (k := "word") (l := "command") as t1
      rw [prt_case] at k
      exact ⟨_, rfl, case_miss hq (.inr (by simp)) (case_miss hq (.inl (miss_lit (by decide +kernel))) (case_miss hq (.inl (miss_or (miss_lit (by decide +kernel)) (miss_or (miss_lit (by decide +kernel)) miss_or0))) (case_miss hq (.inr (by simp)) (case_hit hq hit_lit (GiP.cat (GiP.cat (GiP.one rfl h1) (GiP.ar rfl h2 l1 t1) (by simp only [List.length_singleton]; omega)) (GiP.tw rfl h3 l2 t2) (by rw [List.length_append, List.length_singleton, tw_len]; omega) H _ sG k)))))⟩
abbrev sPo : Stmt := top 68
abbrev nPo : List Str := ["command", "sets", "words", "turns", "set_words", "at", "pair", "body", "commands", "one", "other"]
theorem scPo : FnScope nPo ["command"] (defScope sPo) := ⟨rfl, rfl, rfl, by decide +kernel, rfl, by decide +kernel, by decide +kernel⟩
theorem has_Po {C : PyData → Prop} (hh : Hds C) {f : Addr} {fd : FuncData}  (F : Fun K "parts_of" "parts_of" sPo f fd) (g : mg "parts_of" = some (.ref f)) (B : Blt mg) (hAa : Has P w K mg base 1 "all_at" ["path", "kind", "parts"] (spAa K)) (hTw : Has P w K mg base 1 "turn_words" ["index", "turns"] (spTw K)) (hBp : Has P w K mg base 3 "block_parts" ["command"] (spBp K C)) :
    Has P w K mg base 4 "parts_of" ["command"] (spPo K C) := by
  obtain ⟨fAa, dAa, gAa, kAa, bAa, GAa⟩ := hAa
  obtain ⟨fTw, dTw, gTw, kTw, bTw, GTw⟩ := hTw
  obtain ⟨fBp, dBp, gBp, kBp, bBp, GBp⟩ := hBp
  refine has_of F g (F.binds (ps := ["command"]) fun _ _ _ _ _ _ us hl => match us, hl with | [_], _ => rfl) (F.ok scPo (fun vs H Q E h => ?_) (fun cdv A outer s H vs Q E hr h => ?_))
  · obtain ⟨G, v, c, rfl, _⟩ := h
    rfl
  · refine ⟨_, (pss_cons (ps_match (pv 0)
        (pcs_cons (is := [1, 2, 3]) scPo.nd (pp_seq rfl (pps_cons pp_lit (pps_cons pp_cap (pps_cons pp_cap (pps_cons pp_cap pps_nil))))) (.cons ⟨rfl, .inl rfl, .inr rfl⟩ (.cons ⟨rfl, .inl rfl, .inr rfl⟩ (.cons ⟨rfl, .inl rfl, .inr rfl⟩ .nil)))
          (pss_cons (ps_setLc (i := 4) (te := tTup (tCons (tLst (tCons (tC (.int 1)) (tCons (tVar 5) (tCons (tC (.int 1)) tNil)))) (tCons (tC (.str "word")) (tCons (tOp (rIxT K) (tVar 6) (tC (.int 1))) tNil)))) (own := [("at", 5), ("pair", 6)]) (g := gTup K 2 (gCons (gName 5) (gCons (gName 6) gNil))) (tt := tYes) rfl scPo.nd rfl rfl (sw_true rfl rfl rfl (by decide +kernel)) (pi_enum (by rfl) B.enumerate (pa_cons (pv 1) pa_nil)) (blkOk_by (N := nPo) (sc := defScope sPo) (by decide +kernel)) (fun _ _ _ _ _ => pg_tup rfl (pgs_cons (pg_name (i := 5) scPo.nd rfl (.inl rfl)) (pgs_cons (pg_name (i := 6) scPo.nd rfl (.inl rfl)) pgs_nil))) (fun _ _ _ _ _ => pts_nil) (fun _ _ _ _ _ => (pe_tup (pa_cons (pe_lst (pa_cons pe_int (pa_cons (pv 5) (pa_cons pe_int pa_nil)))) (pa_cons pe_str (pa_cons (pe_ix ix_tup (pv 6) pe_int (fun _ _ => rfl)) pa_nil))))))
          (pss_one (ps_ret (pe_op op_cat (pe_op op_cat (pv 4) (pe_call GAa (hr.mono (by decide)) rfl gAa kAa bAa .nil pass0 (pa_cons (pe_lst (pa_cons pe_int pa_nil)) (pa_cons pe_str (pa_cons (pv 2) pa_nil))))) (pe_call GTw (hr.mono (by decide)) rfl gTw kTw bTw .nil pass0 (pa_cons pe_int (pa_cons (pv 3) pa_nil)))))))
        (pcs_cons (is := [7]) scPo.nd (pp_seq rfl (pps_cons pp_lit (pps_cons pp_any (pps_cons pp_cap pps_nil)))) (.cons ⟨rfl, .inl rfl, .inr rfl⟩ .nil)
          (pss_one (ps_ret (pe_lst (pa_cons (pe_tup (pa_cons (pe_lst (pa_cons pe_int pa_nil)) (pa_cons pe_str (pa_cons (pv 7) pa_nil)))) pa_nil))))
        (pcs_cons (is := [8]) scPo.nd (pp_seq rfl (pps_cons pp_lit (pps_cons pp_cap pps_nil))) (.cons ⟨rfl, .inl rfl, .inr rfl⟩ .nil)
          (pss_one (ps_ret (pe_call GAa (hr.mono (by decide)) rfl gAa kAa bAa .nil pass0 (pa_cons (pe_lst (pa_cons pe_int pa_nil)) (pa_cons pe_str (pa_cons (pv 8) pa_nil))))))
        (pcs_cons (is := [7]) scPo.nd (pp_seq rfl (pps_cons pp_lit (pps_cons pp_cap pps_nil))) (.cons ⟨rfl, .inl rfl, .inr rfl⟩ .nil)
          (pss_one (ps_ret (pe_lst (pa_cons (pe_tup (pa_cons (pe_lst (pa_cons pe_int pa_nil)) (pa_cons pe_str (pa_cons (pv 7) pa_nil)))) pa_nil))))
        (pcs_cons (is := [9, 10]) scPo.nd (pp_seq rfl (pps_cons (pp_or (pf_cons pp_lit (pf_cons pp_lit pf_nil))) (pps_cons pp_cap (pps_cons pp_cap pps_nil)))) (.cons ⟨rfl, .inl rfl, .inr rfl⟩ (.cons ⟨rfl, .inl rfl, .inr rfl⟩ .nil))
          (pss_one (ps_ret (pe_lst (pa_cons (pe_tup (pa_cons (pe_lst (pa_cons pe_int pa_nil)) (pa_cons pe_str (pa_cons (pv 9) pa_nil)))) (pa_cons (pe_tup (pa_cons (pe_lst (pa_cons pe_int pa_nil)) (pa_cons pe_str (pa_cons (pv 10) pa_nil)))) pa_nil))))) pcs_nil))))))
        (pss_one (ps_ret (pe_call GBp hr rfl gBp kBp bBp .nil pass0 (pa_cons (pv 0) pa_nil))))), ?_⟩
    obtain ⟨G, v, c, rfl, sG, hd, hc, k⟩ := h
    rcases hc with ⟨ss, ws, ts, rfl, hdo⟩ | ⟨x, b, rfl, hm, lx, hb, hcb⟩ | ⟨l, rfl, l2, l50, hl⟩ | ⟨b, rfl, hcb, hb⟩ | ⟨kk, a1, b, rfl, hk, hca, hcb, hb⟩ | hbk
    · obtain ⟨a, y1, y2, y3, rfl, hq, h1, h2, h3⟩ := pc_four hd
      have hq := sqT_same sG hq
      obtain ⟨hS, hW, hT, _⟩ := hdo
      obtain ⟨l2, t2⟩ := ts_tu hT
      have lS := hS.1
      have lW := hW.1
      rw [prt_do] at k
      refine ⟨_, rfl, case_hit hq hit_lit ?_⟩
      obtain ⟨b, xs, rfl, hqb0, all⟩ := dp_lst h1
      have hqb := sG.seq hqb0
      have lx := dpLen all
      refine ⟨_, rfl, b, xs, rfl, hqb, fun D hD => lc_it (walk_enum (xs := xs)) (fun i H' => Same H H' ∧ MkL (Itm K G H) D ((ss.take i).map fun s => wP (snd1 s)) H') ⟨same_upd hD, MkL.start⟩ (fun i H' _ e => e.1.seq hqb) (fun i x H' H2 hi e y => ?_) (fun H' e => ?_)⟩
      · obtain ⟨s1, mk⟩ := e
        obtain ⟨T, x1, x2, rfl, nT, rfl, g1, hx⟩ := y
        obtain ⟨ys0, hDy, _⟩ := id mk
        obtain ⟨d, hdi, dp⟩ := dpAt' all hx
        obtain ⟨nm, wl, rfl, _, _, _⟩ := hS.2 d (List.mem_of_getElem? hdi)
        have sT := same_upd (o := .tup [x1, x2]) nT
        obtain ⟨c, u, rfl, hqc, hu⟩ := pc_two dp
        refine ⟨T, _, rfl, SqT.of upd_same, rfl, _, _, rfl, _, _, rfl, rfl, rfl, ?_⟩
        refine ⟨_, rfl, (by decide : 3 ≤ sizeLine), fun p np => ⟨_, rfl, c, _, 1, u, rfl, rfl, sqT_same (((sG.trans s1).trans sT).trans (same_upd np)) hqc, atI_nat (j := 1) rfl, (by decide : 3 ≤ sizeLine), fun t nt => ?_⟩⟩
        have sp := same_upd (o := .lst [V.int 1, x1, V.int 1]) np
        have st := same_upd (o := .tup [.ref p, .str "word", u]) nt
        have sA := (sT.trans sp).trans st
        have tD : t ≠ D := fun z => by rw [z, sp _ _ (sT _ _ hDy)] at nt; cases nt
        have pD : p ≠ D := fun z => by rw [z, sT _ _ hDy] at np; cases np
        have l3 := List.length_take_le i ss
        have l4 := List.length_take_le' i ss
        obtain ⟨ys1, f1, f2, f3⟩ := (mk.same Itm.mono sA).add Itm.mono (u := .ref t) (a := wP (.list wl)) ⟨t, p, u, rfl, (s1.trans (sT.trans sp)).free nt, hide_ne upd_same tD, (s1.trans sT).free np, ⟨_, hide_ne (st _ _ upd_same) pD, (by decide : 3 ≤ 5)⟩, hu⟩ (by rw [List.length_map]; exact sl (by omega))
        refine ⟨ys1, f1, f2, same_upd2 (s1.trans sA) hD, ?_⟩
        rw [take_snoc hdi, List.map_append]
        exact f3
      · obtain ⟨s1, mk⟩ := e
        rw [List.take_of_length_le (Nat.le_of_eq lx.symm)] at mk
        exact GiP.catV rfl (PL.mk hD mk) (GiP.aa rfl (.inr h2) (by omega)) (GiP.tw rfl h3 l2 t2) sG s1 (by rw [List.length_map, List.length_map, tw_len]; omega) k
    · obtain ⟨a, y1, y2, rfl, hq, h1, h2⟩ := pc_three hd
      have hq := sqT_same sG hq
      obtain ⟨y, m, rfl⟩ := hh b hcb
      exact ⟨_, rfl, case_miss hq (.inr (by simp)) (case_hitA hq hit_lit (GiP.one rfl h2 H _ sG k))⟩
    · obtain ⟨a, y1, rfl, hq, h1⟩ := pc_two hd
      have hq := sqT_same sG hq
      exact ⟨_, rfl, case_miss hq (.inr (by simp)) (case_miss hq (.inr (by simp)) (case_hit hq hit_lit (GiP.aa rfl (.inr h1) (by omega) H _ sG k)))⟩
    · obtain ⟨a, y1, rfl, hq, h1⟩ := pc_two hd
      have hq := sqT_same sG hq
      obtain ⟨y, m, rfl⟩ := hh b hcb
      exact ⟨_, rfl, case_miss hq (.inr (by simp)) (case_miss hq (.inr (by simp)) (case_miss hq (.inl (miss_lit (by decide +kernel))) (case_hit hq hit_lit (GiP.one rfl h1 H _ sG k))))⟩
    · obtain ⟨a, y1, y2, rfl, hq, h1, h2⟩ := pc_three hd
      have hq := sqT_same sG hq
      obtain ⟨z1, m1, rfl⟩ := hh a1 hca
      obtain ⟨z2, m2, rfl⟩ := hh b hcb
      have go := GiP.two (K := K) (G := G) (σ := setAll (L2.start nPo [.ref a]) [9, 10] [y1, y2]) (i := .int 1) (i2 := .int 2) (k := "command") (k2 := "command") (j := 9) (j2 := 10) rfl h1 rfl h2 H Q sG k
      rcases hk with rfl | rfl
      · exact ⟨_, rfl, case_miss hq (.inr (by simp)) (case_miss hq (.inl (miss_lit (by decide +kernel))) (case_miss hq (.inr (by simp)) (case_miss hq (.inr (by simp)) (case_hit hq (hit_or hit_lit) go))))⟩
      · exact ⟨_, rfl, case_miss hq (.inr (by simp)) (case_miss hq (.inl (miss_lit (by decide +kernel))) (case_miss hq (.inr (by simp)) (case_miss hq (.inr (by simp)) (case_hit hq (hit_or2 (miss_lit (by decide +kernel)) (hit_or hit_lit)) go))))⟩
    · have go : ∀ a, v = .ref a → spBp K C ([.ref a] ++ []) H Q E0 := fun a e => ⟨G, .ref a, c, rfl, sG, e ▸ hd, hbk, k⟩
      have two : Miss (rOr [rLit "and", rLit "or"]) "group" ∧ Miss (rOr [rLit "and", rLit "or"]) "apart" := ⟨miss_or (miss_lit (by decide +kernel)) (miss_or (miss_lit (by decide +kernel)) miss_or0), miss_or (miss_lit (by decide +kernel)) (miss_or (miss_lit (by decide +kernel)) miss_or0)⟩
      rcases id hbk with ⟨kk, s', ts, rfl, hk, _⟩ | ⟨as, o, ts, rfl, _⟩ | ⟨kk, t, s', ts, rfl, hk, _⟩ | ⟨x, o, s', ts, rfl, _⟩ | ⟨l, as, ts, rfl, _⟩
      · obtain ⟨a, y1, y2, rfl, hq, h1, h2⟩ := pc_three hd
        have hq := sqT_same sG hq
        rcases hk with rfl | rfl
        · exact ⟨_, rfl, case_miss hq (.inr (by simp)) (case_miss hq (.inl (miss_lit (by decide +kernel))) (case_miss hq (.inr (by simp)) (case_miss hq (.inr (by simp)) (case_miss hq (.inl two.1) ⟨_, rfl, go a rfl⟩))))⟩
        · exact ⟨_, rfl, case_miss hq (.inr (by simp)) (case_miss hq (.inl (miss_lit (by decide +kernel))) (case_miss hq (.inr (by simp)) (case_miss hq (.inr (by simp)) (case_miss hq (.inl two.2) ⟨_, rfl, go a rfl⟩))))⟩
      · obtain ⟨a, y1, y2, y3, rfl, hq, _⟩ := pc_four hd
        have hq := sqT_same sG hq
        exact ⟨_, rfl, case_miss hq (.inl (miss_lit (by decide +kernel))) (case_miss hq (.inr (by simp)) (case_miss hq (.inr (by simp)) (case_miss hq (.inr (by simp)) (case_miss hq (.inr (by simp)) ⟨_, rfl, go a rfl⟩))))⟩
      · obtain ⟨a, y1, y2, y3, rfl, hq, _⟩ := pc_four hd
        have hq := sqT_same sG hq
        have nd : kk ≠ "do" := by rcases hk with rfl | rfl <;> decide +kernel
        exact ⟨_, rfl, case_miss hq (.inl (miss_lit nd)) (case_miss hq (.inr (by simp)) (case_miss hq (.inr (by simp)) (case_miss hq (.inr (by simp)) (case_miss hq (.inr (by simp)) ⟨_, rfl, go a rfl⟩))))⟩
      · obtain ⟨a, zs, rfl, hq, all⟩ := dp_tup hd
        have hq := sqT_same sG hq
        cases all with
        | cons g0 all => cases all with
          | cons g1 all => cases all with
            | cons g2 all => cases all with
              | cons g3 all => cases all with
                | cons g4 all =>
                cases all
                cases g0
                exact ⟨_, rfl, case_miss hq (.inr (by simp)) (case_miss hq (.inr (by simp)) (case_miss hq (.inr (by simp)) (case_miss hq (.inr (by simp)) (case_miss hq (.inr (by simp)) ⟨_, rfl, go a rfl⟩))))⟩
      · obtain ⟨a, y1, y2, y3, rfl, hq, _⟩ := pc_four hd
        have hq := sqT_same sG hq
        exact ⟨_, rfl, case_miss hq (.inl (miss_lit (by decide +kernel))) (case_miss hq (.inr (by simp)) (case_miss hq (.inr (by simp)) (case_miss hq (.inr (by simp)) (case_miss hq (.inr (by simp)) ⟨_, rfl, go a rfl⟩))))⟩
end
end Qb
end PySem
namespace PySem
namespace Qb
open PySem.W PySem.Calls PyProof.Rows L2
/-! # the commands within a command -/
theorem dd_mono {W W' : WR} (h : ∀ ws b r, W ws b r → W' ws b r) {x : Str} {d : PyData} {b r : Bool} (hd : DdR W x d b r) : DdR W' x d b r := by
  rcases hd with h1 | h1 | ⟨k, c, ws, bw, rw, e, hk, hw, eb, er⟩ | ⟨m, ws, bw, rw, e, hm, hw, eb, er⟩
  · exact .inl h1
  · exact .inr (.inl h1)
  · exact .inr (.inr (.inl ⟨k, c, ws, bw, rw, e, hk, h _ _ _ hw, eb, er⟩))
  · exact .inr (.inr (.inr ⟨m, ws, bw, rw, e, hm, h _ _ _ hw, eb, er⟩))
theorem ws_mono {C C' : PyData → Prop} (f : ∀ c, C c → C' c) : ∀ (n : Nat) {i : Bool} {ws : List PyData} {b r : Bool}, WsR (CRg C) n i ws b r → WsR (CRg C') n i ws b r
  | 0, _, _, _, _, h => h
  | n + 1, i, ws, b, r, ⟨hl, ps, all, e1, e2⟩ => ⟨hl, ps, all.imp fun p q h => by
      rcases h with h | ⟨w, bw, rw, e, hw, eb, er⟩ | ⟨x, d, bd, e, hx, hd, eb⟩ | h | ⟨cs, bs, e, hl, hcs, hs, eb, er⟩
      · exact .inl h
      · exact .inr (.inl ⟨w, bw, rw, e, ws_mono f n hw, eb, er⟩)
      · exact .inr (.inr (.inl ⟨x, d, bd, e, hx, dd_mono (fun _ _ _ h => ws_mono f n h) hd, eb⟩))
      · exact .inr (.inr (.inr (.inl h)))
      · exact .inr (.inr (.inr (.inr ⟨cs, bs, e, hl, hcs.imp fun _ _ h => ⟨h.1, f _ h.2⟩, hs, eb, er⟩))), e1, e2⟩
section
variable {C C' : PyData → Prop} (f : ∀ c, C c → C' c)
include f
theorem wd_mono {l : List PyData} (h : WdR C l) : WdR C' l := ws_mono f 5 h
theorem wo_mono {l : List PyData} (h : WsO C l) : WsO C' l := ⟨h.1, fun w m => by
  obtain ⟨l, e, hw, n⟩ := h.2 w m
  exact ⟨l, e, wd_mono f hw, n⟩⟩
theorem ts_mono {l : List PyData} (h : TsR C l) : TsR C' l := ⟨h.1, fun t m => by
  obtain ⟨k, mm, l, e, hk, ht⟩ := h.2 t m
  refine ⟨k, mm, l, e, hk, ?_⟩
  rcases ht with ⟨a, b, c⟩ | h
  · exact .inl ⟨a, wd_mono f b, c⟩
  · exact .inr h⟩
theorem ss_mono {l : List PyData} (h : SsR C l) : SsR C' l := ⟨h.1, fun t m => by
  obtain ⟨x, l, e, a, b, c⟩ := h.2 t m
  exact ⟨x, l, e, a, b, wd_mono f c⟩⟩
theorem sc_mono {l : List PyData} (h : ScR C l) : ScR C' l := ⟨h.1, fun c m => f _ (h.2 c m)⟩
theorem cm_mono {c : PyData} (h : CmA C c) : CmA C' c := by
  rcases h with ⟨ss, ws, ts, e, h1, h2, h3, h4⟩ | ⟨x, b, e, hm, lx, hb, hcb⟩ | ⟨l, e, l2, l50, hl⟩ | ⟨b, e, hcb, hb⟩ | ⟨kk, a1, b, e, hk, hca, hcb, hb⟩ | hc
  · exact .inl ⟨ss, ws, ts, e, ss_mono f h1, wo_mono f h2, ts_mono f h3, h4⟩
  · exact .inr (.inl ⟨x, b, e, hm, lx, hb, f _ hcb⟩)
  · exact .inr (.inr (.inl ⟨l, e, l2, l50, fun p m => ⟨f _ (hl p m).1, (hl p m).2⟩⟩))
  · exact .inr (.inr (.inr (.inl ⟨b, e, f _ hcb, hb⟩)))
  · exact .inr (.inr (.inr (.inr (.inl ⟨kk, a1, b, e, hk, f _ hca, f _ hcb, hb⟩))))
  · refine .inr (.inr (.inr (.inr (.inr ?_))))
    rcases hc with ⟨kk, s', ts, e, hk, hs, ne, ht⟩ | ⟨as, o, ts, e, hi, ho, ht⟩ | ⟨kk, t, s', ts, e, hk, h1', n1, h2', n2, ht⟩ | ⟨x, o, s', ts, e, hn, lx, ho, hs, ne, ht⟩ | ⟨l, as, ts, e, hw, nw, ha, ht⟩
    · exact .inl ⟨kk, s', ts, e, hk, sc_mono f hs, ne, ts_mono f ht⟩
    · refine .inr (.inl ⟨as, o, ts, e, ⟨hi.1, hi.2.1, fun a m => ?_⟩, ?_, ts_mono f ht⟩)
      · obtain ⟨t, s, e, n1, n2, h1, h2⟩ := hi.2.2 a m
        exact ⟨t, s, e, n1, n2, sc_mono f h1, sc_mono f h2⟩
      · rcases ho with h | ⟨s, e, n, h⟩
        · exact .inl h
        · exact .inr ⟨s, e, n, sc_mono f h⟩
    · exact .inr (.inr (.inl ⟨kk, t, s', ts, e, hk, sc_mono f h1', n1, sc_mono f h2', n2, ts_mono f ht⟩))
    · refine .inr (.inr (.inr (.inl ⟨x, o, s', ts, e, hn, lx, ?_, sc_mono f hs, ne, ts_mono f ht⟩)))
      rcases ho with h | ⟨ws, e, h⟩
      · exact .inl h
      · exact .inr ⟨ws, e, wo_mono f h⟩
    · refine .inr (.inr (.inr (.inr ⟨l, as, ts, e, wd_mono f hw, nw, ⟨ha.1, fun a m => ?_⟩, ts_mono f ht⟩)))
      obtain ⟨w, ws, s, e, h1, h2, h3⟩ := ha.2 a m
      exact ⟨w, ws, s, e, wo_mono f h1, h2, sc_mono f h3⟩
end
/-- right commands of any depth -/
def CmU (c : PyData) : Prop := ∃ n, CmG n c
theorem cu_hd : Hds CmU := fun c ⟨n, h⟩ => cg_hd n c h
theorem cu_cm {c : PyData} (h : CmU c) : Sh 40 c ∧ CmA CmU c := by
  obtain ⟨n, h⟩ := h
  cases n with
  | zero => exact h.elim
  | succ n => exact ⟨h.1, cm_mono (fun c h => ⟨n, h⟩) h.2⟩
theorem cg_up : ∀ (n : Nat) {c : PyData}, CmG n c → CmG (n + 1) c
  | 0, _, h => h.elim
  | n + 1, _, h => ⟨h.1, cm_mono (fun _ h => cg_up n h) h.2⟩
theorem small_wd {C : PyData → Prop} {s : Str} (h : s ∈ smW) : WdR C [bareD s] := by
  have key : ∀ s ∈ smW, isBareB (cs s) = true ∧ PyData.strOk s = true ∧ s.length ≤ 20 ∧ nbB "bare" [bareD s] = false := by decide +kernel
  obtain ⟨a, b, c, d⟩ := key s h
  refine ⟨(by decide : 1 ≤ 7), [(true, true)], .cons (.inl ⟨"bare", s, rfl, ⟨by decide +kernel, by decide +kernel, by decide +kernel, by decide +kernel, by decide +kernel, by decide +kernel⟩, ⟨c, b⟩, ?_, rfl⟩) .nil, ?_, rfl⟩
  · unfold txtB
    rw [if_neg (by decide), if_pos rfl, a]
  · show true = (([(true, true)] : List (Bool × Bool)).all (·.1) && !nbB "bare" [bareD s])
    rw [d]
    rfl
theorem tu_wd {C : PyData → Prop} {ts : List PyData} (h : TsR C ts) : ∀ q ∈ twP ts, q.1 = "word" ∧ ∃ l, q.2 = .list l ∧ WdR C l := fun q m => by
  obtain ⟨t, mt, rfl⟩ := List.mem_map.mp m
  obtain ⟨k, mm, l, rfl, _, ht⟩ := h.2 t mt
  refine ⟨rfl, l, rfl, ?_⟩
  rcases ht with ⟨_, h, _⟩ | ⟨_, s, hs, rfl⟩
  · exact h
  · exact small_wd hs
def Kind (C : PyData → Prop) (q : Str × PyData) : Prop := (q.1 = "command" ∧ C q.2) ∨ (q.1 = "word" ∧ ∃ l, q.2 = .list l ∧ WdR C l)
theorem kc {C : PyData → Prop} {l : List PyData} (h : ∀ c ∈ l, C c) : ∀ q ∈ l.map cP, Kind C q := fun q m => by
  obtain ⟨c, mc, rfl⟩ := List.mem_map.mp m
  exact .inl ⟨rfl, h c mc⟩
theorem kw {C : PyData → Prop} {l : List PyData} (h : ∀ w ∈ l, ∃ x, w = .list x ∧ WdR C x) : ∀ q ∈ l.map wP, Kind C q := fun q m => by
  obtain ⟨c, mc, rfl⟩ := List.mem_map.mp m
  exact .inr ⟨rfl, h c mc⟩
theorem kt {C : PyData → Prop} {ts : List PyData} (h : TsR C ts) : ∀ q ∈ twP ts, Kind C q := fun q m => .inr (tu_wd h q m)
theorem kapp {C : PyData → Prop} {a b : List (Str × PyData)} (h : ∀ q ∈ a, Kind C q) (g : ∀ q ∈ b, Kind C q) : ∀ q ∈ a ++ b, Kind C q := fun q m => (List.mem_append.mp m).elim (h q) (g q)
theorem wo_w {C : PyData → Prop} {l : List PyData} (h : WsO C l) : ∀ w ∈ l, ∃ x, w = .list x ∧ WdR C x := fun w m => by
  obtain ⟨x, e, hw, _⟩ := h.2 w m
  exact ⟨x, e, hw⟩
/-- the parts of a right command are right -/
theorem prt_kind {C : PyData → Prop} (hh : Hds C) {c : PyData} (h : CmA C c) : ∀ q ∈ prt c, Kind C q := by
  rcases h with ⟨ss, ws, ts, rfl, h1, h2, h3, h4⟩ | ⟨x, b, rfl, hm, lx, hb, hcb⟩ | ⟨l, rfl, l2, l50, hl⟩ | ⟨b, rfl, hcb, hb⟩ | ⟨kk, a1, b, rfl, hk, hca, hcb, hb⟩ | ⟨kk, s', ts, rfl, hk, hs, ne, ht⟩ | ⟨as, o, ts, rfl, hi, ho, ht⟩ | ⟨kk, t, s', ts, rfl, hk, h1', n1, h2', n2, ht⟩ | ⟨x, o, s', ts, rfl, hn, lx, ho, hs, ne, ht⟩ | ⟨l, as, ts, rfl, hw, nw, ha, ht⟩
  · rw [prt_do]
    refine kapp (kapp (fun q m => ?_) (kw (wo_w h2))) (kt h3)
    obtain ⟨s, ms, rfl⟩ := List.mem_map.mp m
    obtain ⟨x, l, rfl, _, _, hw⟩ := h1.2 s ms
    exact .inr ⟨rfl, l, rfl, hw⟩
  · obtain ⟨y, m, rfl⟩ := hh b hcb
    exact kc (l := [_]) fun c m => by rw [List.mem_singleton.mp m]; exact hcb
  · exact kc fun p m => (hl p m).1
  · obtain ⟨y, m, rfl⟩ := hh b hcb
    exact kc (l := [_]) fun c m => by rw [List.mem_singleton.mp m]; exact hcb
  · obtain ⟨y, m, rfl⟩ := hh a1 hca
    obtain ⟨z, n, rfl⟩ := hh b hcb
    exact kc (l := [_, _]) (all_two hca hcb)
  · exact kapp (kc hs.2) (kt ht)
  · rw [prt_if]
    refine kapp (kapp (fun q m => ?_) (kc fun c m => ?_)) (kt ht)
    · obtain ⟨a, ma, m⟩ := List.mem_flatMap.mp m
      obtain ⟨t, s, rfl, _, _, h1, h2⟩ := hi.2.2 a ma
      exact kapp (kc h1.2) (kc h2.2) q m
    · rcases ho with rfl | ⟨s, rfl, _, h⟩
      · cases m
      · exact h.2 c m
  · rw [prt_wh hk]
    exact kapp (kapp (kc h1'.2) (kc h2'.2)) (kt ht)
  · refine kapp (a := (lstOf o).map wP ++ s'.map cP) (kapp (kw fun w m => ?_) (kc hs.2)) (kt ht)
    rcases ho with rfl | ⟨ws, rfl, h⟩
    · cases m
    · exact wo_w h w m
  · rw [prt_case]
    refine kapp (kapp (fun q m => ?_) (fun q m => ?_)) (kt ht)
    · rw [List.mem_singleton.mp m]
      exact .inr ⟨rfl, l, rfl, hw⟩
    · obtain ⟨a, ma, m⟩ := List.mem_flatMap.mp m
      obtain ⟨w, ws, s, rfl, h1, _, h2⟩ := ha.2 a ma
      exact kapp (kw (wo_w h1)) (kc h2.2) q m
def cmP (n : Nat) (p : PyData) : List PyData := (scrP (scr n) p).flatMap lstOf
theorem cms_succ (n : Nat) (ws : List PyData) : cms (n + 1) ws = ws.flatMap (cmP n) := by
  show (ws.flatMap (scrP (scr n))).flatMap lstOf = _
  rw [List.flatMap_assoc]
  rfl
theorem scr_some {C : PyData → Prop} : ∀ (n : Nat) {i : Bool} {ws : List PyData} {b r : Bool}, WsR (CRg C) n i ws b r → ∀ s ∈ scr n ws, ∃ l, s = .list l ∧ ∀ c ∈ l, C c
  | 0, _, _, _, _, h => h.elim
  | n + 1, i, ws, b, r, ⟨_, ps, all, _, er⟩ => fun s m => by
    obtain ⟨p, mp, hs⟩ := List.mem_flatMap.mp m
    obtain ⟨q, _, h⟩ := all.mem mp
    rcases h with ⟨kk, x, rfl, hk, hx', _, _⟩ | ⟨w', bw, rw', rfl, hw, _, _⟩ | ⟨x, d, bd, rfl, hx', hd', _⟩ | ⟨t, rfl, _, _, _, _, _⟩ | ⟨cs, bs, rfl, hcl, hcs, _, _, _⟩
    · cases hs
    · rw [scr_two, if_neg (by decide +kernel), if_pos rfl] at hs
      exact scr_some n hw s hs
    · rcases hd' with ⟨rfl, _, _⟩ | ⟨rfl, _, _⟩ | ⟨kk, c, w', bw, rw', rfl, hkk, hw, _, _⟩ | ⟨m, w', bw, rw', rfl, _, hw, _, _⟩
      · cases hs
      · cases hs
      · rw [scr_three, if_pos rfl] at hs
        by_cases c5 : kk ∈ dd5
        · rw [if_pos c5] at hs
          exact scr_some n hw s hs
        · rw [if_neg c5] at hs
          cases hs
      · rw [scr_three, if_pos rfl, if_pos (by decide +kernel)] at hs
        exact scr_some n hw s hs
    · exfalso
      cases ht : t.d with
      | list l => rw [ht, scr_two, if_neg (by decide +kernel), if_neg (by decide +kernel)] at hs; cases hs
      | _ => rw [ht] at hs; cases hs
    · rw [scr_two, if_pos rfl] at hs
      rw [List.mem_singleton.mp hs]
      refine ⟨cs, rfl, fun c m => ?_⟩
      obtain ⟨b, _, h⟩ := hcs.mem m
      exact h.2
theorem cms_C {C : PyData → Prop} {n : Nat} {i : Bool} {ws : List PyData} {b r : Bool} (h : WsR (CRg C) n i ws b r) : ∀ c ∈ cms n ws, C c := fun c m => by
  obtain ⟨s, ms, hc⟩ := List.mem_flatMap.mp m
  obtain ⟨l, rfl, hl⟩ := scr_some n h s ms
  exact hl c hc
def sB : Nat → Nat
  | 0 => 1
  | n + 1 => (n + 3) * sB n
theorem sB_pos : ∀ n, 1 ≤ sB n
  | 0 => Nat.le_refl _
  | n + 1 => Nat.le_trans (sB_pos n) (Nat.le_mul_of_pos_left _ (by omega))
theorem fm_len {α β : Type} {f : α → List β} {B : Nat} : ∀ (l : List α), (∀ a ∈ l, (f a).length ≤ B) → (l.flatMap f).length ≤ l.length * B
  | [], _ => Nat.zero_le _
  | a :: l, h => by
    have ih := fm_len l fun b m => h b (.tail _ m)
    have h1 := h a (.head _)
    rw [List.flatMap_cons, List.length_append, List.length_cons, Nat.add_mul]
    omega
theorem scr_len {CR : PyData → Bool → Prop} : ∀ (n : Nat) {i : Bool} {ws : List PyData} {b r : Bool}, WsR CR n i ws b r → (scr n ws).length ≤ sB n
  | 0, _, _, _, _, h => h.elim
  | n + 1, i, ws, b, r, ⟨hl, ps, all, _, er⟩ => by
    refine Nat.le_trans (fm_len (B := sB n) ws fun p mp => ?_) (Nat.mul_le_mul_right _ hl)
    have p1 := sB_pos n
    obtain ⟨q, _, h⟩ := all.mem mp
    rcases h with ⟨kk, x, rfl, hk, hx', _, _⟩ | ⟨w', bw, rw', rfl, hw, _, _⟩ | ⟨x, d, bd, rfl, hx', hd', _⟩ | ⟨t, rfl, _, _, _, _, _⟩ | ⟨cs, bs, rfl, hcl, hcs, _, _, _⟩
    · exact Nat.zero_le _
    · rw [scr_two, if_neg (by decide +kernel), if_pos rfl]
      exact scr_len n hw
    · rcases hd' with ⟨rfl, _, _⟩ | ⟨rfl, _, _⟩ | ⟨kk, c, w', bw, rw', rfl, hkk, hw, _, _⟩ | ⟨m, w', bw, rw', rfl, _, hw, _, _⟩
      · exact Nat.zero_le _
      · exact Nat.zero_le _
      · rw [scr_three, if_pos rfl]
        by_cases c5 : kk ∈ dd5
        · rw [if_pos c5]
          exact scr_len n hw
        · rw [if_neg c5]
          exact Nat.zero_le _
      · rw [scr_three, if_pos rfl, if_pos (by decide +kernel)]
        exact scr_len n hw
    · cases ht : t.d with
      | list l => rw [scr_two, if_neg (by decide +kernel), if_neg (by decide +kernel)]; exact Nat.zero_le _
      | _ => exact Nat.zero_le _
    · rw [scr_two, if_pos rfl]
      exact p1
def innQ (q : Str × PyData) : List PyData := if q.1 = "command" then [q.2] else cms 5 (lstOf q.2)
/-- the commands that lie within a command -/
def inn (c : PyData) : List PyData := (prt c).flatMap innQ
theorem innQ_w {q : Str × PyData} {l : List PyData} (e : q.1 = "word") (e2 : q.2 = .list l) : innQ q = cms 5 l := by
  unfold innQ
  rw [if_neg (by rw [e]; decide +kernel), e2]
  rfl
theorem innQ_c {q : Str × PyData} (e : q.1 = "command") : innQ q = [q.2] := by
  unfold innQ
  rw [if_pos e]
theorem inn_C {C : PyData → Prop} (hh : Hds C) {c : PyData} (h : CmA C c) : ∀ d ∈ inn c, C d := fun d m => by
  obtain ⟨q, mq, hd⟩ := List.mem_flatMap.mp m
  rcases prt_kind hh h q mq with ⟨e, hc⟩ | ⟨e, l, e2, hw⟩
  · rw [innQ_c e] at hd
    rw [List.mem_singleton.mp hd]
    exact hc
  · rw [innQ_w e e2] at hd
    exact cms_C hw d hd
theorem fm_mid {α β : Type} {f : α → List β} {l : List α} {i : Nat} {a : α} (h : l[i]? = some a) : ((l.take i).flatMap f).length + (f a).length ≤ (l.flatMap f).length := by
  have e1 : l = l.take i ++ a :: l.drop (i + 1) := by
    obtain ⟨hi', e⟩ := List.getElem?_eq_some_iff.mp h
    rw [← e, List.getElem_cons_drop, List.take_append_drop]
  conv => rhs; rw [e1]
  rw [List.flatMap_append, List.flatMap_cons, List.length_append, List.length_append]
  omega
def spCin (K : Frag) (C : PyData → Prop) : Sp := fun vs H Q _ => ∃ G v c, vs = [v] ∧ Same G H ∧ Dp K G v c ∧ CmA C c ∧ (inn c).length ≤ 5000 ∧ ∀ H' r xs, Same H H' → H r = none → H' r = some (.lst xs) → All2 (Inn K 21 G H H') xs (inn c) → Q (.ref r) H'
section
variable {P : Program} {w : World} {K : Frag} {mg : Str → Option Value} {base : Heap}
abbrev sCin : Stmt := top 76
abbrev nCin : List Str := ["command", "found", "path", "kind", "part", "way", "inner"]
theorem scCin : FnScope nCin ["command"] (defScope sCin) := ⟨rfl, rfl, rfl, by decide +kernel, rfl, by decide +kernel, by decide +kernel⟩
theorem has_Cin {C : PyData → Prop} (hh : Hds C) {f : Addr} {fd : FuncData}  (F : Fun K "commands_within" "commands_within" sCin f fd) (g : mg "commands_within" = some (.ref f)) (B : Blt mg) (hPo : Has P w K mg base 4 "parts_of" ["command"] (spPo K C)) (hCiw : Has P w K mg base 7 "commands_in_word" ["word"] (spCiw K (CRg C) 5)) :
    Has P w K mg base 8 "commands_within" ["command"] (spCin K C) := by
  obtain ⟨fPo, dPo, gPo, kPo, bPo, GPo⟩ := hPo
  obtain ⟨fCiw, dCiw, gCiw, kCiw, bCiw, GCiw⟩ := hCiw
  refine has_of F g (F.binds (ps := ["command"]) fun _ _ _ _ _ _ us hl => match us, hl with | [_], _ => rfl) (F.ok scCin (fun vs H Q E h => ?_) (fun cdv A outer s H vs Q E hr h => ?_))
  · obtain ⟨G, v, c, rfl, _⟩ := h
    rfl
  · refine ⟨_, (pss_cons (ps_set (i := 1) scCin.nd rfl (.inl rfl) (pe_lst pa_nil))
        (pss_cons (ps_for PassesOwn.never rfl (pi_list (pe_call GPo (hr.mono (by decide)) rfl gPo kPo bPo .nil pass0 (pa_cons (pv 0) pa_nil))) (pg_tup rfl (pgs_cons (pg_name (i := 2) scCin.nd rfl (.inr rfl)) (pgs_cons (pg_name (i := 3) scCin.nd rfl (.inl rfl)) (pgs_cons (pg_name (i := 4) scCin.nd rfl (.inl rfl)) pgs_nil))))
          (pss_one (ps_if (pt_cmpR op_eq (pv 3) pe_str (nomark _)) (pss_one (ps_expr (pe_bm PySem.F.plainAttrs_list PySem.F.slot_list_append PySem.F.type_list_append mt_append (pv 1) (pa_cons (pe_tup (pa_cons (pv 2) (pa_cons (pv 4) pa_nil))) pa_nil)))) (pss_one (ps_expr (pe_bm PySem.F.plainAttrs_list PySem.F.slot_list_extend PySem.F.type_list_extend mt_extend (pv 1) (pa_cons (pe_lc (te := tTup (tCons (tOp rCat (tVar 2) (tVar 5)) (tCons (tVar 6) tNil))) (own := [("way", 5), ("inner", 6)]) (g := gTup K 2 (gCons (gName 5) (gCons (gName 6) gNil))) (tt := tYes) rfl scCin.nd (pi_list (pe_call GCiw (hr.mono (by decide)) rfl gCiw kCiw bCiw .nil pass0 (pa_cons (pv 4) pa_nil))) (blkOk_by (N := nCin) (sc := defScope sCin) (by decide +kernel)) (fun _ _ _ _ _ => pg_tup rfl (pgs_cons (pg_name (i := 5) scCin.nd rfl (.inl rfl)) (pgs_cons (pg_name (i := 6) scCin.nd rfl (.inl rfl)) pgs_nil))) (fun _ _ _ _ _ => pts_nil) (fun _ _ _ _ _ => (pe_tup (pa_cons (pe_op op_cat (pv 2) (pv 5)) (pa_cons (pv 6) pa_nil))))) pa_nil)))))))
        (pss_one (ps_ret (pv 1))))), ?_⟩
    obtain ⟨G, v, c, rfl, sG, hd, hc, hin, k⟩ := h
    have kinds := prt_kind hh hc
    refine ⟨(by decide : 0 ≤ sizeLine), fun D nD => ?_⟩
    have sD := same_upd (o := .lst []) nD
    refine ⟨_, rfl, G, v, c, rfl, sG.trans sD, hd, hc, fun H2 r s2 pl => ?_⟩
    obtain ⟨xs, hr2, fr, aI0⟩ := pl
    have hD2 := s2 _ _ (upd_same (H := H) (a := D) (o := .lst []))
    have aI := aI0.imp fun _ _ h => h.hide (W := D) upd_same
    have rD : r ≠ D := fun z => by
      rw [z, upd_same] at fr
      cases fr
    have hrh := hide_ne hr2 rD
    refine ⟨r, rfl, ⟨_, SqL.of hr2⟩, for_it (walk_list (xs := xs)) (fun i σ H' => (∃ b c d e f, σ = [some v, some (.ref D), b, c, d, e, f]) ∧ Same H H' ∧ Same (hide H2 D) (hide H' D) ∧ MkL (Inn K 21 G H) D (((prt c).take i).flatMap innQ) H')
      ⟨⟨_, _, _, _, _, rfl⟩, sD.trans s2, Same.refl _, [], hD2, .nil⟩ (fun i σ H' _ e => SqL.of (hide_same _ _ (e.2.2.1 _ _ hrh))) (fun i x σ H' H3 hi e y => ?_) (fun σ H' e => ?_)⟩
    · obtain ⟨⟨s1, s3, s4, s5, s6, rfl⟩, sH, sh, mk⟩ := e
      obtain ⟨rfl, hx⟩ := y
      obtain ⟨q, hq, t, pa, z, rfl, n1, h1, n2, ⟨zs1, j1, l1⟩, h3⟩ := aI.at hx
      have tot := Nat.le_trans (fm_mid (f := innQ) hq) hin
      have ht := hide_same _ _ (sh _ _ h1)
      have hpa := hide_same _ _ (sh _ _ j1)
      obtain ⟨ys0, hDy, _⟩ := id mk
      refine ⟨t, _, rfl, SqT.of ht, rfl, _, _, rfl, _, _, rfl, _, _, rfl, rfl, ?_⟩
      refine ⟨_, rfl, rfl, _, rfl, ?_⟩
      rw [dec_str]
      rw [take_snoc hq, List.flatMap_append, List.flatMap_singleton]
      rcases kinds q (List.mem_of_getElem? hq) with ⟨e, hcq⟩ | ⟨e, l, e2, hw⟩
      · rw [innQ_c e] at tot ⊢
        have tot : _ + 1 ≤ 5000 := tot
        refine if_yes (decide_eq_true e) ⟨_, rfl, .inl ⟨rfl, _, SqL.of hDy⟩, _, rfl, _, rfl, (by decide : 2 ≤ sizeLine), fun T nT => ?_⟩
        have sT := same_upd (o := .tup [.ref pa, z]) nT
        have TD : T ≠ D := fun z => by
          rw [z, hDy] at nT
          cases nT
        obtain ⟨ys1, f1, f2, f3⟩ := (mk.same Inn.mono sT).add Inn.mono (u := .ref T) (a := q.2) ⟨T, pa, z, rfl, sH.free nT, hide_ne upd_same TD, sD.free n2, ⟨zs1, (sh.trans (hide_mono sT)) _ _ j1, Nat.le_trans l1 (by decide)⟩, h3⟩ (sl (by omega))
        exact ⟨D, ys1, _, rfl, rfl, f1, f2, ⟨_, _, _, _, _, rfl⟩, same_upd2 (sH.trans sT) nD, sh.trans ((hide_mono sT).trans hide_upd), f3⟩
      · rw [innQ_w e e2] at tot ⊢
        rw [e2] at h3
        refine if_no (decide_eq_false (by rw [e]; decide +kernel)) ⟨_, rfl, .inl ⟨rfl, _, SqL.of hDy⟩, _, rfl, G, z, l, false, true, true, rfl, sG.trans sH, h3, hw, Nat.le_trans (scr_len 5 hw) (by decide), by omega, fun H4 r4 zs s4 fr4 hr4 a4 => ⟨r4, rfl, ⟨_, SqL.of hr4⟩, fun D2 nD2 => ?_⟩⟩
        have mk4 := mk.same Inn.mono s4
        have hD4 := s4 _ _ hDy
        have lz := a4.len
        refine lc_it (walk_list (xs := zs)) (fun j Hj => Same H4 Hj ∧ MkL (fun hp y d => Inn K 21 G H (hide hp D) y d) D2 ((cms 5 l).take j) Hj) ⟨same_upd nD2, MkL.start⟩ (fun j Hj _ e => e.1.seq (SqL.of hr4)) (fun j x Hj Hj2 hj e y => ?_) (fun H5 e => ?_)
        · obtain ⟨s5, mk5⟩ := e
          obtain ⟨rfl, hx⟩ := y
          obtain ⟨d, hdj, t2, wa, z2, rfl, m1, q1, m2, ⟨zs2, q2, l2⟩, q3⟩ := a4.at hx
          obtain ⟨ys5, hD5, _⟩ := id mk5
          have hD6 := s5 _ _ hD4
          refine ⟨t2, _, rfl, SqT.of (s5 _ _ q1), rfl, _, _, rfl, _, _, rfl, rfl, rfl, ?_⟩
          refine ⟨_, rfl, _, rfl, pa, wa, zs1, zs2, rfl, rfl, s5 _ _ (s4 _ _ hpa), s5 _ _ q2, sl (by omega), fun p np => ⟨_, rfl, (by decide : 2 ≤ sizeLine), fun T nT => ?_⟩⟩
          have sp := same_upd (o := .lst (zs1 ++ zs2)) np
          have sT := same_upd (o := .tup [.ref p, z2]) nT
          have aA := sp.trans sT
          have sB := (sH.trans s4).trans s5
          have pD : p ≠ D := fun z => by rw [z, hD6] at np; cases np
          have pD2 : p ≠ D2 := fun z => by rw [z, hD5] at np; cases np
          have tD : T ≠ D := fun z => by rw [z, sp _ _ hD6] at nT; cases nT
          have tD2 : T ≠ D2 := fun z => by rw [z, sp _ _ hD5] at nT; cases nT
          have lt := List.length_take_le j (cms 5 l)
          have lt2 := List.length_take_le' j (cms 5 l)
          obtain ⟨ys1, f1, f2, f3⟩ := (mk5.same Inn.monoD aA).add Inn.monoD (u := .ref T) (a := d) ⟨T, p, z2, rfl, (sB.trans sp).free nT, hide_ne (hide_ne upd_same tD2) tD, sB.free np, ⟨_, hide_ne (hide_ne (sT _ _ upd_same) pD2) pD, by rw [List.length_append]; omega⟩, q3⟩ (sl (by omega))
          exact ⟨ys1, f1, f2, same_upd2 (s5.trans aA) nD2, by rw [take_snoc hdj]; exact f3⟩
        · obtain ⟨s5, ys, hD2', al⟩ := e
          rw [List.take_of_length_le (Nat.le_of_eq lz.symm)] at al
          obtain ⟨ys1, f1, f2, f3⟩ := (mk4.same Inn.mono s5).ext Inn.mono (zs := ys) (bs := cms 5 l) (al.imp fun _ _ r => r.same (Same.refl H) (hide_mono hide_same) (Nat.le_refl _)) (sl (by omega))
          have s45 := s4.trans s5
          exact ⟨D, D2, ys1, ys, rfl, rfl, f1, hD2', f2, ⟨_, _, _, _, _, rfl⟩, same_upd2 (sH.trans s45) nD, sh.trans ((hide_mono s45).trans hide_upd), f3⟩
    · obtain ⟨⟨s1, s3, s4, s5, s6, rfl⟩, sH, sh, mk⟩ := e
      have lx := aI0.len
      rw [List.take_of_length_le (Nat.le_of_eq lx.symm)] at mk
      obtain ⟨ys, hDy, al⟩ := mk
      exact ⟨_, rfl, k _ D ys sH nD hDy (al.imp fun _ _ h => h.same (Same.refl H) hide_same (Nat.le_refl _))⟩
end
end Qb
end PySem
namespace PySem
namespace Qb
open PySem.W PySem.Calls PyProof.Rows L2
/-! # the first command that is wrong: none is -/
theorem same_self {H : Hp} {D : Addr} {o : HO} (h : H D = some o) : Same H (L2.upd H D o) := fun b u e => by
  by_cases q : b = D
  · subst q
    rw [upd_same, ← e, h]
  · rw [upd_ne q]
    exact e
theorem All2.last {α β : Type} {R : α → β → Prop} : ∀ {as : List α} {bs : List β}, All2 R as bs → as ≠ [] → ∃ as' a bs' b, as = as' ++ [a] ∧ bs = bs' ++ [b] ∧ All2 R as' bs' ∧ R a b
  | _, _, .nil, ne => absurd rfl ne
  | _, _, .cons (as := []) h .nil, _ => ⟨[], _, [], _, rfl, rfl, .nil, h⟩
  | _, _, .cons (as := _ :: _) h t, _ => by
    obtain ⟨as', a, bs', b, e1, e2, t', h'⟩ := t.last (by simp)
    exact ⟨_ :: as', a, _ :: bs', b, by rw [e1]; rfl, by rw [e2]; rfl, .cons h t', h'⟩
/-- how many turns a command takes -/
def wtC : Nat → PyData → Nat
  | 0, _ => 0
  | n + 1, c => 2 + ((inn c).map (wtC n)).sum
def wtS (n : Nat) (l : List PyData) : Nat := (l.map (wtC n)).sum
theorem wtC_ge {n : Nat} {c : PyData} (h : CmG n c) : 2 ≤ wtC n c := by
  cases n with
  | zero => exact h.elim
  | succ n => exact Nat.le_add_right 2 _
theorem wtS_ge {n : Nat} : ∀ {l : List PyData}, (∀ c ∈ l, CmG n c) → 2 * l.length ≤ wtS n l
  | [], _ => Nat.le_refl _
  | c :: l, h => by
    have ih := wtS_ge (l := l) fun d m => h d (.tail _ m)
    have h1 := wtC_ge (h c (.head _))
    show 2 * (l.length + 1) ≤ wtC n c + wtS n l
    omega
theorem wtS_app {n : Nat} (l m : List PyData) : wtS n (l ++ m) = wtS n l + wtS n m := by
  unfold wtS
  rw [List.map_append, List.sum_append]
theorem wtS_rev {n : Nat} : ∀ (l : List PyData), wtS n l.reverse = wtS n l
  | [] => rfl
  | c :: l => by
    rw [List.reverse_cons, wtS_app, wtS_rev l]
    show wtS n l + (wtC n c + 0) = wtC n c + wtS n l
    omega
structure E3 where
  f : Bool
  n : Nat
  c : PyData
def wt1 (e : E3) : Nat := if e.f = true then 1 else wtC e.n e.c
def wts (l : List E3) : Nat := (l.map wt1).sum
theorem wts_app (l m : List E3) : wts (l ++ m) = wts l + wts m := by
  unfold wts
  rw [List.map_append, List.sum_append]
theorem wts_new (n : Nat) (l : List PyData) : wts (l.map fun c => ⟨false, n, c⟩) = wtS n l := by
  unfold wts wtS
  rw [List.map_map]
  rfl
def EntU (K : Frag) (H : Hp) (v : V) (e : E3) : Prop := ∃ t pa x zs, v = .ref t ∧ SqT K H t [.bl e.f, .ref pa, x] ∧ H pa = some (.lst zs) ∧ zs.length + 25 * e.n ≤ 5000 ∧ Dp K H x e.c ∧ CmG e.n e.c
def CmdU (K : Frag) (N : Nat) (H : Hp) (v : V) (c : PyData) : Prop := ∃ t pa x zs, v = .ref t ∧ SqT K H t [.ref pa, x] ∧ H pa = some (.lst zs) ∧ zs.length + 25 * N ≤ 5000 ∧ Dp K H x c ∧ CmG N c
theorem EntU.same {K : Frag} {H H' : Hp} {v : V} {e : E3} (h : EntU K H v e) (s : Same H H') : EntU K H' v e := by
  obtain ⟨t, pa, x, zs, e1, h1, h2, l, h3, h4⟩ := h
  exact ⟨t, pa, x, zs, e1, sqT_same s h1, s _ _ h2, l, dp_same s h3, h4⟩
theorem EntU.mono {K : Frag} : ∀ (H1 H2 : Hp) (y : V) (a : E3), Same H1 H2 → EntU K H1 y a → EntU K H2 y a := fun _ _ _ _ s r => r.same s
theorem CmdU.same {K : Frag} {N : Nat} {H H' : Hp} {v : V} {c : PyData} (h : CmdU K N H v c) (s : Same H H') : CmdU K N H' v c := by
  obtain ⟨t, pa, x, zs, e1, h1, h2, l, h3, h4⟩ := h
  exact ⟨t, pa, x, zs, e1, sqT_same s h1, s _ _ h2, l, dp_same s h3, h4⟩
theorem wts_len {K : Frag} {H : Hp} {l : List E3} {ys : List V} (h : All2 (EntU K H) ys l) : l.length ≤ wts l := by
  induction h with
  | nil => exact Nat.le_refl _
  | @cons a e as bs h t ih =>
    have h1 : 1 ≤ wt1 e := by
      obtain ⟨_, _, _, _, _, _, _, _, _, h4⟩ := h
      unfold wt1
      split
      · omega
      · have := wtC_ge h4
        omega
    show bs.length + 1 ≤ wt1 e + wts bs
    omega
def spFwi (K : Frag) : Sp := fun vs H Q _ => ∃ (r : Addr) (xs : List V) (l : List PyData) (N : Nat), vs = [.ref r] ∧ H r = some (.lst xs) ∧ All2 (CmdU K N H) xs l ∧ wtS N l ≤ 10000 ∧ ∀ H', Same H H' → Q .non H'
section
variable {P : Program} {w : World} {K : Frag} {mg : Str → Option Value} {base : Heap}
abbrev sFwi : Stmt := top 80
abbrev nFwi : List Str := ["commands", "waiting", "path", "command", "looked_within", "within", "way", "inner"]
theorem scFwi : FnScope nFwi ["commands"] (defScope sFwi) := ⟨rfl, rfl, rfl, by decide +kernel, rfl, by decide +kernel, by decide +kernel⟩
theorem has_Fwi {f : Addr} {fd : FuncData}  (F : Fun K "first_wrong_in" "first_wrong_in" sFwi f fd) (g : mg "first_wrong_in" = some (.ref f)) (B : Blt mg) (hCm : Has P w K mg base 46 "is_command" ["command"] (spCm K CmU)) (hCin : Has P w K mg base 8 "commands_within" ["command"] (spCin K CmU)) :
    Has P w K mg base 47 "first_wrong_in" ["commands"] (spFwi K) := by
  obtain ⟨fCm, dCm, gCm, kCm, bCm, GCm⟩ := hCm
  obtain ⟨fCin, dCin, gCin, kCin, bCin, GCin⟩ := hCin
  refine has_of F g (F.binds (ps := ["commands"]) fun _ _ _ _ _ _ us hl => match us, hl with | [_], _ => rfl) (F.ok scFwi (fun vs H Q E h => ?_) (fun cdv A outer s H vs Q E hr h => ?_))
  · obtain ⟨r, xs, l, N, rfl, _⟩ := h
    rfl
  · refine ⟨_, (pss_cons (ps_setLc (i := 1) (te := tTup (tCons (tC (.bl false)) (tCons (tVar 2) (tCons (tVar 3) tNil)))) (own := [("path", 2), ("command", 3)]) (g := gTup K 2 (gCons (gName 2) (gCons (gName 3) gNil))) (tt := tYes) rfl scFwi.nd rfl rfl (sw_true rfl rfl rfl (by decide +kernel)) (pi_reversed (by rfl) B.reversed (pa_cons (pv 0) pa_nil)) (blkOk_by (N := nFwi) (sc := defScope sFwi) (by decide +kernel)) (fun _ _ _ _ _ => pg_tup rfl (pgs_cons (pg_name (i := 2) scFwi.nd rfl (.inl rfl)) (pgs_cons (pg_name (i := 3) scFwi.nd rfl (.inl rfl)) pgs_nil))) (fun _ _ _ _ _ => pts_nil) (fun _ _ _ _ _ => (pe_tup (pa_cons pe_bl (pa_cons (pv 2) (pa_cons (pv 3) pa_nil))))))
        (pss_cons (ps_while PassesOwn.never (pt_truth (pv 1) (by intro _; rfl)) (pss_cons (ps_asg (pe_bm0 PySem.F.plainAttrs_list PySem.F.slot_list_pop PySem.F.type_list_pop mt_pop (pv 1)) (pg_tup rfl (pgs_cons (pg_name (i := 4) scFwi.nd rfl (.inl rfl)) (pgs_cons (pg_name (i := 2) scFwi.nd rfl (.inr rfl)) (pgs_cons (pg_name (i := 3) scFwi.nd rfl (.inl rfl)) pgs_nil)))))
          (pss_one (ps_if (pt_val (pv 4)) (pss_one (ps_if (pt_not (pt_val (pe_call GCm hr rfl gCm kCm bCm .nil pass0 (pa_cons (pv 3) pa_nil)))) (pss_one (ps_ret (pv 2))) pss_nil)) (pss_cons (ps_expr (pe_bm PySem.F.plainAttrs_list PySem.F.slot_list_append PySem.F.type_list_append mt_append (pv 1) (pa_cons (pe_tup (pa_cons pe_bl (pa_cons (pv 2) (pa_cons (pv 3) pa_nil)))) pa_nil)))
            (pss_cons (ps_set (i := 5) scFwi.nd rfl (.inl rfl) (pe_call GCin (hr.mono (by decide)) rfl gCin kCin bCin .nil pass0 (pa_cons (pv 3) pa_nil)))
            (pss_one (ps_expr (pe_bm PySem.F.plainAttrs_list PySem.F.slot_list_extend PySem.F.type_list_extend mt_extend (pv 1) (pa_cons (pe_lc (te := tTup (tCons (tC (.bl false)) (tCons (tOp rCat (tVar 2) (tVar 6)) (tCons (tVar 7) tNil)))) (own := [("way", 6), ("inner", 7)]) (g := gTup K 2 (gCons (gName 6) (gCons (gName 7) gNil))) (tt := tYes) rfl scFwi.nd (pi_reversed (by rfl) B.reversed (pa_cons (pv 5) pa_nil)) (blkOk_by (N := nFwi) (sc := defScope sFwi) (by decide +kernel)) (fun _ _ _ _ _ => pg_tup rfl (pgs_cons (pg_name (i := 6) scFwi.nd rfl (.inl rfl)) (pgs_cons (pg_name (i := 7) scFwi.nd rfl (.inl rfl)) pgs_nil))) (fun _ _ _ _ _ => pts_nil) (fun _ _ _ _ _ => (pe_tup (pa_cons pe_bl (pa_cons (pe_op op_cat (pv 2) (pv 6)) (pa_cons (pv 7) pa_nil)))))) pa_nil))))))))))
        (pss_one (ps_ret pe_non)))), ?_⟩
    obtain ⟨r, xs, bs, N, rfl, hq, ac, lc, k⟩ := h
    have hl := ac.len
    have gC : ∀ c ∈ bs, CmG N c := fun c m => by
      obtain ⟨i, hi⟩ := List.getElem?_of_mem m
      have key : ∀ {as : List V} {bs : List PyData} {i : Nat} {c : PyData}, All2 (CmdU K N H) as bs → bs[i]? = some c → CmG N c := by
        intro as bs i c h
        induction h generalizing i with
        | nil => intro e; cases e
        | cons h t ih =>
          intro e
          cases i with
          | zero =>
            obtain rfl := Option.some.inj e
            obtain ⟨_, _, _, _, _, _, _, _, _, h4⟩ := h
            exact h4
          | succ i => exact ih e
      exact key ac hi
    have lb := wtS_ge gC
    refine ⟨_, rfl, r, xs, rfl, SqL.of hq, fun D hD => lc_it (walk_rev (xs := xs)) (fun i H' => Same H H' ∧ MkL (EntU K) D ((bs.reverse.take i).map fun c => (⟨false, N, c⟩ : E3)) H') ⟨same_upd hD, MkL.start⟩ (fun i H' _ e => e.1.seq (SqL.of hq)) (fun i x H' H2 hi e y => ?_) (fun H' e => ?_)⟩
    · obtain ⟨s1, mk⟩ := e
      obtain ⟨rfl, hx⟩ := y
      obtain ⟨c, hb, t, pa, z, zs, rfl, h1, h2, lp, h3, h4⟩ := ac.at hx
      have hbr : bs.reverse[i]? = some c := by
        rw [List.getElem?_reverse (by omega), ← hl]
        exact hb
      obtain ⟨ys0, hDy, _⟩ := id mk
      refine ⟨t, _, rfl, sqT_same s1 h1, rfl, _, _, rfl, _, _, rfl, rfl, rfl, ?_⟩
      refine ⟨_, rfl, _, rfl, (by decide : 3 ≤ sizeLine), fun T nT => ?_⟩
      have sT := same_upd (o := .tup [.bl false, .ref pa, z]) nT
      have TD : T ≠ D := fun z => by
        rw [z, hDy] at nT
        cases nT
      have lt := List.length_take_le i bs.reverse
      have lt2 := List.length_take_le' i bs.reverse
      rw [List.length_reverse] at lt2
      have sX := (hide_of s1 hD).trans (hide_mono sT)
      obtain ⟨ys1, f1, f2, f3⟩ := (mk.same EntU.mono sT).add EntU.mono (u := .ref T) (a := ⟨false, N, c⟩) ⟨T, pa, z, zs, rfl, SqT.of (hide_ne upd_same TD), sX _ _ h2, lp, dp_same sX h3, h4⟩ (by rw [List.length_map]; exact sl (by omega))
      refine ⟨ys1, f1, f2, same_upd2 (s1.trans sT) hD, ?_⟩
      rw [take_snoc hbr, List.map_append]
      exact f3
    · obtain ⟨s1, mk⟩ := e
      rw [List.take_of_length_le (by rw [List.length_reverse]; omega)] at mk
      refine ⟨fun m σ H' => ∃ st, wts st = m ∧ m ≤ 10000 ∧ (∃ a b c d e f, σ = [some (.ref r), some (.ref D), a, b, c, d, e, f]) ∧ Same H H' ∧ MkL (EntU K) D st H',
        ⟨_, (bs.reverse.map fun c => ⟨false, N, c⟩), rfl, ?_, ⟨_, _, _, _, _, _, rfl⟩, s1, mk⟩, ?_⟩
      · rw [wts_new, wtS_rev]
        exact lc
      · rintro m σ H2 ⟨st, rfl, hm, ⟨v1, v2, v3, v4, v5, v6, rfl⟩, s2, ⟨ws, hW, aw⟩⟩
        refine ⟨_, rfl, !ws.isEmpty, .inl ⟨ws, SqL.of hW, rfl⟩, if_by (fun e => ?_) (fun e => ?_)⟩
        · have ne : ws ≠ [] := fun z => by
            rw [z] at e
            cases e
          obtain ⟨ws', y, st', en, rfl, rfl, aw', hy⟩ := aw.last ne
          obtain ⟨t, pa, x, zs, rfl, h1, h2, lp, h3, h4⟩ := hy
          rw [wts_app] at hm
          have lw := wts_len aw'
          have lw' := aw'.len
          refine ⟨_, fun σ' H' h => h, ?_⟩
          have hlast : (ws' ++ [V.ref t])[(ws' ++ [V.ref t]).length - 1]? = some (V.ref t) := by simp
          have sP := hide_upd (H := H2) (W := D) (o := .lst ((ws' ++ [V.ref t]).dropLast))
          have e0 : (ws' ++ [V.ref t]).dropLast = ws' := by simp
          have sQ : Same (hide H2 D) (L2.upd H2 D (.lst ((ws' ++ [V.ref t]).dropLast))) := sP.trans hide_same
          refine ⟨_, rfl, .inl ⟨rfl, _, SqL.of hW⟩, D, _, _, rfl, rfl, hW, hlast, t, _, rfl, sqT_same sQ h1, rfl, _, _, rfl, _, _, rfl, _, _, rfl, rfl, ?_⟩
          rw [e0] at sP sQ ⊢
          have s3 : Same H (L2.upd H2 D (.lst ws')) := same_upd2 s2 hD
          have hD3 : (L2.upd H2 D (.lst ws')) D = some (.lst ws') := upd_same
          have aw3 : All2 (EntU K (hide (L2.upd H2 D (.lst ws')) D)) ws' st' := aw'.imp fun _ _ h => h.same sP
          generalize L2.upd H2 D (.lst ws') = H3 at sP sQ s3 hD3 aw3 ⊢
          obtain ⟨fl, n, c⟩ := en
          cases fl with
          | true =>
            have h4 : CmG n c := h4
            obtain ⟨shc, hcm⟩ := cu_cm ⟨n, h4⟩
            refine ⟨_, rfl, true, rfl, if_yes rfl ⟨_, rfl, x, c, rfl, dp_same sQ h3, hcm, sh_mono shc (by decide), fun H4 s4 => ⟨_, rfl, ?_⟩⟩⟩
            refine if_no rfl ⟨wts st', ?_, st', rfl, by omega, ⟨_, _, _, _, _, _, rfl⟩, s3.trans s4, ⟨ws', s4 _ _ hD3, aw3.imp fun _ _ h => h.same (hide_mono s4)⟩⟩
            rw [wts_app]
            show wts st' < wts st' + (1 + 0)
            omega
          | false =>
            have h4 : CmG n c := h4
            have hm : wts st' + (wtC n c + 0) ≤ 10000 := hm
            cases n with
            | zero => exact h4.elim
            | succ n =>
            obtain ⟨shc, hcm⟩ := cu_cm ⟨n + 1, h4⟩
            have inC : ∀ d ∈ inn c, CmG n d := inn_C (cg_hd n) h4.2
            have wI := wtS_ge inC
            have hm : wts st' + (2 + wtS n (inn c) + 0) ≤ 10000 := hm
            have lp : zs.length + 25 * (n + 1) ≤ 5000 := lp
            refine ⟨_, rfl, false, rfl, if_no rfl ?_⟩
            refine ⟨_, rfl, .inl ⟨rfl, _, SqL.of hD3⟩, _, rfl, _, rfl, (by decide : 3 ≤ sizeLine), fun T nT => ?_⟩
            have sT := same_upd (o := .tup [.bl true, .ref pa, x]) nT
            have TD : T ≠ D := fun z => by
              rw [z, hD3] at nT
              cases nT
            have mk3 : MkL (EntU K) D st' H3 := ⟨ws', hD3, aw3⟩
            have sX := sP.trans (hide_mono (W := D) sT)
            obtain ⟨ys1, f1, f2, f3⟩ := (mk3.same EntU.mono sT).add EntU.mono (u := .ref T) (a := ⟨true, n + 1, c⟩) ⟨T, pa, x, zs, rfl, SqT.of (hide_ne upd_same TD), sX _ _ h2, lp, dp_same sX h3, h4⟩ (sl (by omega))
            refine ⟨D, ys1, _, rfl, rfl, f1, f2, ?_⟩
            have sH4 : Same H (L2.upd (L2.upd H3 T (.tup [.bl true, .ref pa, x])) D (.lst (ys1 ++ [.ref T]))) := same_upd2 (s3.trans sT) hD
            have sY : Same (hide H2 D) (hide (L2.upd (L2.upd H3 T (.tup [.bl true, .ref pa, x])) D (.lst (ys1 ++ [.ref T]))) D) := sP.trans ((hide_mono sT).trans hide_upd)
            generalize L2.upd (L2.upd H3 T (.tup [.bl true, .ref pa, x])) D (.lst (ys1 ++ [.ref T])) = H4 at sH4 sY f3 ⊢
            refine ⟨_, rfl, hide H4 D, x, c, rfl, hide_same, dp_same sY h3, hcm, by omega, fun H5 r5 zs5 s5 fr5 hr5 aI => ?_⟩
            have mk5 := f3.same EntU.mono s5
            obtain ⟨ys2, hD5, aw5⟩ := id mk5
            have lz := aI.len
            have sG : Same (hide H2 D) (hide H5 D) := sY.trans (hide_mono s5)
            refine ⟨_, rfl, .inl ⟨rfl, _, SqL.of hD5⟩, _, rfl, r5, zs5, rfl, SqL.of hr5, fun D2 nD2 => ?_⟩
            refine lc_it (walk_rev (xs := zs5)) (fun j Hj => Same H5 Hj ∧ MkL (fun hp y e => EntU K (hide hp D) y e) D2 (((inn c).reverse.take j).map fun d => (⟨false, n, d⟩ : E3)) Hj) ⟨same_upd nD2, MkL.start⟩ (fun j Hj _ e => e.1.seq (SqL.of hr5)) (fun j x' Hj Hj2 hj e y => ?_) (fun H6 e => ?_)
            · obtain ⟨s6, mk6⟩ := e
              obtain ⟨rfl, hx⟩ := y
              obtain ⟨d, hdj, t2, wa, z2, rfl, m1, q1, m2, ⟨zs2, q2, l2⟩, q3⟩ := aI.at hx
              have hdr : (inn c).reverse[j]? = some d := by
                rw [List.getElem?_reverse (by omega), ← lz]
                exact hdj
              obtain ⟨ys6, hD6, _⟩ := id mk6
              have hD7 := s6 _ _ hD5
              have hpa : Hj2 pa = some (.lst zs) := s6 _ _ (hide_same _ _ (sG _ _ h2))
              refine ⟨t2, _, rfl, SqT.of (s6 _ _ q1), rfl, _, _, rfl, _, _, rfl, rfl, rfl, ?_⟩
              refine ⟨_, rfl, _, rfl, pa, wa, zs, zs2, rfl, rfl, hpa, s6 _ _ q2, sl (by omega), fun p np => ⟨_, rfl, (by decide : 3 ≤ sizeLine), fun T3 nT3 => ?_⟩⟩
              have sp := same_upd (o := .lst (zs ++ zs2)) np
              have sT3 := same_upd (o := .tup [.bl false, .ref p, z2]) nT3
              have aA := sp.trans sT3
              have pD : p ≠ D := fun z => by rw [z, hD7] at np; cases np
              have pD2 : p ≠ D2 := fun z => by rw [z, hD6] at np; cases np
              have tD : T3 ≠ D := fun z => by rw [z, sp _ _ hD7] at nT3; cases nT3
              have tD2 : T3 ≠ D2 := fun z => by rw [z, sp _ _ hD6] at nT3; cases nT3
              have lt := List.length_take_le j (inn c).reverse
              have lt2 := List.length_take_le' j (inn c).reverse
              rw [List.length_reverse] at lt2
              have mn : ∀ (H1 H2 : Hp) (y : V) (a : E3), Same H1 H2 → EntU K (hide H1 D) y a → EntU K (hide H2 D) y a := fun _ _ _ _ s r => r.same (hide_mono s)
              have dz : Dp K (hide (hide (L2.upd (L2.upd Hj2 p (.lst (zs ++ zs2))) T3 (.tup [.bl false, .ref p, z2])) D2) D) z2 d := by
                have s56 := (hide_mono (W := D) s5).trans ((hide_mono (W := D) (s6.trans aA)))
                refine dp_same ?_ q3
                intro b u hb
                have b1 := s56 _ _ hb
                have bD : b ≠ D := fun z => by
                  rw [z] at hb
                  unfold hide at hb
                  rw [if_pos rfl] at hb
                  cases hb
                have b2 := hide_same _ _ b1
                have bD2 : b ≠ D2 := fun z => by
                  have := s5 _ _ (hide_same _ _ hb)
                  rw [z, nD2] at this
                  cases this
                exact hide_ne (hide_ne b2 bD2) bD
              obtain ⟨ys1, f1, f2, f3⟩ := (mk6.same mn aA).add mn (u := .ref T3) (a := ⟨false, n, d⟩) ⟨T3, p, z2, _, rfl, SqT.of (hide_ne (hide_ne upd_same tD2) tD), hide_ne (hide_ne (sT3 _ _ upd_same) pD2) pD, by rw [List.length_append]; show zs.length + zs2.length + 25 * n ≤ 5000; omega, dz, inC d (List.mem_of_getElem? hdj)⟩ (by rw [List.length_map]; exact sl (by omega))
              exact ⟨ys1, f1, f2, same_upd2 (s6.trans aA) nD2, by rw [take_snoc hdr, List.map_append]; exact f3⟩
            · obtain ⟨s6, ys, hD2', al⟩ := e
              rw [List.take_of_length_le (by rw [List.length_reverse]; omega)] at al
              have mk6 := mk5.same EntU.mono s6
              obtain ⟨ys3, g1, g2, g3⟩ := mk6.ext EntU.mono (zs := ys) (bs := (inn c).reverse.map fun d => (⟨false, n, d⟩ : E3)) (al.imp fun _ _ r => r.same (hide_mono hide_same)) (by rw [List.length_append, List.length_map, List.length_reverse, List.length_singleton]; exact sl (by omega))
              have wn : wts ((st' ++ [⟨true, n + 1, c⟩]) ++ (inn c).reverse.map fun d => (⟨false, n, d⟩ : E3)) = wts st' + 1 + wtS n (inn c) := by
                rw [wts_app, wts_app, wts_new, wtS_rev]
                rfl
              refine ⟨D, D2, ys3, ys, rfl, rfl, g1, hD2', g2, _, ?_, _, rfl, ?_, ⟨_, _, _, _, _, _, rfl⟩, same_upd2 ((sH4.trans s5).trans s6) hD, g3⟩
              · rw [wn, wts_app]
                show wts st' + 1 + wtS n (inn c) < wts st' + (2 + wtS n (inn c) + 0)
                omega
              · rw [wn]
                omega
        · exact k H2 s2
/-- a script that is right -/
def spFwr (K : Frag) : Sp := fun vs H Q _ => ∃ (v : V) (l : List PyData) (N : Nat), vs = [v] ∧ Dp K H v (.list l) ∧ (∀ c ∈ l, CmG N c) ∧ N ≤ 150 ∧ wtS N l ≤ 10000 ∧ ∀ H', Same H H' → Q .non H'
def spIsc (K : Frag) : Sp := fun vs H Q _ => ∃ (v : V) (l : List PyData) (N : Nat), vs = [v] ∧ Dp K H v (.list l) ∧ (∀ c ∈ l, CmG N c) ∧ N ≤ 150 ∧ wtS N l ≤ 10000 ∧ ∀ H', Same H H' → Q (.bl true) H'
abbrev sFwr : Stmt := top 79
abbrev nFwr : List Str := ["script", "at", "command"]
theorem scFwr : FnScope nFwr ["script"] (defScope sFwr) := ⟨rfl, rfl, rfl, by decide +kernel, rfl, by decide +kernel, by decide +kernel⟩
theorem has_Fwr {f : Addr} {fd : FuncData}  (F : Fun K "first_wrong" "first_wrong" sFwr f fd) (g : mg "first_wrong" = some (.ref f)) (B : Blt mg) (hFwi : Has P w K mg base 47 "first_wrong_in" ["commands"] (spFwi K)) :
    Has P w K mg base 48 "first_wrong" ["script"] (spFwr K) := by
  obtain ⟨fFwi, dFwi, gFwi, kFwi, bFwi, GFwi⟩ := hFwi
  refine has_of F g (F.binds (ps := ["script"]) fun _ _ _ _ _ _ us hl => match us, hl with | [_], _ => rfl) (F.ok scFwr (fun vs H Q E h => ?_) (fun cdv A outer s H vs Q E hr h => ?_))
  · obtain ⟨v, l, N, rfl, _⟩ := h
    rfl
  · refine ⟨_, (pss_one (ps_ret (pe_call GFwi hr rfl gFwi kFwi bFwi .nil pass0 (pa_cons (pe_lc (te := tTup (tCons (tLst (tCons (tVar 1) tNil)) (tCons (tVar 2) tNil))) (own := [("at", 1), ("command", 2)]) (g := gTup K 2 (gCons (gName 1) (gCons (gName 2) gNil))) (tt := tYes) rfl scFwr.nd (pi_enum (by rfl) B.enumerate (pa_cons (pv 0) pa_nil)) (blkOk_by (N := nFwr) (sc := defScope sFwr) (by decide +kernel)) (fun _ _ _ _ _ => pg_tup rfl (pgs_cons (pg_name (i := 1) scFwr.nd rfl (.inl rfl)) (pgs_cons (pg_name (i := 2) scFwr.nd rfl (.inl rfl)) pgs_nil))) (fun _ _ _ _ _ => pts_nil) (fun _ _ _ _ _ => (pe_tup (pa_cons (pe_lst (pa_cons (pv 1) pa_nil)) (pa_cons (pv 2) pa_nil))))) pa_nil)))), ?_⟩
    obtain ⟨v, l, N, rfl, hd, hc, hN, hw, k⟩ := h
    obtain ⟨a, xs, rfl, hq, all⟩ := dp_lst hd
    have lx := dpLen all
    have lb := wtS_ge hc
    refine ⟨_, rfl, a, xs, rfl, hq, fun D hD => lc_it (walk_enum (xs := xs)) (fun i H' => Same H H' ∧ MkL (CmdU K N) D (l.take i) H') ⟨same_upd hD, MkL.start⟩ (fun i H' _ e => e.1.seq hq) (fun i x H' H2 hi e y => ?_) (fun H' e => ?_)⟩
    · obtain ⟨s1, mk⟩ := e
      obtain ⟨T, x1, x2, rfl, nT, rfl, h1, hx⟩ := y
      obtain ⟨d, hdi, dp⟩ := dpAt' all hx
      obtain ⟨ys0, hDy, _⟩ := id mk
      have sT := same_upd (o := .tup [x1, x2]) nT
      refine ⟨T, _, rfl, SqT.of upd_same, rfl, _, _, rfl, _, _, rfl, rfl, rfl, ?_⟩
      refine ⟨_, rfl, (by decide : 1 ≤ sizeLine), fun p np => ⟨_, rfl, (by decide : 2 ≤ sizeLine), fun t nt => ?_⟩⟩
      have sp := same_upd (o := .lst [x1]) np
      have st := same_upd (o := .tup [.ref p, x2]) nt
      have sA := (sT.trans sp).trans st
      have tD : t ≠ D := fun z => by rw [z, sp _ _ (sT _ _ hDy)] at nt; cases nt
      have pD : p ≠ D := fun z => by rw [z, sT _ _ hDy] at np; cases np
      have l1 := List.length_take_le i l
      have l2 := List.length_take_le' i l
      have mn : ∀ (H1 H2 : Hp) (y : V) (a : PyData), Same H1 H2 → CmdU K N H1 y a → CmdU K N H2 y a := fun _ _ _ _ s r => r.same s
      obtain ⟨ys1, f1, f2, f3⟩ := (mk.same mn sA).add mn (u := .ref t) (a := d) ⟨t, p, x2, [x1], rfl, SqT.of (hide_ne upd_same tD), hide_ne (st _ _ upd_same) pD, by show 1 + 25 * N ≤ 5000; omega, dp_same ((hide_of s1 hD).trans (hide_mono sA)) dp, hc d (List.mem_of_getElem? hdi)⟩ (sl (by omega))
      exact ⟨ys1, f1, f2, same_upd2 (s1.trans sA) hD, by rw [take_snoc hdi]; exact f3⟩
    · obtain ⟨s1, ys, hDy, al⟩ := e
      rw [List.take_of_length_le (Nat.le_of_eq lx.symm)] at al
      exact ⟨D, ys, l, N, rfl, hDy, al.imp fun _ _ r => r.same hide_same, hw, fun H2 s2 => k H2 (s1.trans s2)⟩
abbrev sIsc : Stmt := top 78
abbrev nIsc : List Str := ["tree"]
theorem scIsc : FnScope nIsc ["tree"] (defScope sIsc) := ⟨rfl, rfl, rfl, by decide +kernel, rfl, by decide +kernel, by decide +kernel⟩
theorem has_Isc {f : Addr} {fd : FuncData}  (F : Fun K "is_script" "is_script" sIsc f fd) (g : mg "is_script" = some (.ref f)) (B : Blt mg) (hFwr : Has P w K mg base 48 "first_wrong" ["script"] (spFwr K)) :
    Has P w K mg base 49 "is_script" ["tree"] (spIsc K) := by
  obtain ⟨fFwr, dFwr, gFwr, kFwr, bFwr, GFwr⟩ := hFwr
  refine has_of F g (F.binds (ps := ["tree"]) fun _ _ _ _ _ _ us hl => match us, hl with | [_], _ => rfl) (F.ok scIsc (fun vs H Q E h => ?_) (fun cdv A outer s H vs Q E hr h => ?_))
  · obtain ⟨v, l, N, rfl, _⟩ := h
    rfl
  · refine ⟨_, (pss_one (ps_ret (pe_cmpR op_isN (pe_call GFwr hr rfl gFwr kFwr bFwr .nil pass0 (pa_cons (pv 0) pa_nil)) pe_non (nomark _)))), ?_⟩
    obtain ⟨v, l, N, rfl, hd, hc, hN, hw, k⟩ := h
    exact ⟨_, rfl, v, l, N, rfl, hd, hc, hN, hw, fun H1 s1 => ⟨rfl, k _ s1⟩⟩
end
end Qb
end PySem
namespace PySem
namespace Qb
open PySem.W PySem.Calls PyProof.Rows L2
/-! # texts between slashes -/
theorem str_ext {x y : Str} (h : cs x = cs y) : x = y := by
  cases x; cases y
  simp only [cs] at h
  congr 1
  exact Array.toList_inj.mp h
theorem cs_app (x y : Str) : cs (x ++ y) = cs x ++ cs y := TL.tl_append x y
def glue : List (List Nat) → List Nat
  | [] => []
  | [a] => a
  | a :: b :: r => a ++ 47 :: glue (b :: r)
theorem glue_cons (a : List Nat) {r : List (List Nat)} (h : r ≠ []) : glue (a :: r) = a ++ 47 :: glue r := by
  cases r with
  | nil => exact absurd rfl h
  | cons b r => rfl
theorem joinL_glue : ∀ l : List (List Nat), TL.joinL [47] l = glue l
  | [] => rfl
  | [a] => rfl
  | a :: b :: r => by
    show a ++ ([47] ++ TL.joinL [47] (b :: r)) = _
    rw [joinL_glue (b :: r)]
    rfl
def jn (ps : List Str) : Str := Txt.join "/" ps
theorem jn_cs (ps : List Str) : cs (jn ps) = glue (ps.map cs) := by
  unfold jn
  rw [TL.join_eq]
  have e : cs (Str.join "/" ps) = TL.joinL (TL.tl "/") (ps.map TL.tl) := TL.tl_join "/" ps
  rw [e, show TL.tl "/" = [47] by decide +kernel, joinL_glue]
/-- no slash in it -/
def Fr (p : Str) : Prop := ¬ 47 ∈ cs p
theorem cut_at {a b c d : List Nat} (ha : ¬ 47 ∈ a) (hb : ¬ 47 ∈ b) (h : a ++ 47 :: c = b ++ 47 :: d) : a = b ∧ c = d := by
  induction a generalizing b with
  | nil =>
    cases b with
    | nil => exact ⟨rfl, (List.cons.inj h).2⟩
    | cons y b =>
      have := (List.cons.inj h).1
      exact absurd (by rw [← this]; exact .head _) hb
  | cons x a ih =>
    cases b with
    | nil =>
      have := (List.cons.inj h).1
      exact absurd (by rw [this]; exact .head _) ha
    | cons y b =>
      obtain ⟨e, h⟩ := List.cons.inj h
      obtain ⟨e1, e2⟩ := ih (fun m => ha (.tail _ m)) (fun m => hb (.tail _ m)) h
      exact ⟨by rw [e, e1], e2⟩
theorem glue_inj : ∀ {l m : List (List Nat)}, l ≠ [] → m ≠ [] → (∀ a ∈ l, ¬ 47 ∈ a) → (∀ a ∈ m, ¬ 47 ∈ a) → glue l = glue m → l = m
  | [], _, h, _, _, _, _ => absurd rfl h
  | _, [], _, h, _, _, _ => absurd rfl h
  | [a], [b], _, _, _, _, e => by
    show [a] = [b]
    rw [show a = b from e]
  | [a], b :: c :: r, _, _, ha, _, e => by
    have e : a = b ++ 47 :: glue (c :: r) := e
    exact absurd (by rw [e]; exact List.mem_append_right _ (.head _)) (ha a (.head _))
  | a :: c :: r, [b], _, _, _, hb, e => by
    have e : a ++ 47 :: glue (c :: r) = b := e
    exact absurd (by rw [← e]; exact List.mem_append_right _ (.head _)) (hb b (.head _))
  | a :: c :: r, b :: d :: s, _, _, ha, hb, e => by
    obtain ⟨e1, e2⟩ := cut_at (ha a (.head _)) (hb b (.head _)) e
    rw [e1, glue_inj (by simp) (by simp) (fun x m => ha x (.tail _ m)) (fun x m => hb x (.tail _ m)) e2]
def sp (x : Str) : List Str := Txt.split x "/"
theorem slash_eq : ("/" : Str) = { cps := #[47] } := by decide +kernel
theorem sp_fr (x : Str) : ∀ p ∈ sp x, Fr p := fun p m => by
  unfold sp at m
  rw [slash_eq] at m
  exact StrLaws.split_free x 47 p m
theorem sp_jn (x : Str) : jn (sp x) = x := by
  unfold jn sp
  rw [TL.join_eq]
  exact StrLaws.join_split x "/"
theorem sp_ne (x : Str) : sp x ≠ [] := fun e => by
  have h := sp_jn x
  rw [e] at h
  have : x = "" := by rw [← h]; decide +kernel
  rw [this] at e
  exact absurd e (by decide +kernel)
theorem map_cs_inj : ∀ {l m : List Str}, l.map cs = m.map cs → l = m
  | [], [], _ => rfl
  | [], _ :: _, h => by cases h
  | _ :: _, [], h => by cases h
  | a :: l, b :: m, h => by
    obtain ⟨e1, e2⟩ := List.cons.inj h
    rw [str_ext e1, map_cs_inj e2]
theorem jn_inj {l m : List Str} (hl : l ≠ []) (hm : m ≠ []) (fl : ∀ p ∈ l, Fr p) (fm : ∀ p ∈ m, Fr p) (e : jn l = jn m) : l = m := by
  have h : glue (l.map cs) = glue (m.map cs) := by rw [← jn_cs, ← jn_cs, e]
  refine map_cs_inj (glue_inj (fun z => hl (List.map_eq_nil_iff.mp z)) (fun z => hm (List.map_eq_nil_iff.mp z)) (fun a ma => ?_) (fun a ma => ?_) h)
  · obtain ⟨p, mp, rfl⟩ := List.mem_map.mp ma
    exact fl p mp
  · obtain ⟨p, mp, rfl⟩ := List.mem_map.mp ma
    exact fm p mp
theorem sp_of {ps : List Str} (h : ps ≠ []) (f : ∀ p ∈ ps, Fr p) : sp (jn ps) = ps := jn_inj (sp_ne _) h (sp_fr _) f (sp_jn _)
theorem glue_app : ∀ {l m : List (List Nat)}, l ≠ [] → m ≠ [] → glue (l ++ m) = glue l ++ 47 :: glue m
  | [], _, h, _ => absurd rfl h
  | [a], m, _, h => glue_cons a h
  | a :: b :: r, m, _, h => by
    show glue (a :: ((b :: r) ++ m)) = (a ++ 47 :: glue (b :: r)) ++ 47 :: glue m
    rw [glue_cons a (by simp), glue_app (by simp) h, List.append_assoc]
    rfl
theorem cs_slash : cs ("/" : Str) = [47] := by decide +kernel
theorem jn_app {l m : List Str} (hl : l ≠ []) (hm : m ≠ []) : jn (l ++ m) = jn l ++ "/" ++ jn m := by
  refine str_ext ?_
  rw [cs_app, cs_app, jn_cs, jn_cs, jn_cs, List.map_append, glue_app (fun z => hl (List.map_eq_nil_iff.mp z)) (fun z => hm (List.map_eq_nil_iff.mp z)), cs_slash, List.append_assoc]
  rfl
theorem sp_app (x y : Str) : sp (x ++ "/" ++ y) = sp x ++ sp y := by
  refine jn_inj (sp_ne _) (fun z => sp_ne x (List.append_eq_nil_iff.mp z).1) (sp_fr _) (fun p m => (List.mem_append.mp m).elim (sp_fr x p) (sp_fr y p)) ?_
  rw [sp_jn, jn_app (sp_ne x) (sp_ne y), sp_jn, sp_jn]
abbrev nS : Str := ""
theorem sp_nil : sp nS = [nS] := by decide +kernel
theorem app_nil (x : Str) : nS ++ x = x := by
  refine str_ext ?_
  rw [cs_app]
  rfl
theorem app_assoc (x y z : Str) : x ++ y ++ z = x ++ (y ++ z) := by
  refine str_ext ?_
  rw [cs_app, cs_app, cs_app, cs_app, List.append_assoc]
theorem sp_slash (x : Str) : sp ("/" ++ x) = nS :: sp x := by
  have h := sp_app nS x
  rw [sp_nil, app_nil] at h
  exact h
/-- a path of parts -/
def say (ps : List Str) : Str := "/" ++ jn ps
theorem say_nil : say [] = "/" := by decide +kernel
def Gp (p : Str) : Prop := p ≠ "" ∧ p ≠ "." ∧ p ≠ ".." ∧ Fr p
theorem sp_say {ps : List Str} (f : ∀ p ∈ ps, Fr p) : sp (say ps) = nS :: (if ps = [] then [nS] else ps) := by
  unfold say
  rw [sp_slash]
  by_cases h : ps = []
  · rw [if_pos h, h]
    decide +kernel
  · rw [if_neg h, sp_of h f]
theorem say_inj {ps qs : List Str} (fp : ∀ p ∈ ps, Gp p) (fq : ∀ p ∈ qs, Gp p) (h : say ps = say qs) : ps = qs := by
  have h1 := sp_say fun p m => (fp p m).2.2.2
  have h2 := sp_say fun p m => (fq p m).2.2.2
  rw [h, h2] at h1
  have e := (List.cons.inj h1).2
  by_cases hp : ps = []
  · by_cases hq : qs = []
    · rw [hp, hq]
    · rw [if_neg hq, if_pos hp] at e
      exact absurd rfl (fq nS (by rw [e]; exact .head _)).1
  · by_cases hq : qs = []
    · rw [if_pos hq, if_neg hp] at e
      exact absurd rfl (fp nS (by rw [← e]; exact .head _)).1
    · rw [if_neg hq, if_neg hp] at e
      exact e.symm
/-- a folder and one part more -/
theorem say_top {ps : List Str} (f : ∀ p ∈ ps, Gp p) (h : say ps = "/") : ps = [] := say_inj f (fun p m => by cases m) (h.trans say_nil.symm)
theorem jn_one (q : Str) : jn [q] = q := by
  refine str_ext ?_
  rw [jn_cs]
  rfl
theorem say_snoc {ps : List Str} (f : ∀ p ∈ ps, Gp p) (q : Str) : say (ps ++ [q]) = if say ps = "/" then "/" ++ q else say ps ++ "/" ++ q := by
  by_cases e : say ps = "/"
  · rw [if_pos e, say_top f e]
    unfold say
    rw [List.nil_append, jn_one]
  · have h : ps ≠ [] := fun z => e (by rw [z, say_nil])
    rw [if_neg e]
    unfold say
    rw [jn_app h (by simp), jn_one, app_assoc, app_assoc, app_assoc]
/-! # what a text says -/
def stp (st : List Str) (p : Str) : List Str := if p = ".." then st.dropLast else if p = "" ∨ p = "." then st else st ++ [p]
def nrm (st : List Str) (l : List Str) : List Str := l.foldl stp st
theorem stp_gp {p : Str} (h : Gp p) (st : List Str) : stp st p = st ++ [p] := by
  unfold stp
  rw [if_neg h.2.2.1, if_neg (fun z => z.elim h.1 h.2.1)]
theorem stp_nil (st : List Str) : stp st nS = st := by
  unfold stp
  rw [if_neg (by decide +kernel), if_pos (.inl rfl)]
theorem nrm_gp : ∀ {l : List Str} (st : List Str), (∀ p ∈ l, Gp p) → nrm st l = st ++ l
  | [], st, _ => (List.append_nil _).symm
  | p :: l, st, h => by
    show nrm (stp st p) l = _
    rw [stp_gp (h p (.head _)), nrm_gp _ fun q m => h q (.tail _ m), List.append_assoc]
    rfl
theorem nrm_app (st l m : List Str) : nrm st (l ++ m) = nrm (nrm st l) m := List.foldl_append ..
theorem nrm_nil (st l : List Str) : nrm st (nS :: l) = nrm st l := by
  show nrm (stp st nS) l = _
  rw [stp_nil]
theorem nrm_ok : ∀ {l : List Str} {st : List Str}, (∀ p ∈ st, Gp p) → (∀ p ∈ l, Fr p) → ∀ p ∈ nrm st l, Gp p
  | [], _, h, _ => h
  | q :: l, st, h, f => by
    refine nrm_ok (l := l) ?_ fun p m => f p (.tail _ m)
    unfold stp
    split
    · exact fun p m => h p (List.dropLast_subset _ m)
    · split
      · exact h
      · rename_i n1 n2
        intro p m
        rcases List.mem_append.mp m with m | m
        · exact h p m
        · rw [List.mem_singleton.mp m]
          exact ⟨fun z => n2 (.inl z), fun z => n2 (.inr z), n1, f q (.head _)⟩
/-- what the law keeps, from behind -/
def bck : List Str → List Str × Nat
  | [] => ([], 0)
  | p :: l => let r := bck l; if p = ".." then (r.1, r.2 + 1) else if p = "" ∨ p = "." then r else if r.2 = 0 then (p :: r.1, 0) else (r.1, r.2 - 1)
theorem bck_up {p : Str} (l : List Str) (h : p = "..") : bck (p :: l) = ((bck l).1, (bck l).2 + 1) := by
  show (if _ then _ else _) = _
  exact if_pos h
theorem bck_skip {p : Str} (l : List Str) (h : ¬ p = "..") (g : p = "" ∨ p = ".") : bck (p :: l) = bck l := (if_neg h).trans (if_pos g)
theorem bck_keep {p : Str} (l : List Str) (h : ¬ p = "..") (g : ¬ (p = "" ∨ p = ".")) (e : (bck l).2 = 0) : bck (p :: l) = (p :: (bck l).1, 0) := (if_neg h).trans ((if_neg g).trans (if_pos e))
theorem bck_drop {p : Str} (l : List Str) (h : ¬ p = "..") (g : ¬ (p = "" ∨ p = ".")) (e : ¬ (bck l).2 = 0) : bck (p :: l) = ((bck l).1, (bck l).2 - 1) := (if_neg h).trans ((if_neg g).trans (if_neg e))
theorem bck_nrm : ∀ (l st : List Str), nrm st l = st.take (st.length - (bck l).2) ++ (bck l).1
  | [], st => by
    show st = st.take (st.length - 0) ++ []
    rw [Nat.sub_zero, List.take_length, List.append_nil]
  | p :: l, st => by
    show nrm (stp st p) l = _
    rw [bck_nrm l]
    unfold stp
    by_cases e1 : p = ".."
    · rw [if_pos e1, bck_up l e1]
      show _ = st.take (st.length - ((bck l).2 + 1)) ++ (bck l).1
      congr 1
      rw [List.length_dropLast, List.dropLast_eq_take, List.take_take]
      congr 1
      omega
    · rw [if_neg e1]
      by_cases e2 : p = "" ∨ p = "."
      · rw [if_pos e2, bck_skip l e1 e2]
      · rw [if_neg e2]
        by_cases e3 : (bck l).2 = 0
        · rw [bck_keep l e1 e2 e3, e3]
          show _ = st.take (st.length - 0) ++ p :: (bck l).1
          rw [Nat.sub_zero, Nat.sub_zero, List.take_length, List.take_length, List.append_assoc]
          rfl
        · rw [bck_drop l e1 e2 e3]
          show _ = st.take (st.length - ((bck l).2 - 1)) ++ (bck l).1
          congr 1
          rw [List.length_append, List.length_singleton, List.take_append]
          have e4 : st.length + 1 - (bck l).2 - st.length = 0 := by omega
          rw [e4, List.take_zero, List.append_nil]
          congr 1
          omega
theorem bck_top (l : List Str) : (bck l).1 = nrm [] l := by
  rw [bck_nrm l [], List.take_nil]
  rfl
/-- what is said, from a folder -/
def says (ps : List Str) (x : Str) : List Str := nrm (if Txt.startswith x "/" = true then [] else ps) (sp x)
theorem says_ok {ps : List Str} (h : ∀ p ∈ ps, Gp p) (x : Str) : ∀ p ∈ says ps x, Gp p := by
  unfold says
  split
  · exact nrm_ok (fun p m => by cases m) (sp_fr x)
  · exact nrm_ok h (sp_fr x)
theorem starts_eq (x : Str) : Txt.startswith x "/" = decide ((cs x).head? = some 47) := by
  rw [slash_eq]
  obtain ⟨⟨l⟩⟩ := x
  cases l with
  | nil => rfl
  | cons c r =>
    unfold Txt.startswith Builtin.Str.subAt
    simp [Str.length, cs]
    exact Bool.beq_eq_decide_eq c 47
theorem starts (x : Str) : Txt.startswith ("/" ++ x) "/" = true := by
  rw [starts_eq, cs_app, cs_slash]
  rfl
theorem starts_say (d : List Str) : Txt.startswith (say d) "/" = true := starts _
/-- what is said of what was said -/
theorem says_say {ps d : List Str} (h : ∀ p ∈ d, Gp p) : says ps (say d) = d := by
  unfold says
  rw [if_pos (starts_say _), sp_say fun p m => (h p m).2.2.2, nrm_nil]
  split
  · rename_i e
    rw [e]
    exact stp_nil []
  · exact nrm_gp [] h
theorem say_app (d : List Str) (x : Str) : say d ++ x = "/" ++ (jn d ++ x) := app_assoc _ _ _
theorem says_say2 {ps d : List Str} (h : ∀ p ∈ d, Gp p) : says ps (say d ++ "/") = d := by
  have e : say d ++ "/" = say d ++ "/" ++ nS := by
    refine str_ext ?_
    rw [cs_app, cs_app, cs_app]
    exact (List.append_nil _).symm
  have z := says_say (ps := ps) h
  unfold says at z ⊢
  rw [if_pos (starts_say _)] at z
  rw [if_pos (by rw [say_app]; exact starts _), e, sp_app, nrm_app, z, sp_nil]
  exact stp_nil d
theorem says_from {qs ps : List Str} (h : ∀ p ∈ ps, Gp p) {x : Str} (hx : ¬ Txt.startswith x "/" = true) : says qs (say ps ++ "/" ++ x) = says ps x := by
  have z := says_say (ps := qs) h
  unfold says at z ⊢
  rw [if_pos (starts_say _)] at z
  rw [if_neg hx, if_pos (by rw [say_app, app_assoc]; exact starts _), sp_app, nrm_app, z]
/-- the law's own way -/
theorem says_bck {ps : List Str} (h : ∀ p ∈ ps, Gp p) (x : Str) : says ps x = (bck (if Txt.startswith x "/" = true then sp x else sp (say ps) ++ sp x)).1 := by
  rw [bck_top]
  unfold says
  split
  · rfl
  · have z := says_say (ps := []) h
    unfold says at z
    rw [if_pos (starts_say _)] at z
    rw [nrm_app, z]
/-! # a path's folder -/
theorem at_one {x : Str} {i : Nat} : StrLaws.At x "/" x.length i ↔ (cs x)[i]? = some 47 := by
  rw [slash_eq]
  obtain ⟨⟨l⟩⟩ := x
  unfold StrLaws.At Builtin.Str.subAt
  show i + 1 ≤ l.length ∧ _ ↔ l[i]? = some 47
  constructor
  · rintro ⟨h, e⟩
    have e := eq_of_beq e
    have e2 := congrArg Array.toList e
    simp only [Array.toList_extract] at e2
    have e3 : (l.drop i).take 1 = [47] := by
      have : (l.extract i (i + 1)) = [47] := e2
      rw [List.extract_eq_take_drop] at this
      rw [show i + 1 - i = 1 by omega] at this
      exact this
    rw [List.getElem?_eq_getElem (by omega)]
    rw [List.drop_eq_getElem_cons (by omega)] at e3
    exact congrArg some (List.cons.inj e3).1
  · intro e
    obtain ⟨h, e⟩ := List.getElem?_eq_some_iff.mp e
    refine ⟨h, ?_⟩
    rw [beq_iff_eq]
    refine Array.toList_inj.mp ?_
    simp only [Array.toList_extract]
    show l.extract i (i + 1) = [47]
    rw [List.extract_eq_take_drop, show i + 1 - i = 1 by omega, List.drop_eq_getElem_cons h, e]
    rfl
theorem rfind_at {a b : List Nat} {x : Str} (e : cs x = a ++ 47 :: b) (hb : ¬ 47 ∈ b) : Txt.rfind x "/" = (a.length : Nat) := by
  have h0 : StrLaws.At x "/" x.length a.length := at_one.mpr (by rw [e, List.getElem?_append_right (Nat.le_refl _), Nat.sub_self]; rfl)
  have hk : ∀ k, a.length < k → ¬ StrLaws.At x "/" x.length k := fun k l z => by
    have z := at_one.mp z
    rw [e, List.getElem?_append_right (by omega), show k - a.length = (k - a.length - 1) + 1 by omega] at z
    exact hb (List.mem_of_getElem? (i := k - a.length - 1) z)
  rcases StrLaws.last_spec x "/" with ⟨_, h⟩ | ⟨i, h1, h2, h3⟩
  · exact absurd h0 (h _)
  · have : i = a.length := by
      rcases Nat.lt_trichotomy i a.length with l | l | l
      · exact absurd h0 (h3 _ l)
      · exact l
      · exact absurd h2 (hk _ l)
    unfold Txt.rfind
    rw [h1, this]
theorem say_split (ps : List Str) {q : Str} (h : ∀ p ∈ ps, Gp p) : cs (say (ps ++ [q])) = (if ps = [] then [] else cs (say ps)) ++ 47 :: cs q := by
  rw [say_snoc h]
  by_cases e : ps = []
  · rw [if_pos e, e, if_pos say_nil, cs_app, cs_slash]
    rfl
  · rw [if_neg e, if_neg (fun z => e (say_top h z)), cs_app, cs_app, cs_slash, List.append_assoc]
    rfl
end Qb
end PySem
namespace PySem
namespace Qb
open PySem.W PySem.Calls PyProof.Rows L2
/-! # comprehensions of flat values -/
section
variable {J : It} {n : Nat} {G : Hp → Prop} {Y : Nat → Hp → V → Hp → Prop}
theorem lc_vals (wk : Walk J n G Y) {g : TG} {te : TE} {vs : List Nat} {σ : L2.St} {H : Hp} {D : Addr} {Qd : Hp → Prop} (val : Nat → V) (hD : H D = none) (hn : n ≤ 1000000) (hG : ∀ H', Same H H' → G H') (hY : ∀ i x H1 H', i < n → Y i H1 x H' → Same H1 H')
    (turn : ∀ (i : Nat) (x : V) (H1 H' : Hp) (Q : VK), i < n → Same H H1 → Y i H1 x H' → (∀ H4, Same H' H4 → Q (val i) H4) → g x (wipe σ vs) H' fun σ2 H2 => wipe σ2 vs = wipe σ vs ∧ te σ2 H2 Q)
    (hd : ∀ H', Same H H' → H' D = some (.lst ((List.range n).map val)) → Qd H') :
    ∃ W : Nat → Nat → Hp → Prop, (∃ m, W 0 m (L2.upd H D (.lst []))) ∧ ∀ i m H, W i m H →
      (J.stop i H ∧ Qd H) ∨ (J.go i H ∧ ∃ Nx : Hp → Prop, (∀ H', Nx H' → ∃ m', m' < m ∧ W (i + 1) m' H') ∧ ∀ x H', J.yld i H x H' → g x (wipe σ vs) H' fun σ2 H2 => wipe σ2 vs = wipe σ vs ∧ tYes σ2 H2 fun b H3 =>
        if b = true then te σ2 H3 fun y H4 => ∃ acc, H4 D = some (.lst acc) ∧ acc.length < sizeLine ∧ Nx (L2.upd H4 D (.lst (acc ++ [y]))) else Nx H3) := by
  refine lc_it wk (fun i H' => Same H H' ∧ H' D = some (.lst ((List.range i).map val))) ⟨same_upd hD, upd_same⟩ (fun i H' _ e => hG _ e.1) (fun i x H' H2 hi e y => ?_) (fun H' e => hd H' e.1 e.2)
  obtain ⟨s1, h1⟩ := e
  have sY := hY i x H' H2 hi y
  refine turn i x H' H2 _ hi s1 y fun H4 s4 => ⟨_, s4 _ _ (sY _ _ h1), ?_, same_upd2 ((s1.trans sY).trans s4) hD, ?_⟩
  · rw [List.length_map, List.length_range, sizeLine_eq]
    omega
  · rw [upd_same, List.range_succ, List.map_append]
    rfl
theorem lc_sel (wk : Walk J n G Y) {g : TG} {tt : TT} {te : TE} {vs : List Nat} {σ : L2.St} {H : Hp} {D : Addr} {Qd : Hp → Prop} (val : Nat → V) (keep : Nat → Bool) (hD : H D = none) (hn : n ≤ 1000000) (hG : ∀ H', Same H H' → G H') (hY : ∀ i x H1 H', i < n → Y i H1 x H' → Same H1 H')
    (turn : ∀ (i : Nat) (x : V) (H1 H' : Hp) (Q : VK) (Qn : Hp → Prop), i < n → Same H H1 → Y i H1 x H' → (∀ H4, Same H' H4 → keep i = true → Q (val i) H4) → (∀ H4, Same H' H4 → keep i = false → Qn H4) →
      g x (wipe σ vs) H' fun σ2 H2 => wipe σ2 vs = wipe σ vs ∧ tt σ2 H2 fun b H3 => if b = true then te σ2 H3 Q else Qn H3)
    (hd : ∀ H', Same H H' → H' D = some (.lst (((List.range n).filter keep).map val)) → Qd H') :
    ∃ W : Nat → Nat → Hp → Prop, (∃ m, W 0 m (L2.upd H D (.lst []))) ∧ ∀ i m H, W i m H →
      (J.stop i H ∧ Qd H) ∨ (J.go i H ∧ ∃ Nx : Hp → Prop, (∀ H', Nx H' → ∃ m', m' < m ∧ W (i + 1) m' H') ∧ ∀ x H', J.yld i H x H' → g x (wipe σ vs) H' fun σ2 H2 => wipe σ2 vs = wipe σ vs ∧ tt σ2 H2 fun b H3 =>
        if b = true then te σ2 H3 fun y H4 => ∃ acc, H4 D = some (.lst acc) ∧ acc.length < sizeLine ∧ Nx (L2.upd H4 D (.lst (acc ++ [y]))) else Nx H3) := by
  refine lc_it wk (fun i H' => Same H H' ∧ H' D = some (.lst (((List.range i).filter keep).map val))) ⟨same_upd hD, upd_same⟩ (fun i H' _ e => hG _ e.1) (fun i x H' H2 hi e y => ?_) (fun H' e => hd H' e.1 e.2)
  obtain ⟨s1, h1⟩ := e
  have sY := hY i x H' H2 hi y
  refine turn i x H' H2 _ _ hi s1 y (fun H4 s4 e => ⟨_, s4 _ _ (sY _ _ h1), ?_, same_upd2 ((s1.trans sY).trans s4) hD, ?_⟩) (fun H4 s4 e => ⟨(s1.trans sY).trans s4, ?_⟩)
  · have := List.length_filter_le keep (List.range i)
    rw [List.length_range] at this
    rw [List.length_map, sizeLine_eq]
    omega
  · rw [upd_same, List.range_succ, List.filter_append, List.map_append, List.filter_cons_of_pos e]
    rfl
  · rw [s4 _ _ (sY _ _ h1), List.range_succ, List.filter_append, List.map_append, List.filter_cons_of_neg (by rw [e]; decide)]
    simp
end
/-! # the ends of a part joined -/
def tWeak (t : TS) : TS := fun D σ H => ∃ G : L2.St → Hp → Prop, (∀ σ' H', G σ' H' → D.nx σ' H') ∧ t { D with nx := G } σ H
theorem ps_weak {X : Cx} {st : Stmt} {t : TS} (h : PS X st t) : PS X st (tWeak t) := by
  refine ⟨fun pins s σ H D I ⟨G, hG, q⟩ => wpAny_mono (h.run pins s σ H { D with nx := G } I q) (fun fl s1 hs => ?_) fun _ _ y => y⟩
  cases fl with
  | next =>
    obtain ⟨σ1, H1, J, z⟩ := hs
    exact ⟨σ1, H1, J, hG _ _ z⟩
  | brk => exact hs
  | cont => exact hs
  | ret u => exact hs
def tWeakE (t : TE) : TE := fun σ H Q => ∃ G : V → Hp → Prop, (∀ v H', G v H' → Q v H') ∧ t σ H G
theorem pe_weak {X : Cx} {e : Expr} {t : TE} (h : PE X e t) : PE X e (tWeakE t) :=
  ⟨fun pins s σ H Q I ⟨G, hG, q⟩ => thn (h.run pins s σ H G I q) fun u s1 ⟨v, H1, I1, r, z⟩ => ⟨v, H1, I1, r, hG _ _ z⟩⟩
def tWeakT (t : TT) : TT := fun σ H Q => ∃ (b : Bool) (G : Hp → Prop), (∀ H', G H' → Q b H') ∧ t σ H fun c H' => c = b ∧ G H'
theorem pt_weak {X : Cx} {e : Expr} {t : TT} (h : PT X e t) : PT X e (tWeakT t) :=
  ⟨fun pins s σ H Q I ⟨b, G, hG, q⟩ => thn (h.run pins s σ H _ I q) fun c s1 ⟨H1, I1, z⟩ => ⟨H1, I1, by rw [z.1]; exact hG _ z.2⟩⟩
/-- what a thing at d holds is not written to from here on -/
def tFrz (t : TS) : TS := fun D σ H => ∃ d u, H d = some u ∧ Mut (some u) ∧ ∀ od, t D σ (L2.upd H d (.frz od u))
theorem ps_frz {X : Cx} {st : Stmt} {t : TS} (h : PS X st t) : PS X st (tFrz t) := by
  refine ⟨fun pins s σ H D I hw => ?_⟩
  obtain ⟨d, u, hd, mu, hw⟩ := hw
  obtain ⟨od, I1⟩ := I.lock hd mu
  exact h.run pins s σ _ D I1 (hw od)
theorem none_of {H H' : Hp} {a : Addr} (s : Same H H') (h : H' a = none) : H a = none := by
  cases e : H a with
  | none => rfl
  | some o =>
    rw [s _ _ e] at h
    cases h
theorem ne_new {H : Hp} {a b : Addr} {o : HO} (h : H a = some o) (n : H b = none) : a ≠ b := fun z => by
  rw [z, n] at h
  cases h
theorem cutV_last (xs : List V) : cutV xs none (some (-1)) = xs.dropLast := by
  unfold cutV
  have h0 : HT.sIx xs.length 0 none = 0 := rfl
  have h1 : HT.sIx xs.length xs.length (some (-1)) = xs.length - 1 := by
    unfold HT.sIx
    simp
    omega
  rw [h0, h1, List.drop_zero, Nat.sub_zero, List.dropLast_eq_take]
theorem str_at {l : List Str} {i : Nat} {v : V} (h : (l.map V.str)[i]? = some v) : ∃ x, l[i]? = some x ∧ v = .str x := by
  rw [List.getElem?_map] at h
  obtain ⟨z, e1, e2⟩ := Option.map_eq_some_iff.mp h
  exact ⟨z, e1, e2.symm⟩
theorem range_at {α β : Type} {l : List α} {f : α → β} {val : Nat → β} (h : ∀ i x, l[i]? = some x → val i = f x) : (List.range l.length).map val = l.map f := by
  refine List.ext_getElem? fun i => ?_
  rw [List.getElem?_map, List.getElem?_map]
  by_cases hi : i < l.length
  · rw [List.getElem?_range hi, List.getElem?_eq_getElem hi]
    exact congrArg some (h i _ (List.getElem?_eq_getElem hi))
  · rw [List.getElem?_eq_none (by simpa using hi), List.getElem?_eq_none (by omega)]
    rfl
theorem range_filter {α β : Type} {l : List α} {f : α → β} {p : α → Bool} {val : Nat → β} {keep : Nat → Bool} (h : ∀ i x, l[i]? = some x → val i = f x ∧ keep i = p x) : ((List.range l.length).filter keep).map val = (l.filter p).map f := by
  have key : ∀ k, k ≤ l.length → ((List.range k).filter keep).map val = ((l.take k).filter p).map f := by
    intro k
    induction k with
    | zero => intro _; rfl
    | succ k ih =>
      intro hk
      have ex : l[k]? = some l[k] := List.getElem?_eq_getElem (by omega)
      obtain ⟨e1, e2⟩ := h k _ ex
      rw [List.range_succ, take_snoc ex, List.filter_append, List.filter_append, List.map_append, List.map_append, ih (by omega)]
      congr 1
      by_cases q : p l[k] = true
      · rw [List.filter_cons_of_pos (by rw [e2]; exact q), List.filter_cons_of_pos q]
        show [val k] = [f l[k]]
        rw [e1]
      · rw [List.filter_cons_of_neg (by rw [e2]; exact q), List.filter_cons_of_neg q]
        rfl
  have z := key l.length (Nat.le_refl _)
  rw [List.take_length] at z
  exact z
end Qb
end PySem
namespace PySem
namespace Qb
open PySem.W PySem.Calls PyProof.Rows L2
/-! # paths: the program's defs -/
structure WrW (mg : Str → Option Value) : Prop where
  top : ∃ t, mg "TOP" = some (.str "/" t)
  gs : ∃ t, mg "GREATEST_STATUS" = some (.int 255 t)
theorem cs_cut (x : Str) (lo hi : Option Int) : cs (cutS x lo hi) = ((cs x).drop (HT.sIx x.length 0 lo)).take (HT.sIx x.length x.length hi - HT.sIx x.length 0 lo) := by
  unfold cutS
  simp [cs]
theorem cut_one1 (x : Str) : cutS x none (some 1) = ("/" : Str) ↔ (cs x).head? = some 47 := by
  have h2 : HT.sIx x.length x.length (some ((1 : Nat) : Int)) = min 1 x.length := HT.sIx_nat ..
  have h2 : HT.sIx x.length x.length (some 1) = min 1 x.length := h2
  have e : cs (cutS x none (some 1)) = (cs x).take (min 1 x.length - 0) := by
    rw [cs_cut, h2]
    rfl
  constructor
  · intro z
    rw [z, cs_slash] at e
    rcases hx : cs x with _ | ⟨c, r⟩
    · rw [hx] at e; simp at e
    · rw [hx] at e
      have l : 1 ≤ x.length := by rw [len_cs, hx]; simp
      rw [Nat.sub_zero, Nat.min_eq_left l] at e
      have : [47] = [c] := e
      rw [(List.cons.inj this).1]
      rfl
  · intro z
    refine str_ext ?_
    rw [e, cs_slash]
    rcases hx : cs x with _ | ⟨c, r⟩
    · rw [hx] at z; cases z
    · rw [hx] at z
      have l : 1 ≤ x.length := by rw [len_cs, hx]; simp
      rw [Nat.sub_zero, Nat.min_eq_left l]
      have : c = 47 := Option.some.inj z
      rw [this]
      rfl
theorem cut_slash (y : Str) : cutS ("/" ++ y) none (some 1) = ("/" : Str) := (cut_one1 _).mpr (by rw [cs_app, cs_slash]; rfl)
theorem cut_rest (y : Str) : cutS ("/" ++ y) (some 1) none = y := by
  refine str_ext ?_
  have h1 : HT.sIx ("/" ++ y).length 0 (some ((1 : Nat) : Int)) = min 1 ("/" ++ y).length := HT.sIx_nat ..
  have h1 : HT.sIx ("/" ++ y).length 0 (some 1) = min 1 ("/" ++ y).length := h1
  have l : ("/" ++ y).length = (cs y).length + 1 := by rw [len_cs, cs_app, cs_slash, List.length_append]; exact Nat.add_comm 1 _
  rw [cs_cut, h1, l]
  show ((cs ("/" ++ y)).drop (min 1 ((cs y).length + 1))).take ((cs y).length + 1 - min 1 ((cs y).length + 1)) = cs y
  rw [Nat.min_eq_left (by omega), cs_app, cs_slash]
  show (cs y).take _ = cs y
  rw [Nat.add_sub_cancel, List.take_length]
theorem starts_cut (x : Str) : decide (V.str (cutS x none (some 1)) = V.str "/") = Txt.startswith x "/" := by
  rw [starts_eq, dec_str]
  by_cases h : (cs x).head? = some 47
  · rw [decide_eq_true h, decide_eq_true ((cut_one1 x).mpr h)]
  · rw [decide_eq_false h, decide_eq_false fun z => h ((cut_one1 x).mp z)]
theorem cut_to (x : Str) (n : Nat) : cs (cutS x none (some (n : Int))) = (cs x).take (min n x.length) := by
  have h2 : HT.sIx x.length x.length (some (n : Int)) = min n x.length := HT.sIx_nat ..
  rw [cs_cut, h2]
  rfl
/-! sizes -/
theorem glue_len : ∀ (l : List (List Nat)), l.length ≤ (glue l).length + 1 ∧ ∀ a ∈ l, a.length ≤ (glue l).length
  | [] => ⟨Nat.zero_le _, fun a m => by cases m⟩
  | [a] => ⟨by show 1 ≤ a.length + 1; omega, fun b m => by rw [List.mem_singleton.mp m]; exact Nat.le_refl _⟩
  | a :: b :: r => by
    obtain ⟨h1, h2⟩ := glue_len (b :: r)
    have e : (glue (a :: b :: r)).length = a.length + ((glue (b :: r)).length + 1) := by
      show (a ++ 47 :: glue (b :: r)).length = _
      rw [List.length_append, List.length_cons]
    have e2 : (a :: b :: r).length = (b :: r).length + 1 := rfl
    refine ⟨by omega, fun c m => ?_⟩
    rcases List.mem_cons.mp m with rfl | m
    · omega
    · have := h2 c m
      omega
theorem jn_len (ps : List Str) : ps.length ≤ (jn ps).length + 1 ∧ ∀ p ∈ ps, p.length ≤ (jn ps).length := by
  obtain ⟨h1, h2⟩ := glue_len (ps.map cs)
  rw [len_cs (jn ps), jn_cs]
  refine ⟨by simpa using h1, fun p m => ?_⟩
  have z := h2 (cs p) (List.mem_map.mpr ⟨p, m, rfl⟩)
  rw [len_cs p]
  exact z
theorem sp_len (x : Str) : (sp x).length ≤ x.length + 1 ∧ ∀ p ∈ sp x, p.length ≤ x.length := by
  have h := jn_len (sp x)
  rw [sp_jn] at h
  exact h
theorem say_len (ps : List Str) : (say ps).length = (jn ps).length + 1 := by
  unfold say
  rw [len_cs, cs_app, cs_slash, len_cs, List.length_append]
  exact Nat.add_comm 1 _
theorem nrm_sub : ∀ (l st : List Str), (nrm st l).length ≤ st.length + l.length ∧ ∀ p ∈ nrm st l, p ∈ st ∨ p ∈ l
  | [], st => ⟨Nat.le_refl _, fun p m => .inl m⟩
  | q :: l, st => by
    obtain ⟨h1, h2⟩ := nrm_sub l (stp st q)
    have e : (stp st q).length ≤ st.length + 1 ∧ ∀ p ∈ stp st q, p ∈ st ∨ p = q := by
      unfold stp
      split
      · exact ⟨by rw [List.length_dropLast]; omega, fun p m => .inl (List.dropLast_subset _ m)⟩
      · split
        · exact ⟨Nat.le_succ _, fun p m => .inl m⟩
        · refine ⟨by rw [List.length_append]; exact Nat.le_refl _, fun p m => ?_⟩
          rcases List.mem_append.mp m with m | m
          · exact .inl m
          · exact .inr (List.mem_singleton.mp m)
    refine ⟨?_, fun p m => ?_⟩
    · show (nrm (stp st q) l).length ≤ st.length + (l.length + 1)
      omega
    · rcases h2 p m with m | m
      · rcases e.2 p m with m | rfl
        · exact .inl m
        · exact .inr (.head _)
      · exact .inr (.tail _ m)
theorem sum_le {l : List Nat} {m : Nat} (h : ∀ x ∈ l, x ≤ m) : l.sum ≤ l.length * m := by
  induction l with
  | nil => exact Nat.zero_le _
  | cons x l ih =>
    rw [List.sum_cons, List.length_cons, Nat.add_mul]
    have := h x (.head _)
    have := ih fun y m => h y (.tail _ m)
    omega
theorem join_fits {ps : List Str} {n m : Nat} (h1 : ps.length ≤ n) (h2 : ∀ p ∈ ps, p.length ≤ m) (h3 : n * m + n ≤ 16777216) : (ps.map (·.length)).sum + ps.length * ("/" : Str).length ≤ 16777216 := by
  have z := sum_le (l := ps.map (·.length)) (m := m) fun x hx => by
    obtain ⟨p, mp, rfl⟩ := List.mem_map.mp hx
    exact h2 p mp
  rw [List.length_map] at z
  have e : ("/" : Str).length = 1 := by decide +kernel
  rw [e]
  have := Nat.mul_le_mul_right m h1
  omega
theorem glue_le : ∀ (l : List (List Nat)), (glue l).length ≤ (l.map (·.length)).sum + l.length
  | [] => Nat.zero_le _
  | [a] => by show a.length ≤ (a.length + 0) + 1; omega
  | a :: b :: r => by
    have h := glue_le (b :: r)
    have e : (glue (a :: b :: r)).length = a.length + ((glue (b :: r)).length + 1) := by
      show (a ++ 47 :: glue (b :: r)).length = _
      rw [List.length_append, List.length_cons]
    rw [e, List.map_cons, List.sum_cons, List.length_cons]
    omega
theorem jn_le {ps : List Str} {n m : Nat} (h1 : ps.length ≤ n) (h2 : ∀ p ∈ ps, p.length ≤ m) : (jn ps).length ≤ n * m + n := by
  have z := glue_le (ps.map cs)
  rw [← jn_cs, ← len_cs, List.length_map, List.map_map] at z
  have y := sum_le (l := ps.map ((·.length) ∘ cs)) (m := m) fun x hx => by
    obtain ⟨p, mp, rfl⟩ := List.mem_map.mp hx
    have := h2 p mp
    rw [len_cs] at this
    exact this
  rw [List.length_map] at y
  have := Nat.mul_le_mul_right m h1
  omega
theorem starts_slash {x : Str} (h : Txt.startswith x "/" = true) : cutS x none (some 1) = ("/" : Str) := by
  have z := starts_cut x
  rw [h] at z
  exact V.str.inj (of_decide_eq_true z)
theorem starts_no {x : Str} (h : ¬ Txt.startswith x "/" = true) : ¬ cutS x none (some 1) = ("/" : Str) := fun e => h (by rw [← starts_cut, e]; exact decide_eq_true rfl)
/-! # the defs -/
def spIpa : Sp := fun vs H Q _ => ∃ ps : List Str, vs = [.str (say ps)] ∧ ps ≠ [] ∧ (∀ p ∈ ps, Gp p) ∧ (say ps).length ≤ 2000 ∧ ∀ H', Same H H' → Q (.bl true) H'
def spPao : Sp := fun vs H Q _ => ∃ (ps : List Str) (q : Str), vs = [.str (say (ps ++ [q]))] ∧ (∀ p ∈ ps, Gp p) ∧ Gp q ∧ (say (ps ++ [q])).length ≤ 2000 ∧ ∀ H', Same H H' → Q (.str (say ps)) H'
/-- files: texts, or None for a folder -/
abbrev Fls := List (Str × Option Str)
def vF : Option Str → V
  | none => .non
  | some t => .str t
def kvF (fs : Fls) : List (Key × V) := fs.map fun e => (.inr e.1, vF e.2)
def lkF (fs : Fls) (x : Str) : Option (Option Str) := (fs.find? fun e => decide (e.1 = x)).map (·.2)
theorem valF : ∀ (fs : Fls) (x : Str), valV (kvF fs) (.inr x) = (lkF fs x).map vF
  | [], _ => rfl
  | (y, t) :: fs, x => by
    have ih := valF fs x
    unfold valV kvF lkF at ih ⊢
    rw [List.map_cons, List.find?_cons, List.find?_cons]
    by_cases e : y = x
    · subst e
      simp
    · have e2 : ¬ (Sum.inr y : Key) = Sum.inr x := fun z => e (Sum.inr.inj z)
      rw [decide_eq_false e, decide_eq_false e2]
      exact ih
/-- a dict that is not written to any more -/
def Dz (H : Hp) (a : Addr) (kvs : List (Key × V)) : Prop := ∃ o, H a = some (.frz o (.dK kvs))
theorem Dz.same {H H' : Hp} {a : Addr} {kvs : List (Key × V)} (h : Dz H a kvs) (s : Same H H') : Dz H' a kvs := by
  obtain ⟨o, h⟩ := h
  exact ⟨o, s _ _ h⟩
theorem Dz.get {H : Hp} {a : Addr} {kvs : List (Key × V)} (h : Dz H a kvs) (k : Key) : DGet H a (kV k) (valV kvs k) := .inl ⟨kvs, k, .inr h, rfl, rfl⟩
def isF (fs : Fls) (x : Str) : Bool := decide (x = "/") || (lkF fs x == some none)
def spIfo : Sp := fun vs H Q _ => ∃ (a : Addr) (fs : Fls) (x : Str), vs = [.ref a, .str x] ∧ Dz H a (kvF fs) ∧ ∀ H', Same H H' → Q (.bl (isF fs x)) H'
def spPsa : Sp := fun vs H Q _ => ∃ (ps : List Str) (x : Str), vs = [.str (say ps), .str x] ∧ (∀ p ∈ ps, Gp p) ∧ (say ps).length ≤ 1800 ∧ x.length ≤ 1800 ∧ ∀ H', Same H H' → Q (.str (say (says ps x))) H'
section
variable {P : Program} {w : World} {K : Frag} {mg : Str → Option Value} {base : Heap}
abbrev sIpa : Stmt := top 18
abbrev nIpa : List Str := ["path", "part"]
theorem scIpa : FnScope nIpa ["path"] (defScope sIpa) := ⟨rfl, rfl, rfl, by decide +kernel, rfl, by decide +kernel, by decide +kernel⟩
theorem has_Ipa {f : Addr} {fd : FuncData}  (F : Fun K "is_path" "is_path" sIpa f fd) (g : mg "is_path" = some (.ref f)) (B : Blt mg)  :
    Has P w K mg base 1 "is_path" ["path"] (spIpa) := by
  refine has_of F g (F.binds (ps := ["path"]) fun _ _ _ _ _ _ us hl => match us, hl with | [_], _ => rfl) (F.ok scIpa (fun vs H Q E h => ?_) (fun cdv A outer s H vs Q E hr h => ?_))
  · obtain ⟨ps, rfl, _⟩ := h
    rfl
  · refine ⟨_, (pss_one (ps_ret (pe_and (pe_cmpR op_eq (pe_slice sl_str (pv 0) po_none (po_some pe_int)) pe_str (nomark _)) (pe_one (pe_callB (cr_all rfl) (by rfl) B.all (by decide +kernel) (pa_cons (pe_lc (te := tOp (rIn K true) (tVar 1) (tTup (tCons (tC (.str "")) (tCons (tC (.str ".")) (tCons (tC (.str "..")) tNil))))) (own := [("part", 1)]) (g := gName 1) (tt := tYes) rfl scIpa.nd (pi_list (pe_bm PySem.F.plainAttrs_str PySem.F.slot_str_split PySem.F.type_str_split mt_split (pe_slice sl_str (pv 0) (po_some pe_int) po_none) (pa_cons pe_str pa_nil))) (blkOk_by (N := nIpa) (sc := defScope sIpa) (by decide +kernel)) (fun _ _ _ _ _ => pg_name (i := 1) scIpa.nd rfl (.inl rfl)) (fun _ _ _ _ _ => pts_nil) (fun _ _ _ _ _ => (pe_cmpR op_notIn_seq (pv 1) (pe_tup (pa_cons pe_str (pa_cons pe_str (pa_cons pe_str pa_nil)))) (by rfl)))) pa_nil)))))), ?_⟩
    obtain ⟨ps, rfl, ne, gp, hl, k⟩ := h
    have z1 := say_len ps
    have lz : (say ps).length ≤ sizeLine := by rw [sizeLine_eq]; omega
    have c1 : cutS (say ps) none (some 1) = ("/" : Str) := cut_slash _
    have c2 : cutS (say ps) (some 1) none = jn ps := cut_rest _
    refine ⟨_, rfl, _, rfl, _, rfl, lz, rfl, _, rfl, if_yes (by rw [c1]; simp) ?_⟩
    obtain ⟨l1, l2⟩ := jn_len ps
    refine ⟨_, rfl, _, rfl, _, rfl, lz, rfl, jn ps, "/", by rw [c2], rfl, by decide +kernel, by rw [sizeLine_eq]; omega, fun p np => ?_⟩
    have e0 : Txt.split (jn ps) "/" = ps := sp_of ne fun p m => (gp p m).2.2.2
    rw [e0]
    have hp : (L2.upd H p (.lst (ps.map V.str))) p = some (.lst (ps.map V.str)) := upd_same
    have s0 := same_upd (o := .lst (ps.map V.str)) np
    refine ⟨p, rfl, ⟨_, SqL.of hp⟩, fun D hD => lc_vals (walk_list (K := K) (a := p) (xs := ps.map V.str)) (fun _ => .bl true) hD (by simp; omega) (fun H' s => s.seq (SqL.of hp)) (fun i x H1 H' _ y => by rw [y.1]; exact Same.refl _) (fun i x H1 H' Q hi s1 y kk => ?_) (fun H' s1 hq => ?_)⟩
    · obtain ⟨rfl, hx⟩ := y
      obtain ⟨q, hq, rfl⟩ : ∃ q, ps[i]? = some q ∧ x = .str q := by
        rw [List.getElem?_map] at hx
        obtain ⟨q, e1, e2⟩ := Option.map_eq_some_iff.mp hx
        exact ⟨q, e1, e2.symm⟩
      have g := gp q (List.mem_of_getElem? hq)
      refine ⟨rfl, _, rfl, (by decide : 3 ≤ sizeLine), fun t nt => ?_⟩
      refine ⟨t, _, rfl, .inr (SqT.of upd_same), rfl, rfl, ?_⟩
      have e1 : inV (.str q) [.str "", .str ".", .str ".."] = false := by
        show inV (.str q) ((["", ".", ".."] : List Str).map V.str) = false
        rw [inV_iff, decide_eq_false]
        simp [g.1, g.2.1, g.2.2.1]
      rw [e1]
      exact kk _ (same_upd nt)
    · have e : ((List.range (ps.map V.str).length).map fun _ => V.bl true) = (List.replicate ps.length true).map V.bl := by
        rw [List.length_map, List.map_replicate, List.map_const']
        simp
      rw [e] at hq
      refine ⟨D, _, rfl, SqL.of hq, ?_⟩
      have e2 : (List.replicate ps.length true).all id = true := by simp
      rw [e2]
      exact k _ (s0.trans s1)
abbrev sPao : Stmt := top 19
abbrev nPao : List Str := ["path"]
theorem scPao : FnScope nPao ["path"] (defScope sPao) := ⟨rfl, rfl, rfl, by decide +kernel, rfl, by decide +kernel, by decide +kernel⟩
theorem has_Pao {f : Addr} {fd : FuncData}  (F : Fun K "parent_of" "parent_of" sPao f fd) (g : mg "parent_of" = some (.ref f)) (B : Blt mg) (Wr : WrW mg)  :
    Has P w K mg base 1 "parent_of" ["path"] (spPao) := by
  refine has_of F g (F.binds (ps := ["path"]) fun _ _ _ _ _ _ us hl => match us, hl with | [_], _ => rfl) (F.ok scPao (fun vs H Q E h => ?_) (fun cdv A outer s H vs Q E hr h => ?_))
  · obtain ⟨ps, q, rfl, _⟩ := h
    rfl
  · refine ⟨_, (pss_one (ps_ret (pe_orT (pe_slice sl_str (pv 0) po_none (po_some (pe_bm PySem.F.plainAttrs_str PySem.F.slot_str_rfind PySem.F.type_str_rfind mt_rfind (pv 0) (pa_cons pe_str pa_nil)))) (pe_one (glob_str (by rfl) Wr.top))))), ?_⟩
    obtain ⟨ps, q, rfl, gp, gq, hl, k⟩ := h
    have lz : (say (ps ++ [q])).length ≤ sizeLine := by rw [sizeLine_eq]; omega
    have e0 := say_split ps (q := q) gp
    have er := rfind_at e0 gq.2.2.2
    refine ⟨_, rfl, _, rfl, rfl, _, _, rfl, rfl, _, rfl, _, rfl, lz, ?_⟩
    have ec : cs (cutS (say (ps ++ [q])) none (some (Txt.rfind (say (ps ++ [q])) "/"))) = if ps = [] then [] else cs (say ps) := by
      rw [er, cut_to, len_cs, e0, Nat.min_eq_left (by rw [List.length_append]; omega), List.take_left]
    have lc : (cutS (say (ps ++ [q])) none (some (Txt.rfind (say (ps ++ [q])) "/"))).length = if ps = [] then 0 else (say ps).length := by
      rw [len_cs, ec]
      split
      · rfl
      · exact (len_cs _).symm
    have lps : (say ps).length ≤ (say (ps ++ [q])).length + 1 := by
      rw [len_cs (say (ps ++ [q])), e0, len_cs]
      split
      · rename_i e
        rw [e, say_nil, cs_slash]
        simp
      · rw [List.length_append]
        omega
    refine ⟨_, ⟨?_, rfl⟩, ?_⟩
    · rw [lc, sizeLine_eq]
      split <;> omega
    · by_cases e : ps = []
      · rw [if_pos e] at lc
        refine if_no (by rw [lc]; rfl) ?_
        subst e
        rw [← say_nil]
        exact k H (Same.refl H)
      · rw [if_neg e] at lc ec
        have l1 := say_len ps
        refine if_yes (by rw [lc]; simp; omega) ?_
        rw [str_ext ec]
        exact k H (Same.refl H)
abbrev sIfo : Stmt := top 20
abbrev nIfo : List Str := ["files", "path"]
theorem scIfo : FnScope nIfo ["files", "path"] (defScope sIfo) := ⟨rfl, rfl, rfl, by decide +kernel, rfl, by decide +kernel, by decide +kernel⟩
theorem has_Ifo {f : Addr} {fd : FuncData}  (F : Fun K "is_folder" "is_folder" sIfo f fd) (g : mg "is_folder" = some (.ref f)) (B : Blt mg) (Wr : WrW mg)  :
    Has P w K mg base 1 "is_folder" ["files", "path"] (spIfo) := by
  refine has_of F g (F.binds (ps := ["files", "path"]) fun _ _ _ _ _ _ us hl => match us, hl with | [_, _], _ => rfl) (F.ok scIfo (fun vs H Q E h => ?_) (fun cdv A outer s H vs Q E hr h => ?_))
  · obtain ⟨a, fs, x, rfl, _⟩ := h
    rfl
  · have hu := hu_of hr
    refine ⟨_, (pss_one (ps_ret (pe_or (pe_cmpR op_eq (pv 1) (glob_str (by rfl) Wr.top) (nomark _)) (pe_one (pe_and (pe_cmp (pc_din hu (pv 1) (pv 0)) rfl) (pe_one (pe_cmpR op_isN (pe_dget hu (pv 0) (pv 1) (fun _ _ => rfl)) pe_non (nomark _)))))))), ?_⟩
    obtain ⟨a, fs, x, rfl, hd, k⟩ := h
    have g := hd.get (.inr x)
    rw [valF] at g
    refine ⟨_, rfl, rfl, _, rfl, ?_⟩
    rw [dec_str]
    have fin : ∀ b, isF fs x = b → Q (.bl b) H := fun b e => by
      rw [← e]
      exact k H (Same.refl H)
    by_cases e1 : x = "/"
    · refine if_yes (decide_eq_true e1) (fin true ?_)
      unfold isF
      rw [decide_eq_true e1]
      rfl
    · refine if_no (decide_eq_false e1) ⟨_, rfl, _, rfl, a, _, rfl, g, ?_⟩
      have e0 : isF fs x = (lkF fs x == some none) := by
        unfold isF
        rw [decide_eq_false e1]
        rfl
      cases e2 : lkF fs x with
      | none =>
        refine ⟨_, rfl, if_no rfl (fin false ?_)⟩
        rw [e0, e2]
        rfl
      | some o =>
        rw [e2] at g
        refine ⟨_, rfl, if_yes rfl ⟨_, rfl, _, rfl, a, _, rfl, g, rfl, ?_⟩⟩
        cases o with
        | none => exact fin true (by rw [e0, e2]; rfl)
        | some t => exact fin false (by rw [e0, e2]; rfl)
abbrev sPsa : Stmt := top 21
abbrev nPsa : List Str := ["folder", "text", "parts", "part"]
theorem scPsa : FnScope nPsa ["folder", "text"] (defScope sPsa) := ⟨rfl, rfl, rfl, by decide +kernel, rfl, by decide +kernel, by decide +kernel⟩
theorem has_Psa {f : Addr} {fd : FuncData}  (F : Fun K "path_said" "path_said" sPsa f fd) (g : mg "path_said" = some (.ref f)) (B : Blt mg) (Wr : WrW mg)  :
    Has P w K mg base 1 "path_said" ["folder", "text"] (spPsa) := by
  refine has_of F g (F.binds (ps := ["folder", "text"]) fun _ _ _ _ _ _ us hl => match us, hl with | [_, _], _ => rfl) (F.ok scPsa (fun vs H Q E h => ?_) (fun cdv A outer s H vs Q E hr h => ?_))
  · obtain ⟨ps, x, rfl, _⟩ := h
    rfl
  · refine ⟨_, (pss_cons (ps_set (i := 2) scPsa.nd rfl (.inl rfl) (pe_weak (pe_ifExp (PW.pt (pw_or (pt_cmpR op_eq (pe_slice sl_str (pv 1) po_none (po_some pe_int)) pe_str (nomark _)) (pw_or1 (pt_cmpR op_eq (pv 0) (glob_str (by rfl) Wr.top) (nomark _))))) (pe_lst pa_nil) (pe_bm PySem.F.plainAttrs_str PySem.F.slot_str_split PySem.F.type_str_split mt_split (pe_slice sl_str (pv 0) (po_some pe_int) po_none) (pa_cons pe_str pa_nil)))))
        (pss_cons (ps_for PassesOwn.never rfl (pi_list (pe_bm PySem.F.plainAttrs_str PySem.F.slot_str_split PySem.F.type_str_split mt_split (pv 1) (pa_cons pe_str pa_nil))) (pg_name (i := 3) scPsa.nd rfl (.inl rfl))
          (pss_one (ps_if (pt_cmpR op_eq (pv 3) pe_str (nomark _)) (pss_one (ps_set (i := 2) scPsa.nd rfl (.inl rfl) (pe_slice sl_list (pv 2) po_none (po_some (pe_un un_neg pe_int))))) (pss_one (ps_if (pt_cmpR op_notIn_seq (pv 3) (pe_tup (pa_cons pe_str (pa_cons pe_str pa_nil))) (by rfl)) (pss_one (ps_expr (pe_bm PySem.F.plainAttrs_list PySem.F.slot_list_append PySem.F.type_list_append mt_append (pv 2) (pa_cons (pv 3) pa_nil)))) pss_nil)))))
        (pss_one (ps_ret (pe_op op_add_str (glob_str (by rfl) Wr.top) (pe_join pe_str (pv 2))))))), ?_⟩
    obtain ⟨ps, x, rfl, gp, hl, hx, k⟩ := h
    have lx : x.length ≤ sizeLine := by rw [sizeLine_eq]; omega
    have ly : (say ps).length ≤ sizeLine := by rw [sizeLine_eq]; omega
    have z1 := say_len ps
    obtain ⟨j1, j2⟩ := jn_len ps
    obtain ⟨s1, s2⟩ := sp_len x
    refine ⟨fun v H1 => ∃ p, v = .ref p ∧ Same H H1 ∧ H p = none ∧ H1 p = some (.lst ((if Txt.startswith x "/" = true then [] else ps).map V.str)), fun v H1 hv => ?_, ?_⟩
    · obtain ⟨p, rfl, sp1, np, hp⟩ := hv
      generalize hst : (if Txt.startswith x "/" = true then [] else ps) = st at hp
      have lst : st.length ≤ ps.length := by
        rw [← hst]
        split
        · exact Nat.zero_le _
        · exact Nat.le_refl _
      have mst : ∀ q ∈ st, q.length ≤ 1800 := fun q m => by
        rw [← hst] at m
        split at m
        · cases m
        · have := j2 q m
          omega
      refine ⟨_, rfl, rfl, x, "/", rfl, rfl, by decide +kernel, by rw [sizeLine_eq]; omega, fun q nq => ?_⟩
      have qp : q ≠ p := fun z => by rw [z, hp] at nq; cases nq
      refine ⟨q, rfl, ⟨_, SqL.of upd_same⟩, for_it (walk_list (K := K) (a := q) (xs := (sp x).map V.str)) (fun i σ H' => ∃ p' v3, σ = [some (.str (say ps)), some (.str x), some (.ref p'), v3] ∧ Same H H' ∧ H p' = none ∧ p' ≠ q ∧ H' q = some (.lst ((sp x).map V.str)) ∧ H' p' = some (.lst ((nrm st ((sp x).take i)).map V.str)))
        ⟨p, none, rfl, same_upd2 sp1 (none_of sp1 nq), np, Ne.symm qp, upd_same, by rw [upd_ne (Ne.symm qp)]; exact hp⟩ (fun i σ H' _ e => ?_) (fun i y σ H' H2 hi e yy => ?_) (fun σ H' e => ?_)⟩
      · obtain ⟨_, _, _, _, _, _, h, _⟩ := e
        exact SqL.of h
      · obtain ⟨p', v3, rfl, s', np', pq, hq, hp'⟩ := e
        obtain ⟨rfl, hy⟩ := yy
        obtain ⟨y, hsy, rfl⟩ : ∃ z, (sp x)[i]? = some z ∧ y = .str z := by
          rw [List.getElem?_map] at hy
          obtain ⟨z, e1, e2⟩ := Option.map_eq_some_iff.mp hy
          exact ⟨z, e1, e2.symm⟩
        obtain ⟨n1, n2⟩ := nrm_sub ((sp x).take i) st
        have lt := List.length_take_le' i (sp x)
        have nxt : nrm st ((sp x).take (i + 1)) = stp (nrm st ((sp x).take i)) y := by
          rw [take_snoc hsy, nrm_app]
          rfl
        refine ⟨_, rfl, rfl, _, rfl, ?_⟩
        rw [dec_str]
        by_cases e1 : y = ".."
        · refine if_yes (decide_eq_true e1) ⟨_, rfl, _, rfl, _, rfl, p', _, rfl, SqL.of hp', fun p2 np2 => ?_⟩
          refine ⟨p2, _, rfl, same_upd2 s' (none_of s' np2), none_of s' np2, Ne.symm (ne_new hq np2), by rw [upd_ne (ne_new hq np2)]; exact hq, ?_⟩
          rw [upd_same, nxt]
          have e3 : stp (nrm st ((sp x).take i)) y = (nrm st ((sp x).take i)).dropLast := if_pos e1
          rw [e3]
          have e4 : cutV ((nrm st ((sp x).take i)).map V.str) none (some (-1)) = ((nrm st ((sp x).take i)).dropLast).map V.str := by
            rw [cutV_last, List.map_dropLast]
          rw [← e4]
        · refine if_no (decide_eq_false e1) ⟨_, rfl, (by decide : 2 ≤ sizeLine), fun t nt => ?_⟩
          have st' := same_upd (o := .tup [.str "", .str "."]) nt
          refine ⟨t, _, rfl, .inr (SqT.of upd_same), rfl, rfl, _, rfl, ?_⟩
          have e2 : inV (.str y) [.str "", .str "."] = decide (y = "" ∨ y = ".") := by
            show inV (.str y) ((["", "."] : List Str).map V.str) = _
            rw [inV_iff]
            simp
          rw [e2]
          by_cases e3 : y = "" ∨ y = "."
          · refine if_no (by rw [decide_eq_true e3]; rfl) ⟨p', _, rfl, s'.trans st', np', pq, st' _ _ hq, ?_⟩
            rw [nxt, st' _ _ hp']
            have e4 : stp (nrm st ((sp x).take i)) y = nrm st ((sp x).take i) := (if_neg e1).trans (if_pos e3)
            rw [e4]
          · refine if_yes (by rw [decide_eq_false e3]; rfl) ⟨_, rfl, .inl ⟨rfl, _, SqL.of (st' _ _ hp')⟩, _, rfl, p', _, _, rfl, rfl, st' _ _ hp', ?_, ?_⟩
            · rw [List.length_map, sizeLine_eq]
              omega
            · refine ⟨p', _, rfl, same_upd2 (s'.trans st') np', np', pq, by rw [upd_ne (Ne.symm pq)]; exact st' _ _ hq, ?_⟩
              rw [upd_same, nxt]
              have e4 : stp (nrm st ((sp x).take i)) y = nrm st ((sp x).take i) ++ [y] := (if_neg e1).trans (if_neg e3)
              rw [e4, List.map_append]
              rfl
      · obtain ⟨p', v3, rfl, s', np', pq, hq, hp'⟩ := e
        rw [List.length_map, List.take_length] at hp'
        obtain ⟨n1, n2⟩ := nrm_sub (sp x) st
        have lk : (nrm st (sp x)).length ≤ 3700 := by omega
        have lm : ∀ q ∈ nrm st (sp x), q.length ≤ 1800 := fun q m => by
          rcases n2 q m with m | m
          · exact mst q m
          · have := s2 q m
            omega
        have lj := jn_le lk lm
        refine ⟨⟨_, rfl⟩, _, rfl, "/", p', nrm st (sp x), rfl, rfl, .inl (SqL.of hp'), join_fits lk lm (by decide), _, _, rfl, rfl, ?_, ?_⟩
        · show 1 + (jn (nrm st (sp x))).length ≤ sizeLine
          rw [sizeLine_eq]
          omega
        · have e : says ps x = nrm st (sp x) := by
            unfold says
            rw [hst]
          rw [← hst, ← show says ps x = nrm (if Txt.startswith x "/" = true then [] else ps) (sp x) from rfl]
          exact k _ s'
    · refine ⟨_, rfl, _, rfl, _, rfl, lx, rfl, _, rfl, ?_⟩
      rw [dec_str]
      by_cases e1 : Txt.startswith x "/" = true
      · refine if_yes (decide_eq_true (starts_slash e1)) (if_yes rfl ⟨Nat.zero_le _, fun p np => ⟨p, rfl, same_upd np, np, ?_⟩⟩)
        rw [upd_same, if_pos e1]
        rfl
      · refine if_no (decide_eq_false (starts_no e1)) ⟨_, rfl, rfl, _, rfl, ?_⟩
        rw [dec_str]
        by_cases e2 : say ps = "/"
        · refine if_yes (decide_eq_true e2) ⟨Nat.zero_le _, fun p np => ⟨p, rfl, same_upd np, np, ?_⟩⟩
          rw [upd_same, if_neg e1, say_top gp e2]
          rfl
        · refine if_no (decide_eq_false e2) ⟨_, rfl, _, rfl, _, rfl, ly, rfl, jn ps, "/", ?_, rfl, by decide +kernel, by rw [sizeLine_eq]; omega, fun p np => ⟨p, rfl, same_upd np, np, ?_⟩⟩
          · rw [show cutS (say ps) (some 1) none = jn ps from cut_rest _]
          · have ne : ps ≠ [] := fun z => e2 (by rw [z, say_nil])
            rw [upd_same, if_neg e1, show Txt.split (jn ps) "/" = ps from sp_of ne fun p m => (gp p m).2.2.2]
end
end Qb
end PySem
namespace PySem
namespace Qb
open PySem.W PySem.Calls PyProof.Rows L2
/-! # worlds: the program's defs -/
structure Wl where
  files : Fls
  folder : List Str
  names : List (Str × Str)
  args : List Str
  text : Str
  status : Nat
  funs : List (Str × PyData)
def kvN (ns : List (Str × Str)) : List (Key × V) := ns.map fun e => (.inr e.1, .str e.2)
def FnE (K : Frag) (H : Hp) (kv : Key × V) (e : Str × PyData) : Prop := kv.1 = .inr e.1 ∧ Dp K H kv.2 e.2
/-- a world as it stands in the heap -/
def WAt (K : Frag) (H : Hp) (v : V) (W : Wl) : Prop := ∃ a pf pn pa pg gs, v = .ref a ∧ SqT K H a [.ref pf, .str (say W.folder), .ref pn, pa, .str W.text, .int (W.status : Nat), .ref pg] ∧ Dz H pf (kvF W.files) ∧ Dz H pn (kvN W.names) ∧
  Dp K H pa (.list (W.args.map .str)) ∧ Dz H pg gs ∧ All2 (FnE K H) gs W.funs
theorem FnE.same {K : Frag} {H H' : Hp} {kv : Key × V} {e : Str × PyData} (h : FnE K H kv e) (s : Same H H') : FnE K H' kv e := ⟨h.1, dp_same s h.2⟩
theorem WAt.same {K : Frag} {H H' : Hp} {v : V} {W : Wl} (h : WAt K H v W) (s : Same H H') : WAt K H' v W := by
  obtain ⟨a, pf, pn, pa, pg, gs, e, h1, h2, h3, h4, h5, h6⟩ := h
  exact ⟨a, pf, pn, pa, pg, gs, e, sqT_same s h1, h2.same s, h3.same s, dp_same s h4, h5.same s, h6.imp fun _ _ r => r.same s⟩
def mkC (e : Str × PyData) : PyData := .tuple [.str "make", .str e.1, e.2]
/-- files that a world may have -/
structure FGood (fs : Fls) : Prop where
  few : fs.length ≤ 1000
  good : ∀ e ∈ fs, ∃ ps q, e.1 = say (ps ++ [q]) ∧ (∀ p ∈ ps, Gp p) ∧ Gp q ∧ (say (ps ++ [q])).length ≤ 1800 ∧ isF fs (say ps) = true
structure WGood (W : Wl) : Prop where
  fgood : FGood W.files
  fold : (∀ p ∈ W.folder, Gp p) ∧ (say W.folder).length ≤ 1800 ∧ isF W.files (say W.folder) = true
  nfew : W.names.length ≤ 1000
  names : ∀ e ∈ W.names, isNameB (cs e.1) = true ∧ e.1.length ≤ big
  stat : W.status ≤ 255
  gfew : W.funs.length ≤ 1000
  funs : ∀ e ∈ W.funs, CmG 5 (mkC e) ∧ wtC 5 (mkC e) ≤ 5000
theorem bls_true (n : Nat) : ((List.range n).map fun _ => V.bl true) = (List.replicate n true).map V.bl := by
  rw [List.map_replicate, List.map_const']
  simp
theorem all_true (n : Nat) : (List.replicate n true).all id = true := by simp
def spAns : Sp := fun vs H Q _ => ∃ (a : Addr) (ns : List (Str × Str)), vs = [.ref a] ∧ Dz H a (kvN ns) ∧ ns.length ≤ 1000 ∧ (∀ e ∈ ns, isNameB (cs e.1) = true ∧ e.1.length ≤ big) ∧ ∀ H', Same H H' → Q (.bl true) H'
def spIst : Sp := fun vs H Q _ => ∃ n : Nat, vs = [.int (n : Nat)] ∧ n ≤ 255 ∧ Q (.bl true) H
def spIwo (K : Frag) : Sp := fun vs H Q _ => ∃ (v : V) (W : Wl), vs = [v] ∧ WAt K H v W ∧ WGood W ∧ ∀ H', Same H H' → Q (.bl true) H'
def spCkw (K : Frag) : Sp := fun vs H Q _ => ∃ (v : V) (W : Wl), vs = [v] ∧ WAt K H v W ∧ WGood W ∧ ∀ H', Same H H' → Q .non H'
def spPof (K : Frag) : Sp := fun vs H Q _ => ∃ (v : V) (W : Wl) (x : Str), vs = [v, .str x] ∧ WAt K H v W ∧ WGood W ∧ x.length ≤ 1800 ∧ ∀ H', Same H H' → Q (.str (say (says W.folder x))) H'
section
variable {P : Program} {w : World} {K : Frag} {mg : Str → Option Value} {base : Heap}
abbrev sAns : Stmt := top 34
abbrev nAns : List Str := ["names", "name"]
theorem scAns : FnScope nAns ["names"] (defScope sAns) := ⟨rfl, rfl, rfl, by decide +kernel, rfl, by decide +kernel, by decide +kernel⟩
theorem has_Ans {f : Addr} {fd : FuncData}  (F : Fun K "are_names" "are_names" sAns f fd) (g : mg "are_names" = some (.ref f)) (B : Blt mg) (hNn : Has P w K mg base 2 "is_name" ["text"] spNn) :
    Has P w K mg base 3 "are_names" ["names"] (spAns) := by
  obtain ⟨fNn, dNn, gNn, kNn, bNn, GNn⟩ := hNn
  refine has_of F g (F.binds (ps := ["names"]) fun _ _ _ _ _ _ us hl => match us, hl with | [_], _ => rfl) (F.ok scAns (fun vs H Q E h => ?_) (fun cdv A outer s H vs Q E hr h => ?_))
  · obtain ⟨a, ns, rfl, _⟩ := h
    rfl
  · refine ⟨_, (pss_one (ps_ret (pe_callB (cr_all rfl) (by rfl) B.all (by decide +kernel) (pa_cons (pe_lc (own := [("name", 1)]) (g := gName 1) (tt := tYes) rfl scAns.nd (pi_keys (pv 0)) (blkOk_by (N := nAns) (sc := defScope sAns) (by decide +kernel)) (fun _ _ _ _ _ => pg_name (i := 1) scAns.nd rfl (.inl rfl)) (fun _ _ _ _ _ => pts_nil) (fun _ _ _ _ _ => (pe_call GNn hr rfl gNn kNn bNn .nil pass0 (pa_cons (pv 1) pa_nil)))) pa_nil)))), ?_⟩
    obtain ⟨a, ns, rfl, ⟨o, hd⟩, hl, hn, k⟩ := h
    have ln : (kvN ns).length = ns.length := List.length_map ..
    refine ⟨_, rfl, a, o, rfl, .inl ⟨_, hd, fun D hD => lc_vals walk_keys (fun _ => .bl true) hD (by omega) (fun H' s => s _ _ hd) (fun i x H1 H' _ y => by rw [y.1]; exact Same.refl _) (fun i x H1 H' Q hi s1 y kk => ?_) (fun H' s1 hq => ?_)⟩⟩
    · obtain ⟨rfl, kk1, v, hx, rfl⟩ := y
      obtain ⟨e, he, e2⟩ : ∃ e, ns[i]? = some e ∧ (.inr e.1, .str e.2) = (kk1, v) := by
        unfold kvN at hx
        rw [List.getElem?_map] at hx
        exact Option.map_eq_some_iff.mp hx
      obtain ⟨rfl, rfl⟩ := Prod.mk.inj e2
      obtain ⟨g1, g2⟩ := hn e (List.mem_of_getElem? he)
      refine ⟨rfl, _, rfl, e.1, rfl, g2, fun H2 s2 => ?_⟩
      have z := kk _ s2
      rw [← g1] at z
      exact z
    · rw [bls_true] at hq
      refine ⟨D, _, rfl, SqL.of hq, ?_⟩
      rw [all_true]
      exact k _ s1
abbrev sIst : Stmt := top 35
abbrev nIst : List Str := ["status"]
theorem scIst : FnScope nIst ["status"] (defScope sIst) := ⟨rfl, rfl, rfl, by decide +kernel, rfl, by decide +kernel, by decide +kernel⟩
theorem has_Ist {f : Addr} {fd : FuncData}  (F : Fun K "is_status" "is_status" sIst f fd) (g : mg "is_status" = some (.ref f)) (B : Blt mg) (Wr : WrW mg)  :
    Has P w K mg base 1 "is_status" ["status"] (spIst) := by
  refine has_of F g (F.binds (ps := ["status"]) fun _ _ _ _ _ _ us hl => match us, hl with | [_], _ => rfl) (F.ok scIst (fun vs H Q E h => ?_) (fun cdv A outer s H vs Q E hr h => ?_))
  · obtain ⟨n, rfl, _⟩ := h
    rfl
  · refine ⟨_, (pss_one (ps_ret (pe_chain op_le op_le pe_int (pv 0) (glob_int (by rfl) Wr.gs)))), ?_⟩
    obtain ⟨n, rfl, hn, k⟩ := h
    refine ⟨_, rfl, _, _, rfl, rfl, _, rfl, if_yes (by simp) ⟨_, _, rfl, rfl, ?_⟩⟩
    have e : decide (((n : Nat) : Int) ≤ 255) = true := decide_eq_true (by omega)
    rw [← e] at k
    exact k
abbrev sIwo : Stmt := top 82
abbrev nIwo : List Str := ["world", "files", "folder", "names", "_", "status", "functions", "path", "name", "body"]
theorem scIwo : FnScope nIwo ["world"] (defScope sIwo) := ⟨rfl, rfl, rfl, by decide +kernel, rfl, by decide +kernel, by decide +kernel⟩
theorem has_Iwo {f : Addr} {fd : FuncData}  (F : Fun K "is_world" "is_world" sIwo f fd) (g : mg "is_world" = some (.ref f)) (B : Blt mg) (hIfo : Has P w K mg base 1 "is_folder" ["files", "path"] (spIfo)) (hPao : Has P w K mg base 1 "parent_of" ["path"] (spPao)) (hIpa : Has P w K mg base 1 "is_path" ["path"] (spIpa)) (hIst : Has P w K mg base 1 "is_status" ["status"] (spIst)) (hAns : Has P w K mg base 3 "are_names" ["names"] (spAns)) (hIsc : Has P w K mg base 49 "is_script" ["tree"] (spIsc K)) :
    Has P w K mg base 50 "is_world" ["world"] (spIwo K) := by
  obtain ⟨fIfo, dIfo, gIfo, kIfo, bIfo, GIfo⟩ := hIfo
  obtain ⟨fPao, dPao, gPao, kPao, bPao, GPao⟩ := hPao
  obtain ⟨fIpa, dIpa, gIpa, kIpa, bIpa, GIpa⟩ := hIpa
  obtain ⟨fIst, dIst, gIst, kIst, bIst, GIst⟩ := hIst
  obtain ⟨fAns, dAns, gAns, kAns, bAns, GAns⟩ := hAns
  obtain ⟨fIsc, dIsc, gIsc, kIsc, bIsc, GIsc⟩ := hIsc
  refine has_of F g (F.binds (ps := ["world"]) fun _ _ _ _ _ _ us hl => match us, hl with | [_], _ => rfl) (F.ok scIwo (fun vs H Q E h => ?_) (fun cdv A outer s H vs Q E hr h => ?_))
  · obtain ⟨v, W, rfl, _⟩ := h
    rfl
  · refine ⟨_, (pss_cons (ps_if (pt_cmpR op_ne (pe_callB call_len_seq (by rfl) B.len PySem.boot_len (pa_cons (pv 0) pa_nil)) pe_int (nomark _)) (pss_one (ps_ret pe_bl)) pss_nil)
        (pss_cons (ps_asg (pv 0) (pg_tup rfl (pgs_cons (pg_name (i := 1) scIwo.nd rfl (.inr rfl)) (pgs_cons (pg_name (i := 2) scIwo.nd rfl (.inl rfl)) (pgs_cons (pg_name (i := 3) scIwo.nd rfl (.inl rfl)) (pgs_cons (pg_name (i := 4) scIwo.nd rfl (.inl rfl)) (pgs_cons (pg_name (i := 4) scIwo.nd rfl (.inl rfl)) (pgs_cons (pg_name (i := 5) scIwo.nd rfl (.inl rfl)) (pgs_cons (pg_name (i := 6) scIwo.nd rfl (.inl rfl)) pgs_nil)))))))))
        (pss_cons (ps_if (pt_not (pt_val (pe_callB (cr_all rfl) (by rfl) B.all (by decide +kernel) (pa_cons (pe_lc (own := [("path", 7)]) (g := gName 7) (tt := tYes) rfl scIwo.nd (pi_keys (pv 1)) (blkOk_by (N := nIwo) (sc := defScope sIwo) (by decide +kernel)) (fun _ _ _ _ _ => pg_name (i := 7) scIwo.nd rfl (.inl rfl)) (fun _ _ _ _ _ => pts_nil) (fun _ _ _ _ _ => (pe_and (pe_call GIpa (hr.mono (by decide)) rfl gIpa kIpa bIpa .nil pass0 (pa_cons (pv 7) pa_nil)) (pe_one (pe_call GIfo (hr.mono (by decide)) rfl gIfo kIfo bIfo .nil pass0 (pa_cons (pv 1) (pa_cons (pe_call GPao (hr.mono (by decide)) rfl gPao kPao bPao .nil pass0 (pa_cons (pv 7) pa_nil)) pa_nil))))))) pa_nil)))) (pss_one (ps_ret pe_bl)) pss_nil)
        (pss_cons (ps_if (PW.pt (pw_or (pt_not (pt_val (pe_call GIfo (hr.mono (by decide)) rfl gIfo kIfo bIfo .nil pass0 (pa_cons (pv 1) (pa_cons (pv 2) pa_nil))))) (pw_or (pt_not (pt_val (pe_call GAns (hr.mono (by decide)) rfl gAns kAns bAns .nil pass0 (pa_cons (pv 3) pa_nil)))) (pw_or1 (pt_not (pt_val (pe_call GIst (hr.mono (by decide)) rfl gIst kIst bIst .nil pass0 (pa_cons (pv 5) pa_nil)))))))) (pss_one (ps_ret pe_bl)) pss_nil)
        (pss_one (ps_ret (pe_callB (cr_all rfl) (by rfl) B.all (by decide +kernel) (pa_cons (pe_lc (own := [("name", 8), ("body", 9)]) (g := gTup K 2 (gCons (gName 8) (gCons (gName 9) gNil))) (tt := tYes) rfl scIwo.nd (pi_items (pv 6)) (blkOk_by (N := nIwo) (sc := defScope sIwo) (by decide +kernel)) (fun _ _ _ _ _ => pg_tup rfl (pgs_cons (pg_name (i := 8) scIwo.nd rfl (.inl rfl)) (pgs_cons (pg_name (i := 9) scIwo.nd rfl (.inl rfl)) pgs_nil))) (fun _ _ _ _ _ => pts_nil) (fun _ _ _ _ _ => (pe_call GIsc hr rfl gIsc kIsc bIsc .nil pass0 (pa_cons (pe_lst (pa_cons (pe_tup (pa_cons pe_str (pa_cons (pv 8) (pa_cons (pv 9) pa_nil)))) pa_nil)) pa_nil)))) pa_nil)))))))), ?_⟩
    obtain ⟨v, W, rfl, ⟨a, pf, pn, pa, pg, gs, rfl, ha, ⟨of, hf⟩, hn, hp, ⟨og, hg⟩, al⟩, G, k⟩ := h
    have lf : (kvF W.files).length = W.files.length := List.length_map ..
    have Gf := G.fgood
    have gf := Gf.few
    refine ⟨_, rfl, a, _, rfl, .inr ha, rfl, _, rfl, if_no (by simp) ?_⟩
    refine ⟨_, rfl, a, _, rfl, ha, rfl, _, _, rfl, _, _, rfl, _, _, rfl, _, _, rfl, _, _, rfl, _, _, rfl, _, _, rfl, rfl, ?_⟩
    refine ⟨_, rfl, pf, of, rfl, .inl ⟨_, hf, fun D hD => lc_vals walk_keys (fun _ => .bl true) hD (by omega) (fun H' s => s _ _ hf) (fun i x H1 H' _ y => by rw [y.1]; exact Same.refl _) (fun i x H1 H' Q hi s1 y kk => ?_) (fun H' s1 hq => ?_)⟩⟩
    · obtain ⟨rfl, kk1, v, hx, rfl⟩ := y
      obtain ⟨e, he, e2⟩ : ∃ e, W.files[i]? = some e ∧ (.inr e.1, vF e.2) = (kk1, v) := by
        unfold kvF at hx
        rw [List.getElem?_map] at hx
        exact Option.map_eq_some_iff.mp hx
      obtain ⟨rfl, rfl⟩ := Prod.mk.inj e2
      obtain ⟨ps, q, e3, g1, g2, g3, g4⟩ := Gf.good e (List.mem_of_getElem? he)
      have gpq : ∀ p ∈ ps ++ [q], Gp p := fun p m => (List.mem_append.mp m).elim (g1 p) fun m => by rw [List.mem_singleton.mp m]; exact g2
      refine ⟨rfl, _, rfl, ps ++ [q], congrArg (fun z => [V.str z]) e3, by simp, gpq, by omega, fun H2 s2 => ⟨_, rfl, if_yes rfl ⟨_, rfl, _, rfl, ps, q, congrArg (fun z => [V.str z]) e3, g1, g2, by omega, fun H3 s3 => ⟨pf, W.files, _, rfl, ⟨of, s3 _ _ (s2 _ _ (s1 _ _ hf))⟩, fun H4 s4 => ?_⟩⟩⟩⟩
      rw [g4]
      exact kk _ ((s2.trans s3).trans s4)
    rw [bls_true] at hq
    refine ⟨D, _, rfl, SqL.of hq, ?_⟩
    rw [all_true]
    refine ⟨_, rfl, if_no rfl ?_⟩
    refine ⟨_, rfl, _, rfl, pf, W.files, _, rfl, ⟨of, s1 _ _ hf⟩, fun H2 s2 => ?_⟩
    rw [G.fold.2.2]
    have s02 := s1.trans s2
    refine ⟨_, rfl, if_no rfl ⟨_, rfl, pn, W.names, rfl, hn.same s02, G.nfew, G.names, fun H3 s3 => ⟨_, rfl, if_no rfl ⟨_, rfl, W.status, rfl, G.stat, _, rfl, if_no rfl ?_⟩⟩⟩⟩
    have s03 := s02.trans s3
    have lg := al.len
    have gg := G.gfew
    refine ⟨_, rfl, pg, og, gs, rfl, s03 _ _ hg, fun D2 hD2 => lc_vals walk_items (fun _ => .bl true) hD2 (by omega) (fun H' s => s _ _ (s03 _ _ hg)) (fun i x H1 H' _ y => by obtain ⟨T, x1, y1, _, nT, rfl, _⟩ := y; exact same_upd nT) (fun i x H1 H' Q hi s4 y kk => ?_) (fun H' s4 hq => ?_)⟩
    · obtain ⟨T, x1, y1, rfl, nT, rfl, h1, h2⟩ := y
      obtain ⟨kv, e1, rfl⟩ := Option.map_eq_some_iff.mp h1
      have h2 : Option.map Prod.snd gs[i]? = some y1 := h2
      rw [e1] at h2
      obtain rfl := Option.some.inj h2
      obtain ⟨e, he, r1, r2⟩ := al.at e1
      obtain ⟨g1, g2⟩ := G.funs e (List.mem_of_getElem? he)
      have sT := same_upd (o := .tup [kV kv.1, kv.2]) nT
      have dB := dp_same ((s03.trans s4).trans sT) r2
      refine ⟨T, _, rfl, SqT.of upd_same, rfl, _, _, rfl, _, _, rfl, rfl, rfl, ?_⟩
      refine ⟨_, rfl, _, rfl, (by decide : 3 ≤ sizeLine), fun p np => ⟨(by decide : 1 ≤ sizeLine), fun r nr => ?_⟩⟩
      have sp := same_upd (o := .tup [.str "make", kV kv.1, kv.2]) np
      have sr := same_upd (o := .lst [.ref p]) nr
      refine ⟨.ref r, [mkC e], 5, rfl, ?_, fun c m => ?_, by decide, ?_, fun H5 s5 => kk _ ((sp.trans sr).trans s5)⟩
      · refine .lst (SqL.of upd_same) (.cons (.tup (sqT_same sr (SqT.of upd_same)) (.cons (.str _) (.cons ?_ (.cons (dp_same (sp.trans sr) dB) .nil)))) .nil)
        rw [r1]
        exact .str _
      · rw [List.mem_singleton.mp m]
        exact g1
      · show wtC 5 (mkC e) + 0 ≤ 10000
        omega
    · rw [bls_true] at hq
      refine ⟨D2, _, rfl, SqL.of hq, ?_⟩
      rw [all_true]
      exact k _ (s03.trans s4)
abbrev sCkw : Stmt := top 83
abbrev nCkw : List Str := ["world"]
theorem scCkw : FnScope nCkw ["world"] (defScope sCkw) := ⟨rfl, rfl, rfl, by decide +kernel, rfl, by decide +kernel, by decide +kernel⟩
theorem has_Ckw {f : Addr} {fd : FuncData} (F : Fun K "check_world" "check_world" sCkw f fd) (g : mg "check_world" = some (.ref f)) (B : Blt mg) (hIwo : Has P w K mg base 50 "is_world" ["world"] (spIwo K)) :
    Has P w K mg base 51 "check_world" ["world"] (spCkw K) := by
  obtain ⟨fIwo, dIwo, gIwo, kIwo, bIwo, GIwo⟩ := hIwo
  refine has_of F g (F.binds (ps := ["world"]) fun _ _ _ _ _ _ us hl => match us, hl with | [_], _ => rfl) (F.ok scCkw (fun vs H Q E h => ?_) (fun cdv A outer s H vs Q E hr h => ?_))
  · obtain ⟨v, W, rfl, _⟩ := h
    rfl
  · refine ⟨_, (pss_one (ps_if (pt_not (pt_val (pe_call GIwo hr rfl gIwo kIwo bIwo .nil pass0 (pa_cons (pv 0) pa_nil)))) (pss_one ps_never) pss_nil)), ?_⟩
    obtain ⟨v, W, rfl, hw, G, k⟩ := h
    exact ⟨_, rfl, v, W, rfl, hw, G, fun H1 s1 => ⟨_, rfl, if_no rfl (k _ s1)⟩⟩
end
end Qb
end PySem
namespace PySem
namespace Qb
open PySem.W PySem.Calls PyProof.Rows L2
/-! # what the law draws from its deck -/
abbrev SB (S : Addr) (H H' : Hp) : Prop := Same (hide H S) (hide H' S)
theorem SB.refl (S : Addr) (H : Hp) : SB S H H := Same.refl _
theorem SB.of {S : Addr} {H H' : Hp} (s : Same H H') : SB S H H' := hide_mono s
theorem SB.put {S : Addr} {H : Hp} {o : HO} : SB S H (L2.upd H S o) := hide_upd
theorem SB.at {S : Addr} {H H' : Hp} (s : SB S H H') {b : Addr} {o : HO} (h : H b = some o) (ne : b ≠ S) : H' b = some o := hide_same _ _ (s _ _ (hide_ne h ne))
def sg (c : Nat) : Str := ⟨#[c]⟩
theorem joinL_sg : ∀ l : List Nat, TL.joinL [] ((l.map sg).map TL.tl) = l
  | [] => rfl
  | [c] => rfl
  | c :: d :: r => by
    have ih := joinL_sg (d :: r)
    show [c] ++ ([] ++ TL.joinL [] (((d :: r).map sg).map TL.tl)) = _
    rw [ih]
    rfl
theorem join_sg (l : List Nat) : Txt.join "" (l.map sg) = (⟨l.toArray⟩ : Str) := by
  refine str_ext ?_
  rw [TL.join_eq]
  have e : cs (Str.join "" (l.map sg)) = TL.joinL [] ((l.map sg).map TL.tl) := TL.tl_join "" (l.map sg)
  rw [e, joinL_sg]
theorem sum_sg : ∀ l : List Nat, ((l.map sg).map (·.length)).sum = l.length
  | [] => rfl
  | c :: l => by
    rw [List.map_cons, List.map_cons, List.sum_cons, sum_sg l, List.length_cons]
    show 1 + l.length = _
    omega
abbrev Dk := Nat × Nat
def drE (d : Dk) : Dk := if d.1 = 0 then (d.2, 0) else d
def dr (m : Nat) (d : Dk) : Nat × Dk := ((drE d).1 % m, ((drE d).1 / m, (drE d).2))
def drs (m : Nat) : Nat → Dk → List Nat × Dk
  | 0, d => ([], d)
  | n + 1, d => ((drs m n d).1 ++ [(dr m (drs m n d).2).1], (dr m (drs m n d).2).2)
theorem dr_lt {m : Nat} (h : 0 < m) (d : Dk) : (dr m d).1 < m := Nat.mod_lt _ h
theorem drs_len (m : Nat) : ∀ n d, (drs m n d).1.length = n
  | 0, _ => rfl
  | n + 1, d => by
    show ((drs m n d).1 ++ [_]).length = _
    rw [List.length_append, drs_len m n d]
    rfl
theorem drs_lt {m : Nat} (h : 0 < m) : ∀ n d, ∀ x ∈ (drs m n d).1, x < m
  | 0, _, x, z => by cases z
  | n + 1, d, x, z => by
    rcases List.mem_append.mp z with z | z
    · exact drs_lt h n d x z
    · rw [List.mem_singleton.mp z]
      exact dr_lt h _
theorem drs_range {α : Type} (f : Nat → α) (m : Nat) (d : Dk) : ∀ n, (List.range n).map (fun i => f (dr m (drs m i d).2).1) = (drs m n d).1.map f
  | 0 => rfl
  | n + 1 => by
    rw [List.range_succ, List.map_append, drs_range f m d n]
    show _ = ((drs m n d).1 ++ [_]).map f
    rw [List.map_append]
    rfl
def DkAt (H : Hp) (S : Addr) (d : Dk) : Prop := H S = some (.lst [.int (d.1 : Nat), .int (d.2 : Nat)])
/-- a def that draws, and gives a flat value -/
def spDr : Sp := fun vs H Q _ => ∃ (S : Addr) (m : Nat) (d : Dk), vs = [.ref S, .int (m : Nat)] ∧ 0 < m ∧ m ≤ 10 ^ 60 ∧ DkAt H S d ∧ ∀ H', SB S H H' → DkAt H' S (dr m d).2 → Q (.int ((dr m d).1 : Nat)) H'
section
variable {J : It} {n : Nat} {G : Hp → Prop} {Y : Nat → Hp → V → Hp → Prop}
/-- a comprehension that draws -/
theorem lc_st (wk : Walk J n G Y) {g : TG} {te : TE} {vs : List Nat} {σ : L2.St} {H : Hp} {D S : Addr} {Qd : Hp → Prop} (st : Nat → Dk) (val : Nat → V) (hS : DkAt H S (st 0)) (hD : H D = none) (hn : n ≤ 1000000) (hG : ∀ H', SB S H H' → G H') (hY : ∀ i x H1 H', i < n → Y i H1 x H' → Same H1 H')
    (turn : ∀ (i : Nat) (x : V) (H1 H' : Hp) (Q : VK), i < n → SB S H H1 → DkAt H' S (st i) → Y i H1 x H' → (∀ H4, SB S H' H4 → DkAt H4 S (st (i + 1)) → Q (val i) H4) → g x (wipe σ vs) H' fun σ2 H2 => wipe σ2 vs = wipe σ vs ∧ te σ2 H2 Q)
    (hd : ∀ H', SB S H H' → DkAt H' S (st n) → H' D = some (.lst ((List.range n).map val)) → Qd H') :
    ∃ W : Nat → Nat → Hp → Prop, (∃ m, W 0 m (L2.upd H D (.lst []))) ∧ ∀ i m H, W i m H →
      (J.stop i H ∧ Qd H) ∨ (J.go i H ∧ ∃ Nx : Hp → Prop, (∀ H', Nx H' → ∃ m', m' < m ∧ W (i + 1) m' H') ∧ ∀ x H', J.yld i H x H' → g x (wipe σ vs) H' fun σ2 H2 => wipe σ2 vs = wipe σ vs ∧ tYes σ2 H2 fun b H3 =>
        if b = true then te σ2 H3 fun y H4 => ∃ acc, H4 D = some (.lst acc) ∧ acc.length < sizeLine ∧ Nx (L2.upd H4 D (.lst (acc ++ [y]))) else Nx H3) := by
  have DS : D ≠ S := Ne.symm (ne_new hS hD)
  have hD' : hide H S D = none := by
    unfold hide
    rw [if_neg DS, hD]
  have put : ∀ H' o, SB S H H' → SB S H (L2.upd H' D o) := fun H' o s b u e => by
    have nb : b ≠ D := fun z => by rw [z, hD'] at e; cases e
    have e2 := s b u e
    have nS : b ≠ S := fun z => by
      rw [z] at e
      unfold hide at e
      rw [if_pos rfl] at e
      cases e
    refine hide_ne ?_ nS
    rw [upd_ne nb]
    exact hide_same _ _ e2
  refine lc_it wk (fun i H' => SB S H H' ∧ DkAt H' S (st i) ∧ H' D = some (.lst ((List.range i).map val))) ⟨put _ _ (SB.refl _ _), by unfold DkAt; rw [upd_ne (Ne.symm DS)]; exact hS, upd_same⟩ (fun i H' _ e => hG _ e.1) (fun i x H' H2 hi e y => ?_) (fun H' e => hd H' e.1 e.2.1 e.2.2)
  obtain ⟨s1, h0, h1⟩ := e
  have sY := hY i x H' H2 hi y
  refine turn i x H' H2 _ hi s1 (sY _ _ h0) y fun H4 s4 d4 => ⟨_, s4.at (sY _ _ h1) DS, ?_, put _ _ ((s1.trans (SB.of sY)).trans s4), by unfold DkAt; rw [upd_ne (Ne.symm DS)]; exact d4, ?_⟩
  · rw [List.length_map, List.length_range, sizeLine_eq]
    omega
  · rw [upd_same, List.range_succ, List.map_append]
    rfl
end
/-! the deck of a cell -/
def dkP : Nat := 2305843009213693951
def stir : Nat → Int → Nat × Nat
  | 0, c => ((c.fmod (dkP : Nat)).toNat, 0)
  | k + 1, c => let a := (stir k c).1; let b := (a * a + 48271 * a + 6364136223846793 * (k + 1)) % dkP; (b, (stir k c).2 * dkP + b)
theorem stir_lt : ∀ k c, (stir k c).1 < dkP
  | 0, c => by
    have h1 := fm0 (m := (dkP : Nat)) (by decide) c
    have h2 := fm1 (m := (dkP : Nat)) (by decide) c
    show ((c.fmod (dkP : Nat)).toNat) < dkP
    omega
  | k + 1, c => Nat.mod_lt _ (by decide)
def dkOf (c : Int) : Dk := if (10 : Int) ^ 18 ≤ c then ((c - 10 ^ 18).toNat, (stir 16 c).2) else ((stir 16 c).2, 0)
def spDe : Sp := fun vs H Q _ => ∃ c : Int, vs = [.int c] ∧ ∀ H' S, Same H H' → H S = none → DkAt H' S (dkOf c) → Q (.ref S) H'
def sgA : Str := "\n !\"#$&'()*+,-.0123456789:;<=>?@ABCDEFGHIJKLMNOPQRSTUVWXYZ[\\]^_"
def sgB : Str := "`abcdefghijklmnopqrstuvwxyz{|}~/"
def sgS : Str := sgA ++ sgB
def spSi : Sp := fun vs H Q _ => vs = [] ∧ Q (.str sgS) H
def sgC (i : Nat) : Nat := (cs sgS).getD i 0
theorem sg_len : (cs sgS).length = 95 := by decide +kernel
theorem sg_at {i : Nat} (h : i < 95) : (cs sgS)[i]? = some (sgC i) := by
  rw [← sg_len] at h
  unfold sgC
  rw [List.getElem?_eq_getElem h, List.getD_eq_getElem?_getD, List.getElem?_eq_getElem h]
  rfl
def txt (l : List Nat) : Str := ⟨(l.map sgC).toArray⟩
theorem txt_len (l : List Nat) : (txt l).length = l.length := by
  show ((l.map sgC).toArray).size = _
  simp
theorem txt_join (l : List Nat) : Txt.join "" ((l.map sgC).map sg) = txt l := join_sg _
def txD (most : Nat) (d : Dk) : Str × Dk := (txt (drs 95 (dr (most + 1) d).1 (dr (most + 1) d).2).1, (drs 95 (dr (most + 1) d).1 (dr (most + 1) d).2).2)
def spTx : Sp := fun vs H Q _ => ∃ (S : Addr) (m : Nat) (d : Dk), vs = [.ref S, .int (m : Nat)] ∧ m ≤ 1000 ∧ DkAt H S d ∧ ∀ H', SB S H H' → DkAt H' S (txD m d).2 → Q (.str (txD m d).1) H'
def ptW : List Str := ["a", "b", "ab", "a!"]
def prB (x : Str) : Str := if x = "." ∨ x = ".." then x ++ "a" else x
def prD (d : Dk) : Str × Dk :=
  if (dr 2 d).1 = 0 then (ptW.getD (dr 4 (dr 2 d).2).1 "", (dr 4 (dr 2 d).2).2)
  else (prB (txt (drs 94 (1 + (dr 3 (dr 2 d).2).1) (dr 3 (dr 2 d).2).2).1), (drs 94 (1 + (dr 3 (dr 2 d).2).1) (dr 3 (dr 2 d).2).2).2)
def spPr : Sp := fun vs H Q _ => ∃ (S : Addr) (d : Dk), vs = [.ref S] ∧ DkAt H S d ∧ ∀ H', SB S H H' → DkAt H' S (prD d).2 → Q (.str (prD d).1) H'
def spJo : Sp := fun vs H Q _ => ∃ (ps : List Str) (q : Str), vs = [.str (say ps), .str q] ∧ (∀ p ∈ ps, Gp p) ∧ (say ps).length ≤ 100000 ∧ q.length ≤ 100000 ∧ Q (.str (say (ps ++ [q]))) H
theorem sgC_fr : ∀ i, i < 94 → sgC i ≠ 47 := by decide +kernel
theorem txt_fr {l : List Nat} (h : ∀ x ∈ l, x < 94) : Fr (txt l) := fun m => by
  have m : 47 ∈ l.map sgC := by simpa [txt, cs] using m
  obtain ⟨i, mi, e⟩ := List.mem_map.mp m
  exact sgC_fr i (h i mi) e
theorem txt_ne {l : List Nat} (h : 1 ≤ l.length) : txt l ≠ "" := fun e => by
  have z := txt_len l
  rw [e] at z
  have : ("" : Str).length = 0 := by decide +kernel
  omega
theorem pr_ok (d : Dk) : Gp (prD d).1 ∧ (prD d).1.length ≤ 3 := by
  unfold prD
  split
  · have key : ∀ i, i < 4 → Gp (ptW.getD i "") ∧ (ptW.getD i "").length ≤ 3 := by
      intro i hi
      have : i = 0 ∨ i = 1 ∨ i = 2 ∨ i = 3 := by omega
      rcases this with rfl | rfl | rfl | rfl <;> exact ⟨⟨by decide +kernel, by decide +kernel, by decide +kernel, by unfold Fr; decide +kernel⟩, by decide +kernel⟩
    exact key _ (dr_lt (by decide) _)
  · have hn := dr_lt (m := 3) (by decide) (dr 2 d).2
    generalize hl : (drs 94 (1 + (dr 3 (dr 2 d).2).1) (dr 3 (dr 2 d).2).2) = r
    have l1 : r.1.length = 1 + (dr 3 (dr 2 d).2).1 := by rw [← hl]; exact drs_len _ _ _
    have l2 : ∀ x ∈ r.1, x < 94 := by rw [← hl]; exact drs_lt (by decide) _ _
    have f := txt_fr l2
    have ne := txt_ne (l := r.1) (by omega)
    have tl := txt_len r.1
    show Gp (prB (txt r.1)) ∧ (prB (txt r.1)).length ≤ 3
    unfold prB
    split
    · rename_i h
      rcases h with h | h <;> rw [h] <;> exact ⟨⟨by decide +kernel, by decide +kernel, by decide +kernel, by unfold Fr; decide +kernel⟩, by decide +kernel⟩
    · rename_i h
      exact ⟨⟨ne, fun z => h (.inl z), fun z => h (.inr z), f⟩, by omega⟩
end Qb
end PySem
namespace PySem
namespace Qb
open PySem.W PySem.Calls PyProof.Rows L2
/-! # the law's draws: the defs -/
theorem cast1 (P a i C : Nat) : (((a * a + 48271 * a + C * (i + 1)) % P : Nat) : Int) = ((a : Int) * a + 48271 * a + (C : Int) * ((i : Int) + 1)) % (P : Int) := by
  rw [Int.natCast_emod, Int.natCast_add, Int.natCast_add, Int.natCast_mul, Int.natCast_mul, Int.natCast_mul, Int.natCast_add]
  rfl
theorem cast2 (P t b : Nat) : ((t * P + b : Nat) : Int) = (t : Int) * P + b := by
  push_cast
  rfl
section
variable {P : Program} {w : World} {K : Frag} {mg : Str → Option Value} {base : Heap}
abbrev sDe : Stmt := top 94
abbrev nDe : List Str := ["_law_cell_here", "_law_number_here", "_law_total", "_law_k"]
theorem scDe : FnScope nDe ["_law_cell_here"] (defScope sDe) := ⟨rfl, rfl, rfl, by decide +kernel, rfl, by decide +kernel, by decide +kernel⟩
theorem has_De {f : Addr} {fd : FuncData}  (F : Fun K "_law_deck" "_law_deck" sDe f fd) (g : mg "_law_deck" = some (.ref f)) (B : Blt mg)  :
    Has P w K mg base 1 "_law_deck" ["_law_cell_here"] (spDe) := by
  refine has_of F g (F.binds (ps := ["_law_cell_here"]) fun _ _ _ _ _ _ us hl => match us, hl with | [_], _ => rfl) (F.ok scDe (fun vs H Q E h => ?_) (fun cdv A outer s H vs Q E hr h => ?_))
  · obtain ⟨c, rfl, _⟩ := h
    rfl
  · refine ⟨_, (pss_cons (ps_set (i := 1) scDe.nd rfl (.inl rfl) (pe_op op_modN (pe_callTy call_int1 (by rfl) B.int (by decide +kernel) (pa_cons (pv 0) pa_nil)) pe_int))
        (pss_cons (ps_set (i := 2) scDe.nd rfl (.inl rfl) pe_int)
        (pss_cons (ps_for PassesOwn.never rfl (pi_range1 (by rfl) B.range (pa_cons pe_int pa_nil)) (pg_name (i := 3) scDe.nd rfl (.inl rfl))
          (pss_cons (ps_set (i := 1) scDe.nd rfl (.inl rfl) (pe_op op_modN (pe_callTy call_int1 (by rfl) B.int (by decide +kernel) (pa_cons (pe_op op_add (pe_op op_add (pe_op op_mul (pv 1) (pv 1)) (pe_op op_mul pe_int (pv 1))) (pe_op op_mul pe_int (pe_op op_add (pv 3) pe_int))) pa_nil)) pe_int))
          (pss_one (ps_set (i := 2) scDe.nd rfl (.inl rfl) (pe_op op_add (pe_op op_mul (pv 2) pe_int) (pv 1))))))
        (pss_cons (ps_if (pt_cmpR op_ge (pv 0) (pe_op op_pow pe_int pe_int) (nomark _)) (pss_one (ps_ret (pe_lst (pa_cons (pe_op op_sub (pv 0) (pe_op op_pow pe_int pe_int)) (pa_cons (pv 2) pa_nil))))) pss_nil)
        (pss_one (ps_ret (pe_lst (pa_cons (pv 2) (pa_cons pe_int pa_nil))))))))), ?_⟩
    obtain ⟨c, rfl, k⟩ := h
    have b0 : 0 ≤ c.fmod (dkP : Nat) := fm0 (by decide) c
    have ne : ∀ x : Int, (fun _ j => j ≠ 0 : Int → Int → Prop) x 2305843009213693951 := fun _ => by show (2305843009213693951 : Int) ≠ 0; decide
    refine ⟨_, rfl, .inl ⟨_, rfl, _, _, rfl, rfl, ne c, _, rfl, by decide, by decide, ?_⟩⟩
    refine for_range (lo := 0) (n := 16) (fun i σ H' => ∃ v3, σ = [some (.int c), some (.int ((stir i c).1 : Nat)), some (.int ((stir i c).2 : Nat)), v3] ∧ H' = H) ⟨none, ?_, rfl⟩ (fun i σ H' hi e => ?_) (fun σ H' e => ?_)
    · have e : ((stir 0 c).1 : Int) = c.fmod (dkP : Nat) := by
        show ((c.fmod (dkP : Nat)).toNat : Int) = _
        omega
      rw [e]
      rfl
    · obtain ⟨v3, rfl, rfl⟩ := e
      have hl : (stir i c).1 < 2305843009213693951 := stir_lt i c
      have en : ((stir (i + 1) c).1 : Int) = (((stir i c).1 : Int) * ((stir i c).1 : Int) + 48271 * ((stir i c).1 : Int) + 6364136223846793 * (0 + (i : Int) + 1)).fmod 2305843009213693951 := by
        rw [Int.fmod_eq_emod_of_nonneg _ (by decide)]
        show (((((stir i c).1 * (stir i c).1 + 48271 * (stir i c).1 + 6364136223846793 * (i + 1)) % dkP : Nat)) : Int) = _
        rw [Int.zero_add]
        exact cast1 dkP _ i 6364136223846793
      have et : ((stir (i + 1) c).2 : Int) = ((stir i c).2 : Int) * 2305843009213693951 + ((stir (i + 1) c).1 : Int) := by
        show (((stir i c).2 * dkP + (stir (i + 1) c).1 : Nat) : Int) = _
        exact cast2 dkP _ _
      refine ⟨_, rfl, _, rfl, _, _, rfl, rfl, .inl ⟨by omega, by omega⟩, _, rfl, _, _, rfl, rfl, .inl ⟨by decide, by decide⟩, _, _, rfl, rfl, _, rfl, _, _, rfl, rfl, _, _, rfl, rfl, .inl ⟨by decide, by decide⟩, _, _, rfl, rfl, .inl ⟨_, rfl, _, _, rfl, rfl, by show (2305843009213693951 : Int) ≠ 0; decide, ?_⟩⟩
      refine ⟨_, rfl, _, _, rfl, rfl, .inr ⟨by decide, by decide⟩, _, rfl, _, _, rfl, rfl, ⟨some (.int (0 + (i : Nat))), ?_, rfl⟩⟩
      rw [et, en]
      rfl
    · obtain ⟨v3, rfl, rfl⟩ := e
      have p18 : (10 : Int) ^ (18 : Int).toNat = 10 ^ 18 := rfl
      have pw : ∀ Q' : Prop, Q' → (0 ≤ (18 : Int) ∧ (18 : Int) ≤ 1000000 ∧ (10 : Int).natAbs < 2 ^ 64) ∧ Q' := fun _ q => ⟨⟨by decide, by decide, by decide⟩, q⟩
      refine ⟨_, rfl, _, _, rfl, rfl, ⟨by decide, by decide, by decide⟩, _, _, rfl, rfl, _, rfl, if_by (fun e => ?_) (fun e => ?_)⟩
      · have e : (10 : Int) ^ 18 ≤ c := of_decide_eq_true e
        refine ⟨_, rfl, _, _, rfl, rfl, ⟨by decide, by decide, by decide⟩, _, _, rfl, rfl, _, rfl, (by decide : 2 ≤ sizeLine), fun p np => k _ p (same_upd np) np ?_⟩
        have e2 : dkOf c = ((c - 10 ^ 18).toNat, (stir 16 c).2) := if_pos e
        unfold DkAt
        rw [upd_same, e2]
        show some (HO.lst [V.int (c - 10 ^ 18), V.int ((stir 16 c).2 : Nat)]) = some (HO.lst [V.int (((c - 10 ^ 18).toNat : Nat) : Int), V.int ((stir 16 c).2 : Nat)])
        rw [Int.toNat_of_nonneg (by omega)]
      · have e : ¬ (10 : Int) ^ 18 ≤ c := of_decide_eq_false e
        refine ⟨_, rfl, (by decide : 2 ≤ sizeLine), fun p np => k _ p (same_upd np) np ?_⟩
        have e2 : dkOf c = ((stir 16 c).2, 0) := if_neg e
        unfold DkAt
        rw [upd_same, e2]
        rfl
abbrev sDr : Stmt := top 95
abbrev nDr : List Str := ["_law_deck_here", "_law_many", "_law_taken"]
theorem scDr : FnScope nDr ["_law_deck_here", "_law_many"] (defScope sDr) := ⟨rfl, rfl, rfl, by decide +kernel, rfl, by decide +kernel, by decide +kernel⟩
theorem has_Dr {f : Addr} {fd : FuncData}  (F : Fun K "_law_draw" "_law_draw" sDr f fd) (g : mg "_law_draw" = some (.ref f)) (B : Blt mg)  :
    Has P w K mg base 1 "_law_draw" ["_law_deck_here", "_law_many"] (spDr) := by
  refine has_of F g (F.binds (ps := ["_law_deck_here", "_law_many"]) fun _ _ _ _ _ _ us hl => match us, hl with | [_, _], _ => rfl) (F.ok scDr (fun vs H Q E h => ?_) (fun cdv A outer s H vs Q E hr h => ?_))
  · obtain ⟨S, m, d, rfl, _⟩ := h
    rfl
  · refine ⟨_, (pss_cons (ps_weak (ps_if (pt_cmpR op_eq (pe_ix ix_list (pv 0) pe_int (fun _ _ => rfl)) pe_int (nomark _)) (pss_cons (ps_asg (pe_ix ix_list (pv 0) pe_int (fun _ _ => rfl)) (pg_sub (pv 0) pe_int set_list))
          (pss_one (ps_asg pe_int (pg_sub (pv 0) pe_int set_list)))) pss_nil))
        (pss_cons (ps_set (i := 2) scDr.nd rfl (.inl rfl) (pe_op op_modN (pe_callTy call_int1 (by rfl) B.int (by decide +kernel) (pa_cons (pe_ix ix_list (pv 0) pe_int (fun _ _ => rfl)) pa_nil)) (pv 1)))
        (pss_cons (ps_asg (pe_op op_fdivW (pe_ix ix_list (pv 0) pe_int (fun _ _ => rfl)) (pv 1)) (pg_sub (pv 0) pe_int set_list))
        (pss_one (ps_ret (pv 2)))))), ?_⟩
    obtain ⟨S, m, d, rfl, m0, m1, hd, k⟩ := h
    have mi : (0 : Int) < (m : Nat) := by omega
    have hdL : SqL K H S [V.int (d.1 : Nat), V.int (d.2 : Nat)] := SqL.of hd
    refine ⟨fun σ' H' => σ' = [some (.ref S), some (.int (m : Nat)), none] ∧ SB S H H' ∧ DkAt H' S (drE d), fun σ' H' e => ?_, ?_⟩
    · obtain ⟨rfl, s1, hd1⟩ := e
      have hdL1 : SqL K H' S [V.int ((drE d).1 : Nat), V.int ((drE d).2 : Nat)] := SqL.of hd1
      refine ⟨_, rfl, S, _, _, _, rfl, rfl, hdL1, rfl, .inl ⟨_, rfl, _, rfl, _, _, rfl, rfl, Int.ne_of_gt mi, ?_⟩⟩
      refine ⟨_, rfl, S, _, _, _, rfl, rfl, hdL1, rfl, _, rfl, _, _, rfl, rfl, wide_div (b := 200) mi (by have : m < 2 ^ 200 := Nat.lt_of_le_of_lt m1 (by decide); omega) (by decide) (by decide), _, rfl, S, _, _, 0, rfl, rfl, hd1, rfl, ?_⟩
      have e1 : (((drE d).1 : Nat) : Int).fmod ((m : Nat) : Int) = (((dr m d).1 : Nat) : Int) := by
        rw [Int.fmod_eq_emod_of_nonneg _ (by omega)]
        show _ = ((((drE d).1 % m : Nat)) : Int)
        exact (Int.natCast_emod ..).symm
      have z := k (L2.upd H' S (.lst [.int ((((drE d).1 : Nat) : Int) / ((m : Nat) : Int)), .int ((drE d).2 : Nat)])) (s1.trans SB.put) ?_
      · rw [← e1] at z
        exact ⟨_, rfl, z⟩
      unfold DkAt
      rw [upd_same]
      have e2 : (((drE d).1 : Nat) : Int) / ((m : Nat) : Int) = (((dr m d).2.1 : Nat) : Int) := by
        show _ = ((((drE d).1 / m : Nat)) : Int)
        exact (Int.natCast_ediv ..).symm
      show some (HO.lst [V.int ((((drE d).1 : Nat) : Int) / ((m : Nat) : Int)), V.int ((drE d).2 : Nat)]) = _
      rw [e2]
      rfl
    · refine ⟨_, rfl, S, _, _, _, rfl, rfl, hdL, rfl, rfl, _, rfl, if_by (fun e => ?_) (fun e => ?_)⟩
      · have e : d.1 = 0 := by
          have z := V.int.inj (of_decide_eq_true e)
          omega
        refine ⟨_, rfl, S, _, _, _, rfl, rfl, hdL, rfl, _, rfl, S, _, _, 0, rfl, rfl, hd, rfl, _, rfl, S, _, _, 1, rfl, rfl, upd_same, rfl, rfl, SB.put.trans SB.put, ?_⟩
        unfold DkAt drE
        rw [upd_same, if_pos e]
        rfl
      · have e : ¬ d.1 = 0 := fun z => by
          have y := of_decide_eq_false e
          exact y (by rw [z]; rfl)
        refine ⟨rfl, SB.refl _ _, ?_⟩
        unfold drE
        rw [if_neg e]
        exact hd
abbrev sSi : Stmt := top 96
abbrev nSi : List Str := ["_law_signs_here"]
theorem scSi : FnScope nSi [] (defScope sSi) := ⟨rfl, rfl, rfl, by decide +kernel, rfl, by decide +kernel, by decide +kernel⟩
theorem has_Si {f : Addr} {fd : FuncData}  (F : Fun K "_law_signs" "_law_signs" sSi f fd) (g : mg "_law_signs" = some (.ref f)) (B : Blt mg)  :
    Has P w K mg base 1 "_law_signs" [] (spSi) := by
  refine has_of F g (F.binds (ps := []) fun _ _ _ _ _ _ us hl => match us, hl with | [], _ => rfl) (F.ok scSi (fun vs H Q E h => ?_) (fun cdv A outer s H vs Q E hr h => ?_))
  · obtain ⟨rfl, _⟩ := h
    rfl
  · refine ⟨_, (pss_cons (ps_set (i := 0) scSi.nd rfl (.inl rfl) pe_str)
        (pss_one (ps_ret (pe_op op_add_str (pv 0) pe_str)))), ?_⟩
    obtain ⟨rfl, k⟩ := h
    exact ⟨_, rfl, _, _, rfl, rfl, by decide +kernel, k⟩
end
end Qb
end PySem
namespace PySem
namespace Qb
open PySem.W PySem.Calls PyProof.Rows L2
/-! # the law's texts and parts -/
theorem big30 {n : Nat} (h : n ≤ 100000000) : -(2 ^ 62) ≤ ((n : Nat) : Int) ∧ ((n : Nat) : Int) < 2 ^ 62 := by
  have e : (100000000 : Int) < 2 ^ 62 := by decide
  exact ⟨by omega, by omega⟩
theorem e_len : ("" : Str).length = 0 := by decide +kernel
theorem sg_fits (l : List Nat) (h : l.length ≤ 1000000) : ((l.map sg).map (·.length)).sum + (l.map sg).length * ("" : Str).length ≤ 16777216 := by
  rw [sum_sg, e_len]
  omega
section
variable {P : Program} {w : World} {K : Frag} {mg : Str → Option Value} {base : Heap}
abbrev sTx : Stmt := top 97
abbrev nTx : List Str := ["_law_deck_here", "_law_most", "_law_k"]
theorem scTx : FnScope nTx ["_law_deck_here", "_law_most"] (defScope sTx) := ⟨rfl, rfl, rfl, by decide +kernel, rfl, by decide +kernel, by decide +kernel⟩
theorem has_Tx {f : Addr} {fd : FuncData}  (F : Fun K "_law_text" "_law_text" sTx f fd) (g : mg "_law_text" = some (.ref f)) (B : Blt mg) (hDr : Has P w K mg base 1 "_law_draw" ["_law_deck_here", "_law_many"] (spDr)) (hSi : Has P w K mg base 1 "_law_signs" [] (spSi)) :
    Has P w K mg base 2 "_law_text" ["_law_deck_here", "_law_most"] (spTx) := by
  obtain ⟨fDr, dDr, gDr, kDr, bDr, GDr⟩ := hDr
  obtain ⟨fSi, dSi, gSi, kSi, bSi, GSi⟩ := hSi
  refine has_of F g (F.binds (ps := ["_law_deck_here", "_law_most"]) fun _ _ _ _ _ _ us hl => match us, hl with | [_, _], _ => rfl) (F.ok scTx (fun vs H Q E h => ?_) (fun cdv A outer s H vs Q E hr h => ?_))
  · obtain ⟨S, m, d, rfl, _⟩ := h
    rfl
  · refine ⟨_, (pss_one (ps_ret (pe_join pe_str (pe_lc (own := [("_law_k", 2)]) (g := gName 2) (tt := tYes) rfl scTx.nd (pi_range1 (by rfl) B.range (pa_cons (pe_call GDr hr rfl gDr kDr bDr .nil pass0 (pa_cons (pv 0) (pa_cons (pe_op op_add (pv 1) pe_int) pa_nil))) pa_nil)) (blkOk_by (N := nTx) (sc := defScope sTx) (by decide +kernel)) (fun _ _ _ _ _ => pg_name (i := 2) scTx.nd rfl (.inl rfl)) (fun _ _ _ _ _ => pts_nil) (fun _ _ _ _ _ => (pe_ix ix_str (pe_call0 GSi hr rfl gSi kSi bSi .nil pass0) (pe_call GDr hr rfl gDr kDr bDr .nil pass0 (pa_cons (pv 0) (pa_cons pe_int pa_nil))) (fun _ _ => rfl))))))), ?_⟩
    obtain ⟨S, m, d, rfl, m1, hd, k⟩ := h
    have lt := dr_lt (m := m + 1) (by omega) d
    have bb := big30 (n := (dr (m + 1) d).1) (by omega)
    refine ⟨⟨_, rfl⟩, _, rfl, _, rfl, _, _, rfl, rfl, S, m + 1, d, rfl, by omega, Nat.le_trans (by omega : m + 1 ≤ 2000) (by decide), hd, fun H1 s1 d1 => ⟨_, rfl, bb.1, bb.2, fun D hD => ?_⟩⟩
    have fin : ∀ H', SB S H H' → DkAt H' S (drs 95 (dr (m + 1) d).1 (dr (m + 1) d).2).2 → Q (.str (txt (drs 95 (dr (m + 1) d).1 (dr (m + 1) d).2).1)) H' := fun H' s e => k H' s e
    generalize (dr (m + 1) d).1 = n at lt fin ⊢
    refine lc_st (walk_range (lo := 0) (n := n)) (fun i => (drs 95 i (dr (m + 1) d).2).2) (fun i => .str (sg (sgC (dr 95 (drs 95 i (dr (m + 1) d).2).2).1))) d1 hD (by omega) (fun _ _ => trivial) (fun i x H1 H' _ y => by rw [y.1]; exact Same.refl _) (fun i x H2 H3 Q hi s2 d2 y kk => ?_) (fun H' s2 d2 hq => ?_)
    · obtain ⟨rfl, rfl⟩ := y
      refine ⟨rfl, rfl, _, rfl, S, 95, _, rfl, by decide, by decide, d2, fun H4 s4 d4 => ?_⟩
      exact ⟨_, _, _, rfl, rfl, by decide +kernel, atI_nat (sg_at (dr_lt (by decide) _)), kk _ s4 d4⟩
    · rw [drs_range (fun x => V.str (sg (sgC x)))] at hq
      have l := drs_len 95 n (dr (m + 1) d).2
      refine ⟨"", D, _, rfl, rfl, .inl (SqL.of (xs := (((drs 95 n (dr (m + 1) d).2).1.map sgC).map sg).map V.str) ?_), sg_fits _ (by rw [List.length_map, l]; omega), ?_⟩
      · rw [hq, List.map_map, List.map_map]
        rfl
      · rw [txt_join]
        exact fin H' (s1.trans s2) d2
abbrev sPr : Stmt := top 98
abbrev nPr : List Str := ["_law_deck_here", "_law_part_here", "_law_k"]
theorem scPr : FnScope nPr ["_law_deck_here"] (defScope sPr) := ⟨rfl, rfl, rfl, by decide +kernel, rfl, by decide +kernel, by decide +kernel⟩
theorem has_Pr {f : Addr} {fd : FuncData}  (F : Fun K "_law_part" "_law_part" sPr f fd) (g : mg "_law_part" = some (.ref f)) (B : Blt mg) (hDr : Has P w K mg base 1 "_law_draw" ["_law_deck_here", "_law_many"] (spDr)) (hSi : Has P w K mg base 1 "_law_signs" [] (spSi)) :
    Has P w K mg base 2 "_law_part" ["_law_deck_here"] (spPr) := by
  obtain ⟨fDr, dDr, gDr, kDr, bDr, GDr⟩ := hDr
  obtain ⟨fSi, dSi, gSi, kSi, bSi, GSi⟩ := hSi
  refine has_of F g (F.binds (ps := ["_law_deck_here"]) fun _ _ _ _ _ _ us hl => match us, hl with | [_], _ => rfl) (F.ok scPr (fun vs H Q E h => ?_) (fun cdv A outer s H vs Q E hr h => ?_))
  · obtain ⟨S, d, rfl, _⟩ := h
    rfl
  · refine ⟨_, (pss_cons (ps_if (pt_cmpR op_eq (pe_call GDr hr rfl gDr kDr bDr .nil pass0 (pa_cons (pv 0) (pa_cons pe_int pa_nil))) pe_int (nomark _)) (pss_one (ps_ret (pe_ix ix_list (pe_lst (pa_cons pe_str (pa_cons pe_str (pa_cons pe_str (pa_cons pe_str pa_nil))))) (pe_call GDr hr rfl gDr kDr bDr .nil pass0 (pa_cons (pv 0) (pa_cons pe_int pa_nil))) (fun _ _ => rfl)))) pss_nil)
        (pss_cons (ps_set (i := 1) scPr.nd rfl (.inl rfl) (pe_join pe_str (pe_lc (own := [("_law_k", 2)]) (g := gName 2) (tt := tYes) rfl scPr.nd (pi_range1 (by rfl) B.range (pa_cons (pe_op op_add pe_int (pe_call GDr hr rfl gDr kDr bDr .nil pass0 (pa_cons (pv 0) (pa_cons pe_int pa_nil)))) pa_nil)) (blkOk_by (N := nPr) (sc := defScope sPr) (by decide +kernel)) (fun _ _ _ _ _ => pg_name (i := 2) scPr.nd rfl (.inl rfl)) (fun _ _ _ _ _ => pts_nil) (fun _ _ _ _ _ => (pe_ix ix_str (pe_call0 GSi hr rfl gSi kSi bSi .nil pass0) (pe_call GDr hr rfl gDr kDr bDr .nil pass0 (pa_cons (pv 0) (pa_cons pe_int pa_nil))) (fun _ _ => rfl))))))
        (pss_cons (ps_if (pt_cmpR op_in_seq (pv 1) (pe_tup (pa_cons pe_str (pa_cons pe_str pa_nil))) (by rfl)) (pss_one (ps_ret (pe_op op_add_str (pv 1) pe_str))) pss_nil)
        (pss_one (ps_ret (pv 1)))))), ?_⟩
    obtain ⟨S, d, rfl, hd, k⟩ := h
    refine ⟨_, rfl, S, 2, d, rfl, by decide, by decide, hd, fun H1 s1 d1 => ⟨rfl, _, rfl, if_by (fun e => ?_) (fun e => ?_)⟩⟩
    · have e0 : (dr 2 d).1 = 0 := by
        have z := V.int.inj (of_decide_eq_true e)
        omega
      refine ⟨(by decide : 4 ≤ sizeLine), fun p np => ?_⟩
      have nS := Ne.symm (ne_new d1 np)
      have d2 : DkAt (L2.upd H1 p (.lst [.str "a", .str "b", .str "ab", .str "a!"])) S (dr 2 d).2 := same_upd np _ _ d1
      refine ⟨_, rfl, S, 4, _, rfl, by decide, by decide, d2, fun H2 s2 d3 => ?_⟩
      have l4 := dr_lt (m := 4) (by decide) (dr 2 d).2
      have hp := s2.at (b := p) upd_same nS
      have hx : ([.str "a", .str "b", .str "ab", .str "a!"] : List V)[(dr 4 (dr 2 d).2).1]? = some (.str (ptW.getD (dr 4 (dr 2 d).2).1 "")) := by
        generalize (dr 4 (dr 2 d).2).1 = i at l4
        have : i = 0 ∨ i = 1 ∨ i = 2 ∨ i = 3 := by omega
        rcases this with rfl | rfl | rfl | rfl <;> rfl
      refine ⟨p, _, _, _, rfl, rfl, SqL.of hp, atI_nat hx, ?_⟩
      have e1 : prD d = (ptW.getD (dr 4 (dr 2 d).2).1 "", (dr 4 (dr 2 d).2).2) := if_pos e0
      have z := k H2 ((s1.trans (SB.of (same_upd np))).trans s2) (by rw [e1]; exact d3)
      rw [e1] at z
      exact z
    · have e0 : ¬ (dr 2 d).1 = 0 := fun z => by
        have y := of_decide_eq_false e
        exact y (by rw [z]; rfl)
      have e1 : prD d = (prB (txt (drs 94 (1 + (dr 3 (dr 2 d).2).1) (dr 3 (dr 2 d).2).2).1), (drs 94 (1 + (dr 3 (dr 2 d).2).1) (dr 3 (dr 2 d).2).2).2) := if_neg e0
      have lt := dr_lt (m := 3) (by decide) (dr 2 d).2
      rw [e1] at k
      refine ⟨⟨_, rfl⟩, _, rfl, S, 3, _, rfl, by decide, by decide, d1, fun H2 s2 d2 => ?_⟩
      have en : (1 : Int) + (((dr 3 (dr 2 d).2).1 : Nat) : Int) = ((1 + (dr 3 (dr 2 d).2).1 : Nat) : Int) := by omega
      refine ⟨_, _, rfl, rfl, _, congrArg (fun z => [V.int z]) en, ?_⟩
      generalize hn : 1 + (dr 3 (dr 2 d).2).1 = n at k
      have bb := big30 (n := n) (by omega)
      refine ⟨bb.1, bb.2, fun D hD => ?_⟩
      refine lc_st (walk_range (lo := 0) (n := n)) (fun i => (drs 94 i (dr 3 (dr 2 d).2).2).2) (fun i => .str (sg (sgC (dr 94 (drs 94 i (dr 3 (dr 2 d).2).2).2).1))) d2 hD (by omega) (fun _ _ => trivial) (fun i x H1 H' _ y => by rw [y.1]; exact Same.refl _) (fun i x H2 H3 Q hi s2 d2 y kk => ?_) (fun H' s3 d3 hq => ?_)
      · obtain ⟨rfl, rfl⟩ := y
        refine ⟨rfl, rfl, _, rfl, S, 94, _, rfl, by decide, by decide, d2, fun H4 s4 d4 => ?_⟩
        exact ⟨_, _, _, rfl, rfl, by decide +kernel, atI_nat (sg_at (Nat.lt_trans (dr_lt (by decide) _) (by decide))), kk _ s4 d4⟩
      · rw [drs_range (fun x => V.str (sg (sgC x)))] at hq
        have l := drs_len 94 n (dr 3 (dr 2 d).2).2
        refine ⟨"", D, _, rfl, rfl, .inl (SqL.of (xs := (((drs 94 n (dr 3 (dr 2 d).2).2).1.map sgC).map sg).map V.str) ?_), sg_fits _ (by rw [List.length_map, l]; omega), ?_⟩
        · rw [hq, List.map_map, List.map_map]
          rfl
        · rw [txt_join]
          generalize txt (drs 94 n (dr 3 (dr 2 d).2).2).1 = x at k
          have lx : True := trivial
          refine ⟨_, rfl, (by decide : 2 ≤ sizeLine), fun t nt => ⟨t, _, rfl, .inr (SqT.of upd_same), rfl, rfl, _, rfl, ?_⟩⟩
          have e2 : inV (.str x) [.str ".", .str ".."] = decide (x = "." ∨ x = "..") := by
            show inV (.str x) (([".", ".."] : List Str).map V.str) = _
            rw [inV_iff]
            simp
          rw [e2]
          have sA := ((s1.trans s2).trans s3).trans (SB.of (same_upd (o := .tup [.str ".", .str ".."]) nt))
          have dA := same_upd (o := .tup [.str ".", .str ".."]) nt _ _ d3
          have z := k _ sA dA
          by_cases e3 : x = "." ∨ x = ".."
          · refine if_yes (decide_eq_true e3) ⟨_, rfl, _, _, rfl, rfl, ?_, ?_⟩
            · rcases e3 with rfl | rfl <;> decide +kernel
            · unfold prB at z
              rw [if_pos e3] at z
              exact z
          · refine if_no (decide_eq_false e3) ⟨_, rfl, ?_⟩
            unfold prB at z
            rw [if_neg e3] at z
            exact z
abbrev sJo : Stmt := top 99
abbrev nJo : List Str := ["_law_folder", "_law_part_here"]
theorem scJo : FnScope nJo ["_law_folder", "_law_part_here"] (defScope sJo) := ⟨rfl, rfl, rfl, by decide +kernel, rfl, by decide +kernel, by decide +kernel⟩
theorem has_Jo {f : Addr} {fd : FuncData}  (F : Fun K "_law_joined" "_law_joined" sJo f fd) (g : mg "_law_joined" = some (.ref f)) (B : Blt mg)  :
    Has P w K mg base 1 "_law_joined" ["_law_folder", "_law_part_here"] (spJo) := by
  refine has_of F g (F.binds (ps := ["_law_folder", "_law_part_here"]) fun _ _ _ _ _ _ us hl => match us, hl with | [_, _], _ => rfl) (F.ok scJo (fun vs H Q E h => ?_) (fun cdv A outer s H vs Q E hr h => ?_))
  · obtain ⟨ps, q, rfl, _⟩ := h
    rfl
  · refine ⟨_, (pss_cons (ps_if (pt_cmpR op_eq (pv 0) pe_str (nomark _)) (pss_one (ps_ret (pe_op op_add_str pe_str (pv 1)))) pss_nil)
        (pss_one (ps_ret (pe_op op_add_str (pe_op op_add_str (pv 0) pe_str) (pv 1))))), ?_⟩
    obtain ⟨ps, q, rfl, gp, l1, l2, k⟩ := h
    have e0 := say_snoc gp q
    refine ⟨_, rfl, rfl, _, rfl, ?_⟩
    rw [dec_str]
    have f : ∀ a b : Str, a.length ≤ 300000 → b.length ≤ 300000 → a.length + b.length ≤ sizeLine := fun a b h1 h2 => by rw [sizeLine_eq]; omega
    have s1 : ("/" : Str).length = 1 := by decide +kernel
    by_cases e : say ps = "/"
    · rw [if_pos e] at e0
      refine if_yes (decide_eq_true e) ⟨_, rfl, _, _, rfl, rfl, f _ _ (by omega) (by omega), ?_⟩
      rw [← e0]
      exact k
    · rw [if_neg e] at e0
      refine if_no (decide_eq_false e) ⟨_, rfl, _, _, rfl, rfl, f _ _ (by omega) (by omega), _, rfl, _, _, rfl, rfl, f _ _ ?_ (by omega), ?_⟩
      · rw [len_cs, cs_app, List.length_append, ← len_cs, ← len_cs]
        omega
      · rw [← e0]
        exact k
end
end Qb
end PySem
namespace PySem
namespace Qb
open PySem.W PySem.Calls PyProof.Rows L2
/-! # files that are drawn: the mathematics -/
def leS (a b : Str) : Prop := Spec.ltCps b.cps.toList a.cps.toList = false
theorem leS_iff {a b : Str} : leS a b ↔ a.cps.toList ≤ b.cps.toList := by
  unfold leS
  rw [ltCps_eq, decide_eq_false_iff_not]
  exact List.not_lt
theorem leS_trans {a b c : Str} (h : leS a b) (g : leS b c) : leS a c := leS_iff.mpr (List.le_trans (leS_iff.mp h) (leS_iff.mp g))
theorem leS_anti {a b : Str} (h : leS a b) (g : leS b a) : a = b := by
  have e : cs a = cs b := List.le_antisymm (leS_iff.mp h) (leS_iff.mp g)
  rw [← st_cs a, e, st_cs]
theorem rising_pw : ∀ (l : List Str) (p : Str), risingS p l = true → (p :: l).Pairwise leS
  | [], p, _ => by simp
  | x :: r, p, h => by
    obtain ⟨h1, h2⟩ := Bool.and_eq_true_iff.mp (show (!Spec.ltCps x.cps.toList p.cps.toList && risingS x r) = true from h)
    have px : leS p x := by
      unfold leS
      simpa using h1
    have ih := rising_pw r x h2
    refine List.pairwise_cons.mpr ⟨fun y m => ?_, ih⟩
    rcases List.mem_cons.mp m with rfl | m
    · exact px
    · exact leS_trans px ((List.pairwise_cons.mp ih).1 y m)
theorem sorted_pw : ∀ {l : List Str}, sortedS l = true → l.Pairwise leS
  | [], _ => .nil
  | x :: r, h => rising_pw r x h
/-- two rows in order of the same texts -/
theorem sorted_eq {l m : List Str} (p : l.Perm m) (hl : sortedS l = true) (hm : sortedS m = true) : l = m :=
  List.Perm.eq_of_pairwise (fun a b _ _ h g => leS_anti h g) (sorted_pw hl) (sorted_pw hm) p
/-- in their order -/
noncomputable def srt (ks : List Str) : List Str := by
  classical exact if h : ∃ ys : List Str, ys.Perm ks ∧ sortedS ys = true then h.choose else ks
theorem srt_eq {ys ks : List Str} (p : ys.Perm ks) (s : sortedS ys = true) : srt ks = ys := by
  have h : ∃ ys : List Str, ys.Perm ks ∧ sortedS ys = true := ⟨ys, p, s⟩
  unfold srt
  rw [dif_pos h]
  obtain ⟨h1, h2⟩ := h.choose_spec
  exact sorted_eq (h1.trans p.symm) h2 s
theorem srt_mem (ks : List Str) (x : Str) : x ∈ srt ks ↔ x ∈ ks := by
  unfold srt
  split
  · rename_i h
    exact h.choose_spec.1.mem_iff
  · exact Iff.rfl
theorem srt_len (ks : List Str) : (srt ks).length = ks.length := by
  unfold srt
  split
  · rename_i h
    exact h.choose_spec.1.length_eq
  · rfl
def keysF (fs : Fls) : List Str := fs.map (·.1)
noncomputable def folders (fs : Fls) : List Str := "/" :: (srt (keysF fs)).filter fun x => lkF fs x == some none
theorem keys_kv (fs : Fls) : (kvF fs).map (·.1) = (keysF fs).map Sum.inr := by
  unfold kvF keysF
  rw [List.map_map, List.map_map]
  rfl
theorem lk_none {fs : Fls} {x : Str} : lkF fs x = none ↔ ¬ x ∈ keysF fs := by
  unfold lkF keysF
  rw [Option.map_eq_none_iff, List.find?_eq_none]
  constructor
  · intro h m
    obtain ⟨e, me, rfl⟩ := List.mem_map.mp m
    exact h e me (decide_eq_true rfl)
  · intro h e me z
    exact h (List.mem_map.mpr ⟨e, me, of_decide_eq_true z⟩)
theorem lk_some {fs : Fls} {x : Str} {o : Option Str} (h : lkF fs x = some o) : (x, o) ∈ fs := by
  unfold lkF at h
  obtain ⟨e, h1, h2⟩ := Option.map_eq_some_iff.mp h
  have := List.find?_some h1
  have e1 : e.1 = x := of_decide_eq_true this
  have m := List.mem_of_find?_eq_some h1
  obtain ⟨a, b⟩ := e
  subst e1 h2
  exact m
theorem lk_of {fs : Fls} (nd : (keysF fs).Nodup) {x : Str} {o : Option Str} (m : (x, o) ∈ fs) : lkF fs x = some o := by
  induction fs with
  | nil => cases m
  | cons e fs ih =>
    unfold lkF
    rw [List.find?_cons]
    have nd' := List.nodup_cons.mp nd
    rcases List.mem_cons.mp m with rfl | m
    · simp
    · have ne : ¬ e.1 = x := fun z => nd'.1 (List.mem_map.mpr ⟨_, m, z.symm⟩)
      rw [decide_eq_false ne]
      exact ih nd'.2 m
theorem lk_app {fs : Fls} {x y : Str} {o : Option Str} : lkF (fs ++ [(x, o)]) y = if lkF fs y = none then (if x = y then some o else none) else lkF fs y := by
  unfold lkF
  rw [List.find?_append]
  cases h : fs.find? fun e => decide (e.1 = y) with
  | none =>
    by_cases e : x = y
    · simp [e]
    · simp [e]
  | some z => simp
theorem any_key (fs : Fls) (x : Str) : ((kvF fs).any fun kv => decide (kv.1 = Sum.inr x)) = (lkF fs x).isSome := by
  rw [valV_any, valF]
  cases lkF fs x <;> rfl
theorem put_new {fs : Fls} {x : Str} {t : Option Str} (h : lkF fs x = none) : putK (kvF fs) (.inr x) (vF t) = kvF (fs ++ [(x, t)]) := by
  unfold putK
  rw [any_key, h]
  show (if (false = true) then _ else _) = _
  rw [if_neg Bool.false_ne_true]
  unfold kvF
  rw [List.map_append]
  rfl
theorem put_last {fs : Fls} {x : Str} {o t : Option Str} (h : lkF fs x = none) : putK (kvF (fs ++ [(x, o)])) (.inr x) (vF t) = kvF (fs ++ [(x, t)]) := by
  have n := lk_none.mp h
  unfold putK
  rw [any_key, lk_app, if_pos h, if_pos rfl]
  show (if (true = true) then _ else _) = _
  rw [if_pos rfl]
  unfold kvF
  rw [List.map_append, List.map_append, List.map_append]
  congr 1
  · rw [List.map_map]
    refine List.map_congr_left fun e me => ?_
    have ne : ¬ (Sum.inr e.1 : Key) = Sum.inr x := fun z => n (List.mem_map.mpr ⟨e, me, Sum.inr.inj z⟩)
    show (if (Sum.inr e.1 : Key) = Sum.inr x then _ else _) = _
    rw [if_neg ne]
  · simp
theorem merge_new : ∀ (more : Fls) (fs : Fls), (keysF (fs ++ more)).Nodup → mergeK (kvF fs) (kvF more) = kvF (fs ++ more)
  | [], fs, _ => by rw [List.append_nil]; rfl
  | (x, t) :: more, fs, nd => by
    have e : fs ++ (x, t) :: more = (fs ++ [(x, t)]) ++ more := by rw [List.append_assoc]; rfl
    have nx : lkF fs x = none := lk_none.mpr fun m => by
      unfold keysF at nd m
      rw [List.map_append] at nd
      exact (List.nodup_append.mp nd).2.2 x m x (.head _) rfl
    show mergeK (putK (kvF fs) (.inr x) (vF t)) (kvF more) = _
    rw [put_new nx, e]
    exact merge_new more _ (by rw [← e]; exact nd)
/-- one more thing, or none -/
noncomputable def fsPath (fs : Fls) (d : Dk) : Str × Dk :=
  let a := dr (folders fs).length d
  let b := prD a.2
  (if (folders fs).getD a.1 "" = "/" then "/" ++ b.1 else (folders fs).getD a.1 "" ++ "/" ++ b.1, b.2)
noncomputable def fsStep (fs : Fls) (d : Dk) : Fls × Dk :=
  let b := fsPath fs d
  if lkF fs b.1 = none then
    (if (dr 2 b.2).1 = 0 then (fs ++ [(b.1, some (txD 4 (dr 2 b.2).2).1)], (txD 4 (dr 2 b.2).2).2) else (fs ++ [(b.1, none)], (dr 2 b.2).2))
  else (fs, b.2)
noncomputable def fsRun : Nat → Dk → Fls × Dk
  | 0, d => ([], d)
  | n + 1, d => fsStep (fsRun n d).1 (fsRun n d).2
def SafeT (x : Str) : Prop := ∀ c ∈ cs x, c < 128
theorem SafeT.app {x y : Str} (h : SafeT x) (g : SafeT y) : SafeT (x ++ y) := fun c m => by
  rw [cs_app] at m
  exact (List.mem_append.mp m).elim (h c) (g c)
theorem safe_slash : SafeT "/" := by
  intro c m
  rw [cs_slash] at m
  rw [List.mem_singleton.mp m]
  decide
theorem sgC_lt : ∀ i, i < 95 → sgC i < 128 := by decide +kernel
theorem prD_safe (d : Dk) : SafeT (prD d).1 := by
  unfold prD
  split
  · have key : ∀ i, i < 4 → ∀ c ∈ cs (ptW.getD i ""), c < 128 := by decide +kernel
    exact key _ (dr_lt (by decide) _)
  · have l2 := drs_lt (m := 94) (by decide) (1 + (dr 3 (dr 2 d).2).1) (dr 3 (dr 2 d).2).2
    have l2 : SafeT (txt (drs 94 (1 + (dr 3 (dr 2 d).2).1) (dr 3 (dr 2 d).2).2).1) := fun c m => by
      have m : c ∈ (drs 94 (1 + (dr 3 (dr 2 d).2).1) (dr 3 (dr 2 d).2).2).1.map sgC := by simpa [txt, cs] using m
      obtain ⟨i, mi, rfl⟩ := List.mem_map.mp m
      exact sgC_lt i (Nat.lt_trans (l2 i mi) (by decide))
    show SafeT (prB _)
    unfold prB
    split
    · refine l2.app ?_
      intro c m
      have : c = 97 := by simpa [cs, show cs ("a" : Str) = [97] by decide +kernel] using m
      omega
    · exact l2
/-- what is drawn so is right -/
structure FOk (n : Nat) (fs : Fls) : Prop where
  nd : (keysF fs).Nodup
  few : fs.length ≤ n
  good : ∀ e ∈ fs, ∃ ps q, e.1 = say (ps ++ [q]) ∧ (∀ p ∈ ps, Gp p) ∧ Gp q ∧ isF fs (say ps) = true ∧ e.1.length ≤ 4 * n
  short : ∀ e ∈ fs, ∀ t, e.2 = some t → t.length ≤ 1000
  safe : ∀ e ∈ fs, SafeT e.1
theorem isF_more {fs : Fls} {x y : Str} {o : Option Str} (h : isF fs x = true) : isF (fs ++ [(y, o)]) x = true := by
  unfold isF at h ⊢
  rcases Bool.or_eq_true_iff.mp h with h | h
  · rw [h]; rfl
  · have e := eq_of_beq h
    rw [lk_app, e]
    simp
theorem folder_at {n : Nat} {fs : Fls} (h : FOk n fs) : ∀ x ∈ folders fs, ∃ ps, x = say ps ∧ (∀ p ∈ ps, Gp p) ∧ isF fs (say ps) = true ∧ x.length ≤ 4 * n + 1 := fun x m => by
  rcases List.mem_cons.mp m with rfl | m
  · refine ⟨[], say_nil.symm, (fun p m => by cases m), ?_, ?_⟩
    · unfold isF
      rw [say_nil, decide_eq_true rfl]
      rfl
    · have : ("/" : Str).length = 1 := by decide +kernel
      omega
  · obtain ⟨m1, m2⟩ := List.mem_filter.mp m
    have e := eq_of_beq m2
    obtain ⟨ps, q, e1, g1, g2, _, l⟩ := h.good _ (lk_some e)
    have e1 : x = say (ps ++ [q]) := e1
    refine ⟨ps ++ [q], e1, fun p m => (List.mem_append.mp m).elim (g1 p) fun m => by rw [List.mem_singleton.mp m]; exact g2, ?_, Nat.le_succ_of_le l⟩
    unfold isF
    rw [← e1, e]
    simp
theorem folder_safe {n : Nat} {fs : Fls} (h : FOk n fs) : ∀ x ∈ folders fs, SafeT x := fun x m => by
  rcases List.mem_cons.mp m with rfl | m
  · exact safe_slash
  · obtain ⟨m1, m2⟩ := List.mem_filter.mp m
    exact h.safe _ (lk_some (eq_of_beq m2))
theorem folders_pos (fs : Fls) : 0 < (folders fs).length := Nat.succ_pos _
theorem folders_len {n : Nat} {fs : Fls} (h : FOk n fs) : (folders fs).length ≤ n + 1 := by
  have h1 := List.length_filter_le (fun x => lkF fs x == some none) (srt (keysF fs))
  rw [srt_len] at h1
  have h2 : (keysF fs).length = fs.length := List.length_map ..
  have := h.few
  show ((srt (keysF fs)).filter _).length + 1 ≤ _
  omega
theorem getD_mem {l : List Str} {i : Nat} (h : i < l.length) : l.getD i "" ∈ l ∧ l[i]? = some (l.getD i "") := by
  rw [List.getD_eq_getElem?_getD, List.getElem?_eq_getElem h]
  exact ⟨List.getElem_mem h, rfl⟩
theorem say_top' {ps : List Str} (g : ∀ p ∈ ps, Gp p) (q : Str) : (if say ps = "/" then "/" ++ q else say ps ++ "/" ++ q) = say (ps ++ [q]) := (say_snoc g q).symm
/-- the path that is drawn -/
theorem fsPath_at {n : Nat} {fs : Fls} (h : FOk n fs) (d : Dk) : ∃ ps, (folders fs)[(dr (folders fs).length d).1]? = some (say ps) ∧ (fsPath fs d).1 = say (ps ++ [(prD (dr (folders fs).length d).2).1]) ∧ (∀ p ∈ ps, Gp p) ∧ isF fs (say ps) = true ∧ (say ps).length ≤ 4 * n + 1 ∧ (fsPath fs d).1.length ≤ 4 * (n + 1) := by
  have lt := dr_lt (folders_pos fs) d
  obtain ⟨m, e⟩ := getD_mem lt
  obtain ⟨ps, e1, g, f, l⟩ := folder_at h _ m
  have e2 : (fsPath fs d).1 = say (ps ++ [(prD (dr (folders fs).length d).2).1]) := by
    rw [← say_top' g, ← e1]
    rfl
  rw [e1] at e l
  refine ⟨ps, e, e2, g, f, l, ?_⟩
  have l3 := (pr_ok (dr (folders fs).length d).2).2
  have one : ("/" : Str).length = 1 := by decide +kernel
  rw [e2, ← say_top' g]
  split
  · rw [len_cs, cs_app, List.length_append, ← len_cs, ← len_cs]
    omega
  · rename_i hn
    rw [len_cs, cs_app, cs_app, List.length_append, List.length_append, ← len_cs, ← len_cs, ← len_cs]
    -- a folder that is not the top is a path
    have l' : (say ps).length ≤ 4 * n := by
      rcases List.mem_cons.mp m with e3 | m
      · exact absurd (by rw [← e1, e3]) hn
      · obtain ⟨m1, m2⟩ := List.mem_filter.mp m
        have e := eq_of_beq m2
        obtain ⟨_, _, _, _, _, _, l⟩ := h.good _ (lk_some e)
        rw [← e1]
        exact l
    omega
theorem ok_more {n : Nat} {fs : Fls} (h : FOk n fs) {d : Dk} (hn : lkF fs (fsPath fs d).1 = none) (o : Option Str) (ho : ∀ t, o = some t → t.length ≤ 1000) : FOk (n + 1) (fs ++ [((fsPath fs d).1, o)]) := by
  obtain ⟨ps, _, e, g, f, _, l⟩ := fsPath_at h d
  have gq := (pr_ok (dr (folders fs).length d).2).1
  refine ⟨?_, ?_, fun e' m => ?_, fun e' m t et => ?_, fun e' m => ?_⟩
  · unfold keysF
    rw [List.map_append]
    refine List.nodup_append.mpr ⟨h.nd, by simp, fun a ma b mb z => ?_⟩
    rw [List.mem_singleton.mp mb] at z
    subst z
    exact lk_none.mp hn ma
  · rw [List.length_append]
    exact Nat.succ_le_succ h.few
  · rcases List.mem_append.mp m with m | m
    · obtain ⟨ps', q', e1, g1, g2, f1, l1⟩ := h.good e' m
      exact ⟨ps', q', e1, g1, g2, isF_more f1, by omega⟩
    · rw [List.mem_singleton.mp m]
      exact ⟨ps, _, e, g, gq, isF_more f, l⟩
  · rcases List.mem_append.mp m with m | m
    · exact h.short e' m t et
    · rw [List.mem_singleton.mp m] at et
      exact ho t et
  · rcases List.mem_append.mp m with m | m
    · exact h.safe e' m
    · rw [List.mem_singleton.mp m]
      have q := prD_safe (dr (folders fs).length d).2
      have lt := dr_lt (folders_pos fs) d
      have f := folder_safe h _ (getD_mem lt).1
      show SafeT (if _ then _ else _)
      split
      · exact safe_slash.app q
      · exact (f.app safe_slash).app q
theorem ok_mono {n m : Nat} {fs : Fls} (h : FOk n fs) (l : n ≤ m) : FOk m fs :=
  ⟨h.nd, Nat.le_trans h.few l, fun e me => by
    obtain ⟨ps, q, a, b, c, d, l1⟩ := h.good e me
    exact ⟨ps, q, a, b, c, d, by omega⟩, h.short, h.safe⟩
theorem txD_len (m : Nat) (d : Dk) : (txD m d).1.length ≤ m := by
  have h := dr_lt (m := m + 1) (by omega) d
  show (txt _).length ≤ m
  rw [txt_len, drs_len]
  omega
theorem fsStep_ok {n : Nat} {fs : Fls} (h : FOk n fs) (d : Dk) : FOk (n + 1) (fsStep fs d).1 := by
  show FOk (n + 1) (if lkF fs (fsPath fs d).1 = none then (if (dr 2 (fsPath fs d).2).1 = 0 then _ else _) else _ : Fls × Dk).1
  split
  · rename_i hn
    split
    · exact ok_more h hn _ fun t e => by
        have := txD_len 4 (dr 2 (fsPath fs d).2).2
        rw [← Option.some.inj e]
        omega
    · exact ok_more h hn none fun t e => by cases e
  · exact ok_mono h (Nat.le_succ n)
theorem fsRun_ok : ∀ n d, FOk n (fsRun n d).1
  | 0, d => ⟨List.Pairwise.nil, Nat.le_refl _, (fun e m => by cases m), (fun e m => by cases m), (fun e m => by cases m)⟩
  | n + 1, d => fsStep_ok (fsRun_ok n d) _
/-- the other way round -/
theorem nodup_rev {l : List Str} (h : l.Nodup) : l.reverse.Nodup := List.pairwise_reverse.mpr (h.imp fun h => Ne.symm h)
theorem lk_rev {fs : Fls} (nd : (keysF fs).Nodup) (x : Str) : lkF fs.reverse x = lkF fs x := by
  have nr : (keysF fs.reverse).Nodup := by
    unfold keysF
    rw [List.map_reverse]
    exact nodup_rev nd
  cases h : lkF fs x with
  | none =>
    refine lk_none.mpr fun m => lk_none.mp h ?_
    unfold keysF at m ⊢
    rw [List.map_reverse] at m
    exact List.mem_reverse.mp m
  | some o => exact lk_of nr (List.mem_reverse.mpr (lk_some h))
theorem isF_rev {fs : Fls} (nd : (keysF fs).Nodup) (x : Str) : isF fs.reverse x = isF fs x := by
  unfold isF
  rw [lk_rev nd]
theorem rev_ok {n : Nat} {fs : Fls} (h : FOk n fs) : FOk n fs.reverse := by
  refine ⟨?_, by rw [List.length_reverse]; exact h.few, fun e m => ?_, fun e m => h.short e (List.mem_reverse.mp m), fun e m => h.safe e (List.mem_reverse.mp m)⟩
  · unfold keysF
    rw [List.map_reverse]
    exact nodup_rev h.nd
  · obtain ⟨ps, q, a, b, c, f, l⟩ := h.good e (List.mem_reverse.mp m)
    exact ⟨ps, q, a, b, c, by rw [isF_rev h.nd]; exact f, l⟩
noncomputable def fsD (most : Nat) (d : Dk) : Fls × Dk :=
  let r := fsRun (dr (most + 1) d).1 (dr (most + 1) d).2
  let c := dr 3 r.2
  (if c.1 = 0 then r.1.reverse else r.1, c.2)
theorem fsD_ok (most : Nat) (d : Dk) : FOk most (fsD most d).1 := by
  have h := dr_lt (m := most + 1) (by omega) d
  have o := ok_mono (fsRun_ok (dr (most + 1) d).1 (dr (most + 1) d).2) (by omega : _ ≤ most)
  show FOk most (if _ then _ else _)
  split
  · exact rev_ok o
  · exact o
theorem FOk.fgood {n : Nat} {fs : Fls} (h : FOk n fs) (hn : n ≤ 400) : FGood fs :=
  ⟨by have := h.few; omega, fun e m => by
    obtain ⟨ps, q, a, b, c, f, l⟩ := h.good e m
    exact ⟨ps, q, a, b, c, by rw [← a]; omega, f⟩⟩
end Qb
end PySem
namespace PySem
namespace Qb
open PySem.W PySem.Calls PyProof.Rows L2
/-! # files that are drawn: the defs -/
structure BltW (mg : Str → Option Value) : Prop where
  sorted : mg "sorted" = none
theorem SB.put_new {S p : Addr} {H H' : Hp} {o : HO} (s : SB S H H') (np : H p = none) : SB S H (L2.upd H' p o) := fun b u e => by
  have nb : b ≠ p := fun z => by
    have e2 := hide_same _ _ e
    rw [z, np] at e2
    cases e2
  have nS : b ≠ S := fun z => by
    rw [z] at e
    unfold hide at e
    rw [if_pos rfl] at e
    cases e
  refine hide_ne ?_ nS
  rw [upd_ne nb]
  exact hide_same _ _ (s b u e)
theorem SB.none {S p : Addr} {H H' : Hp} (s : SB S H H') (h : H' p = none) (ne : p ≠ S) : H p = none := by
  cases e : H p with
  | none => rfl
  | some o =>
    have := s.at e ne
    rw [h] at this
    cases this
def spFo : Sp := fun vs H Q _ => ∃ (a : Addr) (fs : Fls), vs = [.ref a] ∧ L2.Rd H a (.dK (kvF fs)) ∧ fs.length ≤ 60 ∧ ∀ H' p, Same H H' → H p = none → H' p = some (.lst ((folders fs).map V.str)) → Q (.ref p) H'
def spFs : Sp := fun vs H Q _ => ∃ (S : Addr) (m : Nat) (d : Dk), vs = [.ref S, .int (m : Nat)] ∧ m ≤ 50 ∧ DkAt H S d ∧ ∀ H' p, SB S H H' → DkAt H' S (fsD m d).2 → H p = none → Dz (hide H' S) p (kvF (fsD m d).1) → Q (.ref p) H'
def PrV (K : Frag) (H : Hp) (v : V) (kv : Key × V) : Prop := ∃ t, v = .ref t ∧ SqT K H t [kV kv.1, kv.2]
theorem PrV.mono {K : Frag} : ∀ (H1 H2 : Hp) (y : V) (a : Key × V), Same H1 H2 → PrV K H1 y a → PrV K H2 y a := fun _ _ _ _ s ⟨t, e, h⟩ => ⟨t, e, sqT_same s h⟩
theorem paired_imp {α β : Type} {F G : α → β → Prop} (f : ∀ a b, F a b → G a b) : ∀ {l : List α} {m : List β}, Paired F l m → Paired G l m
  | _, _, .nil => .nil
  | _, _, .cons h t => .cons (f _ _ h) (paired_imp f t)
theorem kvF_rev (fs : Fls) : (kvF fs).reverse = kvF fs.reverse := by
  unfold kvF
  rw [List.map_reverse]
theorem pairs_of {K : Frag} {H : Hp} : ∀ {ys : List V} {kvs : List (Key × V)}, All2 (PrV K H) ys kvs → ∃ ps : List Addr, ys = ps.map V.ref ∧ Paired (fun p kv => SqT K H p [kV kv.1, kv.2]) ps kvs
  | _, _, .nil => ⟨[], rfl, .nil⟩
  | _, _, .cons ⟨t, e, h⟩ r => by
    obtain ⟨ps, e2, p⟩ := pairs_of r
    exact ⟨t :: ps, by rw [e, e2]; rfl, .cons h p⟩
section
variable {P : Program} {w : World} {K : Frag} {mg : Str → Option Value} {base : Heap}
abbrev sFo : Stmt := top 100
abbrev nFo : List Str := ["_law_files_here", "_law_path_here"]
theorem scFo : FnScope nFo ["_law_files_here"] (defScope sFo) := ⟨rfl, rfl, rfl, by decide +kernel, rfl, by decide +kernel, by decide +kernel⟩
theorem has_Fo {f : Addr} {fd : FuncData}  (F : Fun K "_law_folders" "_law_folders" sFo f fd) (g : mg "_law_folders" = some (.ref f)) (B : Blt mg) (BW : BltW mg)  :
    Has P w K mg base 1 "_law_folders" ["_law_files_here"] (spFo) := by
  refine has_of F g (F.binds (ps := ["_law_files_here"]) fun _ _ _ _ _ _ us hl => match us, hl with | [_], _ => rfl) (F.ok scFo (fun vs H Q E h => ?_) (fun cdv A outer s H vs Q E hr h => ?_))
  · obtain ⟨a, fs, rfl, _⟩ := h
    rfl
  · have hu := hu_of hr
    refine ⟨_, (pss_one (ps_ret (pe_op op_cat (pe_lst (pa_cons pe_str pa_nil)) (pe_lc (own := [("_law_path_here", 1)]) (g := gName 1) rfl scFo.nd (pi_list (pe_callB (call_sortedD rfl) (by rfl) BW.sorted (by decide +kernel) (pa_cons (pv 0) pa_nil))) (blkOk_by (N := nFo) (sc := defScope sFo) (by decide +kernel)) (fun _ _ _ _ _ => pg_name (i := 1) scFo.nd rfl (.inl rfl)) (fun _ _ _ _ _ => pts_one (pt_cmpR op_isN (pe_dget hu (pv 0) (pv 1) (fun _ _ => rfl)) pe_non (nomark _))) (fun _ _ _ _ _ => (pv 1)))))), ?_⟩
    obtain ⟨a, fs, rfl, hd, hl, k⟩ := h
    have lk : (keysF fs).length = fs.length := List.length_map ..
    refine ⟨(by decide : 1 ≤ sizeLine), fun p np => ?_⟩
    have sp := same_upd (o := .lst [.str "/"]) np
    have rd : ∀ {H' : Hp}, Same H H' → L2.Rd H' a (.dK (kvF fs)) := fun s => by
      rcases hd with h | ⟨o, h⟩
      · exact .inl (s _ _ h)
      · exact .inr ⟨o, s _ _ h⟩
    refine ⟨_, rfl, a, _, keysF fs, rfl, rd sp, keys_kv fs, by omega, fun ys q pm so nq => ?_⟩
    have es : srt (keysF fs) = ys := srt_eq pm so
    have ly : ys.length = fs.length := by rw [pm.length_eq, lk]
    have sq := same_upd (o := .lst (ys.map V.str)) nq
    have hq : (L2.upd (L2.upd H p (.lst [.str "/"])) q (.lst (ys.map V.str))) q = some (.lst (ys.map V.str)) := upd_same
    generalize L2.upd (L2.upd H p (.lst [.str "/"])) q (.lst (ys.map V.str)) = H2 at sq hq ⊢
    have s2 := sp.trans sq
    have h_at : ∀ i x, ys[i]? = some x → ys.getD i "" = x := fun i x e => by rw [List.getD_eq_getElem?_getD, e]; rfl
    refine ⟨q, rfl, ⟨_, SqL.of hq⟩, fun D hD => lc_sel (walk_list (K := K) (a := q) (xs := ys.map V.str)) (fun i => .str (ys.getD i "")) (fun i => lkF fs (ys.getD i "") == some none) hD (by rw [List.length_map]; omega) (fun H' s => s.seq (SqL.of hq)) (fun i x H1 H' _ y => by rw [y.1]; exact Same.refl _) (fun i x H1 H' Q Qn hi s1 y k1 k2 => ?_) (fun H' s3 hD' => ?_)⟩
    · obtain ⟨rfl, hx⟩ := y
      obtain ⟨x, hy, rfl⟩ := str_at hx
      have mx : x ∈ keysF fs := pm.mem_iff.mp (List.mem_of_getElem? hy)
      rw [h_at i x hy] at k1 k2
      cases e : lkF fs x with
      | none => exact absurd mx (lk_none.mp e)
      | some o =>
        have g : DGet H' a (.str x) (some (vF o)) := by
          have z : DGet H' a (.str x) (valV (kvF fs) (.inr x)) := .inl ⟨_, _, rd (s2.trans s1), rfl, rfl⟩
          rw [valF, e] at z
          exact z
        refine ⟨rfl, _, rfl, _, rfl, a, _, rfl, g, rfl, _, rfl, ?_⟩
        cases o with
        | none =>
          refine if_yes rfl ⟨_, rfl, k1 _ (Same.refl _) ?_⟩
          rw [e]
          rfl
        | some t =>
          refine if_no rfl (k2 _ (Same.refl _) ?_)
          rw [e]
          rfl
    · have ef : ((List.range (ys.map V.str).length).filter fun i => lkF fs (ys.getD i "") == some none).map (fun i => V.str (ys.getD i "")) = (ys.filter fun x => lkF fs x == some none).map V.str := by
        rw [List.length_map]
        exact range_filter fun i x e => by
          show V.str (ys.getD i "") = V.str x ∧ (lkF fs (ys.getD i "") == some none) = (lkF fs x == some none)
          rw [h_at i x e]
          exact ⟨rfl, rfl⟩
      rw [ef] at hD'
      have lf := List.length_filter_le (fun x => lkF fs x == some none) ys
      refine ⟨p, D, _, _, rfl, rfl, s3 _ _ (sq _ _ upd_same), hD', ?_, fun r nr => k _ r (same_upd2 (s2.trans s3) (none_of (s2.trans s3) nr)) (none_of (s2.trans s3) nr) ?_⟩
      · rw [List.length_map, sizeLine_eq]
        show 1 + _ ≤ _
        omega
      · rw [upd_same]
        unfold folders
        rw [es]
        rfl
abbrev sFs : Stmt := top 101
abbrev nFs : List Str := ["_law_deck_here", "_law_most", "_law_files_here", "_law_k", "_law_folders_here", "_law_path_here"]
theorem scFs : FnScope nFs ["_law_deck_here", "_law_most"] (defScope sFs) := ⟨rfl, rfl, rfl, by decide +kernel, rfl, by decide +kernel, by decide +kernel⟩
theorem has_Fs {f : Addr} {fd : FuncData}  (F : Fun K "_law_files" "_law_files" sFs f fd) (g : mg "_law_files" = some (.ref f)) (B : Blt mg) (hDr : Has P w K mg base 1 "_law_draw" ["_law_deck_here", "_law_many"] (spDr)) (hFo : Has P w K mg base 1 "_law_folders" ["_law_files_here"] (spFo)) (hJo : Has P w K mg base 1 "_law_joined" ["_law_folder", "_law_part_here"] (spJo)) (hPr : Has P w K mg base 2 "_law_part" ["_law_deck_here"] (spPr)) (hTx : Has P w K mg base 2 "_law_text" ["_law_deck_here", "_law_most"] (spTx)) :
    Has P w K mg base 3 "_law_files" ["_law_deck_here", "_law_most"] (spFs) := by
  obtain ⟨fDr, dDr, gDr, kDr, bDr, GDr⟩ := hDr
  obtain ⟨fFo, dFo, gFo, kFo, bFo, GFo⟩ := hFo
  obtain ⟨fJo, dJo, gJo, kJo, bJo, GJo⟩ := hJo
  obtain ⟨fPr, dPr, gPr, kPr, bPr, GPr⟩ := hPr
  obtain ⟨fTx, dTx, gTx, kTx, bTx, GTx⟩ := hTx
  refine has_of F g (F.binds (ps := ["_law_deck_here", "_law_most"]) fun _ _ _ _ _ _ us hl => match us, hl with | [_, _], _ => rfl) (F.ok scFs (fun vs H Q E h => ?_) (fun cdv A outer s H vs Q E hr h => ?_))
  · obtain ⟨S, m, d, rfl, _⟩ := h
    rfl
  · have hu := hu_of hr
    refine ⟨_, (pss_cons (ps_set (i := 2) scFs.nd rfl (.inr rfl) pe_dnewK)
        (pss_cons (ps_for PassesOwn.never rfl (pi_range1 (by rfl) B.range (pa_cons (pe_call GDr (hr.mono (by decide)) rfl gDr kDr bDr .nil pass0 (pa_cons (pv 0) (pa_cons (pe_op op_add (pv 1) pe_int) pa_nil))) pa_nil)) (pg_name (i := 3) scFs.nd rfl (.inl rfl))
          (pss_cons (ps_set (i := 4) scFs.nd rfl (.inl rfl) (pe_call GFo (hr.mono (by decide)) rfl gFo kFo bFo .nil pass0 (pa_cons (pv 2) pa_nil)))
          (pss_cons (ps_set (i := 5) scFs.nd rfl (.inl rfl) (pe_call GJo (hr.mono (by decide)) rfl gJo kJo bJo .nil pass0 (pa_cons (pe_ix ix_list (pv 4) (pe_call GDr (hr.mono (by decide)) rfl gDr kDr bDr .nil pass0 (pa_cons (pv 0) (pa_cons (pe_callB call_len_seq (by rfl) B.len PySem.boot_len (pa_cons (pv 4) pa_nil)) pa_nil))) (fun _ _ => rfl)) (pa_cons (pe_call GPr hr rfl gPr kPr bPr .nil pass0 (pa_cons (pv 0) pa_nil)) pa_nil))))
          (pss_one (ps_if (pt_cmp (pc_dnotin hu (pv 5) (pv 2))) (pss_cons (ps_dput hu (pv 2) (pv 5) pe_non rfl)
            (pss_one (ps_if (pt_cmpR op_eq (pe_call GDr (hr.mono (by decide)) rfl gDr kDr bDr .nil pass0 (pa_cons (pv 0) (pa_cons pe_int pa_nil))) pe_int (nomark _)) (pss_one (ps_dput hu (pv 2) (pv 5) (pe_call GTx hr rfl gTx kTx bTx .nil pass0 (pa_cons (pv 0) (pa_cons pe_int pa_nil))) rfl)) pss_nil))) pss_nil)))))
        (pss_cons (ps_weak (ps_if (pt_cmpR op_eq (pe_call GDr (hr.mono (by decide)) rfl gDr kDr bDr .nil pass0 (pa_cons (pv 0) (pa_cons pe_int pa_nil))) pe_int (nomark _)) (pss_one (ps_set (i := 2) scFs.nd rfl (.inr rfl) (pe_callTy (call_dictP rfl) (by rfl) B.dict (by decide +kernel) (pa_cons (pe_lc (te := tTup (tCons (tVar 5) (tCons (tDGet (tVar 2) (tVar 5)) tNil))) (own := [("_law_path_here", 5)]) (g := gName 5) (tt := tYes) rfl scFs.nd (pi_reversed (by rfl) B.reversed (pa_cons (pe_callTy (call_list_dK rfl) (by rfl) B.list (by decide +kernel) (pa_cons (pv 2) pa_nil)) pa_nil)) (blkOk_by (N := nFs) (sc := defScope sFs) (by decide +kernel)) (fun _ _ _ _ _ => pg_name (i := 5) scFs.nd rfl (.inl rfl)) (fun _ _ _ _ _ => pts_nil) (fun _ _ _ _ _ => (pe_tup (pa_cons (pv 5) (pa_cons (pe_dget hu (pv 2) (pv 5) (fun _ _ => rfl)) pa_nil))))) pa_nil)))) pss_nil))
        (pss_one (ps_frz (ps_ret (pv 2))))))), ?_⟩
    obtain ⟨S, m, d, rfl, m1, hd, k⟩ := h
    have lt := dr_lt (m := m + 1) (by omega) d
    refine fun p np => ?_
    have pS : p ≠ S := Ne.symm (ne_new hd np)
    have d1 : DkAt (L2.upd H p (.dK [])) S d := same_upd np _ _ hd
    have hp1 : (L2.upd H p (.dK [])) p = some (.dK (kvF (fsRun 0 (dr (m + 1) d).2).1)) := upd_same
    have s1 : SB S H (L2.upd H p (.dK [])) := (SB.refl S H).put_new np
    generalize L2.upd H p (.dK []) = H1 at d1 hp1 s1 ⊢
    refine ⟨_, rfl, _, rfl, _, _, rfl, rfl, S, m + 1, d, rfl, by omega, Nat.le_trans (by omega : m + 1 ≤ 2000) (by decide), d1, fun H2 s2 d2 => ?_⟩
    have bb := big30 (n := (dr (m + 1) d).1) (by omega)
    refine ⟨_, rfl, bb.1, bb.2, ?_⟩
    have eD : fsD m d = (if (dr 3 (fsRun (dr (m + 1) d).1 (dr (m + 1) d).2).2).1 = 0 then (fsRun (dr (m + 1) d).1 (dr (m + 1) d).2).1.reverse else (fsRun (dr (m + 1) d).1 (dr (m + 1) d).2).1, (dr 3 (fsRun (dr (m + 1) d).1 (dr (m + 1) d).2).2).2) := rfl
    generalize (dr (m + 1) d).1 = n at lt eD ⊢
    generalize (dr (m + 1) d).2 = e0 at d2 hp1 eD ⊢
    have hp2 := s2.at hp1 pS
    refine for_range (lo := 0) (n := n) (fun i σ H' => ∃ a b c, σ = [some (.ref S), some (.int (m : Nat)), some (.ref p), a, b, c] ∧ SB S H H' ∧ DkAt H' S (fsRun i e0).2 ∧ H' p = some (.dK (kvF (fsRun i e0).1))) ⟨_, _, _, rfl, s1.trans s2, d2, hp2⟩ (fun i σ H' hi e => ?_) (fun σ H' e => ?_)
    · obtain ⟨v1, v2, v3, rfl, s', dk, hp⟩ := e
      have ok := fsRun_ok i e0
      have eS : fsRun (i + 1) e0 = fsStep (fsRun i e0).1 (fsRun i e0).2 := rfl
      rw [eS]
      generalize (fsRun i e0).1 = fs at ok hp ⊢
      generalize (fsRun i e0).2 = dd at dk ⊢
      have lf := ok.few
      have lfo := folders_len ok
      refine ⟨_, rfl, p, fs, rfl, .inl hp, by omega, fun H3 q s3 nq hq => ?_⟩
      have qS : q ≠ S := Ne.symm (ne_new dk nq)
      obtain ⟨ps, e1, e2, gp, _, l1, l2⟩ := fsPath_at ok dd
      refine ⟨_, rfl, _, rfl, _, rfl, q, _, rfl, .inl (SqL.of hq), S, (folders fs).length, dd, ?_, folders_pos fs, Nat.le_trans (by omega : _ ≤ 2000) (by decide), s3 _ _ dk, fun H4 s4 d4 => ?_⟩
      · rw [List.length_map]
        rfl
      have hq4 := s4.at hq qS
      refine ⟨q, _, _, _, rfl, rfl, SqL.of hq4, atI_nat (by rw [List.getElem?_map, e1]; rfl), _, rfl, S, _, rfl, d4, fun H5 s5 d5 => ?_⟩
      have l3 := (pr_ok (dr (folders fs).length dd).2).2
      refine ⟨ps, _, rfl, gp, by omega, by omega, ?_⟩
      rw [← e2]
      have s345 : SB S H' H5 := ((SB.of (S := S) s3).trans s4).trans s5
      have hp5 := s345.at hp pS
      have s5' : SB S H H5 := s'.trans s345
      have dk5 : DkAt H5 S (fsPath fs dd).2 := d5
      have eT : fsStep fs dd = if lkF fs (fsPath fs dd).1 = none then (if (dr 2 (fsPath fs dd).2).1 = 0 then (fs ++ [((fsPath fs dd).1, some (txD 4 (dr 2 (fsPath fs dd).2).2).1)], (txD 4 (dr 2 (fsPath fs dd).2).2).2) else (fs ++ [((fsPath fs dd).1, none)], (dr 2 (fsPath fs dd).2).2)) else (fs, (fsPath fs dd).2) := rfl
      generalize fsPath fs dd = b at dk5 eT l2 ⊢
      have g := valF fs b.1
      have kl : (kvF fs).length = fs.length := List.length_map ..
      refine ⟨_, rfl, _, rfl, p, _, rfl, DGet.k (k := Sum.inr b.1) hp5, _, rfl, ?_⟩
      rw [g]
      by_cases en : lkF fs b.1 = none
      · rw [if_pos en] at eT
        refine if_yes (by rw [en]; rfl) ⟨_, rfl, _, rfl, p, _, rfl, DPut.k (k := Sum.inr b.1) hp5 (by rw [kl, sizeLine_eq]; omega), ?_⟩
        have e6 : putK (kvF fs) (.inr b.1) .non = kvF (fs ++ [(b.1, none)]) := put_new (t := none) en
        have hp6 : (L2.upd H5 p (.dK (putK (kvF fs) (.inr b.1) .non))) p = some (.dK (kvF (fs ++ [(b.1, none)]))) := by rw [upd_same, e6]
        have d6 : DkAt (L2.upd H5 p (.dK (putK (kvF fs) (.inr b.1) .non))) S b.2 := by
          unfold DkAt
          rw [upd_ne (Ne.symm pS)]
          exact dk5
        have s6 : SB S H (L2.upd H5 p (.dK (putK (kvF fs) (.inr b.1) .non))) := s5'.put_new np
        generalize L2.upd H5 p (.dK (putK (kvF fs) (.inr b.1) .non)) = H6 at hp6 d6 s6 ⊢
        refine ⟨_, rfl, S, 2, _, rfl, by decide, by decide, d6, fun H7 s7 d7 => ⟨rfl, _, rfl, ?_⟩⟩
        have hp7 := s7.at hp6 pS
        by_cases ec : (dr 2 b.2).1 = 0
        · rw [if_pos ec] at eT
          refine if_yes (by rw [ec]; rfl) ⟨_, rfl, S, 4, _, rfl, by decide, d7, fun H8 s8 d8 => ?_⟩
          have hp8 := s8.at hp7 pS
          refine ⟨_, rfl, _, rfl, p, _, rfl, DPut.k (k := Sum.inr b.1) hp8 (by rw [show (kvF (fs ++ [(b.1, none)])).length = fs.length + 1 by unfold kvF; simp, sizeLine_eq]; omega), ?_⟩
          refine ⟨_, _, _, rfl, SB.put_new ((s6.trans s7).trans s8) np, ?_, ?_⟩
          · rw [eT]
            unfold DkAt
            rw [upd_ne (Ne.symm pS)]
            exact d8
          · rw [upd_same, eT]
            exact congrArg (fun z => some (HO.dK z)) (put_last (o := none) (t := some (txD 4 (dr 2 b.2).2).1) en)
        · rw [if_neg ec] at eT
          refine if_no (decide_eq_false fun z => ec (by have y := V.int.inj z; omega)) ⟨_, _, _, rfl, s6.trans s7, ?_, ?_⟩
          · rw [eT]
            exact d7
          · rw [eT]
            exact hp7
      · rw [if_neg en] at eT
        have ei : ((lkF fs b.1).map vF).isSome = true := by
          cases h : lkF fs b.1 with
          | none => exact absurd h en
          | some _ => rfl
        refine if_no (by rw [ei]; rfl) ⟨_, _, _, rfl, s5', ?_, ?_⟩
        · rw [eT]
          exact dk5
        · rw [eT]
          exact hp5
    · obtain ⟨v1, v2, v3, rfl, s', dk, hp⟩ := e
      have ok := fsRun_ok n e0
      rw [eD] at k
      generalize (fsRun n e0).1 = fs at ok hp k
      generalize (fsRun n e0).2 = dd at dk k
      refine ⟨fun σ' H' => ∃ b c e q, σ' = [some (.ref S), some (.int (m : Nat)), some (.ref q), b, c, e] ∧ SB S H H' ∧ DkAt H' S (dr 3 dd).2 ∧ H q = none ∧ q ≠ S ∧ H' q = some (.dK (kvF (if (dr 3 dd).1 = 0 then fs.reverse else fs))), fun σ' H' h => ?_, ?_⟩
      · obtain ⟨b, c, e, q, rfl, s2', d2', nq, qS, hq⟩ := h
        refine ⟨q, _, hq, trivial, fun od => ⟨_, rfl, k _ q (SB.put_new s2' nq) ?_ nq ⟨od, ?_⟩⟩⟩
        · unfold DkAt
          rw [upd_ne (Ne.symm qS)]
          exact d2'
        · exact hide_ne upd_same qS
      · refine ⟨_, rfl, S, 3, _, rfl, by decide, by decide, dk, fun H3 s3 d3 => ⟨rfl, _, rfl, ?_⟩⟩
        have hp3 := s3.at hp pS
        by_cases ec : (dr 3 dd).1 = 0
        · rw [if_pos ec]
          refine if_yes (by rw [ec]; rfl) ⟨_, rfl, p, _, rfl, hp3, fun q nq => ?_⟩
          have lx : ((kvF fs).map fun kv => kV kv.1).length = fs.length := by unfold kvF; simp
          have lf := ok.few
          have sq := same_upd (o := .lst ((kvF fs).map fun kv => kV kv.1)) nq
          have hq : (L2.upd H3 q (.lst ((kvF fs).map fun kv => kV kv.1))) q = some (.lst ((kvF fs).map fun kv => kV kv.1)) := upd_same
          generalize L2.upd H3 q (.lst ((kvF fs).map fun kv => kV kv.1)) = H4 at sq hq ⊢
          refine ⟨q, _, rfl, SqL.of hq, fun D hD => lc_it (walk_rev (xs := (kvF fs).map fun kv => kV kv.1)) (fun i H' => Same H4 H' ∧ MkL (PrV K) D ((kvF fs).reverse.take i) H') ⟨same_upd hD, MkL.start⟩ (fun i H' _ e => e.1.seq (SqL.of hq)) (fun i x H' H2' hi e y => ?_) (fun H' e => ?_)⟩
          · obtain ⟨s5, mk⟩ := e
            obtain ⟨rfl, hx⟩ := y
            rw [List.getElem?_map] at hx
            obtain ⟨kv, hkv, rfl⟩ := Option.map_eq_some_iff.mp hx
            have lk : (kvF fs).length = fs.length := List.length_map ..
            have hr : (kvF fs).reverse[i]? = some kv := by
              rw [List.getElem?_reverse (by omega), ← hkv, lx, lk]
            obtain ⟨e', he', ekv⟩ : ∃ e', fs[((kvF fs).map fun kv => kV kv.1).length - 1 - i]? = some e' ∧ (.inr e'.1, vF e'.2) = kv := by
              unfold kvF at hkv
              rw [List.getElem?_map] at hkv
              exact Option.map_eq_some_iff.mp hkv
            subst ekv
            have g0 : DGet H2' p (.str e'.1) (some (vF e'.2)) := by
              have z : DGet H2' p (.str e'.1) (valV (kvF fs) (.inr e'.1)) := .inl ⟨_, _, .inl (s5 _ _ (sq _ _ hp3)), rfl, rfl⟩
              rw [valF, lk_of ok.nd (List.mem_of_getElem? (show fs[_]? = some (e'.1, e'.2) from he'))] at z
              exact z
            refine ⟨rfl, _, rfl, _, rfl, _, rfl, p, _, rfl, g0, (by decide : 2 ≤ sizeLine), fun T nT => ?_⟩
            have sT := same_upd (o := .tup [.str e'.1, vF e'.2]) nT
            obtain ⟨ys0, hDy, _⟩ := id mk
            have TD : T ≠ D := Ne.symm (ne_new hDy nT)
            have l1 := List.length_take_le' i (kvF fs).reverse
            rw [List.length_reverse] at l1
            obtain ⟨ys1, f1, f2, f3⟩ := (mk.same PrV.mono sT).add PrV.mono (u := .ref T) (a := (.inr e'.1, vF e'.2)) ⟨T, rfl, SqT.of (hide_ne upd_same TD)⟩ (by rw [sizeLine_eq]; omega)
            exact ⟨ys1, f1, f2, same_upd2 (s5.trans sT) hD, by rw [take_snoc hr]; exact f3⟩
          · obtain ⟨s5, ys, hDy, al⟩ := e
            rw [List.take_of_length_le (by rw [List.length_reverse, lx, kvF, List.length_map]; exact Nat.le_refl _)] at al
            obtain ⟨qs, rfl, pr⟩ := pairs_of al
            refine ⟨D, qs, _, rfl, SqL.of hDy, paired_imp (fun _ _ h => sqT_same hide_same h) pr, fun r nr => ?_⟩
            have nd' : (keysF ([] ++ fs.reverse)).Nodup := (rev_ok ok).nd
            have em : mergeK [] ((kvF fs).reverse) = kvF fs.reverse := by
              rw [kvF_rev]
              exact merge_new fs.reverse [] nd'
            rw [em]
            have s34 := sq.trans s5
            have nS : r ≠ S := Ne.symm (ne_new (s34 _ _ d3) nr)
            have sB : SB S H H' := (s'.trans s3).trans (SB.of s34)
            have nH := SB.none sB nr nS
            refine ⟨_, _, _, r, rfl, sB.put_new nH, ?_, nH, nS, upd_same⟩
            unfold DkAt
            rw [upd_ne (Ne.symm nS)]
            exact s34 _ _ d3
        · rw [if_neg ec]
          exact if_no (decide_eq_false fun z => ec (by have y := V.int.inj z; omega)) ⟨_, _, _, p, rfl, s'.trans s3, d3, np, pS, hp3⟩
end
end Qb
end PySem
namespace PySem
namespace Qb
open PySem.W PySem.Calls PyProof.Rows L2
/-! # names and functions that are drawn -/
def ltS : Str := "ABCDEFGHIJKLMNOPQRSTUVWXYZ_abcdefghijklmnopqrstuvwxyz"
def ldS : Str := "ABCDEFGHIJKLMNOPQRSTUVWXYZ_abcdefghijklmnopqrstuvwxyz0123456789"
theorem ld_app : ltS ++ "0123456789" = ldS := by decide +kernel
def ltC (i : Nat) : Nat := (cs ltS).getD i 0
def ldC (i : Nat) : Nat := (cs ldS).getD i 0
theorem lt_len : (cs ltS).length = 53 := by decide +kernel
theorem ld_len : (cs ldS).length = 63 := by decide +kernel
theorem getC {x : Str} {n i : Nat} (l : (cs x).length = n) (h : i < n) : (cs x)[i]? = some ((cs x).getD i 0) := by
  rw [List.getD_eq_getElem?_getD, List.getElem?_eq_getElem (by omega)]
  rfl
def nmD (d : Dk) : Str × Dk :=
  let a := dr 53 d
  let b := dr 3 a.2
  (⟨(ltC a.1 :: (drs 63 b.1 b.2).1.map ldC).toArray⟩, (drs 63 b.1 b.2).2)
theorem lt_in : ∀ i, i < 53 → ltC i ∈ cs startS := by decide +kernel
theorem ld_in : ∀ i, i < 63 → ldC i ∈ cs nameS := by decide +kernel
theorem tw_all {p : Nat → Bool} : ∀ {l : List Nat}, (∀ c ∈ l, p c = true) → l.takeWhile p = l
  | [], _ => rfl
  | c :: l, h => by rw [List.takeWhile_cons_of_pos (h c (.head _)), tw_all fun d m => h d (.tail _ m)]
theorem nmD_ok (d : Dk) : isNameB (cs (nmD d).1) = true ∧ (nmD d).1.length ≤ 3 := by
  have h1 := lt_in _ (dr_lt (m := 53) (by decide) d)
  have h3 := dr_lt (m := 3) (by decide) (dr 53 d).2
  have e : cs (nmD d).1 = ltC (dr 53 d).1 :: (drs 63 (dr 3 (dr 53 d).2).1 (dr 3 (dr 53 d).2).2).1.map ldC := by simp [nmD, cs]
  have l := drs_len 63 (dr 3 (dr 53 d).2).1 (dr 3 (dr 53 d).2).2
  have a := drs_lt (m := 63) (by decide) (dr 3 (dr 53 d).2).1 (dr 3 (dr 53 d).2).2
  refine ⟨?_, ?_⟩
  · rw [e]
    unfold isNameB
    have hn : nameLen (ltC (dr 53 d).1 :: (drs 63 (dr 3 (dr 53 d).2).1 (dr 3 (dr 53 d).2).2).1.map ldC) = (drs 63 (dr 3 (dr 53 d).2).1 (dr 3 (dr 53 d).2).2).1.length + 1 := by
      show (if ltC (dr 53 d).1 ∈ cs startS then 1 + _ else 0) = _
      rw [if_pos h1, tw_all (fun c m => by
        obtain ⟨i, mi, rfl⟩ := List.mem_map.mp m
        exact decide_eq_true (ld_in i (a i mi))), List.length_map, Nat.add_comm]
    rw [hn, List.length_cons, List.length_map]
    simp
  · rw [len_cs, e, List.length_cons, List.length_map, l]
    omega
def spNa : Sp := fun vs H Q _ => ∃ (S : Addr) (d : Dk), vs = [.ref S] ∧ DkAt H S d ∧ ∀ H', SB S H H' → DkAt H' S (nmD d).2 → Q (.str (nmD d).1) H'
/-! things made of what stands there -/
def Giv (K : Frag) (G : Hp) (S : Addr) (σ : L2.St) (t : TE) (d : PyData) : Prop := ∀ H Q, SB S G H → (∃ o, H S = some o) → (∀ H' v, Same H H' → Dp K (hide H' S) v d → Q v H') → t σ H Q
def GivA (K : Frag) (G : Hp) (S : Addr) (σ : L2.St) (t : TA) (ds : List PyData) : Prop := ∀ H Q, SB S G H → (∃ o, H S = some o) → (∀ H' vs, Same H H' → DpAll K (hide H' S) vs ds → Q vs H') → t σ H Q
section
variable {K : Frag} {G : Hp} {S : Addr} {σ : L2.St}
theorem giv_str {x : Str} : Giv K G S σ (tC (.str x)) (.str x) := fun H Q _ _ k => k H _ (Same.refl _) (.str x)
theorem giv_int {i : Int} : Giv K G S σ (tC (.int i)) (.int i) := fun H Q _ _ k => k H _ (Same.refl _) (.int i)
theorem giv_non : Giv K G S σ (tC .non) .none := fun H Q _ _ k => k H _ (Same.refl _) .non
theorem giv_var {i : Nat} {v : V} {d : PyData} (e : σ[i]? = some (some v)) (h : Dp K (hide G S) v d) : Giv K G S σ (tVar i) d := fun H Q s _ k => ⟨v, e, k H v (Same.refl _) (dp_same s h)⟩
theorem giv_nil : GivA K G S σ tNil [] := fun H Q _ _ k => k H [] (Same.refl _) .nil
theorem giv_cons {t : TE} {ta : TA} {d : PyData} {ds : List PyData} (h : Giv K G S σ t d) (ht : GivA K G S σ ta ds) : GivA K G S σ (tCons t ta) (d :: ds) := fun H Q s o k =>
  h H _ s o fun H1 v s1 dv => ht H1 _ (s.trans (SB.of s1)) (by obtain ⟨u, o⟩ := o; exact ⟨u, s1 _ _ o⟩) fun H2 vs s2 dvs => k H2 _ (s1.trans s2) (.cons (dp_same (hide_mono s2) dv) dvs)
theorem giv_tup {ta : TA} {ds : List PyData} (h : GivA K G S σ ta ds) (l : ds.length ≤ 1000) : Giv K G S σ (tTup ta) (.tuple ds) := fun H Q s o k =>
  h H _ s o fun H1 vs s1 dvs => ⟨by rw [dpLen dvs, sizeLine_eq]; omega, fun p np => by
    obtain ⟨u, o⟩ := o
    have ne : p ≠ S := Ne.symm (ne_new (s1 _ _ o) np)
    have sp := same_upd (o := .tup vs) np
    exact k _ _ (s1.trans sp) (.tup (SqT.of (hide_ne upd_same ne)) (dpAll_same (hide_mono sp) dvs))⟩
theorem giv_lst {ta : TA} {ds : List PyData} (h : GivA K G S σ ta ds) (l : ds.length ≤ 1000) : Giv K G S σ (tLst ta) (.list ds) := fun H Q s o k =>
  h H _ s o fun H1 vs s1 dvs => ⟨by rw [dpLen dvs, sizeLine_eq]; omega, fun p np => by
    obtain ⟨u, o⟩ := o
    have ne : p ≠ S := Ne.symm (ne_new (s1 _ _ o) np)
    have sp := same_upd (o := .lst vs) np
    exact k _ _ (s1.trans sp) (.lst (SqL.of (hide_ne upd_same ne)) (dpAll_same (hide_mono sp) dvs))⟩
/-- a list whose place is known -/
theorem giv_lstA {ta : TA} {ds : List PyData} (h : GivA K G S σ ta ds) (l : ds.length ≤ 1000) {H : Hp} {Q : VK} (s : SB S G H) (o : ∃ o, H S = some o) (k : ∀ H' p vs, Same H H' → H p = none → H' p = some (.lst vs) → DpAll K (hide H' S) vs ds → Q (.ref p) H') : tLst ta σ H Q :=
  h H _ s o fun H1 vs s1 dvs => ⟨by rw [dpLen dvs, sizeLine_eq]; omega, fun p np => by
    have sp := same_upd (o := .lst vs) np
    exact k _ _ vs (s1.trans sp) (none_of s1 np) upd_same (dpAll_same (hide_mono sp) dvs)⟩
end
def aW (x : Str) : PyData := .list [bareD x]
def cD : PyData := .tuple [.str "do", .list [], .list [aW "a"], .list []]
def tuD : List PyData := [.list [], .list [.tuple [.int 1, .str ">", aW "g"]]]
def otD : List PyData := [.none, .list [cD]]
def woD : List PyData := [.none, .list [aW "b"]]
def cL : PyData := .list [cD]
def maD (t o w : PyData) : List PyData :=
  [.tuple [.str "group", cL, t], .tuple [.str "apart", cL, t], .tuple [.str "while", cL, cL, t], .tuple [.str "until", cL, cL, t], .tuple [.str "if", .list [.tuple [cL, cL]], o, t],
   .tuple [.str "each", .str "x", w, cL, t], .tuple [.str "case", aW "a", .list [.tuple [.list [aW "b"], .list []]], t]]
def at' (l : List PyData) (i : Nat) : PyData := l.getD i .none
def fnD (d : Dk) : PyData × Dk :=
  let a := dr 2 d
  let b := dr 2 a.2
  let c := dr 2 b.2
  let e := dr 7 c.2
  (at' (maD (at' tuD a.1) (at' otD b.1) (at' woD c.1)) e.1, e.2)
def spFu (K : Frag) : Sp := fun vs H Q _ => ∃ (S : Addr) (d : Dk), vs = [.ref S] ∧ DkAt H S d ∧ ∀ H' v, SB S H H' → DkAt H' S (fnD d).2 → Dp K (hide H' S) v (fnD d).1 → Q v H'
/-! they are right -/
theorem wd_one {C : PyData → Prop} {x : Str} (h : isBareB (cs x) = true) (hl : x.length ≤ 20) (ok : PyData.strOk x = true) : WdR C [bareD x] := by
  refine ⟨by show 1 ≤ 7; decide, [(true, true)], .cons (.inl ⟨"bare", x, rfl, ⟨by decide +kernel, by decide +kernel, by decide +kernel, by decide +kernel, by decide +kernel, by decide +kernel⟩, ⟨hl, ok⟩, ?_, rfl⟩) .nil, ?_, rfl⟩
  · show true = txtB false "bare" x
    unfold txtB
    rw [if_neg Bool.false_ne_true, if_pos rfl, h]
  · rfl
theorem do_one {C : PyData → Prop} : CmA C cD := by
  refine .inl ⟨[], [aW "a"], [], rfl, ⟨by decide, fun s m => by cases m⟩, ⟨by decide, fun w m => ?_⟩, ⟨by decide, fun s m => by cases m⟩, .inr (.inl (by simp)), fun l r e => ?_⟩
  · rw [List.mem_singleton.mp m]
    exact ⟨_, rfl, wd_one (by decide +kernel) (by decide +kernel) (by decide +kernel), by simp⟩
  · have e1 : l = [bareD "a"] := by
      have := (List.cons.inj e).1
      exact (PyData.list.inj this).symm
    subst e1
    decide +kernel
theorem cm_one (n : Nat) : CmG (n + 1) cD := ⟨⟨by decide +kernel, by decide +kernel⟩, do_one⟩
theorem tu_ok {C : PyData → Prop} {i : Nat} (h : i < 2) : ∃ ts, at' tuD i = .list ts ∧ TsR C ts := by
  have : i = 0 ∨ i = 1 := by omega
  rcases this with rfl | rfl
  · exact ⟨[], rfl, by decide, fun t m => by cases m⟩
  · refine ⟨_, rfl, by decide, fun t m => ?_⟩
    rw [List.mem_singleton.mp m]
    exact ⟨1, ">", _, rfl, .inr (.inl rfl), .inl ⟨by decide +kernel, wd_one (by decide +kernel) (by decide +kernel) (by decide +kernel), by simp⟩⟩
theorem sc_one (n : Nat) : ScR (CmG (n + 1)) [cD] := ⟨by decide, fun c m => by rw [List.mem_singleton.mp m]; exact cm_one n⟩
def maB (d : PyData) : Bool := d.canLay0 && (decide (d.depth ≤ 30) && (decide (wtC 4 d ≤ 4000) && decide (headK d ∈ bdW)))
theorem ma_shB : ∀ i < 7, ∀ a < 2, ∀ b < 2, ∀ c < 2, maB (at' (maD (at' tuD a) (at' otD b) (at' woD c)) i) = true := by decide +kernel
theorem ma_sh : ∀ i < 7, ∀ a < 2, ∀ b < 2, ∀ c < 2, (at' (maD (at' tuD a) (at' otD b) (at' woD c)) i).canLay0 = true ∧ (at' (maD (at' tuD a) (at' otD b) (at' woD c)) i).depth ≤ 30 ∧ wtC 4 (at' (maD (at' tuD a) (at' otD b) (at' woD c)) i) ≤ 4000 ∧ headK (at' (maD (at' tuD a) (at' otD b) (at' woD c)) i) ∈ bdW := fun i hi a ha b hb c hc => by
  have z := ma_shB i hi a ha b hb c hc
  unfold maB at z
  rw [Bool.and_eq_true, Bool.and_eq_true, Bool.and_eq_true, decide_eq_true_iff, decide_eq_true_iff, decide_eq_true_iff] at z
  exact z
theorem ma_ok {i a b c : Nat} (hi : i < 7) (ha : a < 2) (hb : b < 2) (hc : c < 2) : CmG 4 (at' (maD (at' tuD a) (at' otD b) (at' woD c)) i) := by
  obtain ⟨s1, s2, _, _⟩ := ma_sh i hi a ha b hb c hc
  refine ⟨⟨s1, Nat.le_trans s2 (by decide)⟩, ?_⟩
  obtain ⟨ts, et, ht⟩ := tu_ok (C := CmG 3) ha
  have oo : at' otD b = .none ∨ ∃ s, at' otD b = .list s ∧ s ≠ [] ∧ ScR (CmG 3) s := by
    have : b = 0 ∨ b = 1 := by omega
    rcases this with rfl | rfl
    · exact .inl rfl
    · exact .inr ⟨[cD], rfl, by simp, sc_one 2⟩
  have ww : at' woD c = .none ∨ ∃ ws, at' woD c = .list ws ∧ WsO (CmG 3) ws := by
    have : c = 0 ∨ c = 1 := by omega
    rcases this with rfl | rfl
    · exact .inl rfl
    · exact .inr ⟨_, rfl, by decide, fun w m => by
        rw [List.mem_singleton.mp m]
        exact ⟨_, rfl, wd_one (by decide +kernel) (by decide +kernel) (by decide +kernel), by simp⟩⟩
  rw [et]
  have bk : ∀ {x}, BkA (CmG 3) x → CmA (CmG 3) x := fun h => .inr (.inr (.inr (.inr (.inr h))))
  have q1 := sc_one 2
  have ne : ([cD] : List PyData) ≠ [] := by simp
  have : i = 0 ∨ i = 1 ∨ i = 2 ∨ i = 3 ∨ i = 4 ∨ i = 5 ∨ i = 6 := by omega
  rcases this with rfl | rfl | rfl | rfl | rfl | rfl | rfl
  · exact bk (.inl ⟨_, _, _, rfl, .inl rfl, q1, ne, ht⟩)
  · exact bk (.inl ⟨_, _, _, rfl, .inr rfl, q1, ne, ht⟩)
  · exact bk (.inr (.inr (.inl ⟨_, _, _, _, rfl, .inl rfl, q1, ne, q1, ne, ht⟩)))
  · exact bk (.inr (.inr (.inl ⟨_, _, _, _, rfl, .inr rfl, q1, ne, q1, ne, ht⟩)))
  · refine bk (.inr (.inl ⟨_, _, _, rfl, ⟨by simp, by decide, fun x m => ?_⟩, oo, ht⟩))
    rw [List.mem_singleton.mp m]
    exact ⟨_, _, rfl, ne, ne, q1, q1⟩
  · exact bk (.inr (.inr (.inr (.inl ⟨_, _, _, _, rfl, by decide +kernel, by decide +kernel, ww, q1, ne, ht⟩))))
  · refine bk (.inr (.inr (.inr (.inr ⟨_, _, _, rfl, wd_one (by decide +kernel) (by decide +kernel) (by decide +kernel), by simp, ⟨by decide, fun x m => ?_⟩, ht⟩))))
    rw [List.mem_singleton.mp m]
    refine ⟨_, [], _, rfl, ⟨by decide, fun w m => ?_⟩, by decide +kernel, by decide, fun c m => by cases m⟩
    rw [List.mem_singleton.mp m]
    exact ⟨_, rfl, wd_one (by decide +kernel) (by decide +kernel) (by decide +kernel), by simp⟩
/-- a function's name and body -/
theorem fn_ok {x : Str} (hx : mayB x = true) (hl : x.length ≤ 1000) (ok : PyData.strOk x = true) (d : Dk) : CmG 5 (mkC (x, (fnD d).1)) ∧ wtC 5 (mkC (x, (fnD d).1)) ≤ 5000 := by
  have ha := dr_lt (m := 2) (by decide) d
  have hb := dr_lt (m := 2) (by decide) (dr 2 d).2
  have hc := dr_lt (m := 2) (by decide) (dr 2 (dr 2 d).2).2
  have he := dr_lt (m := 7) (by decide) (dr 2 (dr 2 (dr 2 d).2).2).2
  have c := ma_ok he ha hb hc
  obtain ⟨s1, s2, s3, s4⟩ := ma_sh _ he _ ha _ hb _ hc
  have e : (fnD d).1 = at' (maD (at' tuD (dr 2 d).1) (at' otD (dr 2 (dr 2 d).2).1) (at' woD (dr 2 (dr 2 (dr 2 d).2).2).1)) (dr 7 (dr 2 (dr 2 (dr 2 d).2).2).2).1 := rfl
  rw [e]
  generalize at' (maD (at' tuD (dr 2 d).1) (at' otD (dr 2 (dr 2 d).2).1) (at' woD (dr 2 (dr 2 (dr 2 d).2).2).1)) (dr 7 (dr 2 (dr 2 (dr 2 d).2).2).2).1 = b at c s1 s2 s3 s4
  refine ⟨⟨sh_mono (sh_tup (n := 30) (all_three (sh_mono (sh_str (by decide +kernel)) (by decide)) (sh_mono (sh_str ok) (by decide)) ⟨s1, s2⟩)) (by decide), .inr (.inl ⟨x, b, rfl, hx, hl, s4, c⟩)⟩, ?_⟩
  have ei : inn (mkC (x, b)) = [b] := by
    unfold inn mkC
    rw [show prt (.tuple [.str "make", .str x, b]) = [cP b] from by cases b <;> rfl]
    show innQ (cP b) ++ [] = [b]
    rw [List.append_nil]
    exact innQ_c rfl
  show 2 + ((inn (mkC (x, b))).map (wtC 4)).sum ≤ 5000
  rw [ei]
  show 2 + (wtC 4 b + 0) ≤ 5000
  omega
end Qb
end PySem
namespace PySem
namespace Qb
open PySem.W PySem.Calls PyProof.Rows L2
/-! # names and functions that are drawn: the defs -/
def nmX (a : Nat) (l : List Nat) : Str := ⟨(ltC a :: l.map ldC).toArray⟩
theorem nmX_cs (a : Nat) (l : List Nat) : cs (nmX a l) = ltC a :: l.map ldC := by simp [nmX, cs]
theorem nmX_more (a : Nat) (l : List Nat) (c : Nat) : nmX a l ++ sg (ldC c) = nmX a (l ++ [c]) := by
  refine str_ext ?_
  rw [cs_app, nmX_cs, nmX_cs, List.map_append]
  rfl
theorem nmX_len (a : Nat) (l : List Nat) : (nmX a l).length = l.length + 1 := by
  rw [len_cs, nmX_cs, List.length_cons, List.length_map]
theorem few {n : Nat} (h : Nat.ble n 1000 = true) : n ≤ 1000 := Nat.le_of_ble_eq_true h
section
variable {P : Program} {w : World} {K : Frag} {mg : Str → Option Value} {base : Heap}
abbrev sNa : Stmt := top 102
abbrev nNa : List Str := ["_law_deck_here", "_law_letters", "_law_name_here", "_law_k"]
theorem scNa : FnScope nNa ["_law_deck_here"] (defScope sNa) := ⟨rfl, rfl, rfl, by decide +kernel, rfl, by decide +kernel, by decide +kernel⟩
theorem has_Na {f : Addr} {fd : FuncData}  (F : Fun K "_law_name" "_law_name" sNa f fd) (g : mg "_law_name" = some (.ref f)) (B : Blt mg) (hDr : Has P w K mg base 1 "_law_draw" ["_law_deck_here", "_law_many"] (spDr)) :
    Has P w K mg base 2 "_law_name" ["_law_deck_here"] (spNa) := by
  obtain ⟨fDr, dDr, gDr, kDr, bDr, GDr⟩ := hDr
  refine has_of F g (F.binds (ps := ["_law_deck_here"]) fun _ _ _ _ _ _ us hl => match us, hl with | [_], _ => rfl) (F.ok scNa (fun vs H Q E h => ?_) (fun cdv A outer s H vs Q E hr h => ?_))
  · obtain ⟨S, d, rfl, _⟩ := h
    rfl
  · refine ⟨_, (pss_cons (ps_set (i := 1) scNa.nd rfl (.inl rfl) pe_str)
        (pss_cons (ps_set (i := 2) scNa.nd rfl (.inl rfl) (pe_ix ix_str (pv 1) (pe_call GDr hr rfl gDr kDr bDr .nil pass0 (pa_cons (pv 0) (pa_cons pe_int pa_nil))) (fun _ _ => rfl)))
        (pss_cons (ps_for PassesOwn.never rfl (pi_range1 (by rfl) B.range (pa_cons (pe_call GDr hr rfl gDr kDr bDr .nil pass0 (pa_cons (pv 0) (pa_cons pe_int pa_nil))) pa_nil)) (pg_name (i := 3) scNa.nd rfl (.inl rfl))
          (pss_one (ps_set (i := 2) scNa.nd rfl (.inl rfl) (pe_op op_add_str (pv 2) (pe_ix ix_str (pe_op op_add_str (pv 1) pe_str) (pe_call GDr hr rfl gDr kDr bDr .nil pass0 (pa_cons (pv 0) (pa_cons pe_int pa_nil))) (fun _ _ => rfl))))))
        (pss_one (ps_ret (pv 2)))))), ?_⟩
    obtain ⟨S, d, rfl, hd, k⟩ := h
    refine ⟨_, rfl, _, rfl, S, 53, d, rfl, by decide, by decide, hd, fun H1 s1 d1 => ?_⟩
    refine ⟨_, _, _, rfl, rfl, by decide +kernel, atI_nat (getC (x := ltS) lt_len (dr_lt (by decide) d)), ?_⟩
    refine ⟨_, rfl, S, 3, _, rfl, by decide, by decide, d1, fun H2 s2 d2 => ?_⟩
    have lt := dr_lt (m := 3) (by decide) (dr 53 d).2
    have bb := big30 (n := (dr 3 (dr 53 d).2).1) (by omega)
    refine ⟨_, rfl, bb.1, bb.2, ?_⟩
    have e : nmD d = (nmX (dr 53 d).1 (drs 63 (dr 3 (dr 53 d).2).1 (dr 3 (dr 53 d).2).2).1, (drs 63 (dr 3 (dr 53 d).2).1 (dr 3 (dr 53 d).2).2).2) := rfl
    rw [e] at k
    generalize (dr 3 (dr 53 d).2).1 = n at lt k
    generalize (dr 3 (dr 53 d).2).2 = e0 at d2 k
    refine for_range (lo := 0) (n := n) (fun i σ H' => ∃ v, σ = [some (.ref S), some (.str ltS), some (.str (nmX (dr 53 d).1 (drs 63 i e0).1)), v] ∧ SB S H H' ∧ DkAt H' S (drs 63 i e0).2) ⟨_, rfl, s1.trans s2, d2⟩ (fun i σ H' hi e => ?_) (fun σ H' e => ?_)
    · obtain ⟨v, rfl, s', dk⟩ := e
      have l := drs_len 63 i e0
      refine ⟨_, rfl, _, rfl, _, _, rfl, rfl, by decide +kernel, ?_⟩
      refine ⟨_, rfl, S, 63, _, rfl, by decide, by decide, dk, fun H4 s4 d4 => ?_⟩
      refine ⟨_, _, _, rfl, rfl, by decide +kernel, atI_nat (show (cs (ltS ++ "0123456789"))[(dr 63 (drs 63 i e0).2).1]? = some (ldC _) by rw [ld_app]; exact getC ld_len (dr_lt (by decide) _)), _, _, rfl, rfl, ?_, ⟨some (.int (0 + (i : Nat))), ?_, s'.trans s4, d4⟩⟩
      · rw [nmX_len, l, sizeLine_eq]
        show i + 1 + 1 ≤ _
        omega
      · show [some (V.ref S), some (V.str ltS), some (V.str (nmX (dr 53 d).1 (drs 63 i e0).1 ++ sg (ldC (dr 63 (drs 63 i e0).2).1))), _] = _
        rw [nmX_more]
        rfl
    · obtain ⟨v, rfl, s', dk⟩ := e
      exact ⟨_, rfl, k _ s' dk⟩
abbrev sFu : Stmt := top 103
abbrev nFu : List Str := ["_law_deck_here", "_law_call", "_law_turns", "_law_other", "_law_words", "_law_made"]
theorem scFu : FnScope nFu ["_law_deck_here"] (defScope sFu) := ⟨rfl, rfl, rfl, by decide +kernel, rfl, by decide +kernel, by decide +kernel⟩
theorem has_Fu {f : Addr} {fd : FuncData}  (F : Fun K "_law_function" "_law_function" sFu f fd) (g : mg "_law_function" = some (.ref f)) (B : Blt mg) (hDr : Has P w K mg base 1 "_law_draw" ["_law_deck_here", "_law_many"] (spDr)) :
    Has P w K mg base 2 "_law_function" ["_law_deck_here"] (spFu K) := by
  obtain ⟨fDr, dDr, gDr, kDr, bDr, GDr⟩ := hDr
  refine has_of F g (F.binds (ps := ["_law_deck_here"]) fun _ _ _ _ _ _ us hl => match us, hl with | [_], _ => rfl) (F.ok scFu (fun vs H Q E h => ?_) (fun cdv A outer s H vs Q E hr h => ?_))
  · obtain ⟨S, d, rfl, _⟩ := h
    rfl
  · refine ⟨_, (pss_cons (ps_set (i := 1) scFu.nd rfl (.inl rfl) (pe_tup (pa_cons pe_str (pa_cons (pe_lst pa_nil) (pa_cons (pe_lst (pa_cons (pe_lst (pa_cons (pe_tup (pa_cons pe_str (pa_cons pe_str pa_nil))) pa_nil)) pa_nil)) (pa_cons (pe_lst pa_nil) pa_nil))))))
        (pss_cons (ps_set (i := 2) scFu.nd rfl (.inl rfl) (pe_ix ix_list (pe_lst (pa_cons (pe_lst pa_nil) (pa_cons (pe_lst (pa_cons (pe_tup (pa_cons pe_int (pa_cons pe_str (pa_cons (pe_lst (pa_cons (pe_tup (pa_cons pe_str (pa_cons pe_str pa_nil))) pa_nil)) pa_nil)))) pa_nil)) pa_nil))) (pe_call GDr hr rfl gDr kDr bDr .nil pass0 (pa_cons (pv 0) (pa_cons pe_int pa_nil))) (fun _ _ => rfl)))
        (pss_cons (ps_set (i := 3) scFu.nd rfl (.inl rfl) (pe_ix ix_list (pe_lst (pa_cons pe_non (pa_cons (pe_lst (pa_cons (pv 1) pa_nil)) pa_nil))) (pe_call GDr hr rfl gDr kDr bDr .nil pass0 (pa_cons (pv 0) (pa_cons pe_int pa_nil))) (fun _ _ => rfl)))
        (pss_cons (ps_set (i := 4) scFu.nd rfl (.inl rfl) (pe_ix ix_list (pe_lst (pa_cons pe_non (pa_cons (pe_lst (pa_cons (pe_lst (pa_cons (pe_tup (pa_cons pe_str (pa_cons pe_str pa_nil))) pa_nil)) pa_nil)) pa_nil))) (pe_call GDr hr rfl gDr kDr bDr .nil pass0 (pa_cons (pv 0) (pa_cons pe_int pa_nil))) (fun _ _ => rfl)))
        (pss_cons (ps_set (i := 5) scFu.nd rfl (.inl rfl) (pe_lst (pa_cons (pe_tup (pa_cons pe_str (pa_cons (pe_lst (pa_cons (pv 1) pa_nil)) (pa_cons (pv 2) pa_nil)))) (pa_cons (pe_tup (pa_cons pe_str (pa_cons (pe_lst (pa_cons (pv 1) pa_nil)) (pa_cons (pv 2) pa_nil)))) (pa_cons (pe_tup (pa_cons pe_str (pa_cons (pe_lst (pa_cons (pv 1) pa_nil)) (pa_cons (pe_lst (pa_cons (pv 1) pa_nil)) (pa_cons (pv 2) pa_nil))))) pa_nil)))))
        (pss_cons (ps_set (i := 5) scFu.nd rfl (.inl rfl) (pe_op op_cat (pv 5) (pe_lst (pa_cons (pe_tup (pa_cons pe_str (pa_cons (pe_lst (pa_cons (pv 1) pa_nil)) (pa_cons (pe_lst (pa_cons (pv 1) pa_nil)) (pa_cons (pv 2) pa_nil))))) (pa_cons (pe_tup (pa_cons pe_str (pa_cons (pe_lst (pa_cons (pe_tup (pa_cons (pe_lst (pa_cons (pv 1) pa_nil)) (pa_cons (pe_lst (pa_cons (pv 1) pa_nil)) pa_nil))) pa_nil)) (pa_cons (pv 3) (pa_cons (pv 2) pa_nil))))) pa_nil)))))
        (pss_cons (ps_set (i := 5) scFu.nd rfl (.inl rfl) (pe_op op_cat (pv 5) (pe_lst (pa_cons (pe_tup (pa_cons pe_str (pa_cons pe_str (pa_cons (pv 4) (pa_cons (pe_lst (pa_cons (pv 1) pa_nil)) (pa_cons (pv 2) pa_nil)))))) (pa_cons (pe_tup (pa_cons pe_str (pa_cons (pe_lst (pa_cons (pe_tup (pa_cons pe_str (pa_cons pe_str pa_nil))) pa_nil)) (pa_cons (pe_lst (pa_cons (pe_tup (pa_cons (pe_lst (pa_cons (pe_lst (pa_cons (pe_tup (pa_cons pe_str (pa_cons pe_str pa_nil))) pa_nil)) pa_nil)) (pa_cons (pe_lst pa_nil) pa_nil))) pa_nil)) (pa_cons (pv 2) pa_nil))))) pa_nil)))))
        (pss_one (ps_ret (pe_ix ix_list (pv 5) (pe_call GDr hr rfl gDr kDr bDr .nil pass0 (pa_cons (pv 0) (pa_cons pe_int pa_nil))) (fun _ _ => rfl))))))))))), ?_⟩
    obtain ⟨S, d, rfl, hd, k⟩ := h
    have gW : ∀ {G : Hp} {σ : L2.St} {x : Str}, Giv K G S σ (tLst (tCons (tTup (tCons (tC (.str "bare")) (tCons (tC (.str x)) tNil))) tNil)) (aW x) := giv_lst (giv_cons (giv_tup (giv_cons giv_str (giv_cons giv_str giv_nil)) (few rfl)) giv_nil) (few rfl)
    have gE : ∀ {G : Hp} {σ : L2.St}, Giv K G S σ (tLst tNil) (.list []) := giv_lst giv_nil (few rfl)
    delta tSeq tAsg tOp gName
    dsimp only
    refine (giv_tup (giv_cons giv_str (giv_cons gE (giv_cons (giv_lst (giv_cons gW giv_nil) (few rfl)) (giv_cons gE giv_nil)))) (few rfl)) H _ (SB.refl S H) ⟨_, hd⟩ fun H1 v1 s1 c1 => ?_
    have c1 : Dp K (hide H1 S) v1 cD := c1
    have d1 := s1 _ _ hd
    -- turns
    refine giv_lstA (G := H1) (ds := tuD) (giv_cons gE (giv_cons (giv_lst (giv_cons (giv_tup (giv_cons giv_int (giv_cons giv_str (giv_cons gW giv_nil))) (few rfl)) giv_nil) (few rfl)) giv_nil)) (few rfl) (SB.refl _ _) ⟨_, d1⟩ fun H2 p vs s2 np hp al => ?_
    have d2 : DkAt H2 S d := s2 _ _ d1
    refine ⟨_, rfl, S, 2, d, rfl, by decide, by decide, d2, fun H3 s3 d3 => ?_⟩
    have pS : p ≠ S := Ne.symm (ne_new d1 np)
    have s13 : SB S H1 H3 := (SB.of s2).trans s3
    obtain ⟨v2, e2, c2⟩ := dpAt (i := (dr 2 d).1) al (d := at' tuD (dr 2 d).1) (by
      have h := dr_lt (m := 2) (by decide) d
      unfold at'
      rw [List.getD_eq_getElem?_getD, List.getElem?_eq_getElem (by exact h)]
      rfl)
    refine ⟨p, _, _, _, rfl, rfl, SqL.of (s3.at hp pS), atI_nat e2, ?_⟩
    have c2 := dp_same s3 c2
    have c1 := dp_same s13 c1
    -- other
    refine giv_lstA (G := H3) (ds := otD) (giv_cons giv_non (giv_cons (giv_lst (giv_cons (giv_var (v := v1) rfl c1) giv_nil) (few rfl)) giv_nil)) (few rfl) (SB.refl _ _) ⟨_, d3⟩ fun H4 p4 vs4 s4 np4 hp4 al4 => ?_
    have d4 : DkAt H4 S (dr 2 d).2 := s4 _ _ d3
    refine ⟨_, rfl, S, 2, _, rfl, by decide, by decide, d4, fun H5 s5 d5 => ?_⟩
    have pS4 : p4 ≠ S := Ne.symm (ne_new d3 np4)
    have s35 : SB S H3 H5 := (SB.of s4).trans s5
    obtain ⟨v3, e3, c3⟩ := dpAt (i := (dr 2 (dr 2 d).2).1) al4 (d := at' otD (dr 2 (dr 2 d).2).1) (by
      have h := dr_lt (m := 2) (by decide) (dr 2 d).2
      unfold at'
      rw [List.getD_eq_getElem?_getD, List.getElem?_eq_getElem (by exact h)]
      rfl)
    refine ⟨p4, _, _, _, rfl, rfl, SqL.of (s5.at hp4 pS4), atI_nat e3, ?_⟩
    have c3 := dp_same s5 c3
    have c1 := dp_same s35 c1
    have c2 := dp_same s35 c2
    -- words
    refine giv_lstA (G := H5) (ds := woD) (giv_cons giv_non (giv_cons (giv_lst (giv_cons gW giv_nil) (few rfl)) giv_nil)) (few rfl) (SB.refl _ _) ⟨_, d5⟩ fun H6 p6 vs6 s6 np6 hp6 al6 => ?_
    have d6 : DkAt H6 S (dr 2 (dr 2 d).2).2 := s6 _ _ d5
    refine ⟨_, rfl, S, 2, _, rfl, by decide, by decide, d6, fun H7 s7 d7 => ?_⟩
    have pS6 : p6 ≠ S := Ne.symm (ne_new d5 np6)
    have s57 : SB S H5 H7 := (SB.of s6).trans s7
    obtain ⟨v4, e4, c4⟩ := dpAt (i := (dr 2 (dr 2 (dr 2 d).2).2).1) al6 (d := at' woD (dr 2 (dr 2 (dr 2 d).2).2).1) (by
      have h := dr_lt (m := 2) (by decide) (dr 2 (dr 2 d).2).2
      unfold at'
      rw [List.getD_eq_getElem?_getD, List.getElem?_eq_getElem (by exact h)]
      rfl)
    refine ⟨p6, _, _, _, rfl, rfl, SqL.of (s7.at hp6 pS6), atI_nat e4, ?_⟩
    have c4 := dp_same s7 c4
    have c1 := dp_same s57 c1
    have c2 := dp_same s57 c2
    have c3 := dp_same s57 c3
    have s07 : SB S H H7 := ((SB.of s1).trans s13).trans (s35.trans s57)
    have kk : ∀ H' v, SB S H7 H' → DkAt H' S (dr 7 (dr 2 (dr 2 (dr 2 d).2).2).2).2 → Dp K (hide H' S) v (at' (maD (at' tuD (dr 2 d).1) (at' otD (dr 2 (dr 2 d).2).1) (at' woD (dr 2 (dr 2 (dr 2 d).2).2).1)) (dr 7 (dr 2 (dr 2 (dr 2 d).2).2).2).1) → Q v H' := fun H' v s e f => k H' v (s07.trans s) e f
    generalize at' tuD (dr 2 d).1 = t at c2 kk
    generalize at' otD (dr 2 (dr 2 d).2).1 = o at c3 kk
    generalize at' woD (dr 2 (dr 2 (dr 2 d).2).2).1 = w at c4 kk
    generalize (dr 2 (dr 2 (dr 2 d).2).2).2 = e0 at d7 kk
    -- what may be drawn
    have l1 : ∀ {i : Nat} {v : V} {G : Hp} {σ : L2.St}, σ[i]? = some (some v) → Dp K (hide G S) v cD → Giv K G S σ (tLst (tCons (tVar i) tNil)) cL := fun e h => giv_lst (giv_cons (giv_var e h) giv_nil) (few rfl)
    refine giv_lstA (G := H7) (ds := [.tuple [.str "group", cL, t], .tuple [.str "apart", cL, t], .tuple [.str "while", cL, cL, t]]) (giv_cons (giv_tup (giv_cons giv_str (giv_cons (l1 (v := v1) rfl c1) (giv_cons (giv_var (v := v2) rfl c2) giv_nil))) (few rfl)) (giv_cons (giv_tup (giv_cons giv_str (giv_cons (l1 (v := v1) rfl c1) (giv_cons (giv_var (v := v2) rfl c2) giv_nil))) (few rfl))
      (giv_cons (giv_tup (giv_cons giv_str (giv_cons (l1 (v := v1) rfl c1) (giv_cons (l1 (v := v1) rfl c1) (giv_cons (giv_var (v := v2) rfl c2) giv_nil)))) (few rfl)) giv_nil))) (few rfl) (SB.refl _ _) ⟨_, d7⟩ fun H8 p8 vs8 s8 np8 hp8 al8 => ?_
    have d8 : DkAt H8 S e0 := s8 _ _ d7
    have sB8 : SB S H7 H8 := SB.of s8
    refine ⟨_, rfl, ?_⟩
    refine giv_lstA (G := H8) (ds := [.tuple [.str "until", cL, cL, t], .tuple [.str "if", .list [.tuple [cL, cL]], o, t]]) (giv_cons (giv_tup (giv_cons giv_str (giv_cons (l1 (v := v1) rfl (dp_same sB8 c1)) (giv_cons (l1 (v := v1) rfl (dp_same sB8 c1)) (giv_cons (giv_var (v := v2) rfl (dp_same sB8 c2)) giv_nil)))) (few rfl))
      (giv_cons (giv_tup (giv_cons giv_str (giv_cons (giv_lst (giv_cons (giv_tup (giv_cons (l1 (v := v1) rfl (dp_same sB8 c1)) (giv_cons (l1 (v := v1) rfl (dp_same sB8 c1)) giv_nil)) (few rfl)) giv_nil) (few rfl)) (giv_cons (giv_var (v := v3) rfl (dp_same sB8 c3)) (giv_cons (giv_var (v := v2) rfl (dp_same sB8 c2)) giv_nil)))) (few rfl)) giv_nil)) (few rfl) (SB.refl _ _) ⟨_, d8⟩ fun H9 p9 vs9 s9 np9 hp9 al9 => ?_
    refine ⟨p8, p9, _, _, rfl, rfl, s9 _ _ hp8, hp9, ?_, fun pA npA => ?_⟩
    · rw [dpLen al8, dpLen al9]
      exact Nat.le_trans (few rfl) (by decide)
    have sA := same_upd (o := .lst (vs8 ++ vs9)) npA
    have alA := dpAll_same (hide_mono (W := S) sA) (dpApp (dpAll_same (hide_mono s9) al8) al9)
    have hpA : (L2.upd H9 pA (.lst (vs8 ++ vs9))) pA = some (.lst (vs8 ++ vs9)) := upd_same
    have s8A := s9.trans sA
    generalize L2.upd H9 pA (.lst (vs8 ++ vs9)) = HA at s8A alA hpA ⊢
    have dA : DkAt HA S e0 := s8A _ _ d8
    have sBA : SB S H7 HA := SB.of (s8.trans s8A)
    refine ⟨_, rfl, ?_⟩
    refine giv_lstA (G := HA) (ds := [.tuple [.str "each", .str "x", w, cL, t], .tuple [.str "case", aW "a", .list [.tuple [.list [aW "b"], .list []]], t]]) (giv_cons (giv_tup (giv_cons giv_str (giv_cons giv_str (giv_cons (giv_var (v := v4) rfl (dp_same sBA c4)) (giv_cons (l1 (v := v1) rfl (dp_same sBA c1)) (giv_cons (giv_var (v := v2) rfl (dp_same sBA c2)) giv_nil))))) (few rfl))
      (giv_cons (giv_tup (giv_cons giv_str (giv_cons gW (giv_cons (giv_lst (giv_cons (giv_tup (giv_cons (giv_lst (giv_cons gW giv_nil) (few rfl)) (giv_cons gE giv_nil)) (few rfl)) giv_nil) (few rfl)) (giv_cons (giv_var (v := v2) rfl (dp_same sBA c2)) giv_nil)))) (few rfl)) giv_nil)) (few rfl) (SB.refl _ _) ⟨_, dA⟩ fun HB pB vsB sB npB hpB alB => ?_
    refine ⟨pA, pB, _, _, rfl, rfl, sB _ _ hpA, hpB, ?_, fun pC npC => ?_⟩
    · rw [dpLen alA, dpLen alB]
      exact Nat.le_trans (few rfl) (by decide)
    have sC := same_upd (o := .lst (vs8 ++ vs9 ++ vsB)) npC
    have alC := dpAll_same (hide_mono (W := S) sC) (dpApp (dpAll_same (hide_mono sB) alA) alB)
    have alC : DpAll K (hide (L2.upd HB pC (.lst (vs8 ++ vs9 ++ vsB))) S) (vs8 ++ vs9 ++ vsB) (maD t o w) := alC
    have hpC : (L2.upd HB pC (.lst (vs8 ++ vs9 ++ vsB))) pC = some (.lst (vs8 ++ vs9 ++ vsB)) := upd_same
    have sAC := sB.trans sC
    have pCS : pC ≠ S := Ne.symm (ne_new (sB _ _ dA) npC)
    generalize L2.upd HB pC (.lst (vs8 ++ vs9 ++ vsB)) = HC at sAC alC hpC ⊢
    refine ⟨_, rfl, _, rfl, S, 7, e0, rfl, by decide, by decide, sAC _ _ dA, fun HD sD dD => ?_⟩
    obtain ⟨v9, e9, c9⟩ := dpAt (i := (dr 7 e0).1) alC (d := at' (maD t o w) (dr 7 e0).1) (by
      have h := dr_lt (m := 7) (by decide) e0
      unfold at'
      rw [List.getD_eq_getElem?_getD, List.getElem?_eq_getElem (by exact h)]
      rfl)
    exact ⟨pC, _, _, _, rfl, rfl, SqL.of (sD.at hpC pCS), atI_nat e9, kk _ _ (sBA.trans ((SB.of sAC).trans sD)) dD (dp_same sD c9)⟩
end
end Qb
end PySem
namespace PySem
namespace Qb
open PySem.W PySem.Calls PyProof.Rows L2
/-! # a world that is drawn -/
def putN (ns : List (Str × Str)) (x t : Str) : List (Str × Str) := if (ns.any fun e => decide (e.1 = x)) = true then ns.map (fun e => if e.1 = x then (e.1, t) else e) else ns ++ [(x, t)]
theorem kvN_put (ns : List (Str × Str)) (x t : Str) : putK (kvN ns) (.inr x) (.str t) = kvN (putN ns x t) := by
  have ea : ((kvN ns).any fun kv => decide (kv.1 = Sum.inr x)) = ns.any fun e => decide (e.1 = x) := by
    unfold kvN
    rw [List.any_map]
    congr 1
    funext e
    show decide ((Sum.inr e.1 : Key) = Sum.inr x) = decide (e.1 = x)
    by_cases h : e.1 = x
    · rw [h, decide_eq_true rfl, decide_eq_true rfl]
    · rw [decide_eq_false h, decide_eq_false fun z => h (Sum.inr.inj z)]
  unfold putK putN
  rw [ea]
  split
  · unfold kvN
    rw [List.map_map, List.map_map]
    refine List.map_congr_left fun e _ => ?_
    show (if (Sum.inr e.1 : Key) = Sum.inr x then _ else _) = _
    by_cases h : e.1 = x
    · rw [if_pos (by rw [h])]
      show _ = (Sum.inr (if e.1 = x then (e.1, t) else e).1, V.str (if e.1 = x then (e.1, t) else e).2)
      rw [if_pos h]
    · rw [if_neg fun z => h (Sum.inr.inj z)]
      show _ = (Sum.inr (if e.1 = x then (e.1, t) else e).1, V.str (if e.1 = x then (e.1, t) else e).2)
      rw [if_neg h]
  · unfold kvN
    rw [List.map_append]
    rfl
theorem putN_ok {ns : List (Str × Str)} {x t : Str} {n : Nat} {P : Str → Prop} (h : ns.length ≤ n ∧ ∀ e ∈ ns, P e.1) (hx : P x) : (putN ns x t).length ≤ n + 1 ∧ ∀ e ∈ putN ns x t, P e.1 := by
  unfold putN
  split
  · refine ⟨by rw [List.length_map]; omega, fun e m => ?_⟩
    obtain ⟨f, mf, rfl⟩ := List.mem_map.mp m
    have := h.2 f mf
    split <;> exact this
  · refine ⟨by rw [List.length_append]; exact Nat.succ_le_succ h.1, fun e m => ?_⟩
    rcases List.mem_append.mp m with m | m
    · exact h.2 e m
    · rw [List.mem_singleton.mp m]
      exact hx
def nsRun : Nat → Dk → List (Str × Str) × Dk
  | 0, d => ([], d)
  | n + 1, d => (putN (nsRun n d).1 (nmD (nsRun n d).2).1 (txD 3 (nmD (nsRun n d).2).2).1, (txD 3 (nmD (nsRun n d).2).2).2)
theorem nsRun_ok : ∀ n d, (nsRun n d).1.length ≤ n ∧ ∀ e ∈ (nsRun n d).1, isNameB (cs e.1) = true ∧ e.1.length ≤ 3
  | 0, d => ⟨Nat.le_refl _, fun e m => by cases m⟩
  | n + 1, d => putN_ok (P := fun x => isNameB (cs x) = true ∧ x.length ≤ 3) (nsRun_ok n d) (nmD_ok _)
def txs : Nat → Dk → List Str × Dk
  | 0, d => ([], d)
  | n + 1, d => ((txs n d).1 ++ [(txD 2 (txs n d).2).1], (txD 2 (txs n d).2).2)
theorem txs_len : ∀ n d, (txs n d).1.length = n
  | 0, _ => rfl
  | n + 1, d => by
    show ((txs n d).1 ++ [_]).length = _
    rw [List.length_append, txs_len n d]
    rfl
theorem txs_range (d : Dk) : ∀ n, (List.range n).map (fun i => V.str (txD 2 (txs i d).2).1) = (txs n d).1.map V.str
  | 0 => rfl
  | n + 1 => by
    rw [List.range_succ, List.map_append, txs_range d n]
    show _ = ((txs n d).1 ++ [_]).map V.str
    rw [List.map_append]
    rfl
def fnm (i : Nat) : Str := "f" ++ Str.ofString (toString ((i : Nat) : Int))
theorem fnm_ok : ∀ i < 10, mayB (fnm i) = true ∧ (fnm i).length ≤ 10 ∧ PyData.strOk (fnm i) = true ∧ (((i : Nat) : Int)).natAbs.log2 < 1920 ∧ ("f" : Str).length + (Str.ofString (toString ((i : Nat) : Int))).length ≤ sizeLine := by decide +kernel
def fnW (d : Dk) : List (Str × PyData) × Dk :=
  if (dr 3 d).1 = 0 then ([(fnm (dr 10 (fnD (dr 3 d).2).2).1, (fnD (dr 3 d).2).1)], (dr 10 (fnD (dr 3 d).2).2).2) else ([], (dr 3 d).2)
noncomputable def partsOf (x : Str) : List Str := by
  classical exact if h : ∃ ps : List Str, x = say ps ∧ ∀ p ∈ ps, Gp p then h.choose else []
theorem partsOf_say {ps : List Str} (g : ∀ p ∈ ps, Gp p) : partsOf (say ps) = ps := by
  have h : ∃ qs : List Str, say ps = say qs ∧ ∀ p ∈ qs, Gp p := ⟨ps, rfl, g⟩
  unfold partsOf
  rw [dif_pos h]
  exact (say_inj g h.choose_spec.2 h.choose_spec.1).symm
noncomputable def wD (m : Nat) (d : Dk) : Wl × Dk :=
  let f := fsD m d
  let a := dr (folders f.1).length f.2
  let n := dr 3 a.2
  let ns := nsRun n.1 n.2
  let b := dr 3 ns.2
  let as := txs b.1 b.2
  let g := fnW as.2
  let t := txD 2 g.2
  let s := dr 256 t.2
  (⟨f.1, partsOf ((folders f.1).getD a.1 ""), ns.1, as.1, t.1, s.1, g.1⟩, s.2)
theorem drawn_folder {n : Nat} {fs : Fls} (h : FOk n fs) (d : Dk) : ∃ ps, (folders fs)[(dr (folders fs).length d).1]? = some (say ps) ∧ partsOf ((folders fs).getD (dr (folders fs).length d).1 "") = ps ∧ (∀ p ∈ ps, Gp p) ∧ isF fs (say ps) = true ∧ (say ps).length ≤ 4 * n + 1 := by
  obtain ⟨m, e⟩ := getD_mem (dr_lt (folders_pos fs) d)
  obtain ⟨ps, e1, g, f, l⟩ := folder_at h _ m
  rw [e1] at e l
  exact ⟨ps, e, by rw [e1]; exact partsOf_say g, g, f, l⟩
theorem fnW_ok (d : Dk) : (fnW d).1.length ≤ 1 ∧ ∀ e ∈ (fnW d).1, CmG 5 (mkC e) ∧ wtC 5 (mkC e) ≤ 5000 := by
  unfold fnW
  split
  · refine ⟨Nat.le_refl _, fun e m => ?_⟩
    rw [List.mem_singleton.mp m]
    obtain ⟨a, b, c, _, _⟩ := fnm_ok _ (dr_lt (m := 10) (by decide) (fnD (dr 3 d).2).2)
    exact fn_ok a (by omega) c _
  · exact ⟨Nat.zero_le _, fun e m => by cases m⟩
theorem wD_good {m : Nat} (hm : m ≤ 50) (d : Dk) : WGood (wD m d).1 := by
  have fo := fsD_ok m d
  obtain ⟨ps, _, e, g, f, l⟩ := drawn_folder fo (fsD m d).2
  obtain ⟨n1, n2⟩ := nsRun_ok (dr 3 (dr (folders (fsD m d).1).length (fsD m d).2).2).1 (dr 3 (dr (folders (fsD m d).1).length (fsD m d).2).2).2
  have lt := dr_lt (m := 3) (by decide) (dr (folders (fsD m d).1).length (fsD m d).2).2
  have fw := fnW_ok
  refine ⟨fo.fgood (by omega), ?_, ?_, fun x mx => ?_, ?_, ?_, ?_⟩
  · have e : (wD m d).1.folder = ps := e
    rw [e]
    exact ⟨g, by omega, f⟩
  · show (nsRun _ _).1.length ≤ 1000
    omega
  · obtain ⟨a, b⟩ := n2 x mx
    exact ⟨a, by unfold big; omega⟩
  · exact Nat.le_of_lt_succ (dr_lt (m := 256) (by decide) _)
  · exact Nat.le_trans (fw _).1 (by decide)
  · exact (fw _).2
/-- data do not look at dicts -/
theorem dp_dict {K : Frag} {H H' : Hp} (s : ∀ b u, H b = some u → (∀ kvs, u ≠ .dK kvs) → H' b = some u) : ∀ {d : PyData} {v : V}, Dp K H v d → Dp K H' v d := by
  have sq : ∀ {a : Addr} {xs : List V}, SqL K H a xs → SqL K H' a xs := fun h => by
    rcases h with (h | ⟨o, h⟩) | h
    · exact .inl (.inl (s _ _ h fun _ z => by cases z))
    · exact .inl (.inr ⟨o, s _ _ h fun _ z => by cases z⟩)
    · exact .inr h
  have st : ∀ {a : Addr} {xs : List V}, SqT K H a xs → SqT K H' a xs := fun h => by
    rcases h with (h | ⟨o, h⟩) | h
    · exact .inl (.inl (s _ _ h fun _ z => by cases z))
    · exact .inl (.inr ⟨o, s _ _ h fun _ z => by cases z⟩)
    · exact .inr h
  intro d v h
  exact Dp.rec (motive_1 := fun v d _ => Dp K H' v d) (motive_2 := fun vs ds _ => DpAll K H' vs ds) .non .bl .int .str (fun h1 _ ih => .lst (sq h1) ih) (fun h1 _ ih => .tup (st h1) ih) .nil (fun _ _ a b => .cons a b) h
/-- a world with the places of its files, names, arguments and functions -/
def WxAt (K : Frag) (H : Hp) (v : V) (W : Wl) (pf pn pa pg : Addr) : Prop := ∃ a gs, v = .ref a ∧ SqT K H a [.ref pf, .str (say W.folder), .ref pn, .ref pa, .str W.text, .int (W.status : Nat), .ref pg] ∧ Dz H pf (kvF W.files) ∧ Dz H pn (kvN W.names) ∧ H pa = some (.lst (W.args.map V.str)) ∧ Dz H pg gs ∧ All2 (FnE K H) gs W.funs
theorem strs_dp {K : Frag} {H : Hp} : ∀ l : List Str, DpAll K H (l.map V.str) (l.map PyData.str)
  | [] => .nil
  | x :: l => .cons (.str x) (strs_dp l)
theorem WxAt.at {K : Frag} {H : Hp} {v : V} {W : Wl} {pf pn pa pg : Addr} (h : WxAt K H v W pf pn pa pg) : WAt K H v W := by
  obtain ⟨a, gs, e, h1, h2, h3, h4, h5, h6⟩ := h
  exact ⟨a, pf, pn, .ref pa, pg, gs, e, h1, h2, h3, .lst (SqL.of h4) (strs_dp _), h5, h6⟩
theorem WxAt.same {K : Frag} {H H' : Hp} {v : V} {W : Wl} {pf pn pa pg : Addr} (h : WxAt K H v W pf pn pa pg) (s : Same H H') : WxAt K H' v W pf pn pa pg := by
  obtain ⟨a, gs, e, h1, h2, h3, h4, h5, h6⟩ := h
  exact ⟨a, gs, e, sqT_same s h1, h2.same s, h3.same s, s _ _ h4, h5.same s, h6.imp fun _ _ r => r.same s⟩
theorem sb_none {S : Addr} {H H' : Hp} (s : SB S H H') {b : Addr} (n : H' b = .none) (ne : b ≠ S) : H b = .none := by
  cases e : H b with
  | none => rfl
  | some u =>
    have z := hide_same _ _ (s _ _ (hide_ne e ne))
    rw [n] at z
    cases z
def spWo (K : Frag) : Sp := fun vs H Q _ => ∃ (S : Addr) (m : Nat) (d : Dk), vs = [.ref S, .int (m : Nat)] ∧ m ≤ 50 ∧ DkAt H S d ∧ ∀ H' v, SB S H H' → DkAt H' S (wD m d).2 → (∃ pf pn pa pg, WxAt K (hide H' S) v (wD m d).1 pf pn pa pg ∧ H pf = none ∧ H pn = none ∧ H pa = none ∧ H pg = none ∧ pf ≠ pn ∧ pf ≠ pg ∧ pn ≠ pg) → Q v H'
section
variable {P : Program} {w : World} {K : Frag} {mg : Str → Option Value} {base : Heap}
abbrev sWo : Stmt := top 104
abbrev nWo : List Str := ["_law_deck_here", "_law_most", "_law_files_here", "_law_folders_here", "_law_folder", "_law_names", "_law_k", "_law_name_here", "_law_arguments", "_law_functions"]
theorem scWo : FnScope nWo ["_law_deck_here", "_law_most"] (defScope sWo) := ⟨rfl, rfl, rfl, by decide +kernel, rfl, by decide +kernel, by decide +kernel⟩
theorem has_Wo {f : Addr} {fd : FuncData}  (F : Fun K "_law_world" "_law_world" sWo f fd) (g : mg "_law_world" = some (.ref f)) (B : Blt mg) (hFs : Has P w K mg base 3 "_law_files" ["_law_deck_here", "_law_most"] (spFs)) (hFo : Has P w K mg base 1 "_law_folders" ["_law_files_here"] (spFo)) (hDr : Has P w K mg base 1 "_law_draw" ["_law_deck_here", "_law_many"] (spDr)) (hNa : Has P w K mg base 2 "_law_name" ["_law_deck_here"] (spNa)) (hTx : Has P w K mg base 2 "_law_text" ["_law_deck_here", "_law_most"] (spTx)) (hFu : Has P w K mg base 2 "_law_function" ["_law_deck_here"] (spFu K)) :
    Has P w K mg base 4 "_law_world" ["_law_deck_here", "_law_most"] (spWo K) := by
  obtain ⟨fFs, dFs, gFs, kFs, bFs, GFs⟩ := hFs
  obtain ⟨fFo, dFo, gFo, kFo, bFo, GFo⟩ := hFo
  obtain ⟨fDr, dDr, gDr, kDr, bDr, GDr⟩ := hDr
  obtain ⟨fNa, dNa, gNa, kNa, bNa, GNa⟩ := hNa
  obtain ⟨fTx, dTx, gTx, kTx, bTx, GTx⟩ := hTx
  obtain ⟨fFu, dFu, gFu, kFu, bFu, GFu⟩ := hFu
  refine has_of F g (F.binds (ps := ["_law_deck_here", "_law_most"]) fun _ _ _ _ _ _ us hl => match us, hl with | [_, _], _ => rfl) (F.ok scWo (fun vs H Q E h => ?_) (fun cdv A outer s H vs Q E hr h => ?_))
  · obtain ⟨S, m, d, rfl, _⟩ := h
    rfl
  · have hu := hu_of hr
    refine ⟨_, (pss_cons (ps_set (i := 2) scWo.nd rfl (.inl rfl) (pe_call GFs hr rfl gFs kFs bFs .nil pass0 (pa_cons (pv 0) (pa_cons (pv 1) pa_nil))))
        (pss_cons (ps_set (i := 3) scWo.nd rfl (.inl rfl) (pe_call GFo (hr.mono (by decide)) rfl gFo kFo bFo .nil pass0 (pa_cons (pv 2) pa_nil)))
        (pss_cons (ps_set (i := 4) scWo.nd rfl (.inl rfl) (pe_ix ix_list (pv 3) (pe_call GDr (hr.mono (by decide)) rfl gDr kDr bDr .nil pass0 (pa_cons (pv 0) (pa_cons (pe_callB call_len_seq (by rfl) B.len PySem.boot_len (pa_cons (pv 3) pa_nil)) pa_nil))) (fun _ _ => rfl)))
        (pss_cons (ps_set (i := 5) scWo.nd rfl (.inl rfl) pe_dnewK)
        (pss_cons (ps_for PassesOwn.never rfl (pi_range1 (by rfl) B.range (pa_cons (pe_call GDr (hr.mono (by decide)) rfl gDr kDr bDr .nil pass0 (pa_cons (pv 0) (pa_cons pe_int pa_nil))) pa_nil)) (pg_name (i := 6) scWo.nd rfl (.inl rfl))
          (pss_cons (ps_set (i := 7) scWo.nd rfl (.inl rfl) (pe_call GNa (hr.mono (by decide)) rfl gNa kNa bNa .nil pass0 (pa_cons (pv 0) pa_nil)))
          (pss_one (ps_dput hu (pv 5) (pv 7) (pe_call GTx (hr.mono (by decide)) rfl gTx kTx bTx .nil pass0 (pa_cons (pv 0) (pa_cons pe_int pa_nil))) rfl))))
        (pss_cons (ps_frz (ps_setLc (i := 8) (own := [("_law_k", 6)]) (g := gName 6) (tt := tYes) rfl scWo.nd rfl rfl (sw_true rfl rfl rfl (by decide +kernel)) (pi_range1 (by rfl) B.range (pa_cons (pe_call GDr (hr.mono (by decide)) rfl gDr kDr bDr .nil pass0 (pa_cons (pv 0) (pa_cons pe_int pa_nil))) pa_nil)) (blkOk_by (N := nWo) (sc := defScope sWo) (by decide +kernel)) (fun _ _ _ _ _ => pg_name (i := 6) scWo.nd rfl (.inl rfl)) (fun _ _ _ _ _ => pts_nil) (fun _ _ _ _ _ => (pe_call GTx (hr.mono (by decide)) rfl gTx kTx bTx .nil pass0 (pa_cons (pv 0) (pa_cons pe_int pa_nil))))))
        (pss_cons (ps_set (i := 9) scWo.nd rfl (.inl rfl) pe_dnewK)
        (pss_cons (ps_weak (ps_if (pt_cmpR op_eq (pe_call GDr (hr.mono (by decide)) rfl gDr kDr bDr .nil pass0 (pa_cons (pv 0) (pa_cons pe_int pa_nil))) pe_int (nomark _)) (pss_one (ps_dput hu (pv 9) (pe_op op_add_str pe_str (pe_callTy call_str_int (by rfl) B.str (by decide +kernel) (pa_cons (pe_call GDr (hr.mono (by decide)) rfl gDr kDr bDr .nil pass0 (pa_cons (pv 0) (pa_cons pe_int pa_nil))) pa_nil))) (pe_call GFu (hr.mono (by decide)) rfl gFu kFu bFu .nil pass0 (pa_cons (pv 0) pa_nil)) rfl)) pss_nil))
        (pss_one (ps_frz (ps_ret (pe_tup (pa_cons (pv 2) (pa_cons (pv 4) (pa_cons (pv 5) (pa_cons (pv 8) (pa_cons (pe_call GTx (hr.mono (by decide)) rfl gTx kTx bTx .nil pass0 (pa_cons (pv 0) (pa_cons pe_int pa_nil))) (pa_cons (pe_call GDr (hr.mono (by decide)) rfl gDr kDr bDr .nil pass0 (pa_cons (pv 0) (pa_cons pe_int pa_nil))) (pa_cons (pv 9) pa_nil))))))))))))))))))), ?_⟩
    obtain ⟨S, m, d, rfl, hm, hd, k⟩ := h
    have fo := fsD_ok m d
    have eW : wD m d = (⟨(fsD m d).1, partsOf ((folders (fsD m d).1).getD (dr (folders (fsD m d).1).length (fsD m d).2).1 ""), (nsRun (dr 3 (dr (folders (fsD m d).1).length (fsD m d).2).2).1 (dr 3 (dr (folders (fsD m d).1).length (fsD m d).2).2).2).1,
      (txs (dr 3 (nsRun (dr 3 (dr (folders (fsD m d).1).length (fsD m d).2).2).1 (dr 3 (dr (folders (fsD m d).1).length (fsD m d).2).2).2).2).1 (dr 3 (nsRun (dr 3 (dr (folders (fsD m d).1).length (fsD m d).2).2).1 (dr 3 (dr (folders (fsD m d).1).length (fsD m d).2).2).2).2).2).1,
      (wD m d).1.text, (wD m d).1.status, (wD m d).1.funs⟩, (wD m d).2) := rfl
    refine ⟨_, rfl, _, rfl, S, m, d, rfl, hm, hd, fun H1 pf s1 d1 npf zf => ?_⟩
    have k1 : ∀ H' v, SB S H H' → DkAt H' S (wD m d).2 → (∃ pf pn pa pg, WxAt K (hide H' S) v (wD m d).1 pf pn pa pg ∧ H pf = none ∧ H pn = none ∧ H pa = none ∧ H pg = none ∧ pf ≠ pn ∧ pf ≠ pg ∧ pn ≠ pg) → Q v H' := k
    clear k
    -- the folder
    obtain ⟨ps, ep, epo, gp, _, lp⟩ := drawn_folder fo (fsD m d).2
    have wf : (wD m d).1.files = (fsD m d).1 := rfl
    have wo : (wD m d).1.folder = ps := epo
    have lfo := folders_len fo
    have lfw := fo.few
    obtain ⟨of, hf⟩ := zf
    refine ⟨_, rfl, pf, (fsD m d).1, rfl, .inr ⟨of, hide_same _ _ hf⟩, by omega, fun H2 q s2 nq hq => ?_⟩
    have d2 := s2 _ _ d1
    have qS : q ≠ S := Ne.symm (ne_new d1 nq)
    refine ⟨_, rfl, _, rfl, _, rfl, q, _, rfl, .inl (SqL.of hq), S, (folders (fsD m d).1).length, (fsD m d).2, ?_, folders_pos _, Nat.le_trans (by omega : _ ≤ 2000) (by decide), d2, fun H3 s3 d3 => ?_⟩
    · rw [List.length_map]
      rfl
    refine ⟨q, _, _, _, rfl, rfl, SqL.of (s3.at hq qS), atI_nat (by rw [List.getElem?_map, ep]; rfl), ?_⟩
    have zf3 : hide H3 S pf = some (.frz of (.dK (kvF (fsD m d).1))) := ((SB.of (S := S) s2).trans s3) _ _ hf
    have sH3 : SB S H H3 := (s1.trans (SB.of s2)).trans s3
    generalize he1 : (dr (folders (fsD m d).1).length (fsD m d).2).2 = e1 at d3
    -- the names
    refine fun pn npn => ?_
    have pnS : pn ≠ S := Ne.symm (ne_new d3 npn)
    have d4 : DkAt (L2.upd H3 pn (.dK [])) S e1 := same_upd npn _ _ d3
    have hn4 : (L2.upd H3 pn (.dK [])) pn = some (.dK (kvN (nsRun 0 (dr 3 e1).2).1)) := upd_same
    have s4 : SB S H3 (L2.upd H3 pn (.dK [])) := (SB.refl S H3).put_new npn
    generalize L2.upd H3 pn (.dK []) = H4 at d4 hn4 s4 ⊢
    refine ⟨_, rfl, S, 3, e1, rfl, by decide, by decide, d4, fun H5 s5 d5 => ?_⟩
    have lt := dr_lt (m := 3) (by decide) e1
    have bb := big30 (n := (dr 3 e1).1) (by omega)
    refine ⟨_, rfl, bb.1, bb.2, ?_⟩
    generalize hn : (dr 3 e1).1 = n at lt bb ⊢
    generalize he2 : (dr 3 e1).2 = e2 at d5 hn4
    refine for_range (lo := 0) (n := n) (fun i σ H' => ∃ a b, σ = [some (.ref S), some (.int (m : Nat)), some (.ref pf), some (.ref q), some (.str (say ps)), some (.ref pn), a, b, none, none] ∧ SB S H3 H' ∧ DkAt H' S (nsRun i e2).2 ∧ H' pn = some (.dK (kvN (nsRun i e2).1)))
      ⟨_, _, rfl, s4.trans s5, d5, s5.at hn4 pnS⟩ (fun i σ H' hi e => ?_) (fun σ H' e => ?_)
    · obtain ⟨a, b, rfl, s', dk, hp⟩ := e
      have nl := (nsRun_ok i e2).1
      refine ⟨_, rfl, S, _, rfl, dk, fun H6 s6 d6 => ?_⟩
      refine ⟨_, rfl, S, 3, _, rfl, by decide, d6, fun H7 s7 d7 => ?_⟩
      have s67 : SB S H' H7 := s6.trans s7
      have hp7 := s67.at hp pnS
      have kl : (kvN (nsRun i e2).1).length = (nsRun i e2).1.length := List.length_map ..
      refine ⟨_, rfl, _, rfl, pn, _, rfl, DPut.k (k := Sum.inr (nmD (nsRun i e2).2).1) hp7 (by rw [kl, sizeLine_eq]; omega), ?_⟩
      refine ⟨some (.int (0 + (i : Nat))), some (.str (nmD (nsRun i e2).2).1), rfl, SB.put_new (s'.trans s67) npn, ?_, ?_⟩
      · unfold DkAt
        rw [upd_ne (Ne.symm pnS)]
        exact d7
      · rw [upd_same]
        exact congrArg (fun z => some (HO.dK z)) (kvN_put _ _ _)
    · obtain ⟨a, b, rfl, s', dk, hp⟩ := e
      obtain ⟨n1, n2⟩ := nsRun_ok n e2
      have wn : (wD m d).1.names = (nsRun n e2).1 := by rw [eW, he1, he2, hn]
      generalize he3 : (nsRun n e2).2 = e3 at dk
      -- the arguments
      refine ⟨pn, _, hp, trivial, fun o1 => ?_⟩
      have d6 : DkAt (L2.upd H' pn (.frz o1 (.dK (kvN (nsRun n e2).1)))) S e3 := by
        unfold DkAt
        rw [upd_ne (Ne.symm pnS)]
        exact dk
      have zn6 : hide (L2.upd H' pn (.frz o1 (.dK (kvN (nsRun n e2).1)))) S pn = some (.frz o1 (.dK (kvN (nsRun n e2).1))) := hide_ne upd_same pnS
      have s6 : SB S H3 (L2.upd H' pn (.frz o1 (.dK (kvN (nsRun n e2).1)))) := SB.put_new s' npn
      have zf6 := s6 _ _ zf3
      generalize L2.upd H' pn (.frz o1 (.dK (kvN (nsRun n e2).1))) = H6 at d6 zn6 s6 zf6 ⊢
      refine ⟨_, rfl, S, 3, e3, rfl, by decide, by decide, d6, fun H7 s7 d7 => ?_⟩
      have lt := dr_lt (m := 3) (by decide) e3
      have bb := big30 (n := (dr 3 e3).1) (by omega)
      refine ⟨_, rfl, bb.1, bb.2, fun D hD => ?_⟩
      generalize hn2 : (dr 3 e3).1 = n2 at lt bb ⊢
      generalize he4 : (dr 3 e3).2 = e4 at d7
      have DS : D ≠ S := Ne.symm (ne_new d7 hD)
      refine lc_st (walk_range (lo := 0) (n := n2)) (fun i => (txs i e4).2) (fun i => .str (txD 2 (txs i e4).2).1) d7 hD (by omega) (fun _ _ => trivial) (fun i x H1 H' _ y => by rw [y.1]; exact Same.refl _) (fun i x H2 H3 Q hi s2 d2 y kk => ?_) (fun H8 s8 d8 hq8 => ?_)
      · obtain ⟨rfl, rfl⟩ := y
        exact ⟨rfl, _, rfl, S, 2, _, rfl, by decide, d2, fun H4 s4 d4 => kk _ s4 d4⟩
      · have wa : (wD m d).1.args = (txs n2 e4).1 := by rw [eW, he1, he2, hn, he3, hn2, he4]
        rw [txs_range e4 n2] at hq8
        have s68 : SB S H6 H8 := s7.trans s8
        have zn8 := s68 _ _ zn6
        have zf8 := s68 _ _ zf6
        have hD8 : hide H8 S D = some (.lst ((txs n2 e4).1.map V.str)) := hide_ne hq8 DS
        have sH8 : SB S H H8 := (sH3.trans s6).trans s68
        have d8 : DkAt H8 S (txs n2 e4).2 := d8
        have wtx : (txD 2 (fnW (txs n2 e4).2).2).1 = (wD m d).1.text ∧ (dr 256 (txD 2 (fnW (txs n2 e4).2).2).2).1 = (wD m d).1.status ∧ (fnW (txs n2 e4).2).1 = (wD m d).1.funs ∧ (dr 256 (txD 2 (fnW (txs n2 e4).2).2).2).2 = (wD m d).2 := by
          rw [← he4, ← hn2, ← he3, ← he2, ← hn, ← he1]
          exact ⟨rfl, rfl, rfl, rfl⟩
        obtain ⟨wt, ws, wg, wz⟩ := wtx
        generalize (txs n2 e4).2 = e5 at d8 wt ws wg wz
        -- the functions
        refine fun pg npg => ?_
        have pgS : pg ≠ S := Ne.symm (ne_new d8 npg)
        have d9 : DkAt (L2.upd H8 pg (.dK [])) S e5 := same_upd npg _ _ d8
        have hg9 : (L2.upd H8 pg (.dK [])) pg = some (.dK []) := upd_same
        have s9 : SB S H8 (L2.upd H8 pg (.dK [])) := (SB.refl S H8).put_new npg
        generalize L2.upd H8 pg (.dK []) = H9 at d9 hg9 s9 ⊢
        refine ⟨fun σ' H' => ∃ a b gs, σ' = [some (.ref S), some (.int (m : Nat)), some (.ref pf), some (.ref q), some (.str (say ps)), some (.ref pn), a, b, some (.ref D), some (.ref pg)] ∧ SB S H8 H' ∧ DkAt H' S (fnW e5).2 ∧ H' pg = some (.dK gs) ∧ All2 (FnE K (hide H' S)) gs (fnW e5).1, fun σ' H' h => ?_, ?_⟩
        · obtain ⟨a, b, gs, rfl, s', dk, hg, al⟩ := h
          refine ⟨pg, _, hg, trivial, fun og => ?_⟩
          have dZ : DkAt (L2.upd H' pg (.frz og (.dK gs))) S (fnW e5).2 := by
            unfold DkAt
            rw [upd_ne (Ne.symm pgS)]
            exact dk
          have zgZ : hide (L2.upd H' pg (.frz og (.dK gs))) S pg = some (.frz og (.dK gs)) := hide_ne upd_same pgS
          have sZ : SB S H8 (L2.upd H' pg (.frz og (.dK gs))) := SB.put_new s' npg
          have alZ : All2 (FnE K (hide (L2.upd H' pg (.frz og (.dK gs))) S)) gs (fnW e5).1 := al.imp fun kv e r => ⟨r.1, dp_dict (fun b u hb hn => by
            have nb : b ≠ pg := fun z => by
              rw [z] at hb
              have := hide_same _ _ hb
              rw [hg] at this
              exact hn _ (Option.some.inj this).symm
            have nS : b ≠ S := fun z => by
              rw [z] at hb
              unfold hide at hb
              rw [if_pos rfl] at hb
              cases hb
            refine hide_ne ?_ nS
            rw [upd_ne nb]
            exact hide_same _ _ hb) r.2⟩
          generalize L2.upd H' pg (.frz og (.dK gs)) = HZ at dZ zgZ sZ alZ ⊢
          refine ⟨_, rfl, _, rfl, _, rfl, _, rfl, _, rfl, S, 2, _, rfl, by decide, dZ, fun HX sX dX => ⟨_, rfl, S, 256, _, rfl, by decide, by decide, dX, fun HY sY dY => ⟨_, rfl, (by decide : 7 ≤ sizeLine), fun p np => ?_⟩⟩⟩
          rw [wt, ws]
          have sXY : SB S HZ HY := sX.trans sY
          have sp := same_upd (o := .tup [.ref pf, .str (say ps), .ref pn, .ref D, .str (wD m d).1.text, .int ((wD m d).1.status : Nat), .ref pg]) np
          have sL : SB S HZ (L2.upd HY p (.tup [.ref pf, .str (say ps), .ref pn, .ref D, .str (wD m d).1.text, .int ((wD m d).1.status : Nat), .ref pg])) := sXY.trans (SB.of sp)
          have s8L := sZ.trans sL
          have pS : p ≠ S := Ne.symm (ne_new dY np)
          refine k1 _ _ (sH8.trans s8L) (by rw [← wz]; exact sp _ _ dY) ⟨pf, pn, D, pg, ⟨p, gs, rfl, ?_, ⟨of, ?_⟩, ⟨o1, ?_⟩, ?_, ⟨og, sL _ _ zgZ⟩, ?_⟩, npf, sb_none sH3 npn pnS, sb_none ((sH3.trans s6).trans s7) hD DS, sb_none sH8 npg pgS, ne_new (hide_same _ _ zf3) npn, ne_new (hide_same _ _ zf8) npg, ne_new (hide_same _ _ zn8) npg⟩
          · rw [wo]
            exact SqT.of (hide_ne upd_same pS)
          · rw [wf]
            exact s8L _ _ zf8
          · rw [wn]
            exact s8L _ _ zn8
          · rw [wa]
            exact s8L _ _ hD8
          · rw [← wg]
            exact alZ.imp fun _ _ r => r.same sL
        · refine ⟨_, rfl, S, 3, e5, rfl, by decide, by decide, d9, fun HA sA dA => ⟨rfl, _, rfl, ?_⟩⟩
          have hgA := sA.at hg9 pgS
          by_cases ec : (dr 3 e5).1 = 0
          · have e6 : fnW e5 = ([(fnm (dr 10 (fnD (dr 3 e5).2).2).1, (fnD (dr 3 e5).2).1)], (dr 10 (fnD (dr 3 e5).2).2).2) := if_pos ec
            rw [e6]
            refine if_yes (by rw [ec]; rfl) ⟨_, rfl, S, _, rfl, dA, fun HB v sB dB dv => ⟨_, rfl, _, rfl, S, 10, _, rfl, by decide, by decide, dB, fun HC sC dC => ?_⟩⟩
            obtain ⟨_, _, _, f1, f2⟩ := fnm_ok _ (dr_lt (m := 10) (by decide) (fnD (dr 3 e5).2).2)
            have hgC := (SB.at (sB.trans sC) hgA pgS)
            refine ⟨_, rfl, f1, _, _, rfl, rfl, f2, pg, _, rfl, DPut.k (k := Sum.inr (fnm (dr 10 (fnD (dr 3 e5).2).2).1)) hgC (by decide), ?_⟩
            have dvC := dp_same sC dv
            refine ⟨_, _, _, rfl, SB.put_new (((s9.trans sA).trans sB).trans sC) npg, ?_, upd_same, .cons ⟨rfl, dp_dict (fun b u hb hn => ?_) dvC⟩ .nil⟩
            · unfold DkAt
              rw [upd_ne (Ne.symm pgS)]
              exact dC
            · have nb : b ≠ pg := fun z => by
                rw [z] at hb
                have := hide_same _ _ hb
                rw [hgC] at this
                exact hn _ (Option.some.inj this).symm
              have nS : b ≠ S := fun z => by
                rw [z] at hb
                unfold hide at hb
                rw [if_pos rfl] at hb
                cases hb
              refine hide_ne ?_ nS
              rw [upd_ne nb]
              exact hide_same _ _ hb
          · have e6 : fnW e5 = ([], (dr 3 e5).2) := if_neg ec
            rw [e6]
            exact if_no (decide_eq_false fun z => ec (by have y := V.int.inj z; omega)) ⟨_, _, _, rfl, s9.trans sA, dA, hgA, .nil⟩
end
end Qb
end PySem
namespace PySem
namespace Qb
open PySem.W PySem.Calls PyProof.Rows L2
/-! # alike, by the law's own comparison -/
theorem call_lenZ {X : Cx} : CallR X (.builtin "len") (fun xs H Q => ∃ a kvs, xs = [V.ref a] ∧ L2.Rd H a (.dK kvs) ∧ Q (.int kvs.length) H) := by
  intro pins s σ H xs us Q I r h
  obtain ⟨a, kvs, rfl, ha, q⟩ := h
  obtain ⟨u, rfl, ru⟩ := vals1 r
  cases ru
  exact d_len I ha fun t s' I' => ⟨.int kvs.length, H, I', ⟨t, rfl⟩, q⟩
/-- as it was, but for dicts that are not written to meanwhile -/
def Fz (H H' : Hp) : Prop := ∀ b u, H b = some u → H' b = some u ∨ ∃ o kvs, u = .dK kvs ∧ H' b = some (.frz o u)
theorem Fz.of {H H' : Hp} (s : Same H H') : Fz H H' := fun b u e => .inl (s b u e)
theorem Fz.lock {H : Hp} {d : Addr} {o : Obj} {kvs : List (Key × V)} (h : H d = some (.dK kvs)) : Fz H (L2.upd H d (.frz o (.dK kvs))) := fun b u e => by
  by_cases z : b = d
  · subst z
    rw [h] at e
    cases e
    exact .inr ⟨o, kvs, rfl, upd_same⟩
  · exact .inl (by rw [upd_ne z]; exact e)
theorem Fz.trans {H H1 H2 : Hp} (a : Fz H H1) (s : Same H1 H2) : Fz H H2 := fun b u e => by
  rcases a b u e with h | ⟨o, kvs, h1, h2⟩
  · exact .inl (s _ _ h)
  · exact .inr ⟨o, kvs, h1, s _ _ h2⟩
theorem Fz.seqL {K : Frag} {H H' : Hp} {a : Addr} {xs : List V} (f : Fz H H') (h : SqL K H a xs) : SqL K H' a xs := by
  rcases h with (h | ⟨o, h⟩) | h
  · rcases f _ _ h with h | ⟨_, _, e, _⟩
    · exact .inl (.inl h)
    · cases e
  · rcases f _ _ h with h | ⟨_, _, e, _⟩
    · exact .inl (.inr ⟨o, h⟩)
    · cases e
  · exact .inr h
theorem Fz.seqT {K : Frag} {H H' : Hp} {a : Addr} {xs : List V} (f : Fz H H') (h : SqT K H a xs) : SqT K H' a xs := by
  rcases h with (h | ⟨o, h⟩) | h
  · rcases f _ _ h with h | ⟨_, _, e, _⟩
    · exact .inl (.inl h)
    · cases e
  · rcases f _ _ h with h | ⟨_, _, e, _⟩
    · exact .inl (.inr ⟨o, h⟩)
    · cases e
  · exact .inr h
theorem Fz.rd {H H' : Hp} {a : Addr} {kvs : List (Key × V)} (f : Fz H H') (h : L2.Rd H a (.dK kvs)) : L2.Rd H' a (.dK kvs) := by
  rcases h with h | ⟨o, h⟩
  · rcases f _ _ h with h | ⟨o, _, e, h⟩
    · exact .inl h
    · exact .inr ⟨o, h⟩
  · rcases f _ _ h with h | ⟨_, _, e, _⟩
    · exact .inr ⟨o, h⟩
    · cases e
theorem Fz.dp {K : Frag} {H H' : Hp} (f : Fz H H') : ∀ {d : PyData} {v : V}, Dp K H v d → Dp K H' v d := by
  intro d v h
  exact Dp.rec (motive_1 := fun v d _ => Dp K H' v d) (motive_2 := fun vs ds _ => DpAll K H' vs ds) .non .bl .int .str (fun h1 _ ih => .lst (f.seqL h1) ih) (fun h1 _ ih => .tup (f.seqT h1) ih) .nil (fun _ _ a b => .cons a b) h
theorem rd_same {H H' : Hp} {a : Addr} {kvs : List (Key × V)} (s : Same H H') (h : L2.Rd H a (.dK kvs)) : L2.Rd H' a (.dK kvs) := (Fz.of s).rd h
theorem rd_get {H : Hp} {a : Addr} {kvs : List (Key × V)} (h : L2.Rd H a (.dK kvs)) (k : Key) : DGet H a (kV k) (valV kvs k) := .inl ⟨kvs, k, h, rfl, rfl⟩
theorem Dz.rd {H : Hp} {a : Addr} {kvs : List (Key × V)} (h : Dz H a kvs) : L2.Rd H a (.dK kvs) := .inr h
/-- found v, due u -/
def Alk (K : Frag) (H : Hp) : Nat → V → V → Prop
  | 0, _, _ => False
  | n + 1, v, u => (∃ d, Pl0 d ∧ Dp K H v d ∧ Dp K H u d) ∨
    (∃ a c xs ys, v = .ref a ∧ u = .ref c ∧ SqL K H a xs ∧ SqL K H c ys ∧ xs.length ≤ 1000 ∧ All2 (Alk K H n) xs ys) ∨
    (∃ a c xs ys, v = .ref a ∧ u = .ref c ∧ SqT K H a xs ∧ SqT K H c ys ∧ xs.length ≤ 1000 ∧ All2 (Alk K H n) xs ys) ∨
    (∃ a c kvs lvs, v = .ref a ∧ u = .ref c ∧ L2.Rd H a (.dK kvs) ∧ L2.Rd H c (.dK lvs) ∧ kvs.length = lvs.length ∧ kvs.length ≤ 1000 ∧ ∀ (i : Nat) (k : Key) (w : V), lvs[i]? = some (k, w) → ∃ x y, valV kvs k = some x ∧ valV lvs k = some y ∧ Alk K H n x y)
theorem Alk.fz {K : Frag} {H H' : Hp} (s : Fz H H') : ∀ {n : Nat} {v u : V}, Alk K H n v u → Alk K H' n v u
  | 0, _, _, h => h
  | n + 1, v, u, h => by
    rcases h with ⟨d, p, h1, h2⟩ | ⟨a, c, xs, ys, e1, e2, h1, h2, l, al⟩ | ⟨a, c, xs, ys, e1, e2, h1, h2, l, al⟩ | ⟨a, c, kvs, lvs, e1, e2, h1, h2, l1, l2, al⟩
    · exact .inl ⟨d, p, s.dp h1, s.dp h2⟩
    · exact .inr (.inl ⟨a, c, xs, ys, e1, e2, s.seqL h1, s.seqL h2, l, al.imp fun _ _ r => Alk.fz s r⟩)
    · exact .inr (.inr (.inl ⟨a, c, xs, ys, e1, e2, s.seqT h1, s.seqT h2, l, al.imp fun _ _ r => Alk.fz s r⟩))
    · exact .inr (.inr (.inr ⟨a, c, kvs, lvs, e1, e2, s.rd h1, s.rd h2, l1, l2, fun i k w e => by
        obtain ⟨x, y, a1, a2, a3⟩ := al i k w e
        exact ⟨x, y, a1, a2, Alk.fz s a3⟩⟩))
theorem Alk.same {K : Frag} {H H' : Hp} (s : Same H H') {n : Nat} {v u : V} (h : Alk K H n v u) : Alk K H' n v u := h.fz (Fz.of s)
/-- a dict is walked, written to or not by others -/
def tLk (t : TE) : TE := fun σ H Q => t σ H Q ∨ tLockE t σ H Q
theorem pe_lk {X : Cx} {e : Expr} {t : TE} (h : PE X e t) : PE X e (tLk t) := ⟨fun pins s σ H Q I q => q.elim (h.run pins s σ H Q I) ((pe_lock h).run pins s σ H Q I)⟩
/-- what is to be shown of a walk over a dict's keys, and what comes of it: a new list at D -/
theorem walk_lk {t : TE} {σ : L2.St} {H : Hp} {Q : VK} {c : Addr} {kvs : List (Key × V)} (h : L2.Rd H c (.dK kvs)) (R : Addr → Hp → Prop)
    (run : ∀ (H1 : Hp) (o : Obj) (Q1 : VK), Fz H H1 → H1 c = some (.frz o (.dK kvs)) → (∀ D H2, Same H1 H2 → H1 D = none → (∀ H3, H3 D = H2 D → R D H3) → Q1 (.ref D) H2) → t σ H1 Q1)
    (fin : ∀ D H', Same H H' → H D = none → R D H' → Q (.ref D) H') : tLk t σ H Q := by
  rcases h with h | ⟨o, h⟩
  · refine .inr ⟨c, _, h, trivial, fun od => run _ od _ (Fz.lock h) upd_same fun D H2 s2 nD r => ?_⟩
    have Dc : D ≠ c := fun z => by rw [z, upd_same] at nD; cases nD
    have nD' : H D = none := by rw [upd_ne Dc] at nD; exact nD
    refine ⟨s2 _ _ upd_same, fin D _ (fun b u e => ?_) nD' (r _ (upd_ne Dc))⟩
    by_cases z : b = c
    · subst z
      rw [upd_same, ← e, h]
    · rw [upd_ne z]
      exact s2 _ _ (by rw [upd_ne z]; exact e)
  · exact .inl (run H o Q (Fz.of (Same.refl H)) h fun D H2 s2 nD r => fin D H2 s2 nD (r H2 rfl))
theorem rd_ty {K : Frag} {H : Hp} {a : Addr} {kvs : List (Key × V)} (h : L2.Rd H a (.dK kvs)) : TyX K H (.ref a) (.type "dict") := by
  rcases h with h | ⟨o, h⟩
  · exact .base (.dK h)
  · exact .fDict h
def spSm (K : Frag) (n : Nat) : Sp := fun vs H Q _ => ∃ v u, vs = [v, u] ∧ Alk K H n v u ∧ ∀ H', Same H H' → Q (.bl true) H'
section
variable {P : Program} {w : World} {K : Frag} {mg : Str → Option Value} {base : Heap}
abbrev sSm : Stmt := top 105
abbrev nSm : List Str := ["_law_found", "_law_due_here", "_law_k", "_law_key"]
theorem scSm : FnScope nSm ["_law_found", "_law_due_here"] (defScope sSm) := ⟨rfl, rfl, rfl, by decide +kernel, rfl, by decide +kernel, by decide +kernel⟩
theorem ok_Sm {f : Addr} {fd : FuncData} (F : Fun K "_law_same" "_law_same" sSm f fd) (g : mg "_law_same" = some (.ref f)) (b : Binds K fd ["_law_found", "_law_due_here"] []) (B : Blt mg) : ∀ n, FnOk P w K mg base CX0 (n + 1) f fd ["_law_found", "_law_due_here"] (spSm K n)
  | 0 => F.ok scSm (fun vs H Q E h => by obtain ⟨v, u, rfl, h, _⟩ := h; exact h.elim) (fun cdv A outer s H vs Q E hr h => by obtain ⟨v, u, rfl, h, _⟩ := h; exact h.elim)
  | n + 1 => by
    have GSm := ok_Sm F g b B n
    refine F.ok scSm (fun vs H Q E h => by obtain ⟨v, u, rfl, _⟩ := h; rfl) (fun cdv A outer s H vs Q E hr h => ?_)
    have hu := hu_of hr
    refine ⟨_, (pss_cons (ps_if (PW.pt (pw_or (pt_val (pe_callB call_isi (by rfl) B.isi (by decide +kernel) (pa_cons (pv 1) (pa_cons (pe_bltn (v := .ty "list") (by rfl) B.list (by decide +kernel) rfl) pa_nil)))) (pw_or1 (pt_val (pe_callB call_isi (by rfl) B.isi (by decide +kernel) (pa_cons (pv 1) (pa_cons (pe_bltn (v := .ty "tuple") (by rfl) B.tuple (by decide +kernel) rfl) pa_nil))))))) (pss_cons (ps_if (PW.pt (pw_or (pt_cmpR op_ne (pe_callB call_isi (by rfl) B.isi (by decide +kernel) (pa_cons (pv 1) (pa_cons (pe_bltn (v := .ty "list") (by rfl) B.list (by decide +kernel) rfl) pa_nil))) (pe_callB call_isi (by rfl) B.isi (by decide +kernel) (pa_cons (pv 0) (pa_cons (pe_bltn (v := .ty "list") (by rfl) B.list (by decide +kernel) rfl) pa_nil))) (nomark _)) (pw_or1 (pt_cmpR op_ne (pe_callB call_isi (by rfl) B.isi (by decide +kernel) (pa_cons (pv 1) (pa_cons (pe_bltn (v := .ty "tuple") (by rfl) B.tuple (by decide +kernel) rfl) pa_nil))) (pe_callB call_isi (by rfl) B.isi (by decide +kernel) (pa_cons (pv 0) (pa_cons (pe_bltn (v := .ty "tuple") (by rfl) B.tuple (by decide +kernel) rfl) pa_nil))) (nomark _))))) (pss_one (ps_ret pe_bl)) pss_nil)
          (pss_one (ps_ret (pe_and (pe_cmpR op_eq (pe_callB call_len_seq (by rfl) B.len PySem.boot_len (pa_cons (pv 0) pa_nil)) (pe_callB call_len_seq (by rfl) B.len PySem.boot_len (pa_cons (pv 1) pa_nil)) (nomark _)) (pe_one (pe_callB (cr_all rfl) (by rfl) B.all (by decide +kernel) (pa_cons (pe_lc (te := tCall (spSm K n) [] E0 (tCons (tOp (rIx K) (tVar 0) (tVar 2)) (tCons (tOp (rIx K) (tVar 1) (tVar 2)) tNil))) (own := [("_law_k", 2)]) (g := gName 2) (tt := tYes) rfl scSm.nd (pi_range1 (by rfl) B.range (pa_cons (pe_callB call_len_seq (by rfl) B.len PySem.boot_len (pa_cons (pv 1) pa_nil)) pa_nil)) (blkOk_by (N := nSm) (sc := defScope sSm) (by decide +kernel)) (fun _ _ _ _ _ => pg_name (i := 2) scSm.nd rfl (.inl rfl)) (fun _ _ _ _ _ => pts_nil) (fun _ _ _ _ _ => (pe_call GSm hr rfl g F.kp b .nil pass0 (pa_cons (pe_ix ix_seq (pv 0) (pv 2) (fun _ _ => rfl)) (pa_cons (pe_ix ix_seq (pv 1) (pv 2) (fun _ _ => rfl)) pa_nil))))) pa_nil))))))) pss_nil)
        (pss_cons (ps_if (pt_val (pe_callB call_isi (by rfl) B.isi (by decide +kernel) (pa_cons (pv 1) (pa_cons (pe_bltn (v := .ty "dict") (by rfl) B.dict (by decide +kernel) rfl) pa_nil)))) (pss_cons (ps_if (PW.pt (pw_or (pt_not (pt_val (pe_callB call_isi (by rfl) B.isi (by decide +kernel) (pa_cons (pv 0) (pa_cons (pe_bltn (v := .ty "dict") (by rfl) B.dict (by decide +kernel) rfl) pa_nil))))) (pw_or1 (pt_cmpR op_ne (pe_callB call_lenZ (by rfl) B.len PySem.boot_len (pa_cons (pv 0) pa_nil)) (pe_callB call_lenZ (by rfl) B.len PySem.boot_len (pa_cons (pv 1) pa_nil)) (nomark _))))) (pss_one (ps_ret pe_bl)) pss_nil)
          (pss_one (ps_ret (pe_callB (cr_all rfl) (by rfl) B.all (by decide +kernel) (pa_cons (pe_lk (pe_lc (own := [("_law_key", 3)]) (g := gName 3) (tt := tYes) rfl scSm.nd (pi_keys (pv 1)) (blkOk_by (N := nSm) (sc := defScope sSm) (by decide +kernel)) (fun _ _ _ _ _ => pg_name (i := 3) scSm.nd rfl (.inl rfl)) (fun _ _ _ _ _ => pts_nil) (fun _ _ _ _ _ => (pe_and (pe_cmp (pc_din hu (pv 3) (pv 0)) rfl) (pe_one (pe_call GSm hr rfl g F.kp b .nil pass0 (pa_cons (pe_dget hu (pv 0) (pv 3) (fun _ _ => rfl)) (pa_cons (pe_dget hu (pv 1) (pv 3) (fun _ _ => rfl)) pa_nil)))))))) pa_nil))))) pss_nil)
        (pss_cons (ps_if (pt_cmpR op_isN (pv 1) pe_non (nomark _)) (pss_one (ps_ret (pe_cmpR op_isN (pv 0) pe_non (nomark _)))) pss_nil)
        (pss_cons (ps_if (PW.pt (pw_or (pt_val (pe_callB call_isi (by rfl) B.isi (by decide +kernel) (pa_cons (pv 1) (pa_cons (pe_bltn (v := .ty "bool") (by rfl) B.bool (by decide +kernel) rfl) pa_nil)))) (pw_or1 (pt_val (pe_callB call_isi (by rfl) B.isi (by decide +kernel) (pa_cons (pv 1) (pa_cons (pe_bltn (v := .ty "int") (by rfl) B.int (by decide +kernel) rfl) pa_nil))))))) (pss_one (ps_ret (pe_and (pe_callB call_isi (by rfl) B.isi (by decide +kernel) (pa_cons (pv 0) (pa_cons (pe_bltn (v := .ty "int") (by rfl) B.int (by decide +kernel) rfl) pa_nil))) (pe_and (pe_cmpR op_eq (pe_callB call_isi (by rfl) B.isi (by decide +kernel) (pa_cons (pv 0) (pa_cons (pe_bltn (v := .ty "bool") (by rfl) B.bool (by decide +kernel) rfl) pa_nil))) (pe_callB call_isi (by rfl) B.isi (by decide +kernel) (pa_cons (pv 1) (pa_cons (pe_bltn (v := .ty "bool") (by rfl) B.bool (by decide +kernel) rfl) pa_nil))) (nomark _)) (pe_one (pe_cmpR op_eq (pv 0) (pv 1) (nomark _))))))) pss_nil)
        (pss_one (ps_ret (pe_and (pe_callB call_isi (by rfl) B.isi (by decide +kernel) (pa_cons (pv 0) (pa_cons (pe_bltn (v := .ty "str") (by rfl) B.str (by decide +kernel) rfl) pa_nil))) (pe_one (pe_cmpR op_eq (pv 0) (pv 1) (nomark _)))))))))), ?_⟩
    obtain ⟨v, u, rfl, h, k⟩ := h
    rcases h with ⟨d, p, hv, hu⟩ | ⟨a, c, xs, ys, rfl, rfl, h1, h2, l, al⟩ | ⟨a, c, xs, ys, rfl, rfl, h1, h2, l, al⟩ | ⟨a, c, kvs, lvs, rfl, rfl, h1, h2, l1, l2, al⟩
    · rcases p with ⟨x, rfl⟩ | ⟨x, rfl⟩ | ⟨x, rfl⟩ | rfl
      · cases hv
        cases hu
        refine ⟨_, rfl, .str x, .ty "list", .type "str", .type "list", false, rfl, .ty _, .base (.str x), kit_ty (by decide +kernel), _, rfl, if_no rfl ⟨_, rfl, .str x, .ty "tuple", .type "str", .type "tuple", false, rfl, .ty _, .base (.str x), kit_ty (by decide +kernel), _, rfl, if_no rfl ?_⟩⟩
        refine ⟨_, rfl, .str x, .ty "dict", .type "str", .type "dict", false, rfl, .ty _, .base (.str x), kit_ty (by decide +kernel), _, rfl, if_no rfl ?_⟩
        refine ⟨_, rfl, rfl, _, rfl, if_no (by simp) ?_⟩
        refine ⟨_, rfl, .str x, .ty "bool", .type "str", .type "bool", false, rfl, .ty _, .base (.str x), kit_ty (by decide +kernel), _, rfl, if_no rfl ⟨_, rfl, .str x, .ty "int", .type "str", .type "int", false, rfl, .ty _, .base (.str x), kit_ty (by decide +kernel), _, rfl, if_no rfl ?_⟩⟩
        refine ⟨_, rfl, .str x, .ty "str", .type "str", .type "str", true, rfl, .ty _, .base (.str x), kit_ty (by decide +kernel), _, rfl, if_yes rfl ⟨_, rfl, _, rfl, rfl, ?_⟩⟩
        rw [decide_eq_true rfl]
        exact k _ (Same.refl _)
      · cases hv
        cases hu
        refine ⟨_, rfl, .bl x, .ty "list", .type "bool", .type "list", false, rfl, .ty _, .base (.bl x), kit_ty (by decide +kernel), _, rfl, if_no rfl ⟨_, rfl, .bl x, .ty "tuple", .type "bool", .type "tuple", false, rfl, .ty _, .base (.bl x), kit_ty (by decide +kernel), _, rfl, if_no rfl ?_⟩⟩
        refine ⟨_, rfl, .bl x, .ty "dict", .type "bool", .type "dict", false, rfl, .ty _, .base (.bl x), kit_ty (by decide +kernel), _, rfl, if_no rfl ?_⟩
        refine ⟨_, rfl, rfl, _, rfl, if_no (by simp) ?_⟩
        refine ⟨_, rfl, .bl x, .ty "bool", .type "bool", .type "bool", true, rfl, .ty _, .base (.bl x), kit_ty (by decide +kernel), _, rfl, if_yes rfl (if_yes rfl ?_)⟩
        refine ⟨_, rfl, .bl x, .ty "int", .type "bool", .type "int", true, rfl, .ty _, .base (.bl x), kit_ty (by decide +kernel), _, rfl, if_yes rfl ?_⟩
        refine ⟨_, rfl, .bl x, .ty "bool", .type "bool", .type "bool", true, rfl, .ty _, .base (.bl x), kit_ty (by decide +kernel), _, rfl, .bl x, .ty "bool", .type "bool", .type "bool", true, rfl, .ty _, .base (.bl x), kit_ty (by decide +kernel), rfl, _, rfl, if_yes rfl ⟨_, rfl, _, rfl, rfl, ?_⟩⟩
        rw [decide_eq_true rfl]
        exact k _ (Same.refl _)
      · cases hv
        cases hu
        refine ⟨_, rfl, .int x, .ty "list", .type "int", .type "list", false, rfl, .ty _, .base (.int x), kit_ty (by decide +kernel), _, rfl, if_no rfl ⟨_, rfl, .int x, .ty "tuple", .type "int", .type "tuple", false, rfl, .ty _, .base (.int x), kit_ty (by decide +kernel), _, rfl, if_no rfl ?_⟩⟩
        refine ⟨_, rfl, .int x, .ty "dict", .type "int", .type "dict", false, rfl, .ty _, .base (.int x), kit_ty (by decide +kernel), _, rfl, if_no rfl ?_⟩
        refine ⟨_, rfl, rfl, _, rfl, if_no (by simp) ?_⟩
        refine ⟨_, rfl, .int x, .ty "bool", .type "int", .type "bool", false, rfl, .ty _, .base (.int x), kit_ty (by decide +kernel), _, rfl, if_no rfl ⟨_, rfl, .int x, .ty "int", .type "int", .type "int", true, rfl, .ty _, .base (.int x), kit_ty (by decide +kernel), _, rfl, if_yes rfl ?_⟩⟩
        refine ⟨_, rfl, .int x, .ty "int", .type "int", .type "int", true, rfl, .ty _, .base (.int x), kit_ty (by decide +kernel), _, rfl, if_yes rfl ?_⟩
        refine ⟨_, rfl, .int x, .ty "bool", .type "int", .type "bool", false, rfl, .ty _, .base (.int x), kit_ty (by decide +kernel), _, rfl, .int x, .ty "bool", .type "int", .type "bool", false, rfl, .ty _, .base (.int x), kit_ty (by decide +kernel), rfl, _, rfl, if_yes rfl ⟨_, rfl, _, rfl, rfl, ?_⟩⟩
        rw [decide_eq_true rfl]
        exact k _ (Same.refl _)
      · cases hv
        cases hu
        refine ⟨_, rfl, .non, .ty "list", .type "NoneType", .type "list", false, rfl, .ty _, .base .non, kit_ty (by decide +kernel), _, rfl, if_no rfl ⟨_, rfl, .non, .ty "tuple", .type "NoneType", .type "tuple", false, rfl, .ty _, .base .non, kit_ty (by decide +kernel), _, rfl, if_no rfl ?_⟩⟩
        refine ⟨_, rfl, .non, .ty "dict", .type "NoneType", .type "dict", false, rfl, .ty _, .base .non, kit_ty (by decide +kernel), _, rfl, if_no rfl ?_⟩
        refine ⟨_, rfl, rfl, _, rfl, if_yes (by simp) ⟨_, rfl, rfl, ?_⟩⟩
        rw [decide_eq_true rfl]
        exact k _ (Same.refl _)
    · have ly := al.len
      refine ⟨_, rfl, .ref c, .ty "list", .type "list", .type "list", true, rfl, .ty _, ty_lst h2, kit_ty (by decide +kernel), _, rfl, if_yes rfl (if_yes rfl ?_)⟩
      refine ⟨_, rfl, .ref c, .ty "list", .type "list", .type "list", true, rfl, .ty _, ty_lst h2, kit_ty (by decide +kernel), _, rfl, .ref a, .ty "list", .type "list", .type "list", true, rfl, .ty _, ty_lst h1, kit_ty (by decide +kernel), rfl, _, rfl, if_no (by simp) ?_⟩
      refine ⟨_, rfl, .ref c, .ty "tuple", .type "list", .type "tuple", false, rfl, .ty _, ty_lst h2, kit_ty (by decide +kernel), _, rfl, .ref a, .ty "tuple", .type "list", .type "tuple", false, rfl, .ty _, ty_lst h1, kit_ty (by decide +kernel), rfl, _, rfl, if_no (by simp) ?_⟩
      refine ⟨_, rfl, a, xs, rfl, .inl h1, _, rfl, c, ys, rfl, .inl h2, rfl, _, rfl, if_yes (by rw [ly]; simp) ?_⟩
      refine ⟨_, rfl, c, ys, rfl, .inl h2, _, rfl, by omega, by omega, fun D hD => ?_⟩
      refine lc_vals (walk_range (lo := 0) (n := ys.length)) (fun _ => .bl true) hD (by omega) (fun _ _ => trivial) (fun i x H1 H' _ y => by rw [y.1]; exact Same.refl _) (fun i x H1 H' Q hi s2 y kk => ?_) (fun H' s2 hq => ?_)
      · obtain ⟨rfl, rfl⟩ := y
        have hx1 : xs[i]? = some xs[i] := List.getElem?_eq_getElem (by omega)
        obtain ⟨y1, hy1, r⟩ := al.at hx1
        refine ⟨rfl, _, rfl, _, rfl, .inl ⟨a, xs, _, _, rfl, rfl, s2.seq h1, by rw [Int.zero_add]; exact atI_nat hx1, _, rfl, _, rfl, .inl ⟨c, ys, _, _, rfl, rfl, s2.seq h2, by rw [Int.zero_add]; exact atI_nat hy1, _, _, rfl, r.same s2, fun H3 s3 => kk _ s3⟩⟩⟩
      · rw [bls_true] at hq
        refine ⟨D, _, rfl, SqL.of hq, ?_⟩
        rw [all_true]
        exact k _ s2
    · have ly := al.len
      refine ⟨_, rfl, .ref c, .ty "list", .type "tuple", .type "list", false, rfl, .ty _, ty_tup h2, kit_ty (by decide +kernel), _, rfl, if_no rfl ⟨_, rfl, .ref c, .ty "tuple", .type "tuple", .type "tuple", true, rfl, .ty _, ty_tup h2, kit_ty (by decide +kernel), _, rfl, if_yes rfl ?_⟩⟩
      refine ⟨_, rfl, .ref c, .ty "list", .type "tuple", .type "list", false, rfl, .ty _, ty_tup h2, kit_ty (by decide +kernel), _, rfl, .ref a, .ty "list", .type "tuple", .type "list", false, rfl, .ty _, ty_tup h1, kit_ty (by decide +kernel), rfl, _, rfl, if_no (by simp) ?_⟩
      refine ⟨_, rfl, .ref c, .ty "tuple", .type "tuple", .type "tuple", true, rfl, .ty _, ty_tup h2, kit_ty (by decide +kernel), _, rfl, .ref a, .ty "tuple", .type "tuple", .type "tuple", true, rfl, .ty _, ty_tup h1, kit_ty (by decide +kernel), rfl, _, rfl, if_no (by simp) ?_⟩
      refine ⟨_, rfl, a, xs, rfl, .inr h1, _, rfl, c, ys, rfl, .inr h2, rfl, _, rfl, if_yes (by rw [ly]; simp) ?_⟩
      refine ⟨_, rfl, c, ys, rfl, .inr h2, _, rfl, by omega, by omega, fun D hD => ?_⟩
      refine lc_vals (walk_range (lo := 0) (n := ys.length)) (fun _ => .bl true) hD (by omega) (fun _ _ => trivial) (fun i x H1 H' _ y => by rw [y.1]; exact Same.refl _) (fun i x H1 H' Q hi s2 y kk => ?_) (fun H' s2 hq => ?_)
      · obtain ⟨rfl, rfl⟩ := y
        have hx1 : xs[i]? = some xs[i] := List.getElem?_eq_getElem (by omega)
        obtain ⟨y1, hy1, r⟩ := al.at hx1
        refine ⟨rfl, _, rfl, _, rfl, .inr (.inl ⟨a, xs, _, _, rfl, rfl, sqT_same s2 h1, by rw [Int.zero_add]; exact atI_nat hx1, _, rfl, _, rfl, .inr (.inl ⟨c, ys, _, _, rfl, rfl, sqT_same s2 h2, by rw [Int.zero_add]; exact atI_nat hy1, _, _, rfl, r.same s2, fun H3 s3 => kk _ s3⟩)⟩)⟩
      · rw [bls_true] at hq
        refine ⟨D, _, rfl, SqL.of hq, ?_⟩
        rw [all_true]
        exact k _ s2
    · refine ⟨_, rfl, .ref c, .ty "list", .type "dict", .type "list", false, rfl, .ty _, (rd_ty h2), kit_ty (by decide +kernel), _, rfl, if_no rfl ⟨_, rfl, .ref c, .ty "tuple", .type "dict", .type "tuple", false, rfl, .ty _, (rd_ty h2), kit_ty (by decide +kernel), _, rfl, if_no rfl ?_⟩⟩
      refine ⟨_, rfl, .ref c, .ty "dict", .type "dict", .type "dict", true, rfl, .ty _, (rd_ty h2), kit_ty (by decide +kernel), _, rfl, if_yes rfl ?_⟩
      refine ⟨_, rfl, .ref a, .ty "dict", .type "dict", .type "dict", true, rfl, .ty _, (rd_ty h1), kit_ty (by decide +kernel), _, rfl, if_no rfl ⟨_, rfl, a, kvs, rfl, h1, _, rfl, c, lvs, rfl, h2, rfl, _, rfl, if_no (by rw [l1]; simp) ?_⟩⟩
      refine walk_lk h2 (fun D H' => H' D = some (.lst ((List.replicate lvs.length true).map V.bl))) (fun H1 o2 Q1 fz hc kq => ?_) fun D H' s' nD hD => ?_
      · refine ⟨_, rfl, c, o2, rfl, .inl ⟨_, hc, fun D hD => lc_vals walk_keys (fun _ => .bl true) hD (by omega) (fun H' s => s _ _ hc) (fun i x H1 H' _ y => by rw [y.1]; exact Same.refl _) (fun i x H2 H' Q hi s2 y kk => ?_) (fun H' s2 hq => ?_)⟩⟩
        · obtain ⟨rfl, k1, w1, hx, rfl⟩ := y
          obtain ⟨x1, y1, e1, e2, r⟩ := al i k1 w1 hx
          have fz2 := fz.trans s2
          have g1 := rd_get (fz2.rd h1) k1
          have g2 := rd_get (fz2.rd h2) k1
          rw [e1] at g1
          rw [e2] at g2
          exact ⟨rfl, _, rfl, _, rfl, a, _, rfl, g1, _, rfl, if_yes rfl ⟨_, rfl, _, rfl, a, _, rfl, g1, _, rfl, _, rfl, c, _, rfl, g2, _, _, rfl, r.fz fz2, fun H3 s3 => kk _ s3⟩⟩
        · rw [bls_true] at hq
          exact kq D H' s2 hD fun H3 e => e.trans hq
      · refine ⟨D, _, rfl, SqL.of hD, ?_⟩
        rw [all_true]
        exact k _ s'
end
end Qb
end PySem
namespace PySem
namespace Qb
open PySem.W PySem.Calls PyProof.Rows L2
/-! # the law: the mathematics -/
def wtP (l : List Str) : Nat := (l.map fun p => p.length + 1).sum
theorem wtP_app (l m : List Str) : wtP (l ++ m) = wtP l + wtP m := by
  unfold wtP
  rw [List.map_append, List.sum_append]
theorem glue_wt : ∀ (l : List (List Nat)), l ≠ [] → (glue l).length + 1 = (l.map fun p => p.length + 1).sum
  | [], h => absurd rfl h
  | [a], _ => rfl
  | a :: b :: r, _ => by
    have ih := glue_wt (b :: r) (by simp)
    rw [List.map_cons, List.sum_cons, ← ih]
    show (a ++ 47 :: glue (b :: r)).length + 1 = _
    rw [List.length_append, List.length_cons]
    omega
theorem jn_wt {l : List Str} (h : l ≠ []) : (jn l).length + 1 = wtP l := by
  rw [len_cs, jn_cs, glue_wt _ (fun z => h (List.map_eq_nil_iff.mp z)), List.map_map]
  unfold wtP
  congr 1
theorem jn_wt' (l : List Str) : (jn l).length ≤ wtP l := by
  by_cases h : l = []
  · subst h
    decide +kernel
  · have := jn_wt h
    omega
theorem wt_drop : ∀ l : List Str, wtP l.dropLast ≤ wtP l
  | [] => Nat.le_refl _
  | [a] => Nat.zero_le _
  | a :: b :: r => by
    have ih := wt_drop (b :: r)
    show a.length + 1 + wtP ((b :: r).dropLast) ≤ a.length + 1 + wtP (b :: r)
    omega
theorem nrm_wt : ∀ (l st : List Str), wtP (nrm st l) ≤ wtP st + wtP l
  | [], st => Nat.le_refl _
  | p :: l, st => by
    have ih := nrm_wt l (stp st p)
    have e : wtP (stp st p) ≤ wtP st + (p.length + 1) := by
      unfold stp
      split
      · have := wt_drop st
        omega
      · split
        · omega
        · rw [wtP_app]
          show wtP st + (p.length + 1 + 0) ≤ _
          omega
    show wtP (nrm (stp st p) l) ≤ wtP st + (p.length + 1 + wtP l)
    omega
theorem says_len (ps : List Str) (x : Str) : (say (says ps x)).length ≤ (say ps).length + x.length + 2 := by
  have h1 := jn_wt' (says ps x)
  have h2 := say_len (says ps x)
  have h3 := say_len ps
  have h4 := jn_wt (sp_ne x)
  rw [sp_jn] at h4
  have h5 : wtP ps ≤ (jn ps).length + 1 := by
    by_cases h : ps = []
    · subst h
      exact Nat.zero_le _
    · have := jn_wt h
      omega
  have h6 : wtP (says ps x) ≤ wtP ps + wtP (sp x) := by
    unfold says
    refine Nat.le_trans (nrm_wt _ _) ?_
    split
    · exact Nat.add_le_add_right (Nat.zero_le _) _
    · exact Nat.le_refl _
  omega
def flB : PyData → Bool
  | .str _ => true
  | .bool _ => true
  | .int _ => true
  | .none => true
  | _ => false
def plB : Nat → PyData → Bool
  | 0, d => flB d
  | n + 1, d => match d with
    | .list ds => decide (ds.length ≤ 1000) && ds.all (plB n)
    | .tuple ds => decide (ds.length ≤ 1000) && ds.all (plB n)
    | d => flB d
theorem flB_ok {d : PyData} (h : flB d = true) : Pl0 d := by
  cases d with
  | str x => exact .inl ⟨x, rfl⟩
  | bool b => exact .inr (.inl ⟨b, rfl⟩)
  | int i => exact .inr (.inr (.inl ⟨i, rfl⟩))
  | none => exact .inr (.inr (.inr rfl))
  | _ => cases h
theorem plB_ok : ∀ {n : Nat} {d : PyData}, plB n d = true → Pl n d
  | 0, d, h => flB_ok h
  | n + 1, d, h => by
    cases d with
    | list ds =>
      obtain ⟨h1, h2⟩ := Bool.and_eq_true_iff.mp h
      exact .inr ⟨ds, .inl rfl, of_decide_eq_true h1, fun e m => plB_ok (List.all_eq_true.mp h2 e m)⟩
    | tuple ds =>
      obtain ⟨h1, h2⟩ := Bool.and_eq_true_iff.mp h
      exact .inr ⟨ds, .inr rfl, of_decide_eq_true h1, fun e m => plB_ok (List.all_eq_true.mp h2 e m)⟩
    | str x => exact .inl (.inl ⟨x, rfl⟩)
    | bool b => exact .inl (.inr (.inl ⟨b, rfl⟩))
    | int i => exact .inl (.inr (.inr (.inl ⟨i, rfl⟩)))
    | none => exact .inl (.inr (.inr (.inr rfl)))
    | _ => cases h
theorem dp_alk {K : Frag} {H : Hp} : ∀ {n : Nat} {d : PyData} {v u : V}, Pl n d → Dp K H v d → Dp K H u d → Alk K H (n + 1) v u := by
  intro n
  induction n with
  | zero => intro d v u p h1 h2; exact .inl ⟨d, p, h1, h2⟩
  | succ n ih =>
    intro d v u p h1 h2
    have all : ∀ {ds : List PyData} {xs ys : List V}, DpAll K H xs ds → DpAll K H ys ds → (∀ e ∈ ds, Pl n e) → All2 (Alk K H (n + 1)) xs ys := by
      intro ds
      induction ds with
      | nil => intro xs ys a b _; cases a; cases b; exact .nil
      | cons d ds ihd =>
        intro xs ys a b q
        cases a with
        | cons a1 a2 => cases b with
          | cons b1 b2 => exact .cons (ih (q d (.head _)) a1 b1) (ihd a2 b2 fun e m => q e (.tail _ m))
    rcases p with p | ⟨ds, e | e, l, q⟩
    · exact .inl ⟨d, p, h1, h2⟩
    · subst e
      obtain ⟨a, xs, rfl, q1, al1⟩ := dp_lst h1
      obtain ⟨c, ys, rfl, q2, al2⟩ := dp_lst h2
      exact .inr (.inl ⟨a, c, xs, ys, rfl, rfl, q1, q2, by rw [dpLen al1]; exact l, all al1 al2 q⟩)
    · subst e
      obtain ⟨a, xs, rfl, q1, al1⟩ := dp_tup h1
      obtain ⟨c, ys, rfl, q2, al2⟩ := dp_tup h2
      exact .inr (.inr (.inl ⟨a, c, xs, ys, rfl, rfl, q1, q2, by rw [dpLen al1]; exact l, all al1 al2 q⟩))
theorem Alk.up {K : Frag} {H : Hp} : ∀ {n : Nat} {v u : V}, Alk K H n v u → Alk K H (n + 1) v u
  | 0, _, _, h => h.elim
  | n + 1, v, u, h => by
    rcases h with ⟨d, p, h1, h2⟩ | ⟨a, c, xs, ys, e1, e2, h1, h2, l, al⟩ | ⟨a, c, xs, ys, e1, e2, h1, h2, l, al⟩ | ⟨a, c, kvs, lvs, e1, e2, h1, h2, l1, l2, al⟩
    · exact .inl ⟨d, p, h1, h2⟩
    · exact .inr (.inl ⟨a, c, xs, ys, e1, e2, h1, h2, l, al.imp fun _ _ r => Alk.up r⟩)
    · exact .inr (.inr (.inl ⟨a, c, xs, ys, e1, e2, h1, h2, l, al.imp fun _ _ r => Alk.up r⟩))
    · exact .inr (.inr (.inr ⟨a, c, kvs, lvs, e1, e2, h1, h2, l1, l2, fun i k w e => by
        obtain ⟨x, y, a1, a2, a3⟩ := al i k w e
        exact ⟨x, y, a1, a2, Alk.up a3⟩⟩))
theorem Alk.more {K : Frag} {H : Hp} {n m : Nat} {v u : V} (h : Alk K H n v u) (l : n ≤ m) : Alk K H m v u := by
  obtain ⟨k, rfl⟩ := Nat.le.dest l
  induction k with
  | zero => exact h
  | succ k ih => exact Alk.up (ih (Nat.le_add_right _ _))
/-- one dict and another one of the same entries -/
theorem alk_dict {K : Frag} {H : Hp} {n : Nat} {a c : Addr} {kvs : List (Key × V)} (h1 : Dz H a kvs) (h2 : Dz H c kvs) (l : kvs.length ≤ 1000) (f : ∀ e ∈ kvs, ∃ d, Pl0 d ∧ Dp K H e.2 d) : Alk K H (n + 2) (.ref a) (.ref c) := by
  refine .inr (.inr (.inr ⟨a, c, kvs, kvs, rfl, rfl, h1.rd, h2.rd, rfl, l, fun i k w e => ?_⟩))
  have m := List.mem_of_getElem? e
  obtain ⟨x, hx, mx⟩ : ∃ x, valV kvs k = some x ∧ ∃ k', (k', x) ∈ kvs := by
    cases hv : kvs.find? fun kv => decide (kv.1 = k) with
    | none => exact absurd (decide_eq_true rfl) (List.find?_eq_none.mp hv (k, w) m)
    | some z => exact ⟨z.2, by unfold valV; rw [hv]; rfl, z.1, List.mem_of_find?_eq_some hv⟩
  obtain ⟨k', mk⟩ := mx
  obtain ⟨d, p, q⟩ := f _ mk
  exact ⟨x, x, hx, hx, .inl ⟨d, p, q, q⟩⟩
theorem fn_val {K : Frag} {H : Hp} (k : Key) : ∀ {gs gs' : List (Key × V)} {funs : List (Str × PyData)}, All2 (FnE K H) gs funs → All2 (FnE K H) gs' funs →
    (valV gs k = none ∧ valV gs' k = none) ∨ ∃ x y e, valV gs k = some x ∧ valV gs' k = some y ∧ e ∈ funs ∧ Dp K H x e.2 ∧ Dp K H y e.2
  | _, _, _, .nil, .nil => .inl ⟨rfl, rfl⟩
  | _, _, _, .cons (a := kv) (b := e) h t, .cons (a := kv') h' t' => by
    by_cases ek : kv.1 = k
    · have ek' : kv'.1 = k := by rw [h'.1, ← h.1, ek]
      exact .inr ⟨kv.2, kv'.2, e, valV_pos ek, valV_pos ek', .head _, h.2, h'.2⟩
    · have ek' : ¬ kv'.1 = k := fun z => ek (by rw [h.1, ← h'.1, z])
      rw [valV_neg ek, valV_neg ek']
      rcases fn_val k t t' with c | ⟨x, y, e, a, b, m, c, d⟩
      · exact .inl c
      · exact .inr ⟨x, y, e, a, b, .tail _ m, c, d⟩
/-- the same world twice -/
theorem wat_alk {K : Frag} {H : Hp} {v u : V} {W : Wl} (h1 : WAt K H v W) (h2 : WAt K H u W) (lf : W.files.length ≤ 1000) (ln : W.names.length ≤ 1000) (la : W.args.length ≤ 1000) (lg : W.funs.length ≤ 1000) (pf : ∀ e ∈ W.funs, Pl 12 e.2) : Alk K H 16 v u := by
  obtain ⟨a, p1, p2, p3, p4, gs, rfl, a1, a2, a3, a4, a5, a6⟩ := h1
  obtain ⟨c, q1, q2, q3, q4, gs', rfl, b1, b2, b3, b4, b5, b6⟩ := h2
  have fl : ∀ {d : PyData} {v : V}, Pl0 d → Dp K H v d → Alk K H 15 v v := fun p h => .inl ⟨_, p, h, h⟩
  refine .inr (.inr (.inl ⟨a, c, _, _, rfl, rfl, a1, b1, few rfl, .cons ?_ (.cons (fl (.inl ⟨_, rfl⟩) (.str _)) (.cons ?_ (.cons ?_ (.cons (fl (.inl ⟨_, rfl⟩) (.str _)) (.cons (fl (.inr (.inr (.inl ⟨_, rfl⟩))) (.int _)) (.cons ?_ .nil))))))⟩))
  · refine alk_dict a2 b2 (by unfold kvF; rw [List.length_map]; exact lf) fun e m => ?_
    obtain ⟨f, _, rfl⟩ := List.mem_map.mp m
    cases hf : f.2 with
    | none => exact ⟨.none, .inr (.inr (.inr rfl)), Dp.non⟩
    | some t => exact ⟨.str t, .inl ⟨t, rfl⟩, Dp.str t⟩
  · refine alk_dict a3 b3 (by unfold kvN; rw [List.length_map]; exact ln) fun e m => ?_
    obtain ⟨f, _, rfl⟩ := List.mem_map.mp m
    exact ⟨.str f.2, .inl ⟨_, rfl⟩, .str f.2⟩
  · refine (dp_alk (n := 1) (.inr ⟨_, .inl rfl, by rw [List.length_map]; exact la, fun e m => ?_⟩) a4 b4).more (by decide)
    obtain ⟨x, _, rfl⟩ := List.mem_map.mp m
    exact .inl ⟨x, rfl⟩
  · refine .inr (.inr (.inr ⟨p4, q4, gs, gs', rfl, rfl, a5.rd, b5.rd, by rw [a6.len, b6.len], by rw [a6.len]; exact lg, fun i k w e => ?_⟩))
    rcases fn_val k a6 b6 with ⟨_, c⟩ | ⟨x, y, e, a, b, m, c, d⟩
    · have mm := List.mem_of_getElem? e
      unfold valV at c
      rw [Option.map_eq_none_iff] at c
      exact absurd (decide_eq_true rfl) (List.find?_eq_none.mp c (k, w) mm)
    · exact ⟨x, y, a, b, (dp_alk (pf e m) c d).more (by decide)⟩
theorem ma_pl : ∀ i < 7, ∀ a < 2, ∀ b < 2, ∀ c < 2, plB 12 (at' (maD (at' tuD a) (at' otD b) (at' woD c)) i) = true := by decide +kernel
theorem fnW_pl (d : Dk) : ∀ e ∈ (fnW d).1, Pl 12 e.2 := by
  unfold fnW
  split
  · intro e m
    rw [List.mem_singleton.mp m]
    exact plB_ok (ma_pl _ (dr_lt (m := 7) (by decide) _) _ (dr_lt (m := 2) (by decide) _) _ (dr_lt (m := 2) (by decide) _) _ (dr_lt (m := 2) (by decide) _))
  · intro e m
    cases m
theorem cutV_to (xs : List V) (i : Nat) : cutV xs none (some ((i : Nat) : Int)) = xs.take i := by
  unfold cutV
  rw [HT.sIx_nat, show HT.sIx xs.length 0 none = 0 by rfl, List.drop_zero, Nat.sub_zero]
  by_cases h : i ≤ xs.length
  · rw [Nat.min_eq_left h]
  · rw [Nat.min_eq_right (by omega), List.take_of_length_le (Nat.le_refl _), List.take_of_length_le (by omega)]
end Qb
end PySem
namespace PySem
namespace Qb
open PySem.W PySem.Calls PyProof.Rows L2
/-! # the law -/
def lastG {α : Type} : List α → List α → List α
  | us, [w] => us ++ [w]
  | _, _ => []
theorem lastG_rel {vs zs : List V} {us ws : List Value} (r : Vals vs us) (rz : Vals zs ws) : Vals (lastG vs zs) (lastG us ws) := by
  cases rz with
  | nil => exact .nil
  | cons h t =>
    cases t with
    | nil => exact r.append (.cons h .nil)
    | cons _ _ => exact .nil
/-- called with its last argument told by name -/
def HasL (P : Program) (w : World) (K : Frag) (mg : Str → Option Value) (base : Heap) (k : Nat) (x : Str) (ps ks : List Str) (sp : Sp) : Prop :=
  ∃ (f : Addr) (fd : FuncData), mg x = some (.ref f) ∧ PySem.W.keepIn K (.ref f) = true ∧ Binds K fd ps [] ∧ KBinds K fd ps ks lastG lastG ∧ FnOk P w K mg base CX0 k f fd ps sp
def spRi : Sp := fun vs H Q _ => ∃ c : Int, vs = [.int c] ∧ ∀ H', Same H H' → Q (.bl true) H'
def lawSp (K : Frag) : Sp := fun vs H Q _ => ∃ (a : Addr) (ns : List Int), vs = [.ref a] ∧ SqL K H a (ns.map V.int) ∧ ns.length ≤ 63 ∧ ∀ H', Q (.bl true) H'
theorem SB.all {S : Addr} {H H' : Hp} (s : SB S H H') (n : H S = .none) : Same H H' := fun b u e => hide_same _ _ (s _ _ (hide_ne e (fun z => by rw [z, n] at e; cases e)))
theorem hide_none {S : Addr} {H H' : Hp} (s : Same H H') (n : H S = .none) : Same H (hide H' S) := hide_of s n
section
variable {P : Program} {w : World} {K : Frag} {mg : Str → Option Value} {base : Heap}
end
end Qb
end PySem
namespace PySem
namespace Qb
open PySem.W PySem.Calls PyProof.Rows L2
/-! # numbers told by texts -/
theorem len_st (l : L) : (st l).length = l.length := by rw [len_cs, cs_st]
theorem digVal_eq (d : L) : NumText.digitsVal d = digVal d := by
  unfold NumText.digitsVal digVal
  simp [Nat.mul_comm]
theorem int_of {d : L} (hn : d ≠ []) (ha : ∀ c ∈ d, c ∈ digC) (hl : d.length ≤ 80) : PySem.intText? (st d) = some ((digVal d : Nat) : Int) := by
  have e := cs_st d
  have z := intText_digits (x := st d) (fun c m => by
    have m' : c ∈ cs (st d) := m
    rw [e] at m'
    exact (by decide : ∀ c ∈ digC, 48 ≤ c ∧ c ≤ 57) c (ha c m')) (by rw [show (st d).cps.toList = d from e]; exact hn) (by rw [len_st]; omega)
  rw [show (st d).cps.toList = d from e, digVal_eq] at z
  exact z
/-- the figures behind a sign -/
def figs : L → L
  | 45 :: r => r
  | r => r
def neg (l : L) : Bool := l.head? == some 45
/-- the figures are those of a number -/
def figB (l : L) : Bool := !(figs l).isEmpty && (figs l).all fun c => decide (c ∈ digC)
def intB (l : L) : Bool := figB l && (decide (l = [48]) || !((figs l).head? == some 48))
def numL (l : L) : Int := if neg l then -((digVal (figs l) : Nat) : Int) else ((digVal (figs l) : Nat) : Int)
theorem int_neg {d : L} (hn : d ≠ []) (ha : ∀ c ∈ d, c ∈ digC) (hl : d.length ≤ 80) : PySem.intText? (st (45 :: d)) = some (-((digVal d : Nat) : Int)) := by
  have e := cs_st (45 :: d)
  have z := intText_neg (x := st (45 :: d)) e (fun c m => (by decide : ∀ c ∈ digC, 48 ≤ c ∧ c ≤ 57) c (ha c m)) hn (by rw [len_st, List.length_cons]; omega)
  rw [digVal_eq] at z
  exact z
theorem figs_eq (l : L) : (neg l = true ∧ l = 45 :: figs l) ∨ (neg l = false ∧ figs l = l) := by
  unfold neg
  cases l with
  | nil => exact .inr ⟨rfl, rfl⟩
  | cons c r =>
    by_cases h : c = 45
    · subst h
      exact .inl ⟨rfl, rfl⟩
    · refine .inr ⟨?_, ?_⟩
      · simpa using h
      · unfold figs
        split
        · rename_i e; exact (h (List.cons.inj e).1).elim
        · rfl
theorem figB_iff {l : L} : figB l = true ↔ figs l ≠ [] ∧ ∀ c ∈ figs l, c ∈ digC := by
  unfold figB
  rw [Bool.and_eq_true, List.all_eq_true]
  refine ⟨fun h => ⟨fun z => by rw [z] at h; simp at h, fun c m => of_decide_eq_true (h.2 c m)⟩, fun h => ⟨?_, fun c m => decide_eq_true (h.2 c m)⟩⟩
  cases e : figs l with
  | nil => exact (h.1 e).elim
  | cons c r => rfl
theorem int_num {x : Str} (h : figB (cs x) = true) (hl : (figs (cs x)).length ≤ 80) : PySem.intText? x = some (numL (cs x)) := by
  obtain ⟨h1, h2⟩ := figB_iff.mp h
  rw [← st_cs x]
  rw [cs_st]
  unfold numL
  rcases figs_eq (cs x) with ⟨a, b⟩ | ⟨a, b⟩
  · rw [a, if_pos rfl]
    conv => lhs; rw [b]
    exact int_neg h1 h2 hl
  · rw [a, if_neg (by decide)]
    rw [b] at h1 h2 hl ⊢
    exact int_of h1 h2 hl
theorem cut_to' (x : Str) (i : Nat) : cs (cutS x none (some ((i : Nat) : Int))) = (cs x).take i := by
  show ((cs x).drop (HT.sIx x.length 0 none)).take (HT.sIx x.length x.length (some ((i : Nat) : Int)) - HT.sIx x.length 0 none) = _
  rw [HT.sIx_nat, show HT.sIx x.length 0 none = 0 by rfl, List.drop_zero, Nat.sub_zero]
  by_cases h : i ≤ x.length
  · rw [Nat.min_eq_left h]
  · rw [Nat.min_eq_right (by omega), List.take_of_length_le (by rw [← len_cs]; exact Nat.le_refl _), List.take_of_length_le (by rw [← len_cs]; omega)]
theorem cut_from' (x : Str) {i : Nat} (h : i ≤ x.length) : cs (cutS x (some ((i : Nat) : Int)) none) = (cs x).drop i := by
  show ((cs x).drop (HT.sIx x.length 0 (some ((i : Nat) : Int)))).take (HT.sIx x.length x.length none - HT.sIx x.length 0 (some ((i : Nat) : Int))) = _
  rw [HT.sIx_nat, Nat.min_eq_left h, show HT.sIx x.length x.length none = x.length by rfl]
  exact List.take_of_length_le (by rw [List.length_drop, ← len_cs]; exact Nat.le_refl _)
theorem one_is (c d : Nat) (y : Str) (h : cs y = [d]) : decide (V.str (⟨#[c]⟩ : Str) = V.str y) = (c == d) := by
  by_cases e : c = d
  · subst e
    rw [show y = (⟨#[c]⟩ : Str) by rw [← st_cs y, h]; rfl]
    simp
  · rw [beq_eq_false_iff_ne.mpr e]
    refine decide_eq_false fun z => e ?_
    have w : cs (⟨#[c]⟩ : Str) = cs y := congrArg cs (V.str.inj z)
    rw [h] at w
    exact (List.cons.inj w).1
theorem first_neg (x : Str) : decide (V.str (cutS x none (some 1)) = V.str "-") = neg (cs x) := by
  have e : cs (cutS x none (some 1)) = (cs x).take 1 := cut_to' x 1
  have e2 : cs ("-" : Str) = [45] := by decide +kernel
  have e3 : decide (V.str (cutS x none (some 1)) = V.str "-") = decide ((cs x).take 1 = [45]) := decide_eq_decide.mpr ⟨fun z => by rw [← e, V.str.inj z, e2], fun z => by rw [← e] at z; rw [← st_cs (cutS x none (some 1)), z, ← e2, st_cs]⟩
  rw [e3]
  unfold neg
  cases cs x with
  | nil => rfl
  | cons c r =>
    by_cases h : c = 45
    · subst h; simp
    · simp [h]
theorem figs_neg {x : Str} (h : neg (cs x) = true) : cs (cutS x (some 1) none) = figs (cs x) := by
  have e : cs x = 45 :: figs (cs x) := by
    rcases figs_eq (cs x) with ⟨a, b⟩ | ⟨a, b⟩
    · exact b
    · rw [h] at a; cases a
  have l : 1 ≤ x.length := by rw [len_cs, e, List.length_cons]; omega
  have z : cs (cutS x (some 1) none) = (cs x).drop 1 := cut_from' x l
  rw [z]
  conv => lhs; rw [e]
  rfl
theorem lit_case {c x : Str} {t : TS} {rest : List (List Nat × PatR × TS)} {D : Ends} {σ : L2.St} {H : Hp} (a : x = c → t D σ H) (b : x ≠ c → tCases rest (.str x) D σ H) : tCases (([], rLit c, t) :: rest) (.str x) D σ H := by
  refine ⟨x, rfl, ?_⟩
  by_cases e : x = c
  · rw [if_pos e]
    exact a e
  · rw [if_neg e]
    exact b e
theorem dv_acc : ∀ (l : L) (n : Nat), l.foldl (fun n c => 10 * n + (c - 48)) n = n * 10 ^ l.length + digVal l
  | [], n => by unfold digVal; simp
  | c :: r, n => by
    unfold digVal
    rw [List.foldl_cons, List.foldl_cons, dv_acc r, dv_acc r (10 * 0 + (c - 48)), List.length_cons, Nat.pow_succ]
    rw [show 10 * 0 + (c - 48) = c - 48 by omega, Nat.add_mul, Nat.mul_comm (10 ^ r.length) 10, ← Nat.mul_assoc, Nat.mul_comm n 10]
    exact Nat.add_assoc ..
theorem dv_cons (c : Nat) (r : L) : digVal (c :: r) = (c - 48) * 10 ^ r.length + digVal r := by
  have z := dv_acc r (c - 48)
  unfold digVal
  rw [List.foldl_cons, show 10 * 0 + (c - 48) = c - 48 by omega, z]
  rfl
/-- shorter ones are less, of the same length the first one in order -/
def lessF (a b : L) : Bool := decide (a.length < b.length) || (decide (a.length = b.length) && decide (a < b))
theorem dig_rng : ∀ c ∈ digC, 48 ≤ c ∧ c ≤ 57 := by decide
theorem dv_same : ∀ {a b : L}, a.length = b.length → (∀ c ∈ a, c ∈ digC) → (∀ c ∈ b, c ∈ digC) → (digVal a < digVal b ↔ a < b)
  | [], [], _, _, _ => by simp
  | [], _ :: _, h, _, _ => by simp at h
  | _ :: _, [], h, _, _ => by simp at h
  | c :: r, d :: s, h, ha, hb => by
    have l : r.length = s.length := by simpa using h
    have ih := dv_same l (fun x m => ha x (.tail _ m)) (fun x m => hb x (.tail _ m))
    have l1 := digVal_lt r fun x m => ha x (.tail _ m)
    have l2 := digVal_lt s fun x m => hb x (.tail _ m)
    have c1 := dig_rng c (ha c (.head _))
    have d1 := dig_rng d (hb d (.head _))
    rw [dv_cons, dv_cons, l, List.cons_lt_cons_iff]
    rw [l] at l1
    generalize 10 ^ s.length = p at l1 l2
    have lt : ∀ i j : Nat, i < j → i * p + p ≤ j * p := fun i j z => by
      have := Nat.mul_le_mul_right p (show i + 1 ≤ j from z)
      rw [Nat.add_mul, Nat.one_mul] at this
      exact this
    constructor
    · intro z
      rcases Nat.lt_trichotomy c d with y | y | y
      · exact .inl y
      · subst y
        exact .inr ⟨rfl, ih.mp (by omega)⟩
      · have := lt (d - 48) (c - 48) (by omega)
        omega
    · rintro (y | ⟨rfl, y⟩)
      · have := lt (c - 48) (d - 48) (by omega)
        omega
      · have := ih.mpr y
        omega
/-- figures that a number begins -/
def Fg (a : L) : Prop := a ≠ [] ∧ (∀ c ∈ a, c ∈ digC) ∧ (a = [48] ∨ a.head? ≠ some 48)
theorem dv_pow {b : L} (h : Fg b) (h2 : 2 ≤ b.length) : 10 ^ (b.length - 1) ≤ digVal b := by
  obtain ⟨h0, hd, h1⟩ := h
  cases b with
  | nil => exact (h0 rfl).elim
  | cons c r =>
    have n48 : c ≠ 48 := by
      rcases h1 with h1 | h1
      · rw [h1] at h2; simp at h2
      · simpa using h1
    have c1 := dig_rng c (hd c (.head _))
    rw [dv_cons, List.length_cons, Nat.add_sub_cancel]
    have := Nat.mul_le_mul_right (10 ^ r.length) (show 1 ≤ c - 48 by omega)
    rw [Nat.one_mul] at this
    omega
theorem dv_len {a b : L} (ha : Fg a) (hb : Fg b) (h : a.length < b.length) : digVal a < digVal b := by
  have l1 := digVal_lt a ha.2.1
  have a1 : 1 ≤ a.length := List.length_pos_iff.mpr ha.1
  have l2 := dv_pow hb (by omega)
  have := Nat.pow_le_pow_right (n := 10) (by decide) (show a.length ≤ b.length - 1 by omega)
  omega
theorem lessF_iff {a b : L} (ha : Fg a) (hb : Fg b) : lessF a b = decide (digVal a < digVal b) := by
  unfold lessF
  rcases Nat.lt_trichotomy a.length b.length with h | h | h
  · rw [decide_eq_true h, decide_eq_true (dv_len ha hb h)]
    rfl
  · rw [decide_eq_false (show ¬ a.length < b.length by omega), decide_eq_true h]
    show decide (a < b) = _
    exact decide_eq_decide.mpr (dv_same h ha.2.1 hb.2.1).symm
  · have z := dv_len hb ha h
    rw [decide_eq_false (show ¬ a.length < b.length by omega), decide_eq_false (show ¬ a.length = b.length by omega), decide_eq_false (show ¬ digVal a < digVal b by omega)]
    rfl
theorem dv_inj {a b : L} (ha : Fg a) (hb : Fg b) (h : digVal a = digVal b) : a = b := by
  have l : a.length = b.length := by
    rcases Nat.lt_trichotomy a.length b.length with z | z | z
    · have := dv_len ha hb z
      omega
    · exact z
    · have := dv_len hb ha z
      omega
  have n1 : ¬ a < b := fun z => by
    have := (dv_same l ha.2.1 hb.2.1).mpr z
    omega
  have n2 : ¬ b < a := fun z => by
    have := (dv_same l.symm hb.2.1 ha.2.1).mpr z
    omega
  exact List.le_antisymm (List.not_lt.mp n2) (List.not_lt.mp n1)
theorem intB_fg {l : L} (h : intB l = true) : Fg (figs l) ∧ (neg l = true → 0 < digVal (figs l)) := by
  unfold intB at h
  rw [Bool.and_eq_true, Bool.or_eq_true] at h
  obtain ⟨h1, h2⟩ := h
  obtain ⟨f1, f2⟩ := figB_iff.mp h1
  have h3 : l = [48] ∨ (figs l).head? ≠ some 48 := by
    rcases h2 with h2 | h2
    · exact .inl (of_decide_eq_true h2)
    · exact .inr (by simpa using h2)
  refine ⟨⟨f1, f2, ?_⟩, fun n => ?_⟩
  · rcases h3 with rfl | h3
    · exact .inl rfl
    · exact .inr h3
  · have h4 : (figs l).head? ≠ some 48 := by
      rcases h3 with rfl | h3
      · cases n
      · exact h3
    cases e : figs l with
    | nil => exact (f1 e).elim
    | cons c r =>
      rw [e] at h4
      have c1 := dig_rng c (f2 c (by rw [e]; exact .head _))
      have n48 : c ≠ 48 := by simpa using h4
      rw [dv_cons]
      have := Nat.mul_le_mul_right (10 ^ r.length) (show 1 ≤ c - 48 by omega)
      have p : 0 < 10 ^ r.length := Nat.pow_pos (by decide)
      omega
theorem figs_figs {a : L} (h : Fg (figs a)) : figs (figs a) = figs a := by
  rcases figs_eq (figs a) with ⟨e, s⟩ | ⟨_, s⟩
  · have m := h.2.1 45 (by rw [s]; exact .head _)
    exact absurd m (by decide)
  · exact s
def lessL (a b : L) : Bool := if neg a || neg b then neg a && (!neg b || lessF (figs b) (figs a)) else lessF a b
theorem lessL_iff {a b : L} (ha : intB a = true) (hb : intB b = true) : lessL a b = decide (numL a < numL b) := by
  obtain ⟨fa, na⟩ := intB_fg ha
  obtain ⟨fb, nb⟩ := intB_fg hb
  unfold lessL numL
  rcases figs_eq a with ⟨ea, _⟩ | ⟨ea, sa⟩ <;> rcases figs_eq b with ⟨eb, _⟩ | ⟨eb, sb⟩ <;> rw [ea, eb]
  · show lessF (figs b) (figs a) = decide (-((digVal (figs a) : Nat) : Int) < -((digVal (figs b) : Nat) : Int))
    rw [lessF_iff fb fa]
    exact decide_eq_decide.mpr (by omega)
  · have := na ea
    show true = decide (-((digVal (figs a) : Nat) : Int) < ((digVal (figs b) : Nat) : Int))
    exact (decide_eq_true (by omega)).symm
  · have := nb eb
    show false = decide (((digVal (figs a) : Nat) : Int) < -((digVal (figs b) : Nat) : Int))
    exact (decide_eq_false (by omega)).symm
  · show lessF a b = decide (((digVal (figs a) : Nat) : Int) < ((digVal (figs b) : Nat) : Int))
    have z := lessF_iff fa fb
    rw [sa, sb] at z ⊢
    rw [z]
    exact decide_eq_decide.mpr (by omega)
theorem numL_inj {a b : L} (ha : intB a = true) (hb : intB b = true) (h : numL a = numL b) : a = b := by
  obtain ⟨fa, na⟩ := intB_fg ha
  obtain ⟨fb, nb⟩ := intB_fg hb
  unfold numL at h
  rcases figs_eq a with ⟨ea, sa⟩ | ⟨ea, sa⟩ <;> rcases figs_eq b with ⟨eb, sb⟩ | ⟨eb, sb⟩ <;> rw [ea, eb] at h
  · rw [if_pos rfl, if_pos rfl] at h
    rw [sa, sb, dv_inj fa fb (by omega)]
  · rw [if_pos rfl, if_neg (by decide)] at h
    have := na ea
    omega
  · rw [if_neg (by decide), if_pos rfl] at h
    have := nb eb
    omega
  · rw [if_neg (by decide), if_neg (by decide)] at h
    rw [← sa, ← sb, dv_inj fa fb (by omega)]
/-- what the law asks of a whole number -/
def wholeB (l : L) : Bool := figB l && !decide (l = [45, 48]) && (decide ((figs l).length = 1) || !((figs l).head? == some 48))
theorem whole_int (l : L) : wholeB l = intB l := by
  unfold wholeB intB
  cases hf : figB l with
  | false => rfl
  | true =>
    rw [Bool.true_and, Bool.true_and]
    obtain ⟨f1, f2⟩ := figB_iff.mp hf
    by_cases h : (figs l).head? = some 48
    · rw [show ((figs l).head? == some 48) = true from beq_iff_eq.mpr h]
      show (_ && (_ || false)) = (_ || false)
      rw [Bool.or_false, Bool.or_false]
      cases e : figs l with
      | nil => exact (f1 e).elim
      | cons c r =>
        rw [e] at h
        have c48 : c = 48 := by simpa using h
        subst c48
        rcases figs_eq l with ⟨ea, sa⟩ | ⟨ea, sa⟩
        · rw [e] at sa
          subst sa
          cases r <;> simp
        · rw [e] at sa
          subst sa
          cases r <;> simp
    · rw [show ((figs l).head? == some 48) = false from beq_eq_false_iff_ne.mpr h]
      have n : l ≠ [45, 48] := fun z => h (by rw [z]; rfl)
      rw [decide_eq_false n]
      show (_ || true) = (_ || true)
      rw [Bool.or_true, Bool.or_true]
/-! # what a test tells -/
def sgT (m : Str) (i : Int) : Option Bool := if m = "-eq" then some (decide (i = 0)) else if m = "-ne" then some (decide (i ≠ 0)) else if m = "-lt" then some (decide (i < 0)) else if m = "-le" then some (decide (i ≤ 0)) else if m = "-gt" then some (decide (0 < i)) else if m = "-ge" then some (decide (0 ≤ i)) else none
def numT (x m y : Str) : Option Bool := if intB (cs x) && intB (cs y) then sgT m (numL (cs x) - numL (cs y)) else none
def twoT (x m y : Str) : Option Bool := if m = "=" then some (decide (x = y)) else if m = "!=" then some (decide (x ≠ y)) else numT x m y
def filB : Option (Option Str) → Bool
  | some (some _) => true
  | _ => false
def oneT (fs : Fls) (ps : List Str) (m x : Str) : Option Bool := if m = "-n" then some (decide (x ≠ "")) else if m = "-z" then some (decide (x = "")) else if m = "-f" then some (filB (lkF fs (say (says ps x)))) else if m = "-d" then some (isF fs (say (says ps x))) else none
def truT (fs : Fls) (ps : List Str) : List Str → Option Bool
  | [x] => some (decide (x ≠ ""))
  | [m, x] => oneT fs ps m x
  | [x, m, y] => twoT x m y
  | _ => none
def bangs : List Str → Nat
  | x :: y :: r => if x = "!" then bangs (y :: r) + 1 else 0
  | _ => 0
theorem bangs_step {xs : List Str} {i : Nat} (h : i + 1 < xs.length) (e : xs[i]? = some "!") : bangs (xs.drop i) = bangs (xs.drop (i + 1)) + 1 := by
  obtain ⟨h1, e1⟩ := List.getElem?_eq_some_iff.mp e
  rw [List.drop_eq_getElem_cons h1, e1, List.drop_eq_getElem_cons h]
  exact if_pos rfl
theorem bangs_end {xs : List Str} {i : Nat} (h : ¬ i + 1 < xs.length) : bangs (xs.drop i) = 0 := by
  have l : (xs.drop i).length ≤ 1 := by rw [List.length_drop]; omega
  generalize xs.drop i = ys at l
  match ys, l with
  | [], _ => rfl
  | [_], _ => rfl
  | _ :: _ :: _, l => exact absurd l (by simp)
theorem bangs_other {xs : List Str} {i : Nat} {x : Str} (h : i + 1 < xs.length) (e : xs[i]? = some x) (ne : x ≠ "!") : bangs (xs.drop i) = 0 := by
  obtain ⟨h1, e1⟩ := List.getElem?_eq_some_iff.mp e
  rw [List.drop_eq_getElem_cons h1, e1, List.drop_eq_getElem_cons h]
  exact if_neg ne
def stT (n : Nat) : Option Bool → Nat
  | none => 2
  | some b => if b = decide (n % 2 = 0) then 0 else 1
def dueT (fs : Fls) (ps xs : List Str) : Nat := stT (bangs xs) (truT fs ps (xs.drop (bangs xs)))
def vO : Option Bool → V
  | none => .non
  | some b => .bl b
theorem bangs_lt : ∀ xs : List Str, bangs xs ≤ xs.length - 1
  | [] => Nat.zero_le _
  | [_] => Nat.zero_le _
  | x :: y :: r => by
    have ih := bangs_lt (y :: r)
    unfold bangs
    split
    · simp only [List.length_cons] at ih ⊢
      omega
    · exact Nat.zero_le _
theorem stT_succ (n : Nat) (o : Option Bool) : (stT (n + 1) o = if stT n o = 2 then 2 else 1 - stT n o) ∧ stT n o ≤ 2 := by
  cases o with
  | none => exact ⟨rfl, Nat.le_refl _⟩
  | some b =>
    have e : decide ((n + 1) % 2 = 0) = !decide (n % 2 = 0) := by
      rcases Nat.mod_two_eq_zero_or_one n with z | z
      · rw [decide_eq_false (show ¬ (n + 1) % 2 = 0 by omega), decide_eq_true z]
        rfl
      · rw [decide_eq_true (show (n + 1) % 2 = 0 by omega), decide_eq_false (show ¬ n % 2 = 0 by omega)]
        rfl
    have e1 : stT (n + 1) (some b) = if b = decide ((n + 1) % 2 = 0) then 0 else 1 := rfl
    have e2 : stT n (some b) = if b = decide (n % 2 = 0) then 0 else 1 := rfl
    rw [e1, e2, e]
    generalize decide (n % 2 = 0) = p
    clear e1 e2 e
    revert b p
    decide
theorem due_bang (fs : Fls) (ps : List Str) {xs : List Str} (h : xs ≠ []) : (dueT fs ps ("!" :: xs) = if dueT fs ps xs = 2 then 2 else 1 - dueT fs ps xs) ∧ dueT fs ps xs ≤ 2 := by
  cases xs with
  | nil => exact (h rfl).elim
  | cons y r =>
    have e : bangs ("!" :: y :: r) = bangs (y :: r) + 1 := if_pos rfl
    unfold dueT
    rw [e, List.drop_succ_cons]
    exact stT_succ _ _
end Qb
end PySem
namespace PySem
namespace Qb
open PySem.W PySem.Calls PyProof.Rows L2
/-! # < of two pairs of a number and a text -/
def rLtIS (K : PySem.W.Frag) : R2 := fun x y H Q => ∃ (a b : Addr) (i j : Int) (s t : Str), x = .ref a ∧ y = .ref b ∧ SqT K H a [.int i, .str s] ∧ SqT K H b [.int j, .str t] ∧
  Q (.bl (decide (i < j) || (decide (i = j) && decide (cs s < cs t)))) H
theorem lt_irr (l : List Nat) : ¬ l < l := List.lt_irrefl l
theorem op_ltIS {X : Cx} (hu : X.A.units < cLine) : OpR X (compareOp .Lt) (rLtIS X.K) := by
  intro pins s σ H x y v u Q I rx ry h
  obtain ⟨a, b, i, j, xs, ys, rfl, rfl, ha, hb, q⟩ := h
  cases rx
  cases ry
  obtain ⟨its, r1, p1, _⟩ := I.tuple ha
  obtain ⟨its2, r2, p2, _⟩ := I.tuple hb
  obtain ⟨t1, t2, rfl⟩ : ∃ t1 t2, its = [.int i t1, .str xs t2] := by
    cases r1 with
    | cons h1 r1 => cases r1 with
      | cons h2 r1 => cases r1 with
        | nil =>
          obtain ⟨t1, rfl⟩ := h1
          obtain ⟨t2, rfl⟩ := h2
          exact ⟨t1, t2, rfl⟩
  obtain ⟨u1, u2, rfl⟩ : ∃ t1 t2, its2 = [.int j t1, .str ys t2] := by
    cases r2 with
    | cons h1 r2 => cases r2 with
      | cons h2 r2 => cases r2 with
        | nil =>
          obtain ⟨t1, rfl⟩ := h1
          obtain ⟨t2, rfl⟩ := h2
          exact ⟨t1, t2, rfl⟩
  have R := Ob.RcOp.tuples_lt (A := X.A) (s := s) (e := fun k => if k = 0 then (i == j) else (xs == ys)) (r := fun k => if k = 0 then decide (i < j) else decide (cs xs < cs ys)) p1 p2 hu (fun k h1 h2 => by
    match k, h1, h2 with
    | 0, _, _ => exact SeqAt.EqAt.int_int _ _ _ _
    | 1, _, _ => exact SeqAt.EqAt.str_str _ _ _ _
    | k + 2, h1, _ => exact absurd h1 (by simp)) (fun k h1 h2 _ => by
    match k, h1, h2 with
    | 0, _, _ => exact Ob.RcOp.lt_int _ _ _ _
    | 1, _, _ => exact fun _ _ _ _ h => PyProof.Rows.lt_str h
    | k + 2, h1, _ => exact absurd h1 (by simp))
  have e : Ob.lexAt (fun k => if k = 0 then (i == j) else (xs == ys)) (fun k => if k = 0 then decide (i < j) else decide (cs xs < cs ys)) (decide (2 < 2)) 0 2 = (decide (i < j) || (decide (i = j) && decide (cs xs < cs ys))) := by
    show (if (i == j) = true then (if (xs == ys) = true then decide (2 < 2) else decide (cs xs < cs ys)) else decide (i < j)) = _
    by_cases h1 : i = j
    · subst h1
      rw [if_pos (beq_self_eq_true i), decide_eq_false (Int.lt_irrefl i), decide_eq_true rfl]
      by_cases h2 : xs = ys
      · subst h2
        rw [if_pos (beq_self_eq_true xs), decide_eq_false (lt_irr (cs xs))]
        rfl
      · rw [if_neg (by rw [beq_eq_false_iff_ne.mpr h2]; decide)]
        rfl
    · rw [if_neg (by rw [beq_eq_false_iff_ne.mpr h1]; decide), decide_eq_false h1]
      show _ = (_ || false)
      rw [Bool.or_false]
  have R' : Ob.RcOp .Lt X.A s (.ref a) (.ref b) (decide (i < j) || (decide (i = j) && decide (cs xs < cs ys))) := by
    rw [← e]
    exact R
  have z : wpAny (model X.prog X.w) X.A (compareOp .Lt (.ref a) (.ref b)) (EP X pins σ Q) X.xe s := R' X.prog X.w X.xe (EP X pins σ Q) ⟨.bl _, H, I, rfl, q⟩
  exact z
end Qb
end PySem
namespace PySem
namespace Qb
open PySem.W PySem.Calls PyProof.Rows L2
theorem line_small {n : Nat} (h : n ≤ 1000000) : n ≤ sizeLine := by
  rw [sizeLine_eq]
  omega
structure WrX (mg : Str → Option Value) : Prop where
  wr : ∃ t, mg "WRONG" = some (.int 2 t)
def spIi : Sp := fun vs H Q _ => ∃ (x : Str), vs = [.str x] ∧ x.length ≤ 1000 ∧ ∀ H', Same H H' → Q (.bl (intB (cs x))) H'
def spIlF : Sp := fun vs H Q _ => ∃ (x y : Str), vs = [.str x, .str y] ∧ cs x ≠ [] ∧ cs y ≠ [] ∧ neg (cs x) = false ∧ neg (cs y) = false ∧ x.length ≤ 1000 ∧ y.length ≤ 1000 ∧ ∀ H', Same H H' → Q (.bl (lessF (cs x) (cs y))) H'
def spIls : Sp := fun vs H Q _ => ∃ (x y : Str), vs = [.str x, .str y] ∧ intB (cs x) = true ∧ intB (cs y) = true ∧ x.length ≤ 1000 ∧ y.length ≤ 1000 ∧ ∀ H', Same H H' → Q (.bl (decide (numL (cs x) < numL (cs y)))) H'
def spTrw : Sp := fun vs H Q _ => ∃ (x m y : Str), vs = [.str x, .str m, .str y] ∧ x.length ≤ 1000 ∧ y.length ≤ 1000 ∧ ∀ H', Same H H' → Q (vO (twoT x m y)) H'
theorem head_neg {x : Str} {c : Nat} {r : L} (h : cs x = c :: r) : decide (V.str (⟨#[c]⟩ : Str) = V.str "-") = neg (cs x) := by
  rw [one_is c 45 "-" (by decide +kernel), h]
  rfl
theorem head_of {l : L} (h : l ≠ []) : ∃ c r, l = c :: r := by
  cases l with
  | nil => exact (h rfl).elim
  | cons c r => exact ⟨c, r, rfl⟩
theorem int_ne {l : L} (h : intB l = true) : l ≠ [] := by
  intro z
  subst z
  cases h
theorem neg_figs {a : L} (h : Fg (figs a)) : neg (figs a) = false := by
  rcases figs_eq (figs a) with ⟨e, s⟩ | ⟨e, _⟩
  · have m := h.2.1 45 (by rw [s]; exact .head _)
    exact absurd m (by decide)
  · exact e
section
variable {P : Program} {w : World} {K : Frag} {mg : Str → Option Value} {base : Heap}
abbrev sIi : Stmt := top 31
abbrev nIi : List Str := ["text", "figures", "sign"]
theorem scIi : FnScope nIi ["text"] (defScope sIi) := ⟨rfl, rfl, rfl, by decide +kernel, rfl, by decide +kernel, by decide +kernel⟩
theorem has_Ii {f : Addr} {fd : FuncData}  (F : Fun K "is_integer" "is_integer" sIi f fd) (g : mg "is_integer" = some (.ref f)) (B : Blt mg) (W : Wrt K w mg) :
    Has P w K mg base 1 "is_integer" ["text"] (spIi) := by
  refine has_of F g (F.binds (ps := ["text"]) fun _ _ _ _ _ _ us hl => match us, hl with | [_], _ => rfl) (F.ok scIi (fun vs H Q E h => ?_) (fun cdv A outer s H vs Q E hr h => ?_))
  · obtain ⟨x, rfl, _⟩ := h
    rfl
  · refine ⟨_, (pss_cons (ps_weak (ps_set (i := 1) scIi.nd rfl (.inl rfl) (pe_ifExp (pt_cmpR op_eq (pe_slice sl_str (pv 0) po_none (po_some pe_int)) pe_str (nomark _)) (pe_slice sl_str (pv 0) (po_some pe_int) po_none) (pv 0))))
        (pss_cons (ps_if (PW.pt (pw_or (pt_cmpR op_eq (pv 1) pe_str (nomark _)) (pw_or1 (pt_not (pt_val (pe_callB (cr_all rfl) (by rfl) B.all (by decide +kernel) (pa_cons (pe_lc (own := [("sign", 2)]) (g := gName 2) (tt := tYes) rfl scIi.nd (pi_str (pv 1)) (blkOk_by (N := nIi) (sc := defScope sIi) (by decide +kernel)) (fun _ _ _ _ _ => pg_name (i := 2) scIi.nd rfl (.inl rfl)) (fun _ _ _ _ _ => pts_nil) (fun _ _ _ _ _ => (pe_cmpR op_in_sign (pv 2) (glob_str (by rfl) W.dig) (by rfl)))) pa_nil))))))) (pss_one (ps_ret pe_bl)) pss_nil)
        (pss_one (ps_ret (pe_or (pe_cmpR op_eq (pv 0) pe_str (nomark _)) (pe_one (pe_cmpR op_ne (pe_ix ix_str (pv 1) pe_int (fun _ _ => rfl)) pe_str (nomark _)))))))), ?_⟩
    obtain ⟨x, rfl, hx, k⟩ := h
    have hz : x.length ≤ sizeLine := line_small (by omega)
    refine ⟨fun σ' H' => H' = H ∧ ∃ y : Str, σ' = [some (.str x), some (.str y), none] ∧ cs y = figs (cs x), ?_, ?_⟩
    · rintro σ' H' ⟨rfl, y, rfl, ey⟩
      have yl : y.length ≤ 1000 := by
        rw [len_cs, ey]
        have := len_cs x
        rcases figs_eq (cs x) with ⟨_, b⟩ | ⟨_, b⟩
        · have := congrArg List.length b
          rw [List.length_cons] at this
          omega
        · rw [b]; omega
      have done : ∀ b H1, intB (cs x) = b → Same H' H1 → Q (.bl b) H1 := fun b H1 e s => by
        have z := k H1 s
        rw [e] at z
        exact z
      refine ⟨_, rfl, rfl, _, rfl, ?_⟩
      by_cases h0 : y = ("" : Str)
      · refine if_yes (by rw [h0]; decide +kernel) (if_yes rfl (done false H' ?_ (Same.refl _)))
        have e0 : figs (cs x) = [] := by rw [← ey, h0]; decide +kernel
        unfold intB figB
        rw [e0]
        rfl
      · refine if_no (decide_eq_false fun z => h0 (V.str.inj z)) ?_
        obtain ⟨c, r, hl⟩ : ∃ c r, cs y = c :: r := by
          cases e : cs y with
          | nil => exact absurd (cs_nil e) h0
          | cons c r => exact ⟨c, r, rfl⟩
        refine ⟨_, rfl, y, rfl, fun D hD => lc_it walk_str (fun i H1 => H1 = L2.upd H' D (.lst (((cs y).take i).map fun d => V.bl (decide (d ∈ cs digS))))) (by simp) (fun _ _ _ _ => trivial) (fun i v H1 H2 hi e yy => ?_) (fun H1 e => ?_)⟩
        · obtain ⟨rfl, d, hd, rfl⟩ := yy
          subst e
          have hd' : (cs y)[i]? = some d := by simpa using hd
          refine ⟨rfl, _, rfl, d, digS, rfl, rfl, _, upd_same, ?_, ?_⟩
          · rw [List.length_map, List.length_take]
            have := len_cs y
            rw [sizeLine_eq]
            omega
          · rw [upd_upd, take_snoc hd', List.map_append]
            rfl
        · subst e
          have e2 : (cs y).take y.cps.size = cs y := List.take_of_length_le (by simp)
          rw [e2]
          refine ⟨D, (cs y).map fun d => decide (d ∈ cs digS), rfl, SqL.of (by rw [upd_same, List.map_map]; rfl), _, rfl, ?_⟩
          have ea : ((cs y).map fun d => decide (d ∈ cs digS)).all id = (figs (cs x)).all fun d => decide (d ∈ digC) := by
            rw [List.all_map, ey, cs_dig]
            rfl
          have ne : (figs (cs x)).isEmpty = false := by rw [← ey, hl]; rfl
          rw [ea]
          cases eb : (figs (cs x)).all fun d => decide (d ∈ digC) with
          | false =>
            refine if_yes rfl (done false _ ?_ (same_upd hD))
            unfold intB figB
            rw [eb, Bool.and_false, Bool.false_and]
          | true =>
            have sD : Same H' (L2.upd H' D (.lst ((cs y).map fun d => V.bl (decide (d ∈ cs digS))))) := same_upd hD
            have fb : figB (cs x) = true := by
              unfold figB
              rw [ne, eb]
              rfl
            refine if_no rfl ⟨_, rfl, rfl, _, rfl, ?_⟩
            have q0 : decide (V.str x = V.str "0") = decide (cs x = [48]) := decide_eq_decide.mpr ⟨fun z => by rw [V.str.inj z]; decide +kernel, fun z => by rw [← st_cs x, z]; decide +kernel⟩
            rw [q0]
            have fin : ∀ H1, Same H' H1 → Q (.bl (decide (cs x = [48]) || !((figs (cs x)).head? == some 48))) H1 := fun H1 s => by
              have z := k H1 s
              unfold intB at z
              rw [fb, Bool.true_and] at z
              exact z
            cases e48 : decide (cs x = [48]) with
            | true =>
              have z := fin _ sD
              rw [e48] at z
              exact if_yes rfl z
            | false =>
              refine if_no rfl ⟨_, rfl, y, 0, c, rfl, rfl, line_small (by omega), atI_nat (j := 0) (congrArg (fun l : L => l[0]?) hl), rfl, ?_⟩
              have z := fin _ sD
              rw [e48, ← ey, show (cs y).head? = some c by rw [hl]; rfl] at z
              rw [one_is c 48 "0" (by decide +kernel)]
              exact z
    · refine ⟨_, rfl, _, rfl, x, rfl, hz, rfl, _, rfl, ?_⟩
      rw [first_neg]
      refine if_by (fun e => ⟨_, rfl, _, rfl, x, rfl, hz, ⟨rfl, _, rfl, figs_neg e⟩⟩) (fun e => ⟨_, rfl, ⟨rfl, _, rfl, ?_⟩⟩)
      rcases figs_eq (cs x) with ⟨a, b⟩ | ⟨a, b⟩
      · rw [e] at a; cases a
      · exact b.symm
abbrev sIls : Stmt := top 91
abbrev nIls : List Str := ["one", "other"]
theorem scIls : FnScope nIls ["one", "other"] (defScope sIls) := ⟨rfl, rfl, rfl, by decide +kernel, rfl, by decide +kernel, by decide +kernel⟩
theorem has_IlF {f : Addr} {fd : FuncData}  (F : Fun K "is_less" "is_less" sIls f fd) (g : mg "is_less" = some (.ref f)) (B : Blt mg)  :
    Has P w K mg base 1 "is_less" ["one", "other"] (spIlF) := by
  refine has_of F g (F.binds (ps := ["one", "other"]) fun _ _ _ _ _ _ us hl => match us, hl with | [_, _], _ => rfl) (F.ok scIls (fun vs H Q E h => ?_) (fun cdv A outer s H vs Q E hr h => ?_))
  · obtain ⟨x, y, rfl, _⟩ := h
    rfl
  · refine ⟨_, (pss_cons (ps_if (PW.pt (pw_or (pt_cmpR op_eq (pe_ix ix_str (pv 0) pe_int (fun _ _ => rfl)) pe_str (nomark _)) (pw_or1 (pt_cmpR op_eq (pe_ix ix_str (pv 1) pe_int (fun _ _ => rfl)) pe_str (nomark _))))) pss_never pss_nil)
        (pss_one (ps_ret (pe_cmpR (op_ltIS (Nat.lt_of_succ_lt (hu_of hr))) (pe_tup (pa_cons (pe_callB call_len (by rfl) B.len PySem.boot_len (pa_cons (pv 0) pa_nil)) (pa_cons (pv 0) pa_nil))) (pe_tup (pa_cons (pe_callB call_len (by rfl) B.len PySem.boot_len (pa_cons (pv 1) pa_nil)) (pa_cons (pv 1) pa_nil))) (nomark _))))), ?_⟩
    obtain ⟨x, y, rfl, nx, ny, gx, gy, lx, ly, k⟩ := h
    obtain ⟨c, r, hc⟩ := head_of nx
    obtain ⟨d, u, hd⟩ := head_of ny
    refine ⟨_, rfl, x, 0, c, rfl, rfl, line_small (by omega), atI_nat (j := 0) (congrArg (fun l : L => l[0]?) hc), rfl, _, rfl, ?_⟩
    rw [head_neg hc, gx]
    refine if_no rfl ⟨_, rfl, y, 0, d, rfl, rfl, line_small (by omega), atI_nat (j := 0) (congrArg (fun l : L => l[0]?) hd), rfl, _, rfl, ?_⟩
    rw [head_neg hd, gy]
    refine if_no rfl ⟨_, rfl, _, _, rfl, ⟨line_small (by omega), rfl⟩, _, rfl, (by decide : 2 ≤ sizeLine), fun p np => ⟨_, rfl, _, _, rfl, ⟨line_small (by omega), rfl⟩, _, rfl, (by decide : 2 ≤ sizeLine), fun q nq => ?_⟩⟩
    refine ⟨p, q, _, _, _, _, rfl, rfl, SqT.of ((same_upd nq) _ _ upd_same), SqT.of upd_same, ?_⟩
    have e : (decide ((x.length : Int) < (y.length : Int)) || (decide ((x.length : Int) = (y.length : Int)) && decide (cs x < cs y))) = lessF (cs x) (cs y) := by
      unfold lessF
      rw [← len_cs, ← len_cs]
      rw [show decide ((x.length : Int) < (y.length : Int)) = decide (x.length < y.length) from decide_eq_decide.mpr (by omega), show decide ((x.length : Int) = (y.length : Int)) = decide (x.length = y.length) from decide_eq_decide.mpr (by omega)]
    rw [e]
    exact k _ ((same_upd np).trans (same_upd nq))
theorem has_Ils {f : Addr} {fd : FuncData}  (F : Fun K "is_less" "is_less" sIls f fd) (g : mg "is_less" = some (.ref f)) (B : Blt mg) (hIlF : Has P w K mg base 1 "is_less" ["one", "other"] (spIlF)) :
    Has P w K mg base 2 "is_less" ["one", "other"] (spIls) := by
  obtain ⟨fIls, dIls, gIls, kIls, bIls, GIls⟩ := hIlF
  refine has_of F g (F.binds (ps := ["one", "other"]) fun _ _ _ _ _ _ us hl => match us, hl with | [_, _], _ => rfl) (F.ok scIls (fun vs H Q E h => ?_) (fun cdv A outer s H vs Q E hr h => ?_))
  · obtain ⟨x, y, rfl, _⟩ := h
    rfl
  · refine ⟨_, (pss_cons (ps_if (PW.pt (pw_or (pt_cmpR op_eq (pe_ix ix_str (pv 0) pe_int (fun _ _ => rfl)) pe_str (nomark _)) (pw_or1 (pt_cmpR op_eq (pe_ix ix_str (pv 1) pe_int (fun _ _ => rfl)) pe_str (nomark _))))) (pss_one (ps_ret (pe_and (pe_cmpR op_eq (pe_ix ix_str (pv 0) pe_int (fun _ _ => rfl)) pe_str (nomark _)) (pe_one (pe_or (pe_cmpR op_ne (pe_ix ix_str (pv 1) pe_int (fun _ _ => rfl)) pe_str (nomark _)) (pe_one (pe_call GIls (hr.mono (by decide)) rfl gIls kIls bIls .nil pass0 (pa_cons (pe_slice sl_str (pv 1) (po_some pe_int) po_none) (pa_cons (pe_slice sl_str (pv 0) (po_some pe_int) po_none) pa_nil))))))))) pss_nil)
        (pss_one (ps_ret (pe_cmpR (op_ltIS (Nat.lt_of_succ_lt (hu_of hr))) (pe_tup (pa_cons (pe_callB call_len (by rfl) B.len PySem.boot_len (pa_cons (pv 0) pa_nil)) (pa_cons (pv 0) pa_nil))) (pe_tup (pa_cons (pe_callB call_len (by rfl) B.len PySem.boot_len (pa_cons (pv 1) pa_nil)) (pa_cons (pv 1) pa_nil))) (nomark _))))), ?_⟩
    obtain ⟨x, y, rfl, ix, iy, lx, ly, k⟩ := h
    obtain ⟨c, r, hc⟩ := head_of (int_ne ix)
    obtain ⟨d, u, hd⟩ := head_of (int_ne iy)
    have e := lessL_iff ix iy
    rw [← e] at k
    unfold lessL at k
    refine ⟨_, rfl, x, 0, c, rfl, rfl, line_small (by omega), atI_nat (j := 0) (congrArg (fun l : L => l[0]?) hc), rfl, _, rfl, ?_⟩
    rw [head_neg hc]
    have lx' := len_cs x
    have ly' := len_cs y
    rcases figs_eq (cs x) with ⟨a, ea⟩ | ⟨a, ea⟩
    · rw [a] at k ⊢
      refine if_yes rfl ⟨_, rfl, x, 0, c, rfl, rfl, line_small (by omega), atI_nat (j := 0) (congrArg (fun l : L => l[0]?) hc), rfl, ?_⟩
      rw [head_neg hc, a]
      refine ⟨_, rfl, if_yes rfl ⟨_, rfl, y, 0, d, rfl, rfl, line_small (by omega), atI_nat (j := 0) (congrArg (fun l : L => l[0]?) hd), rfl, _, rfl, ?_⟩⟩
      rw [head_neg hd]
      rcases figs_eq (cs y) with ⟨b, eb⟩ | ⟨b, eb⟩
      · rw [b] at k ⊢
        have l1 : (cutS y (some 1) none).length ≤ 1000 := by
          rw [len_cs, figs_neg b]
          have := congrArg List.length eb
          rw [List.length_cons] at this
          omega
        have l2 : (cutS x (some 1) none).length ≤ 1000 := by
          rw [len_cs, figs_neg a]
          have := congrArg List.length ea
          rw [List.length_cons] at this
          omega
        have fy := (intB_fg iy).1
        have fx := (intB_fg ix).1
        refine if_no rfl ⟨_, rfl, _, rfl, y, rfl, line_small (by omega), _, rfl, _, rfl, x, rfl, line_small (by omega), cutS y (some 1) none, cutS x (some 1) none, rfl, by rw [figs_neg b]; exact fy.1, by rw [figs_neg a]; exact fx.1, by rw [figs_neg b]; exact neg_figs fy, by rw [figs_neg a]; exact neg_figs fx, l1, l2, fun H' s' => ?_⟩
        have z := k H' s'
        rw [figs_neg b, figs_neg a]
        exact z
      · rw [b] at k ⊢
        exact if_yes rfl (k _ (Same.refl _))
    · rw [a] at k ⊢
      refine if_no rfl ⟨_, rfl, y, 0, d, rfl, rfl, line_small (by omega), atI_nat (j := 0) (congrArg (fun l : L => l[0]?) hd), rfl, _, rfl, ?_⟩
      rw [head_neg hd]
      rcases figs_eq (cs y) with ⟨b, eb⟩ | ⟨b, eb⟩
      · rw [b] at k ⊢
        refine if_yes rfl ⟨_, rfl, x, 0, c, rfl, rfl, line_small (by omega), atI_nat (j := 0) (congrArg (fun l : L => l[0]?) hc), rfl, ?_⟩
        rw [head_neg hc, a]
        exact ⟨_, rfl, if_no rfl (k _ (Same.refl _))⟩
      · rw [b] at k ⊢
        refine if_no rfl ⟨_, rfl, _, _, rfl, ⟨line_small (by omega), rfl⟩, _, rfl, (by decide : 2 ≤ sizeLine), fun p np => ⟨_, rfl, _, _, rfl, ⟨line_small (by omega), rfl⟩, _, rfl, (by decide : 2 ≤ sizeLine), fun q nq => ?_⟩⟩
        refine ⟨p, q, _, _, _, _, rfl, rfl, SqT.of ((same_upd nq) _ _ upd_same), SqT.of upd_same, ?_⟩
        have e : (decide ((x.length : Int) < (y.length : Int)) || (decide ((x.length : Int) = (y.length : Int)) && decide (cs x < cs y))) = lessF (cs x) (cs y) := by
          unfold lessF
          rw [← len_cs, ← len_cs]
          rw [show decide ((x.length : Int) < (y.length : Int)) = decide (x.length < y.length) from decide_eq_decide.mpr (by omega), show decide ((x.length : Int) = (y.length : Int)) = decide (x.length = y.length) from decide_eq_decide.mpr (by omega)]
        rw [e]
        exact k _ ((same_upd np).trans (same_upd nq))
abbrev sTrw : Stmt := top 90
abbrev nTrw : List Str := ["one", "sign", "other"]
theorem scTrw : FnScope nTrw ["one", "sign", "other"] (defScope sTrw) := ⟨rfl, rfl, rfl, by decide +kernel, rfl, by decide +kernel, by decide +kernel⟩
theorem has_Trw {f : Addr} {fd : FuncData}  (F : Fun K "truth_of_two" "truth_of_two" sTrw f fd) (g : mg "truth_of_two" = some (.ref f)) (B : Blt mg) (hIi : Has P w K mg base 1 "is_integer" ["text"] (spIi)) (hIls : Has P w K mg base 2 "is_less" ["one", "other"] (spIls)) :
    Has P w K mg base 3 "truth_of_two" ["one", "sign", "other"] (spTrw) := by
  obtain ⟨fIi, dIi, gIi, kIi, bIi, GIi⟩ := hIi
  obtain ⟨fIls, dIls, gIls, kIls, bIls, GIls⟩ := hIls
  refine has_of F g (F.binds (ps := ["one", "sign", "other"]) fun _ _ _ _ _ _ us hl => match us, hl with | [_, _, _], _ => rfl) (F.ok scTrw (fun vs H Q E h => ?_) (fun cdv A outer s H vs Q E hr h => ?_))
  · obtain ⟨x, m, y, rfl, _⟩ := h
    rfl
  · refine ⟨_, (pss_cons (ps_match (pv 1)
        (pcs_cons (is := []) scTrw.nd pp_lit .nil
          (pss_one (ps_ret (pe_cmpR op_eq (pv 0) (pv 2) (nomark _))))
        (pcs_cons (is := []) scTrw.nd pp_lit .nil
          (pss_one (ps_ret (pe_cmpR op_ne (pv 0) (pv 2) (nomark _)))) pcs_nil)))
        (pss_cons (ps_if (PW.pt (pw_or (pt_not (pt_val (pe_call GIi (hr.mono (by decide)) rfl gIi kIi bIi .nil pass0 (pa_cons (pv 0) pa_nil)))) (pw_or1 (pt_not (pt_val (pe_call GIi (hr.mono (by decide)) rfl gIi kIi bIi .nil pass0 (pa_cons (pv 2) pa_nil))))))) (pss_one (ps_ret pe_non)) pss_nil)
        (pss_cons (ps_match (pv 1)
        (pcs_cons (is := []) scTrw.nd pp_lit .nil
          (pss_one (ps_ret (pe_cmpR op_eq (pv 0) (pv 2) (nomark _))))
        (pcs_cons (is := []) scTrw.nd pp_lit .nil
          (pss_one (ps_ret (pe_cmpR op_ne (pv 0) (pv 2) (nomark _))))
        (pcs_cons (is := []) scTrw.nd pp_lit .nil
          (pss_one (ps_ret (pe_call GIls hr rfl gIls kIls bIls .nil pass0 (pa_cons (pv 0) (pa_cons (pv 2) pa_nil)))))
        (pcs_cons (is := []) scTrw.nd pp_lit .nil
          (pss_one (ps_ret (pe_not (pe_call GIls hr rfl gIls kIls bIls .nil pass0 (pa_cons (pv 2) (pa_cons (pv 0) pa_nil))))))
        (pcs_cons (is := []) scTrw.nd pp_lit .nil
          (pss_one (ps_ret (pe_call GIls hr rfl gIls kIls bIls .nil pass0 (pa_cons (pv 2) (pa_cons (pv 0) pa_nil)))))
        (pcs_cons (is := []) scTrw.nd pp_lit .nil
          (pss_one (ps_ret (pe_not (pe_call GIls hr rfl gIls kIls bIls .nil pass0 (pa_cons (pv 0) (pa_cons (pv 2) pa_nil)))))) pcs_nil)))))))
        (pss_one (ps_ret pe_non))))), ?_⟩
    obtain ⟨x, m, y, rfl, lx, ly, k⟩ := h
    have fin : ∀ o, twoT x m y = o → ∀ H', Same H H' → Q (vO o) H' := fun o e H' s => by
      rw [← e]
      exact k H' s
    unfold twoT at fin
    refine ⟨_, rfl, lit_case (fun e => ?_) fun n1 => lit_case (fun e => ?_) fun n2 => ?_⟩
    · refine ⟨_, rfl, _, rfl, rfl, ?_⟩
      rw [dec_str]
      exact fin _ (if_pos e) H (Same.refl H)
    · refine ⟨_, rfl, _, rfl, rfl, ?_⟩
      rw [dec_str]
      have z := fin _ ((if_neg n1).trans (if_pos e)) H (Same.refl H)
      rw [show (!decide (x = y)) = decide (x ≠ y) from (decide_not (p := x = y)).symm]
      exact z
    · have fin2 : ∀ o, numT x m y = o → ∀ H', Same H H' → Q (vO o) H' := fun o e => fin o (((if_neg n1).trans (if_neg n2)).trans e)
      unfold numT at fin2
      refine ⟨_, rfl, x, rfl, lx, fun H1 s1 => ⟨_, rfl, ?_⟩⟩
      cases ex : intB (cs x) with
      | false =>
        rw [ex] at fin2
        exact if_yes rfl (if_yes rfl (fin2 none rfl H1 s1))
      | true =>
        refine if_no rfl ⟨_, rfl, y, rfl, ly, fun H2 s2 => ⟨_, rfl, ?_⟩⟩
        cases ey : intB (cs y) with
        | false =>
          rw [ex, ey] at fin2
          exact if_yes rfl (fin2 none rfl H2 (s1.trans s2))
        | true =>
          rw [ex, ey] at fin2
          have fin3 : ∀ o, sgT m (numL (cs x) - numL (cs y)) = o → ∀ H', Same H2 H' → Q (vO o) H' := fun o e H' s' => fin2 o e H' ((s1.trans s2).trans s')
          unfold sgT at fin3
          refine if_no rfl ⟨_, rfl, lit_case (fun e => ?_) fun m1 => lit_case (fun e => ?_) fun m2 => lit_case (fun e => ?_) fun m3 => lit_case (fun e => ?_) fun m4 => lit_case (fun e => ?_) fun m5 => lit_case (fun e => ?_) fun m6 => ?_⟩
          · refine ⟨_, rfl, _, rfl, rfl, ?_⟩
            rw [dec_str, show decide (x = y) = decide (numL (cs x) - numL (cs y) = 0) from decide_eq_decide.mpr ⟨fun z => by rw [z, Int.sub_self], fun z => str_ext (numL_inj ex ey (by omega))⟩]
            exact fin3 _ (if_pos e) H2 (Same.refl _)
          · refine ⟨_, rfl, _, rfl, rfl, ?_⟩
            rw [dec_str, show (!decide (x = y)) = decide (numL (cs x) - numL (cs y) ≠ 0) by
              rw [← decide_not]
              exact decide_eq_decide.mpr ⟨fun z y => z (str_ext (numL_inj ex ey (by omega))), fun z y => z (by rw [y, Int.sub_self])⟩]
            exact fin3 _ ((if_neg m1).trans (if_pos e)) H2 (Same.refl _)
          · refine ⟨_, rfl, _, rfl, x, y, rfl, ex, ey, lx, ly, fun H3 s3 => ?_⟩
            have z := fin3 _ ((if_neg m1).trans ((if_neg m2).trans (if_pos e))) H3 s3
            rw [show decide (numL (cs x) < numL (cs y)) = decide (numL (cs x) - numL (cs y) < 0) from decide_eq_decide.mpr (by omega)]
            exact z
          · refine ⟨_, rfl, _, rfl, y, x, rfl, ey, ex, ly, lx, fun H3 s3 => ?_⟩
            have z := fin3 _ ((if_neg m1).trans ((if_neg m2).trans ((if_neg m3).trans (if_pos e)))) H3 s3
            refine ⟨_, rfl, ?_⟩
            rw [← decide_not, show decide (¬ numL (cs y) < numL (cs x)) = decide (numL (cs x) - numL (cs y) ≤ 0) from decide_eq_decide.mpr (by omega)]
            exact z
          · refine ⟨_, rfl, _, rfl, y, x, rfl, ey, ex, ly, lx, fun H3 s3 => ?_⟩
            have z := fin3 _ ((if_neg m1).trans ((if_neg m2).trans ((if_neg m3).trans ((if_neg m4).trans (if_pos e))))) H3 s3
            rw [show decide (numL (cs y) < numL (cs x)) = decide (0 < numL (cs x) - numL (cs y)) from decide_eq_decide.mpr (by omega)]
            exact z
          · refine ⟨_, rfl, _, rfl, x, y, rfl, ex, ey, lx, ly, fun H3 s3 => ?_⟩
            have z := fin3 _ ((if_neg m1).trans ((if_neg m2).trans ((if_neg m3).trans ((if_neg m4).trans ((if_neg m5).trans (if_pos e)))))) H3 s3
            refine ⟨_, rfl, ?_⟩
            rw [← decide_not, show decide (¬ numL (cs x) < numL (cs y)) = decide (0 ≤ numL (cs x) - numL (cs y)) from decide_eq_decide.mpr (by omega)]
            exact z
          · exact fin3 none ((if_neg m1).trans ((if_neg m2).trans ((if_neg m3).trans ((if_neg m4).trans ((if_neg m5).trans (if_neg m6)))))) H2 (Same.refl _)
end
end Qb
end PySem
namespace PySem
namespace Qb
open PySem.W PySem.Calls PyProof.Rows L2
/-! # match over a list -/
def rSeqL (K : Frag) (n : Nat) (rs : List PatR) : PatR := fun v H Q => ∃ a xs, v = .ref a ∧ SqL K H a xs ∧ (xs.length ≠ n → Q none) ∧ (xs.length = n → rEach rs xs H Q)
theorem pp_seqL {X : Cx} {pos : Pos} {ps : List Pattern} {ns : List Str} {rs : List PatR} {n : Nat} (hc : X.calm = true) (h : PPs X ps ns rs) (hn : ps.length = n := by rfl) (hstar : ps.findIdx? (·.isStar) = none := by rfl)
    (hwild : (ps.all fun p => p.isWildcard || (p.isStar && p.names.isEmpty)) = false := by rfl) : PPt X (.MatchSequence ps pos) ns (rSeqL X.K n rs) := by
  refine ⟨fun pins s σ H v u Q I r h' => ?_⟩
  obtain ⟨a, xs, rfl, sq, qn, qy⟩ := h'
  obtain rfl : u = Value.ref a := r
  obtain ⟨its, rv, pl, hz⟩ := I.list sq
  have hfit : ((its.toArray.size : Nat) : Int) < 2 ^ 63 := by
    have e := rv.length
    rw [List.size_toArray, ← e]
    rw [sizeLine_eq] at hz
    omega
  have e := rv.length
  by_cases c : xs.length = n
  · refine matchSeq_list_hit pl.isList hfit (by rw [List.size_toArray, ← e, c, hn]) ?_ hstar hwild
    have sz : ps.length = its.toArray.size := by rw [List.size_toArray, ← e, c, hn]
    rw [sz]
    refine PySem.W.kun_itemsOf (I.ok.hd hc) pl.isList fun h2 ex => ?_
    have J : Inv X pins σ H { s with heap := h2, toks := s.toks + 1 + 1 } := I.kept (t' := s.toks + 1 + 1) fun b o z => ext_keeps ex b o z
    refine h.run pins _ σ H xs _ Q J (by simpa using rv) (by rw [c, hn]) (qy c)
  · exact matchSeq_list_miss pl.isList hfit (by rw [List.size_toArray, ← e, hn]; exact c) ⟨I.tok _, qn c⟩ hstar hwild
theorem sl_miss {K : Frag} {a : Addr} {xs : List Str} {H : Hp} (hl : SqL K H a (xs.map V.str)) {n : Nat} {rs : List PatR} {is : List Nat} {t : TS} {rest : List (List Nat × PatR × TS)} {D : Ends} {σ : L2.St} (ne : xs.length ≠ n) (q : tCases rest (.ref a) D σ H) : tCases ((is, rSeqL K n rs, t) :: rest) (.ref a) D σ H :=
  ⟨a, _, rfl, hl, fun _ => q, fun z => absurd z (by rw [List.length_map]; exact ne)⟩
theorem cutV_from (xs : List V) (i : Nat) : cutV xs (some ((i : Nat) : Int)) none = xs.drop i := by
  unfold cutV
  rw [HT.sIx_nat, show HT.sIx xs.length xs.length none = xs.length by rfl]
  by_cases h : i ≤ xs.length
  · rw [Nat.min_eq_left h]
    exact List.take_of_length_le (by rw [List.length_drop]; exact Nat.le_refl _)
  · rw [Nat.min_eq_right (by omega), List.drop_of_length_le (Nat.le_refl _), List.drop_of_length_le (by omega), List.take_nil]
/-- a list of safe texts -/
def TxL (K : Frag) (H : Hp) (a : Addr) (xs : List Str) : Prop := SqL K H a (xs.map V.str) ∧ xs.length ≤ 1000 ∧ ∀ x ∈ xs, x.length ≤ 1000
theorem TxL.same {K : Frag} {H H' : Hp} {a : Addr} {xs : List Str} (h : TxL K H a xs) (s : Same H H') : TxL K H' a xs := ⟨s.seq h.1, h.2⟩
def spTrx (K : Frag) : Sp := fun vs H Q _ => ∃ (m x : Str) (v : V) (W : Wl), vs = [.str m, .str x, v] ∧ WAt K H v W ∧ WGood W ∧ x.length ≤ 1000 ∧ ∀ H', Same H H' → Q (vO (oneT W.files W.folder m x)) H'
def spTro (K : Frag) : Sp := fun vs H Q _ => ∃ (a : Addr) (xs : List Str) (v : V) (W : Wl), vs = [.ref a, v] ∧ TxL K H a xs ∧ WAt K H v W ∧ WGood W ∧ ∀ H', Same H H' → Q (vO (truT W.files W.folder xs)) H'
def spTss (K : Frag) : Sp := fun vs H Q _ => ∃ (a : Addr) (xs : List Str) (v : V) (W : Wl), vs = [.ref a, v] ∧ TxL K H a xs ∧ WAt K H v W ∧ WGood W ∧ ∀ H', Same H H' → Q (.int (dueT W.files W.folder xs : Nat)) H'
section
variable {P : Program} {w : World} {K : Frag} {mg : Str → Option Value} {base : Heap}
abbrev sTrx : Stmt := top 89
abbrev nTrx : List Str := ["sign", "text", "world", "path"]
theorem scTrx : FnScope nTrx ["sign", "text", "world"] (defScope sTrx) := ⟨rfl, rfl, rfl, by decide +kernel, rfl, by decide +kernel, by decide +kernel⟩
theorem has_Trx {f : Addr} {fd : FuncData}  (F : Fun K "truth_of_text" "truth_of_text" sTrx f fd) (g : mg "truth_of_text" = some (.ref f)) (B : Blt mg) (hPsa : Has P w K mg base 1 "path_said" ["folder", "text"] (spPsa)) (hIfo : Has P w K mg base 1 "is_folder" ["files", "path"] (spIfo)) :
    Has P w K mg base 2 "truth_of_text" ["sign", "text", "world"] (spTrx K) := by
  obtain ⟨fPsa, dPsa, gPsa, kPsa, bPsa, GPsa⟩ := hPsa
  obtain ⟨fIfo, dIfo, gIfo, kIfo, bIfo, GIfo⟩ := hIfo
  refine has_of F g (F.binds (ps := ["sign", "text", "world"]) fun _ _ _ _ _ _ us hl => match us, hl with | [_, _, _], _ => rfl) (F.ok scTrx (fun vs H Q E h => ?_) (fun cdv A outer s H vs Q E hr h => ?_))
  · obtain ⟨m, x, v, W, rfl, _⟩ := h
    rfl
  · have hu := hu_of hr
    refine ⟨_, (pss_cons (ps_set (i := 3) scTrx.nd rfl (.inl rfl) (pe_call GPsa hr rfl gPsa kPsa bPsa .nil pass0 (pa_cons (pe_ix ix_tup (pv 2) pe_int (fun _ _ => rfl)) (pa_cons (pv 1) pa_nil))))
        (pss_cons (ps_match (pv 0)
        (pcs_cons (is := []) scTrx.nd pp_lit .nil
          (pss_one (ps_ret (pe_cmpR op_ne (pv 1) pe_str (nomark _))))
        (pcs_cons (is := []) scTrx.nd pp_lit .nil
          (pss_one (ps_ret (pe_cmpR op_eq (pv 1) pe_str (nomark _))))
        (pcs_cons (is := []) scTrx.nd pp_lit .nil
          (pss_one (ps_ret (pe_and (pe_cmp (pc_din hu (pv 3) (pe_ix ix_tup (pv 2) pe_int (fun _ _ => rfl))) rfl) (pe_one (pe_cmpR op_notN (pe_dget hu (pe_ix ix_tup (pv 2) pe_int (fun _ _ => rfl)) (pv 3) (fun _ _ => rfl)) pe_non (nomark _))))))
        (pcs_cons (is := []) scTrx.nd pp_lit .nil
          (pss_one (ps_ret (pe_call GIfo hr rfl gIfo kIfo bIfo .nil pass0 (pa_cons (pe_ix ix_tup (pv 2) pe_int (fun _ _ => rfl)) (pa_cons (pv 3) pa_nil))))) pcs_nil)))))
        (pss_one (ps_ret pe_non)))), ?_⟩
    obtain ⟨m, x, v, W, rfl, hw, G, lx, k⟩ := h
    have fin : ∀ o, oneT W.files W.folder m x = o → ∀ H', Same H H' → Q (vO o) H' := fun o e H' s => by
      rw [← e]
      exact k H' s
    unfold oneT at fin
    obtain ⟨a, pf, pn, pa, pg, gs, rfl, ha, hf, _⟩ := id hw
    refine ⟨_, rfl, a, _, _, _, rfl, rfl, ha, rfl, _, rfl, W.folder, x, rfl, G.fold.1, G.fold.2.1, by omega, fun H1 s1 => ?_⟩
    obtain ha1 := sqT_same s1 ha
    have hf1 := hf.same s1
    have g := hf1.get (.inr (say (says W.folder x)))
    rw [valF] at g
    refine ⟨_, rfl, lit_case (fun e => ?_) fun n1 => lit_case (fun e => ?_) fun n2 => lit_case (fun e => ?_) fun n3 => lit_case (fun e => ?_) fun n4 => ?_⟩
    · refine ⟨_, rfl, rfl, ?_⟩
      rw [dec_str, show (!decide (x = "")) = decide (x ≠ "") from (decide_not (p := x = "")).symm]
      exact fin _ (if_pos e) H1 s1
    · refine ⟨_, rfl, rfl, ?_⟩
      rw [dec_str]
      exact fin _ ((if_neg n1).trans (if_pos e)) H1 s1
    · have fn : ∀ b, filB (lkF W.files (say (says W.folder x))) = b → Q (.bl b) H1 := fun b z => by
        have y := fin _ ((if_neg n1).trans ((if_neg n2).trans (if_pos e))) H1 s1
        rw [z] at y
        exact y
      refine ⟨_, rfl, _, rfl, a, _, _, _, rfl, rfl, ha1, rfl, pf, _, rfl, g, ?_⟩
      cases e2 : lkF W.files (say (says W.folder x)) with
      | none => exact ⟨_, rfl, if_no rfl (fn false (by rw [e2]; rfl))⟩
      | some o =>
        rw [e2] at g
        refine ⟨_, rfl, if_yes rfl ⟨_, rfl, a, _, _, _, rfl, rfl, ha1, rfl, _, rfl, pf, _, rfl, g, rfl, ?_⟩⟩
        cases o with
        | none => exact fn false (by rw [e2]; rfl)
        | some t => exact fn true (by rw [e2]; rfl)
    · refine ⟨_, rfl, a, _, _, _, rfl, rfl, ha1, rfl, _, rfl, pf, W.files, _, rfl, hf1, fun H2 s2 => ?_⟩
      exact fin _ ((if_neg n1).trans ((if_neg n2).trans ((if_neg n3).trans (if_pos e)))) H2 (s1.trans s2)
    · exact fin none ((if_neg n1).trans ((if_neg n2).trans ((if_neg n3).trans (if_neg n4)))) H1 s1
abbrev sTro : Stmt := top 88
abbrev nTro : List Str := ["fields", "world", "text", "sign", "one", "other"]
theorem scTro : FnScope nTro ["fields", "world"] (defScope sTro) := ⟨rfl, rfl, rfl, by decide +kernel, rfl, by decide +kernel, by decide +kernel⟩
theorem has_Tro {f : Addr} {fd : FuncData}  (F : Fun K "truth_of" "truth_of" sTro f fd) (g : mg "truth_of" = some (.ref f)) (B : Blt mg) (hTrx : Has P w K mg base 2 "truth_of_text" ["sign", "text", "world"] (spTrx K)) (hTrw : Has P w K mg base 3 "truth_of_two" ["one", "sign", "other"] (spTrw)) :
    Has P w K mg base 4 "truth_of" ["fields", "world"] (spTro K) := by
  obtain ⟨fTrx, dTrx, gTrx, kTrx, bTrx, GTrx⟩ := hTrx
  obtain ⟨fTrw, dTrw, gTrw, kTrw, bTrw, GTrw⟩ := hTrw
  refine has_of F g (F.binds (ps := ["fields", "world"]) fun _ _ _ _ _ _ us hl => match us, hl with | [_, _], _ => rfl) (F.ok scTro (fun vs H Q E h => ?_) (fun cdv A outer s H vs Q E hr h => ?_))
  · obtain ⟨a, xs, v, W, rfl, _⟩ := h
    rfl
  · refine ⟨_, (pss_cons (ps_match (pv 0)
        (pcs_cons (is := [2]) scTro.nd (pp_seqL rfl (pps_cons pp_cap pps_nil)) (.cons ⟨rfl, .inl rfl, .inr rfl⟩ .nil)
          (pss_one (ps_ret (pe_cmpR op_ne (pv 2) pe_str (nomark _))))
        (pcs_cons (is := [3, 2]) scTro.nd (pp_seqL rfl (pps_cons pp_cap (pps_cons pp_cap pps_nil))) (.cons ⟨rfl, .inl rfl, .inr rfl⟩ (.cons ⟨rfl, .inl rfl, .inr rfl⟩ .nil))
          (pss_one (ps_ret (pe_call GTrx (hr.mono (by decide)) rfl gTrx kTrx bTrx .nil pass0 (pa_cons (pv 3) (pa_cons (pv 2) (pa_cons (pv 1) pa_nil))))))
        (pcs_cons (is := [4, 3, 5]) scTro.nd (pp_seqL rfl (pps_cons pp_cap (pps_cons pp_cap (pps_cons pp_cap pps_nil)))) (.cons ⟨rfl, .inl rfl, .inr rfl⟩ (.cons ⟨rfl, .inl rfl, .inr rfl⟩ (.cons ⟨rfl, .inl rfl, .inr rfl⟩ .nil)))
          (pss_one (ps_ret (pe_call GTrw hr rfl gTrw kTrw bTrw .nil pass0 (pa_cons (pv 4) (pa_cons (pv 3) (pa_cons (pv 5) pa_nil)))))) pcs_nil))))
        (pss_one (ps_ret pe_non))), ?_⟩
    obtain ⟨a, xs, v, W, rfl, hx, hw, G, k⟩ := h
    obtain ⟨hl, _, lm⟩ := hx
    refine ⟨_, rfl, ?_⟩
    match xs, hl, lm, k with
    | [], hl, lm, k => exact sl_miss hl (by decide) (sl_miss hl (by decide) (sl_miss hl (by decide) (k H (Same.refl H))))
    | [x], hl, lm, k =>
      refine ⟨a, _, rfl, hl, fun z => absurd rfl z, fun _ => ⟨_, rfl, rfl, ?_⟩⟩
      rw [dec_str, show (!decide (x = "")) = decide (x ≠ "") from (decide_not (p := x = "")).symm]
      exact k H (Same.refl H)
    | [m, x], hl, lm, k =>
      exact sl_miss hl (by simp) ⟨a, _, rfl, hl, fun z => absurd rfl z, fun _ => ⟨_, rfl, _, rfl, _, rfl, m, x, v, W, rfl, hw, G, lm x (.tail _ (.head _)), fun H1 s1 => k H1 s1⟩⟩
    | [x, m, y], hl, lm, k =>
      exact sl_miss hl (by simp) (sl_miss hl (by simp) ⟨a, _, rfl, hl, fun z => absurd rfl z, fun _ => ⟨_, rfl, _, rfl, _, rfl, x, m, y, rfl, lm x (.head _), lm y (.tail _ (.tail _ (.head _))), fun H1 s1 => k H1 s1⟩⟩)
    | x :: m :: y :: z :: r, hl, lm, k => exact sl_miss hl (by simp) (sl_miss hl (by simp) (sl_miss hl (by simp) (k H (Same.refl H))))
abbrev sTss : Stmt := top 87
abbrev nTss : List Str := ["fields", "world", "at", "truth"]
theorem scTss : FnScope nTss ["fields", "world"] (defScope sTss) := ⟨rfl, rfl, rfl, by decide +kernel, rfl, by decide +kernel, by decide +kernel⟩
theorem has_Tss {f : Addr} {fd : FuncData}  (F : Fun K "test_status" "test_status" sTss f fd) (g : mg "test_status" = some (.ref f)) (B : Blt mg) (Wx : WrX mg) (hTro : Has P w K mg base 4 "truth_of" ["fields", "world"] (spTro K)) :
    Has P w K mg base 5 "test_status" ["fields", "world"] (spTss K) := by
  obtain ⟨fTro, dTro, gTro, kTro, bTro, GTro⟩ := hTro
  refine has_of F g (F.binds (ps := ["fields", "world"]) fun _ _ _ _ _ _ us hl => match us, hl with | [_, _], _ => rfl) (F.ok scTss (fun vs H Q E h => ?_) (fun cdv A outer s H vs Q E hr h => ?_))
  · obtain ⟨a, xs, v, W, rfl, _⟩ := h
    rfl
  · refine ⟨_, (pss_cons (ps_set (i := 2) scTss.nd rfl (.inl rfl) pe_int)
        (pss_cons (ps_while PassesOwn.never (PW.pt (pw_and (pt_cmpR op_lt (pe_op op_add (pv 2) pe_int) (pe_callB call_len_seq (by rfl) B.len PySem.boot_len (pa_cons (pv 0) pa_nil)) (nomark _)) (pw_and1 (pt_cmpR op_eq (pe_ix ix_list (pv 0) (pv 2) (fun _ _ => rfl)) pe_str (nomark _))))) (pss_one (ps_aug (i := 2) scTss.nd rfl (.inl rfl) pe_int ip_add)))
        (pss_cons (ps_set (i := 3) scTss.nd rfl (.inl rfl) (pe_call GTro hr rfl gTro kTro bTro .nil pass0 (pa_cons (pe_slice sl_list (pv 0) (po_some (pv 2)) po_none) (pa_cons (pv 1) pa_nil))))
        (pss_cons (ps_if (pt_cmpR op_isN (pv 3) pe_non (nomark _)) (pss_one (ps_ret (glob_int (by rfl) Wx.wr))) pss_nil)
        (pss_one (ps_ret (pe_ifExp (pt_cmpR op_eq (pv 3) (pe_cmpR op_eq (pe_op op_and (pv 2) pe_int) pe_int (nomark _)) (nomark _)) pe_int pe_int))))))), ?_⟩
    obtain ⟨a, xs, v, W, rfl, hx, hw, G, k⟩ := h
    obtain ⟨hl, ln, lm⟩ := id hx
    refine while_n (fun m σ H' => ∃ i : Nat, σ = [some (.ref a), some v, some (.int (i : Nat)), none] ∧ H' = H ∧ bangs xs = i + bangs (xs.drop i) ∧ m = xs.length - i) xs.length ⟨0, rfl, rfl, by rw [List.drop_zero, Nat.zero_add], rfl⟩ (fun m σ H' e => ?_)
    obtain ⟨i, rfl, rfl, eb, rfl⟩ := e
    refine ⟨_, rfl, _, _, rfl, rfl, _, rfl, a, _, rfl, .inl hl, _, _, rfl, rfl, _, rfl, if_by (fun e => ?_) (fun e => ?_)⟩
    · have e : (i : Int) + 1 < ((xs.map V.str).length : Nat) := of_decide_eq_true e
      rw [List.length_map] at e
      have h1 : i + 1 < xs.length := by omega
      have e1 : xs[i]? = some xs[i] := List.getElem?_eq_getElem (by omega)
      refine ⟨_, rfl, _, rfl, a, _, _, .str xs[i], rfl, rfl, hl, atI_nat (by rw [List.getElem?_map, e1]; rfl), rfl, _, rfl, ?_⟩
      rw [dec_str]
      refine if_by (fun e2 => ?_) (fun e2 => ?_)
      · have e2 := of_decide_eq_true e2
        have eb2 := bangs_step h1 (e1.trans (congrArg some e2))
        refine ⟨_, fun σ' H' z => z, _, rfl, _, _, rfl, rfl, xs.length - (i + 1), by omega, i + 1, ?_, rfl, by omega, rfl⟩
        rfl
      · have ze := bangs_other h1 e1 (of_decide_eq_false e2)
        have zi : bangs xs = i := by omega
        refine ⟨_, rfl, _, rfl, _, rfl, a, _, rfl, hl, fun p np => ⟨_, rfl, p, xs.drop i, v, W, rfl, ?_, hw.same (same_upd np), G, fun H1 s1 => ?_⟩⟩
        · rw [cutV_from, ← List.map_drop]
          exact ⟨SqL.of upd_same, by rw [List.length_drop]; omega, fun x m => lm x (List.mem_of_mem_drop m)⟩
        · have fin : ∀ n : Nat, stT i (truT W.files W.folder (xs.drop i)) = n → Q (.int (n : Nat)) H1 := fun n z => by
            have y := k H1 ((same_upd np).trans s1)
            unfold dueT at y
            rw [zi, z] at y
            exact y
          refine ⟨_, rfl, rfl, _, rfl, ?_⟩
          cases et : truT W.files W.folder (xs.drop i) with
          | none =>
            rw [et] at fin
            exact if_yes rfl (fin 2 rfl)
          | some b =>
            rw [et] at fin
            refine if_no rfl ⟨_, rfl, _, rfl, _, _, rfl, rfl, rfl, rfl, _, rfl, ?_⟩
            have e1 : decide (V.int (Builtin.bitAnd (i : Int) 1) = V.int 0) = decide (i % 2 = 0) := by
              rw [PyProof.Rows.bitAnd_m1]
              exact decide_eq_decide.mpr ⟨fun z => by have := V.int.inj z; omega, fun z => congrArg V.int (by omega)⟩
            refine if_by (fun e3 => ?_) (fun e3 => ?_)
            · have e3 : V.bl b = V.bl (decide (V.int (Builtin.bitAnd (i : Int) 1) = V.int 0)) := of_decide_eq_true e3
              rw [e1] at e3
              exact fin 0 (if_pos (V.bl.inj e3))
            · have e3 : ¬ V.bl b = V.bl (decide (V.int (Builtin.bitAnd (i : Int) 1) = V.int 0)) := of_decide_eq_false e3
              rw [e1] at e3
              exact fin 1 (if_neg fun y => e3 (congrArg V.bl y))
    · have e : ¬ (i : Int) + 1 < ((xs.map V.str).length : Nat) := of_decide_eq_false e
      rw [List.length_map] at e
      have ze := bangs_end (xs := xs) (i := i) (by omega)
      have zi : bangs xs = i := by omega
      refine if_no rfl ?_
      refine ⟨_, rfl, _, rfl, _, rfl, a, _, rfl, hl, fun p np => ⟨_, rfl, p, xs.drop i, v, W, rfl, ?_, hw.same (same_upd np), G, fun H1 s1 => ?_⟩⟩
      · rw [cutV_from, ← List.map_drop]
        exact ⟨SqL.of upd_same, by rw [List.length_drop]; omega, fun x m => lm x (List.mem_of_mem_drop m)⟩
      · have fin : ∀ n : Nat, stT i (truT W.files W.folder (xs.drop i)) = n → Q (.int (n : Nat)) H1 := fun n z => by
          have y := k H1 ((same_upd np).trans s1)
          unfold dueT at y
          rw [zi, z] at y
          exact y
        refine ⟨_, rfl, rfl, _, rfl, ?_⟩
        cases et : truT W.files W.folder (xs.drop i) with
        | none =>
          rw [et] at fin
          exact if_yes rfl (fin 2 rfl)
        | some b =>
          rw [et] at fin
          refine if_no rfl ⟨_, rfl, _, rfl, _, _, rfl, rfl, rfl, rfl, _, rfl, ?_⟩
          have e1 : decide (V.int (Builtin.bitAnd (i : Int) 1) = V.int 0) = decide (i % 2 = 0) := by
            rw [PyProof.Rows.bitAnd_m1]
            exact decide_eq_decide.mpr ⟨fun z => by have := V.int.inj z; omega, fun z => congrArg V.int (by omega)⟩
          refine if_by (fun e3 => ?_) (fun e3 => ?_)
          · have e3 : V.bl b = V.bl (decide (V.int (Builtin.bitAnd (i : Int) 1) = V.int 0)) := of_decide_eq_true e3
            rw [e1] at e3
            exact fin 0 (if_pos (V.bl.inj e3))
          · have e3 : ¬ V.bl b = V.bl (decide (V.int (Builtin.bitAnd (i : Int) 1) = V.int 0)) := of_decide_eq_false e3
            rw [e1] at e3
            exact fin 1 (if_neg fun y => e3 (congrArg V.bl y))
end
end Qb
end PySem
namespace PySem
namespace Qb
open PySem.W PySem.Calls PyProof.Rows L2
def revG {α : Type} : List α → List α → List α
  | [], ws => ws.reverse
  | _, _ => []
theorem vals_rev {zs : List V} {ws : List Value} (r : Vals zs ws) : Vals zs.reverse ws.reverse := by
  induction r with
  | nil => exact .nil
  | cons h t ih =>
    rw [List.reverse_cons, List.reverse_cons]
    exact ih.append (.cons h .nil)
theorem revG_rel {vs zs : List V} {us ws : List Value} (r : Vals vs us) (rz : Vals zs ws) : Vals (revG vs zs) (revG us ws) := by
  cases r with
  | nil => exact vals_rev rz
  | cons _ _ => exact .nil
/-- a def called by the names of its arguments, the last one first -/
def HasR (P : Program) (w : World) (K : Frag) (mg : Str → Option Value) (base : Heap) (k : Nat) (x : Str) (ps : List Str) (sp : Sp) : Prop :=
  ∃ (f : Addr) (fd : FuncData), mg x = some (.ref f) ∧ PySem.W.keepIn K (.ref f) = true ∧ Binds K fd ps [] ∧ KBinds K fd ps ps.reverse revG revG ∧ FnOk P w K mg base CX0 k f fd ps sp
def spLif : Sp := spIfo
def spLiw : Sp := spIi
def spLpt : Sp := spPsa
def spLnt : Sp := fun vs H Q _ => ∃ (x m y : Str), vs = [.str x, .str m, .str y] ∧ x.length ≤ 80 ∧ y.length ≤ 80 ∧ ∀ H', Same H H' → Q (vO (numT x m y)) H'
theorem dash_eq : ("-" : Str) = ⟨#[45]⟩ := by decide +kernel
theorem starts_neg (x : Str) : Txt.startswith x "-" = neg (cs x) := by
  rw [dash_eq]
  obtain ⟨⟨l⟩⟩ := x
  cases l with
  | nil => rfl
  | cons c r =>
    unfold Txt.startswith Builtin.Str.subAt neg
    simp [Str.length, cs]
section
variable {P : Program} {w : World} {K : Frag} {mg : Str → Option Value} {base : Heap}
abbrev sTst : Stmt := top 86
abbrev nTst : List Str := ["fields", "world"]
theorem scTst : FnScope nTst ["fields", "world"] (defScope sTst) := ⟨rfl, rfl, rfl, by decide +kernel, rfl, by decide +kernel, by decide +kernel⟩
theorem ok_Tst {f : Addr} {fd : FuncData}  (F : Fun K "tested" "tested" sTst f fd) (g : mg "tested" = some (.ref f)) (B : Blt mg) (hCkw : Has P w K mg base 51 "check_world" ["world"] (spCkw K)) (hTss : Has P w K mg base 5 "test_status" ["fields", "world"] (spTss K)) :
    FnOk P w K mg base CX0 52 f fd ["fields", "world"] (spTss K) := by
  obtain ⟨fCkw, dCkw, gCkw, kCkw, bCkw, GCkw⟩ := hCkw
  obtain ⟨fTss, dTss, gTss, kTss, bTss, GTss⟩ := hTss
  refine (F.ok scTst (fun vs H Q E h => ?_) (fun cdv A outer s H vs Q E hr h => ?_))
  · obtain ⟨a, xs, v, W, rfl, _⟩ := h
    rfl
  · refine ⟨_, (pss_cons (ps_expr (pe_call GCkw hr rfl gCkw kCkw bCkw .nil pass0 (pa_cons (pv 1) pa_nil)))
        (pss_one (ps_ret (pe_call GTss (hr.mono (by decide)) rfl gTss kTss bTss .nil pass0 (pa_cons (pv 0) (pa_cons (pv 1) pa_nil)))))), ?_⟩
    obtain ⟨a, xs, v, W, rfl, hx, hw, G, k⟩ := h
    exact ⟨_, rfl, v, W, rfl, hw, G, fun H1 s1 => ⟨_, rfl, _, rfl, a, xs, v, W, rfl, hx.same s1, hw.same s1, G, fun H2 s2 => k H2 (s1.trans s2)⟩⟩
abbrev sLif : Stmt := top 109
abbrev nLif : List Str := ["_law_files_here", "_law_path_here"]
theorem scLif : FnScope nLif ["_law_files_here", "_law_path_here"] (defScope sLif) := ⟨rfl, rfl, rfl, by decide +kernel, rfl, by decide +kernel, by decide +kernel⟩
theorem has_Lif {f : Addr} {fd : FuncData}  (F : Fun K "_law_is_folder" "_law_is_folder" sLif f fd) (g : mg "_law_is_folder" = some (.ref f)) (B : Blt mg)  :
    Has P w K mg base 1 "_law_is_folder" ["_law_files_here", "_law_path_here"] (spIfo) := by
  refine has_of F g (F.binds (ps := ["_law_files_here", "_law_path_here"]) fun _ _ _ _ _ _ us hl => match us, hl with | [_, _], _ => rfl) (F.ok scLif (fun vs H Q E h => ?_) (fun cdv A outer s H vs Q E hr h => ?_))
  · obtain ⟨a, fs, x, rfl, _⟩ := h
    rfl
  · have hu := hu_of hr
    refine ⟨_, (pss_one (ps_ret (pe_or (pe_cmpR op_eq (pv 1) pe_str (nomark _)) (pe_one (pe_and (pe_cmp (pc_din hu (pv 1) (pv 0)) rfl) (pe_one (pe_cmpR op_isN (pe_dget hu (pv 0) (pv 1) (fun _ _ => rfl)) pe_non (nomark _)))))))), ?_⟩
    obtain ⟨a, fs, x, rfl, hd, k⟩ := h
    have g := hd.get (.inr x)
    rw [valF] at g
    refine ⟨_, rfl, rfl, _, rfl, ?_⟩
    rw [dec_str]
    have fin : ∀ b, isF fs x = b → Q (.bl b) H := fun b e => by
      rw [← e]
      exact k H (Same.refl H)
    by_cases e1 : x = "/"
    · refine if_yes (decide_eq_true e1) (fin true ?_)
      unfold isF
      rw [decide_eq_true e1]
      rfl
    · refine if_no (decide_eq_false e1) ⟨_, rfl, _, rfl, a, _, rfl, g, ?_⟩
      have e0 : isF fs x = (lkF fs x == some none) := by
        unfold isF
        rw [decide_eq_false e1]
        rfl
      cases e2 : lkF fs x with
      | none =>
        refine ⟨_, rfl, if_no rfl (fin false ?_)⟩
        rw [e0, e2]
        rfl
      | some o =>
        rw [e2] at g
        refine ⟨_, rfl, if_yes rfl ⟨_, rfl, _, rfl, a, _, rfl, g, rfl, ?_⟩⟩
        cases o with
        | none => exact fin true (by rw [e0, e2]; rfl)
        | some t => exact fin false (by rw [e0, e2]; rfl)
abbrev sLiw : Stmt := top 115
abbrev nLiw : List Str := ["_law_line", "_law_rest", "_law_sign"]
theorem scLiw : FnScope nLiw ["_law_line"] (defScope sLiw) := ⟨rfl, rfl, rfl, by decide +kernel, rfl, by decide +kernel, by decide +kernel⟩
theorem has_Liw {f : Addr} {fd : FuncData}  (F : Fun K "_law_is_whole" "_law_is_whole" sLiw f fd) (g : mg "_law_is_whole" = some (.ref f)) (B : Blt mg)  :
    Has P w K mg base 1 "_law_is_whole" ["_law_line"] (spLiw) := by
  refine has_of F g (F.binds (ps := ["_law_line"]) fun _ _ _ _ _ _ us hl => match us, hl with | [_], _ => rfl) (F.ok scLiw (fun vs H Q E h => ?_) (fun cdv A outer s H vs Q E hr h => ?_))
  · obtain ⟨x, rfl, _⟩ := h
    rfl
  · refine ⟨_, (pss_cons (ps_set (i := 1) scLiw.nd rfl (.inl rfl) (pv 0))
        (pss_cons (ps_weak (ps_if (pt_val (pe_bm PySem.F.plainAttrs_str PySem.F.slot_str_startswith PySem.F.type_str_startswith mt_startswith (pv 0) (pa_cons pe_str pa_nil))) (pss_one (ps_set (i := 1) scLiw.nd rfl (.inl rfl) (pe_slice sl_str (pv 0) (po_some pe_int) po_none))) pss_nil))
        (pss_cons (ps_if (PW.pt (pw_or (pt_cmpR op_eq (pv 1) pe_str (nomark _)) (pw_or (pt_cmpR op_eq (pv 0) pe_str (nomark _)) (pw_or1 (pt_not (pt_val (pe_callB (cr_all rfl) (by rfl) B.all (by decide +kernel) (pa_cons (pe_lc (own := [("_law_sign", 2)]) (g := gName 2) (tt := tYes) rfl scLiw.nd (pi_str (pv 1)) (blkOk_by (N := nLiw) (sc := defScope sLiw) (by decide +kernel)) (fun _ _ _ _ _ => pg_name (i := 2) scLiw.nd rfl (.inl rfl)) (fun _ _ _ _ _ => pts_nil) (fun _ _ _ _ _ => (pe_cmpR op_in_sign (pv 2) pe_str (by rfl)))) pa_nil)))))))) (pss_one (ps_ret pe_bl)) pss_nil)
        (pss_one (ps_ret (pe_or (pe_cmpR op_eq (pe_callB call_len (by rfl) B.len PySem.boot_len (pa_cons (pv 1) pa_nil)) pe_int (nomark _)) (pe_one (pe_cmpR op_ne (pe_ix ix_str (pv 1) pe_int (fun _ _ => rfl)) pe_str (nomark _))))))))), ?_⟩
    obtain ⟨x, rfl, hx, k⟩ := h
    have hz : x.length ≤ sizeLine := line_small (by omega)
    rw [← whole_int] at k
    refine ⟨_, rfl, fun σ' H' => H' = H ∧ ∃ y : Str, σ' = [some (.str x), some (.str y), none] ∧ cs y = figs (cs x), ?_, ?_⟩
    · rintro σ' H' ⟨rfl, y, rfl, ey⟩
      have yl : y.length ≤ 1000 := by
        rw [len_cs, ey]
        have := len_cs x
        rcases figs_eq (cs x) with ⟨_, b⟩ | ⟨_, b⟩
        · have := congrArg List.length b
          rw [List.length_cons] at this
          omega
        · rw [b]; omega
      have done : ∀ b H1, wholeB (cs x) = b → Same H' H1 → Q (.bl b) H1 := fun b H1 e s => by
        have z := k H1 s
        rw [e] at z
        exact z
      refine ⟨_, rfl, rfl, _, rfl, ?_⟩
      by_cases h0 : y = ("" : Str)
      · refine if_yes (by rw [h0]; decide +kernel) (if_yes rfl (done false H' ?_ (Same.refl _)))
        have e0 : figs (cs x) = [] := by rw [← ey, h0]; decide +kernel
        unfold wholeB figB
        rw [e0]
        rfl
      · refine if_no (decide_eq_false fun z => h0 (V.str.inj z)) ⟨_, rfl, rfl, _, rfl, ?_⟩
        have q0 : decide (V.str x = V.str "-0") = decide (cs x = [45, 48]) := decide_eq_decide.mpr ⟨fun z => by rw [V.str.inj z]; decide +kernel, fun z => by rw [← st_cs x, z]; decide +kernel⟩
        rw [q0]
        cases e1 : decide (cs x = [45, 48]) with
        | true =>
          refine if_yes rfl (if_yes rfl (done false H' ?_ (Same.refl _)))
          unfold wholeB
          rw [e1]
          show (_ && false && _) = false
          rw [Bool.and_false, Bool.false_and]
        | false =>
          obtain ⟨c, r, hl⟩ := head_of (l := cs y) fun z => h0 (cs_nil z)
          refine if_no rfl ⟨_, rfl, y, rfl, fun D hD => lc_it walk_str (fun i H1 => H1 = L2.upd H' D (.lst (((cs y).take i).map fun d => V.bl (decide (d ∈ cs digS))))) (by simp) (fun _ _ _ _ => trivial) (fun i v H1 H2 hi e yy => ?_) (fun H1 e => ?_)⟩
          · obtain ⟨rfl, d, hd, rfl⟩ := yy
            subst e
            have hd' : (cs y)[i]? = some d := by simpa using hd
            refine ⟨rfl, _, rfl, d, digS, rfl, rfl, _, upd_same, ?_, ?_⟩
            · rw [List.length_map, List.length_take]
              have := len_cs y
              rw [sizeLine_eq]
              omega
            · rw [upd_upd, take_snoc hd', List.map_append]
              rfl
          · subst e
            have e2 : (cs y).take y.cps.size = cs y := List.take_of_length_le (by simp)
            rw [e2]
            refine ⟨D, (cs y).map fun d => decide (d ∈ cs digS), rfl, SqL.of (by rw [upd_same, List.map_map]; rfl), _, rfl, ?_⟩
            have ea : ((cs y).map fun d => decide (d ∈ cs digS)).all id = (figs (cs x)).all fun d => decide (d ∈ digC) := by
              rw [List.all_map, ey, cs_dig]
              rfl
            have ne : (figs (cs x)).isEmpty = false := by rw [← ey, hl]; rfl
            rw [ea]
            cases eb : (figs (cs x)).all fun d => decide (d ∈ digC) with
            | false =>
              refine if_yes rfl (done false _ ?_ (same_upd hD))
              unfold wholeB figB
              rw [eb, Bool.and_false, Bool.false_and, Bool.false_and]
            | true =>
              have sD : Same H' (L2.upd H' D (.lst ((cs y).map fun d => V.bl (decide (d ∈ cs digS))))) := same_upd hD
              have fb : figB (cs x) = true := by
                unfold figB
                rw [ne, eb]
                rfl
              have fin : ∀ H1, Same H' H1 → Q (.bl (decide ((figs (cs x)).length = 1) || !((figs (cs x)).head? == some 48))) H1 := fun H1 s => by
                have z := k H1 s
                unfold wholeB at z
                rw [fb, e1] at z
                exact z
              refine if_no rfl ⟨_, rfl, _, _, rfl, ⟨line_small (by omega), rfl⟩, rfl, _, rfl, ?_⟩
              have q1 : decide (V.int ((y.length : Nat) : Int) = V.int 1) = decide ((figs (cs x)).length = 1) := by
                rw [← ey, ← len_cs]
                exact decide_eq_decide.mpr ⟨fun z => by have := V.int.inj z; omega, fun z => congrArg V.int (by omega)⟩
              rw [q1]
              cases e48 : decide ((figs (cs x)).length = 1) with
              | true =>
                have z := fin _ sD
                rw [e48] at z
                exact if_yes rfl z
              | false =>
                refine if_no rfl ⟨_, rfl, y, 0, c, rfl, rfl, line_small (by omega), atI_nat (j := 0) (congrArg (fun l : L => l[0]?) hl), rfl, ?_⟩
                have z := fin _ sD
                rw [e48, ← ey, show (cs y).head? = some c by rw [hl]; rfl] at z
                rw [one_is c 48 "0" (by decide +kernel)]
                exact z
    · refine ⟨_, rfl, rfl, x, "-", rfl, rfl, _, rfl, ?_⟩
      rw [starts_neg]
      refine if_by (fun e => ⟨_, rfl, _, rfl, x, rfl, hz, ⟨rfl, _, rfl, figs_neg e⟩⟩) (fun e => ⟨rfl, _, rfl, ?_⟩)
      rcases figs_eq (cs x) with ⟨a, b⟩ | ⟨a, b⟩
      · rw [e] at a; cases a
      · exact b.symm
end
end Qb
end PySem
namespace PySem
namespace Qb
open PySem.W PySem.Calls PyProof.Rows L2
def sgs : List Str := ["-eq", "-ne", "-lt", "-le", "-gt", "-ge"]
theorem sgs_nd : sgs.Nodup := by decide +kernel
def sgL (g : Int) : List Bool := [decide (g = 0), decide (g ≠ 0), decide (g < 0), decide (g ≤ 0), decide (0 < g), decide (0 ≤ g)]
theorem sgT_at (g : Int) {m : Str} {j : Nat} (h : sgs[j]? = some m) : sgT m g = (sgL g)[j]? := by
  match j, h with
  | 0, h => cases h; rfl
  | 1, h => cases h; rfl
  | 2, h => cases h; rfl
  | 3, h => cases h; rfl
  | 4, h => cases h; rfl
  | 5, h => cases h; rfl
  | j + 6, h => cases h
theorem sgT_none (g : Int) {m : Str} (h : m ∉ sgs) : sgT m g = none := by
  unfold sgT
  rw [if_neg fun e => h (by rw [e]; decide +kernel), if_neg fun e => h (by rw [e]; decide +kernel), if_neg fun e => h (by rw [e]; decide +kernel), if_neg fun e => h (by rw [e]; decide +kernel), if_neg fun e => h (by rw [e]; decide +kernel), if_neg fun e => h (by rw [e]; decide +kernel)]
theorem eqV_str (x y : Str) : eqV (.str x) (.str y) = (x == y) := rfl
theorem eqV_self (x : Str) : eqV (.str x) (.str x) = true := by rw [eqV_str]; exact beq_self_eq_true x
theorem idx_first {ws : List Str} (nd : ws.Nodup) {j : Nat} {x : Str} (h : ws[j]? = some x) : ∀ (n : Nat) (z : V), n < j → (ws.map V.str)[n]? = some z → eqV z (.str x) = false := fun n z hn hz => by
  obtain ⟨y, hy, rfl⟩ := str_at hz
  rw [eqV_str]
  refine beq_eq_false_iff_ne.mpr fun e => ?_
  subst e
  obtain ⟨l1, _⟩ := List.getElem?_eq_some_iff.mp hy
  have := (List.getElem?_inj l1 nd).mp (hy.trans h.symm)
  omega
section
variable {P : Program} {w : World} {K : Frag} {mg : Str → Option Value} {base : Heap}
abbrev sLpt : Stmt := top 116
abbrev nLpt : List Str := ["_law_folder", "_law_line", "_law_parts", "_law_kept", "_law_part_here"]
theorem scLpt : FnScope nLpt ["_law_folder", "_law_line"] (defScope sLpt) := ⟨rfl, rfl, rfl, by decide +kernel, rfl, by decide +kernel, by decide +kernel⟩
theorem has_Lpt {f : Addr} {fd : FuncData}  (F : Fun K "_law_path" "_law_path" sLpt f fd) (g : mg "_law_path" = some (.ref f)) (B : Blt mg)  :
    Has P w K mg base 1 "_law_path" ["_law_folder", "_law_line"] (spLpt) := by
  refine has_of F g (F.binds (ps := ["_law_folder", "_law_line"]) fun _ _ _ _ _ _ us hl => match us, hl with | [_, _], _ => rfl) (F.ok scLpt (fun vs H Q E h => ?_) (fun cdv A outer s H vs Q E hr h => ?_))
  · obtain ⟨ps, x, rfl, _⟩ := h
    rfl
  · refine ⟨_, (pss_cons (ps_set (i := 2) scLpt.nd rfl (.inl rfl) (pe_bm PySem.F.plainAttrs_str PySem.F.slot_str_split PySem.F.type_str_split mt_split (pv 1) (pa_cons pe_str pa_nil)))
        (pss_cons (ps_weak (ps_if (pt_not (pt_val (pe_bm PySem.F.plainAttrs_str PySem.F.slot_str_startswith PySem.F.type_str_startswith mt_startswith (pv 1) (pa_cons pe_str pa_nil)))) (pss_one (ps_set (i := 2) scLpt.nd rfl (.inl rfl) (pe_op op_cat (pe_bm PySem.F.plainAttrs_str PySem.F.slot_str_split PySem.F.type_str_split mt_split (pv 0) (pa_cons pe_str pa_nil)) (pv 2)))) pss_nil))
        (pss_cons (ps_set (i := 3) scLpt.nd rfl (.inl rfl) (pe_lst pa_nil))
        (pss_cons (ps_for PassesOwn.never rfl (pi_list (pv 2)) (pg_name (i := 4) scLpt.nd rfl (.inl rfl))
          (pss_one (ps_if (pt_cmpR op_eq (pv 4) pe_str (nomark _)) (pss_one (ps_set (i := 3) scLpt.nd rfl (.inl rfl) (pe_slice sl_list (pv 3) po_none (po_some (pe_un un_neg pe_int))))) (pss_one (ps_if (pt_cmpR op_notIn_seq (pv 4) (pe_tup (pa_cons pe_str (pa_cons pe_str pa_nil))) (by rfl)) (pss_one (ps_set (i := 3) scLpt.nd rfl (.inl rfl) (pe_op op_cat (pv 3) (pe_lst (pa_cons (pv 4) pa_nil))))) pss_nil)))))
        (pss_one (ps_ret (pe_op op_add_str pe_str (pe_join pe_str (pv 3))))))))), ?_⟩
    obtain ⟨ps, x, rfl, gp, l1, l2, k⟩ := h
    obtain ⟨y1, y2⟩ := sp_len x
    obtain ⟨z1, z2⟩ := sp_len (say ps)
    generalize hL : (if Txt.startswith x "/" = true then sp x else sp (say ps) ++ sp x) = L
    have ll : L.length ≤ 3700 := by
      rw [← hL]
      split
      · omega
      · rw [List.length_append]
        omega
    have lm : ∀ p ∈ L, p.length ≤ 1800 := fun p m => by
      rw [← hL] at m
      split at m
      · have := y2 p m
        omega
      · rcases List.mem_append.mp m with m | m
        · have := z2 p m
          omega
        · have := y2 p m
          omega
    have eB : says ps x = nrm [] L := by rw [says_bck gp, hL, bck_top]
    refine ⟨_, rfl, rfl, x, "/", rfl, rfl, by decide +kernel, by rw [sizeLine_eq]; omega, fun q nq => ?_⟩
    have sq := same_upd (o := .lst ((Txt.split x "/").map V.str)) nq
    have hq : (L2.upd H q (.lst ((Txt.split x "/").map V.str))) q = some (.lst ((sp x).map V.str)) := upd_same
    generalize L2.upd H q (.lst ((Txt.split x "/").map V.str)) = H1 at sq hq ⊢
    refine ⟨fun σ' H' => ∃ r, σ' = [some (.str (say ps)), some (.str x), some (.ref r), none, none] ∧ Same H H' ∧ H' r = some (.lst (L.map V.str)), fun σ' H' h => ?_, ?_⟩
    · obtain ⟨r, rfl, s2, hr2⟩ := h
      refine ⟨(by decide : 0 ≤ sizeLine), fun p np => ?_⟩
      have s3 := s2.trans (same_upd (o := .lst []) np)
      have hr3 := (same_upd (o := .lst []) np) _ _ hr2
      have hp3 : (L2.upd H' p (.lst [])) p = some (.lst ((nrm [] (L.take 0)).map V.str)) := upd_same
      generalize L2.upd H' p (.lst []) = H3 at s3 hr3 hp3 ⊢
      have lx : (L.map V.str).length = L.length := List.length_map ..
      refine ⟨_, rfl, r, rfl, ⟨_, SqL.of hr3⟩, for_it (walk_list (K := K) (a := r) (xs := L.map V.str)) (fun i σ H' => ∃ t v, σ = [some (.str (say ps)), some (.str x), some (.ref r), some (.ref t), v] ∧ Same H3 H' ∧ H' t = some (.lst ((nrm [] (L.take i)).map V.str)))
        ⟨p, none, rfl, Same.refl _, hp3⟩ (fun i σ H' _ e => ?_) (fun i y σ H' H2 hi e yy => ?_) (fun σ H' e => ?_)⟩
      · obtain ⟨_, _, _, s, _⟩ := e
        exact s.seq (SqL.of hr3)
      · obtain ⟨t, v, rfl, s4, ht⟩ := e
        obtain ⟨rfl, hy⟩ := yy
        obtain ⟨y, hLy, rfl⟩ := str_at hy
        obtain ⟨n1, n2⟩ := nrm_sub (L.take i) []
        have lt := List.length_take_le' i L
        have n1' : (nrm [] (L.take i)).length ≤ 3700 := by
          have : ([] : List Str).length = 0 := rfl
          omega
        have nxt : nrm [] (L.take (i + 1)) = stp (nrm [] (L.take i)) y := by
          rw [take_snoc hLy, nrm_app]
          rfl
        refine ⟨_, rfl, rfl, _, rfl, ?_⟩
        rw [dec_str, nxt]
        by_cases e1 : y = ".."
        · refine if_yes (decide_eq_true e1) ⟨_, rfl, _, rfl, _, rfl, t, _, rfl, SqL.of ht, fun p2 np2 => ?_⟩
          refine ⟨p2, _, rfl, s4.trans (same_upd np2), ?_⟩
          rw [upd_same]
          have e3 : stp (nrm [] (L.take i)) y = (nrm [] (L.take i)).dropLast := if_pos e1
          have e4 : cutV ((nrm [] (L.take i)).map V.str) none (some (-1)) = ((nrm [] (L.take i)).dropLast).map V.str := by
            rw [cutV_last, List.map_dropLast]
          rw [e3, ← e4]
        · refine if_no (decide_eq_false e1) ⟨_, rfl, (by decide : 2 ≤ sizeLine), fun T nT => ?_⟩
          have sT := same_upd (o := .tup [.str "", .str "."]) nT
          have htT := sT _ _ ht
          refine ⟨T, _, rfl, .inr (SqT.of upd_same), rfl, rfl, _, rfl, ?_⟩
          have e2 : inV (.str y) [.str "", .str "."] = decide (y = "" ∨ y = ".") := by
            show inV (.str y) ((["", "."] : List Str).map V.str) = _
            rw [inV_iff]
            simp
          rw [e2]
          have s5 := s4.trans sT
          generalize L2.upd H2 T (.tup [.str "", .str "."]) = H5 at htT s5 ⊢
          by_cases e3 : y = "" ∨ y = "."
          · have e4 : stp (nrm [] (L.take i)) y = nrm [] (L.take i) := (if_neg e1).trans (if_pos e3)
            rw [e4]
            exact if_no (by rw [decide_eq_true e3]; rfl) ⟨t, _, rfl, s5, htT⟩
          · have e4 : stp (nrm [] (L.take i)) y = nrm [] (L.take i) ++ [y] := (if_neg e1).trans (if_neg e3)
            rw [e4]
            refine if_yes (by rw [decide_eq_false e3]; rfl) ⟨_, rfl, _, rfl, (by decide : 1 ≤ sizeLine), fun u nu => ?_⟩
            have su := same_upd (o := .lst [.str y]) nu
            refine ⟨t, u, _, _, rfl, rfl, su _ _ htT, upd_same, ?_, fun z nz => ?_⟩
            · rw [List.length_map, sizeLine_eq]
              show _ + 1 ≤ _
              omega
            · refine ⟨z, some (.str y), rfl, (s5.trans su).trans (same_upd nz), ?_⟩
              rw [upd_same, List.map_append]
              rfl
      · obtain ⟨t, v, rfl, s4, ht⟩ := e
        rw [lx, List.take_length] at ht
        obtain ⟨u1, u2⟩ := nrm_sub L []
        have m1 : (nrm [] L).length ≤ 3700 := by
          have : ([] : List Str).length = 0 := rfl
          omega
        have m2 : ∀ q ∈ nrm [] L, q.length ≤ 1800 := fun q m => by
          rcases u2 q m with m | m
          · cases m
          · exact lm q m
        have lj := jn_le m1 m2
        refine ⟨⟨_, rfl⟩, _, rfl, "/", t, nrm [] L, rfl, rfl, .inl (SqL.of ht), join_fits m1 m2 (by decide), _, _, rfl, rfl, ?_, ?_⟩
        · show 1 + (jn (nrm [] L)).length ≤ sizeLine
          rw [sizeLine_eq]
          omega
        · have z := k _ (s3.trans s4)
          rw [eB] at z
          exact z
    · refine ⟨_, rfl, rfl, x, "/", rfl, rfl, _, rfl, ?_⟩
      by_cases e : Txt.startswith x "/" = true
      · rw [if_pos e] at hL
        exact if_no (by rw [e]; rfl) ⟨q, rfl, sq, by rw [← hL]; exact hq⟩
      · rw [if_neg e] at hL
        refine if_yes (by rw [show Txt.startswith x "/" = false by simpa using e]; rfl) ⟨_, rfl, rfl, say ps, "/", rfl, rfl, by decide +kernel, by rw [sizeLine_eq]; omega, fun t nt => ⟨_, rfl, t, q, _, _, rfl, rfl, upd_same, (same_upd nt) _ _ hq, ?_, fun r nr => ⟨r, rfl, ?_, ?_⟩⟩⟩
        · rw [List.length_map, List.length_map, sizeLine_eq]
          show (sp (say ps)).length + _ ≤ _
          omega
        · exact (sq.trans (same_upd nt)).trans (same_upd nr)
        · rw [upd_same, ← hL, List.map_append]
          rfl
abbrev sLnt : Stmt := top 117
abbrev nLnt : List Str := ["_law_one", "_law_sign", "_law_other", "_law_signs_here", "_law_gap"]
theorem scLnt : FnScope nLnt ["_law_one", "_law_sign", "_law_other"] (defScope sLnt) := ⟨rfl, rfl, rfl, by decide +kernel, rfl, by decide +kernel, by decide +kernel⟩
theorem has_Lnt {f : Addr} {fd : FuncData}  (F : Fun K "_law_number_truth" "_law_number_truth" sLnt f fd) (g : mg "_law_number_truth" = some (.ref f)) (B : Blt mg) (hLiw : Has P w K mg base 1 "_law_is_whole" ["_law_line"] (spLiw)) :
    Has P w K mg base 2 "_law_number_truth" ["_law_one", "_law_sign", "_law_other"] (spLnt) := by
  obtain ⟨fLiw, dLiw, gLiw, kLiw, bLiw, GLiw⟩ := hLiw
  refine has_of F g (F.binds (ps := ["_law_one", "_law_sign", "_law_other"]) fun _ _ _ _ _ _ us hl => match us, hl with | [_, _, _], _ => rfl) (F.ok scLnt (fun vs H Q E h => ?_) (fun cdv A outer s H vs Q E hr h => ?_))
  · obtain ⟨x, m, y, rfl, _⟩ := h
    rfl
  · refine ⟨_, (pss_cons (ps_set (i := 3) scLnt.nd rfl (.inl rfl) (pe_lst (pa_cons pe_str (pa_cons pe_str (pa_cons pe_str (pa_cons pe_str (pa_cons pe_str (pa_cons pe_str pa_nil))))))))
        (pss_cons (ps_if (PW.pt (pw_or (pt_cmpR op_notIn_seq (pv 1) (pv 3) (by rfl)) (pw_or (pt_not (pt_val (pe_call GLiw hr rfl gLiw kLiw bLiw .nil pass0 (pa_cons (pv 0) pa_nil)))) (pw_or1 (pt_not (pt_val (pe_call GLiw hr rfl gLiw kLiw bLiw .nil pass0 (pa_cons (pv 2) pa_nil)))))))) (pss_one (ps_ret pe_non)) pss_nil)
        (pss_cons (ps_set (i := 4) scLnt.nd rfl (.inl rfl) (pe_op op_sub (pe_callTy call_int_str (by rfl) B.int (by decide +kernel) (pa_cons (pv 0) pa_nil)) (pe_callTy call_int_str (by rfl) B.int (by decide +kernel) (pa_cons (pv 2) pa_nil))))
        (pss_one (ps_ret (pe_ix ix_list (pe_lst (pa_cons (pe_cmpR op_eq (pv 4) pe_int (nomark _)) (pa_cons (pe_cmpR op_ne (pv 4) pe_int (nomark _)) (pa_cons (pe_cmpR op_lt (pv 4) pe_int (nomark _)) (pa_cons (pe_cmpR op_le (pv 4) pe_int (nomark _)) (pa_cons (pe_cmpR op_gt (pv 4) pe_int (nomark _)) (pa_cons (pe_cmpR op_ge (pv 4) pe_int (nomark _)) pa_nil))))))) (pe_bm PySem.F.plainAttrs_list PySem.F.slot_list_index PySem.F.type_list_index mt_index (pv 3) (pa_cons (pv 1) pa_nil)) (fun _ _ => rfl))))))), ?_⟩
    obtain ⟨x, m, y, rfl, lx, ly, k⟩ := h
    have fin : ∀ o, numT x m y = o → ∀ H', Same H H' → Q (vO o) H' := fun o e H' s => by
      rw [← e]
      exact k H' s
    unfold numT at fin
    refine ⟨(by decide : 6 ≤ sizeLine), fun p np => ?_⟩
    have sp : Same H (L2.upd H p (.lst (sgs.map V.str))) := same_upd np
    have hp : SqL K (L2.upd H p (.lst (sgs.map V.str))) p (sgs.map V.str) := SqL.of upd_same
    refine ⟨_, rfl, _, rfl, p, sgs.map V.str, rfl, .inl hp, rfl, rfl, _, rfl, ?_⟩
    rw [inV_iff m sgs]
    by_cases hm : m ∈ sgs
    · refine if_no (by rw [decide_eq_true hm]; rfl) ⟨_, rfl, x, rfl, by omega, fun H1 s1 => ⟨_, rfl, ?_⟩⟩
      cases ex : intB (cs x) with
      | false =>
        rw [ex] at fin
        exact if_yes rfl (if_yes rfl (fin none rfl H1 (sp.trans s1)))
      | true =>
        refine if_no rfl ⟨_, rfl, y, rfl, by omega, fun H2 s2 => ⟨_, rfl, ?_⟩⟩
        cases ey : intB (cs y) with
        | false =>
          rw [ex, ey] at fin
          exact if_yes rfl (fin none rfl H2 ((sp.trans s1).trans s2))
        | true =>
          rw [ex, ey] at fin
          have fb : ∀ z : Str, intB (cs z) = true → figB (cs z) = true := fun z h => by
            unfold intB at h
            rw [Bool.and_eq_true] at h
            exact h.1
          have fl : ∀ z : Str, z.length ≤ 80 → (figs (cs z)).length ≤ 80 := fun z h => by
            have := len_cs z
            rcases figs_eq (cs z) with ⟨_, b⟩ | ⟨_, b⟩
            · have := congrArg List.length b
              rw [List.length_cons] at this
              omega
            · rw [b]; omega
          refine if_no rfl ⟨_, rfl, x, _, rfl, int_num (fb x ex) (fl x lx), by omega, _, rfl, y, _, rfl, int_num (fb y ey) (fl y ly), by omega, _, _, rfl, rfl, ?_⟩
          refine ⟨_, rfl, rfl, _, rfl, rfl, _, rfl, _, _, rfl, rfl, _, rfl, _, _, rfl, rfl, _, rfl, _, _, rfl, rfl, _, rfl, _, _, rfl, rfl, (by decide : 6 ≤ sizeLine), fun q nq => ?_⟩
          obtain ⟨j, hj⟩ := List.mem_iff_getElem?.mp hm
          have el : [V.bl (decide (V.int (numL (cs x) - numL (cs y)) = V.int 0)), V.bl (!decide (V.int (numL (cs x) - numL (cs y)) = V.int 0)), V.bl (decide ((numL (cs x) - numL (cs y)) < 0)), V.bl (decide ((numL (cs x) - numL (cs y)) ≤ 0)), V.bl (decide (0 < (numL (cs x) - numL (cs y)))), V.bl (decide (0 ≤ (numL (cs x) - numL (cs y))))] = (sgL (numL (cs x) - numL (cs y))).map V.bl := by
            have e : decide (V.int (numL (cs x) - numL (cs y)) = V.int 0) = decide ((numL (cs x) - numL (cs y)) = 0) := decide_eq_decide.mpr ⟨V.int.inj, congrArg V.int⟩
            rw [e, ← decide_not]
            rfl
          have sq := same_upd (o := .lst ((sgL (numL (cs x) - numL (cs y))).map V.bl)) nq
          have hj2 := sgT_at (numL (cs x) - numL (cs y)) hj
          have hp9 : SqL K (L2.upd H2 q (.lst [V.bl (decide (V.int (numL (cs x) - numL (cs y)) = V.int 0)), V.bl (!decide (V.int (numL (cs x) - numL (cs y)) = V.int 0)), V.bl (decide ((numL (cs x) - numL (cs y)) < 0)), V.bl (decide ((numL (cs x) - numL (cs y)) ≤ 0)), V.bl (decide (0 < (numL (cs x) - numL (cs y)))), V.bl (decide (0 ≤ (numL (cs x) - numL (cs y))))])) p (sgs.map V.str) := by
            rw [el]
            exact (((s1.trans s2).trans sq).seq hp)
          obtain ⟨b, hb⟩ : ∃ b, (sgL (numL (cs x) - numL (cs y)))[j]? = some b := by
            obtain ⟨l, _⟩ := List.getElem?_eq_some_iff.mp hj
            exact ⟨_, List.getElem?_eq_getElem (show j < (sgL (numL (cs x) - numL (cs y))).length from l)⟩
          refine ⟨_, rfl, .inl ⟨rfl, _, hp9⟩, _, rfl, p, sgs.map V.str, .str m, j, .str m, rfl, rfl, hp9, rfl, rfl, by rw [List.getElem?_map, hj]; rfl, eqV_self m, idx_first sgs_nd hj, q, (sgL (numL (cs x) - numL (cs y))).map V.bl, _, .bl b, rfl, rfl, ?_, atI_nat (by rw [List.getElem?_map, hb]; rfl), ?_⟩
          · exact SqL.of (upd_same.trans (congrArg (fun l => some (HO.lst l)) el))
          · have z := fin (some b) (hj2.trans hb) _ (((sp.trans s1).trans s2).trans sq)
            rw [← el] at z
            exact z
    · refine if_yes (by rw [decide_eq_false hm]; rfl) (if_yes rfl ?_)
      have e : (if (intB (cs x) && intB (cs y)) = true then sgT m (numL (cs x) - numL (cs y)) else none) = none := by
        rw [sgT_none _ hm]
        split <;> rfl
      exact fin none e _ sp
end
end Qb
end PySem
namespace PySem
namespace Qb
open PySem.W PySem.Calls PyProof.Rows L2
theorem oneT_n (fs : Fls) (ps : List Str) (x : Str) : oneT fs ps "-n" x = some (decide (x ≠ "")) := if_pos rfl
theorem oneT_z (fs : Fls) (ps : List Str) (x : Str) : oneT fs ps "-z" x = some (decide (x = "")) := (if_neg (by decide +kernel)).trans (if_pos rfl)
theorem oneT_f (fs : Fls) (ps : List Str) (x : Str) : oneT fs ps "-f" x = some (filB (lkF fs (say (says ps x)))) := (if_neg (by decide +kernel)).trans ((if_neg (by decide +kernel)).trans (if_pos rfl))
theorem oneT_d (fs : Fls) (ps : List Str) (x : Str) : oneT fs ps "-d" x = some (isF fs (say (says ps x))) := (if_neg (by decide +kernel)).trans ((if_neg (by decide +kernel)).trans ((if_neg (by decide +kernel)).trans (if_pos rfl)))
def mks : List Str := ["-n", "-z", "-f", "-d"]
theorem oneT_none (fs : Fls) (ps : List Str) {m : Str} (x : Str) (h : m ∉ mks) : oneT fs ps m x = none := by
  unfold oneT
  rw [if_neg fun e => h (by rw [e]; decide +kernel), if_neg fun e => h (by rw [e]; decide +kernel), if_neg fun e => h (by rw [e]; decide +kernel), if_neg fun e => h (by rw [e]; decide +kernel)]
theorem bangs_at : ∀ (xs : List Str) (i : Nat), i < bangs xs → xs[i]? = some "!"
  | [], i, h => by cases h
  | [_], i, h => by cases h
  | x :: y :: r, i, h => by
    unfold bangs at h
    split at h
    · rename_i e
      match i, h with
      | 0, _ => rw [e]; rfl
      | i + 1, h => exact bangs_at (y :: r) i (by omega)
    · cases h
theorem bangs_not : ∀ xs : List Str, bangs xs + 1 < xs.length → xs[bangs xs]? ≠ some "!"
  | [], h => by cases h
  | [_], h => by simp at h
  | x :: y :: r, h => by
    unfold bangs at h ⊢
    split at h
    · rename_i e
      rw [if_pos e]
      have ih := bangs_not (y :: r) (by simp only [List.length_cons] at h ⊢; omega)
      exact ih
    · rename_i e
      rw [if_neg e]
      intro z
      exact e (Option.some.inj z)
theorem bl_t (b : Bool) : decide (V.bl b = V.bl true) = b := by cases b <;> decide
theorem bl_f (b : Bool) : decide (V.bl b = V.bl false) = !b := by cases b <;> decide
theorem st_int (b p : Bool) : (if decide (V.bl b = V.bl (!p)) = true then (1 : Int) else 0) = ((if b = p then 0 else 1 : Nat) : Int) := by cases b <;> cases p <;> decide
/-- fields as they are drawn -/
def TxS (K : Frag) (H : Hp) (a : Addr) (xs : List Str) : Prop := SqL K H a (xs.map V.str) ∧ xs.length ≤ 20 ∧ ∀ x ∈ xs, x.length ≤ 80
theorem TxS.same {K : Frag} {H H' : Hp} {a : Addr} {xs : List Str} (h : TxS K H a xs) (s : Same H H') : TxS K H' a xs := ⟨s.seq h.1, h.2⟩
theorem TxS.l {K : Frag} {H : Hp} {a : Addr} {xs : List Str} (h : TxS K H a xs) : TxL K H a xs := ⟨h.1, by have := h.2.1; omega, fun x m => by have := h.2.2 x m; omega⟩
def spLtr (K : Frag) : Sp := fun vs H Q _ => ∃ (a : Addr) (xs : List Str) (v : V) (W : Wl), vs = [.ref a, v] ∧ TxS K H a xs ∧ WAt K H v W ∧ WGood W ∧ ∀ H', Same H H' → Q (vO (truT W.files W.folder xs)) H'
def spLdu (K : Frag) : Sp := fun vs H Q _ => ∃ (a : Addr) (xs : List Str) (v : V) (W : Wl), vs = [.ref a, v] ∧ TxS K H a xs ∧ WAt K H v W ∧ WGood W ∧ ∀ H', Same H H' → Q (.int (dueT W.files W.folder xs : Nat)) H'
section
variable {P : Program} {w : World} {K : Frag} {mg : Str → Option Value} {base : Heap}
abbrev sLtr : Stmt := top 118
abbrev nLtr : List Str := ["_law_fields_here", "_law_world_here", "_law_path_here"]
theorem scLtr : FnScope nLtr ["_law_fields_here", "_law_world_here"] (defScope sLtr) := ⟨rfl, rfl, rfl, by decide +kernel, rfl, by decide +kernel, by decide +kernel⟩
theorem has_Ltr {f : Addr} {fd : FuncData}  (F : Fun K "_law_truth" "_law_truth" sLtr f fd) (g : mg "_law_truth" = some (.ref f)) (B : Blt mg) (hLnt : Has P w K mg base 2 "_law_number_truth" ["_law_one", "_law_sign", "_law_other"] (spLnt)) (hLpt : Has P w K mg base 1 "_law_path" ["_law_folder", "_law_line"] (spLpt)) (hLif : Has P w K mg base 1 "_law_is_folder" ["_law_files_here", "_law_path_here"] (spLif)) :
    Has P w K mg base 3 "_law_truth" ["_law_fields_here", "_law_world_here"] (spLtr K) := by
  obtain ⟨fLnt, dLnt, gLnt, kLnt, bLnt, GLnt⟩ := hLnt
  obtain ⟨fLpt, dLpt, gLpt, kLpt, bLpt, GLpt⟩ := hLpt
  obtain ⟨fLif, dLif, gLif, kLif, bLif, GLif⟩ := hLif
  refine has_of F g (F.binds (ps := ["_law_fields_here", "_law_world_here"]) fun _ _ _ _ _ _ us hl => match us, hl with | [_, _], _ => rfl) (F.ok scLtr (fun vs H Q E h => ?_) (fun cdv A outer s H vs Q E hr h => ?_))
  · obtain ⟨a, xs, v, W, rfl, _⟩ := h
    rfl
  · have hu := hu_of hr
    refine ⟨_, (pss_cons (ps_if (pt_cmpR op_eq (pe_callB call_len_seq (by rfl) B.len PySem.boot_len (pa_cons (pv 0) pa_nil)) pe_int (nomark _)) (pss_one (ps_ret (pe_cmpR op_ne (pe_ix ix_list (pv 0) pe_int (fun _ _ => rfl)) pe_str (nomark _)))) pss_nil)
        (pss_cons (ps_if (pt_cmpR op_eq (pe_callB call_len_seq (by rfl) B.len PySem.boot_len (pa_cons (pv 0) pa_nil)) pe_int (nomark _)) (pss_cons (ps_if (pt_cmpR op_in_seq (pe_ix ix_list (pv 0) pe_int (fun _ _ => rfl)) (pe_tup (pa_cons pe_str (pa_cons pe_str pa_nil))) (by rfl)) (pss_one (ps_ret (pe_cmpR op_eq (pe_cmpR op_eq (pe_ix ix_list (pv 0) pe_int (fun _ _ => rfl)) (pe_ix ix_list (pv 0) pe_int (fun _ _ => rfl)) (nomark _)) (pe_cmpR op_eq (pe_ix ix_list (pv 0) pe_int (fun _ _ => rfl)) pe_str (nomark _)) (nomark _)))) pss_nil)
          (pss_one (ps_ret (pe_call GLnt hr rfl gLnt kLnt bLnt .nil pass0 (pa_cons (pe_ix ix_list (pv 0) pe_int (fun _ _ => rfl)) (pa_cons (pe_ix ix_list (pv 0) pe_int (fun _ _ => rfl)) (pa_cons (pe_ix ix_list (pv 0) pe_int (fun _ _ => rfl)) pa_nil))))))) pss_nil)
        (pss_cons (ps_if (PW.pt (pw_or (pt_cmpR op_ne (pe_callB call_len_seq (by rfl) B.len PySem.boot_len (pa_cons (pv 0) pa_nil)) pe_int (nomark _)) (pw_or1 (pt_cmpR op_notIn_seq (pe_ix ix_list (pv 0) pe_int (fun _ _ => rfl)) (pe_tup (pa_cons pe_str (pa_cons pe_str (pa_cons pe_str (pa_cons pe_str pa_nil))))) (by rfl))))) (pss_one (ps_ret pe_non)) pss_nil)
        (pss_cons (ps_set (i := 2) scLtr.nd rfl (.inl rfl) (pe_call GLpt (hr.mono (by decide)) rfl gLpt kLpt bLpt .nil pass0 (pa_cons (pe_ix ix_tup (pv 1) pe_int (fun _ _ => rfl)) (pa_cons (pe_ix ix_list (pv 0) pe_int (fun _ _ => rfl)) pa_nil))))
        (pss_cons (ps_if (pt_cmpR op_eq (pe_ix ix_list (pv 0) pe_int (fun _ _ => rfl)) pe_str (nomark _)) (pss_one (ps_ret (pe_and (pe_cmp (pc_din hu (pv 2) (pe_ix ix_tup (pv 1) pe_int (fun _ _ => rfl))) rfl) (pe_one (pe_cmpR op_notN (pe_dget hu (pe_ix ix_tup (pv 1) pe_int (fun _ _ => rfl)) (pv 2) (fun _ _ => rfl)) pe_non (nomark _)))))) pss_nil)
        (pss_cons (ps_if (pt_cmpR op_eq (pe_ix ix_list (pv 0) pe_int (fun _ _ => rfl)) pe_str (nomark _)) (pss_one (ps_ret (pe_call GLif (hr.mono (by decide)) rfl gLif kLif bLif .nil pass0 (pa_cons (pe_ix ix_tup (pv 1) pe_int (fun _ _ => rfl)) (pa_cons (pv 2) pa_nil))))) pss_nil)
        (pss_one (ps_ret (pe_cmpR op_eq (pe_cmpR op_ne (pe_ix ix_list (pv 0) pe_int (fun _ _ => rfl)) pe_str (nomark _)) (pe_cmpR op_eq (pe_ix ix_list (pv 0) pe_int (fun _ _ => rfl)) pe_str (nomark _)) (nomark _)))))))))), ?_⟩
    obtain ⟨a, xs, v, W, rfl, hx, hw, G, k⟩ := h
    obtain ⟨hl, ln, lm⟩ := hx
    have ld : ∀ n : Nat, decide (V.int (((xs.map V.str).length : Nat) : Int) = V.int ((n : Nat) : Int)) = decide (xs.length = n) := fun n => by
      rw [List.length_map]
      exact decide_eq_decide.mpr ⟨fun z => by have := V.int.inj z; omega, fun z => by rw [z]⟩
    match xs, hl, ln, lm, ld, k with
    | [], hl, ln, lm, ld, k =>
      exact ⟨_, rfl, a, _, rfl, .inl hl, rfl, _, rfl, if_no rfl ⟨_, rfl, a, _, rfl, .inl hl, rfl, _, rfl, if_no rfl ⟨_, rfl, a, _, rfl, .inl hl, rfl, _, rfl, if_yes rfl (if_yes rfl (k H (Same.refl H)))⟩⟩⟩
    | [x], hl, ln, lm, ld, k =>
      refine ⟨_, rfl, a, _, rfl, .inl hl, rfl, _, rfl, if_yes rfl ⟨_, rfl, a, _, _, .str x, rfl, rfl, hl, atI_nat (j := 0) rfl, rfl, ?_⟩⟩
      rw [dec_str, show (!decide (x = "")) = decide (x ≠ "") from (decide_not (p := x = "")).symm]
      exact k H (Same.refl H)
    | [m, x], hl, ln, lm, ld, k =>
      refine ⟨_, rfl, a, _, rfl, .inl hl, rfl, _, rfl, if_no rfl ⟨_, rfl, a, _, rfl, .inl hl, rfl, _, rfl, if_no rfl ⟨_, rfl, a, _, rfl, .inl hl, rfl, _, rfl, if_no rfl ⟨_, rfl, a, _, _, .str m, rfl, rfl, hl, atI_nat (j := 0) rfl, (by decide : 4 ≤ sizeLine), fun T nT => ⟨T, _, rfl, .inr (SqT.of upd_same), rfl, rfl, _, rfl, ?_⟩⟩⟩⟩⟩
      have sT := same_upd (o := .tup [.str "-n", .str "-z", .str "-f", .str "-d"]) nT
      have ei : inV (.str m) [.str "-n", .str "-z", .str "-f", .str "-d"] = decide (m ∈ mks) := inV_iff m mks
      rw [ei]
      have hl1 := sT.seq hl
      have hw1 := hw.same sT
      generalize L2.upd H T (.tup [.str "-n", .str "-z", .str "-f", .str "-d"]) = H1 at sT hl1 hw1 ⊢
      by_cases hm : m ∈ mks
      · obtain ⟨b, pf, pn, pa, pg, gs, rfl, ha, hf, _⟩ := id hw1
        refine if_no (by rw [decide_eq_true hm]; rfl) ⟨_, rfl, b, _, _, _, rfl, rfl, ha, rfl, _, rfl, a, _, _, .str x, rfl, rfl, hl1, atI_nat (j := 1) rfl, W.folder, x, rfl, G.fold.1, G.fold.2.1, by have := lm x (.tail _ (.head _)); omega, fun H2 s2 => ?_⟩
        have hl2 := s2.seq hl1
        have ha2 := sqT_same s2 ha
        have hf2 := hf.same s2
        have g := hf2.get (.inr (say (says W.folder x)))
        rw [valF] at g
        refine ⟨_, rfl, a, _, _, .str m, rfl, rfl, hl2, atI_nat (j := 0) rfl, rfl, _, rfl, ?_⟩
        rw [dec_str]
        refine if_by (fun e => ?_) (fun e => ?_)
        · obtain rfl := of_decide_eq_true e
          have fn : ∀ o, filB (lkF W.files (say (says W.folder x))) = o → ∀ H', Same H2 H' → Q (.bl o) H' := fun o z H' s => by
            have y := k H' ((sT.trans s2).trans s)
            rw [show truT W.files W.folder ["-f", x] = oneT W.files W.folder "-f" x from rfl, oneT_f, z] at y
            exact y
          refine ⟨_, rfl, _, rfl, b, _, _, _, rfl, rfl, ha2, rfl, pf, _, rfl, g, ?_⟩
          cases e2 : lkF W.files (say (says W.folder x)) with
          | none => exact ⟨_, rfl, if_no rfl (fn false (by rw [e2]; rfl) H2 (Same.refl _))⟩
          | some o =>
            rw [e2] at g
            refine ⟨_, rfl, if_yes rfl ⟨_, rfl, b, _, _, _, rfl, rfl, ha2, rfl, _, rfl, pf, _, rfl, g, rfl, ?_⟩⟩
            cases o with
            | none => exact fn false (by rw [e2]; rfl) H2 (Same.refl _)
            | some t => exact fn true (by rw [e2]; rfl) H2 (Same.refl _)
        · have ne := of_decide_eq_false e
          refine ⟨_, rfl, a, _, _, .str m, rfl, rfl, hl2, atI_nat (j := 0) rfl, rfl, _, rfl, ?_⟩
          rw [dec_str]
          refine if_by (fun e => ?_) (fun e => ?_)
          · obtain rfl := of_decide_eq_true e
            refine ⟨_, rfl, b, _, _, _, rfl, rfl, ha2, rfl, _, rfl, pf, W.files, _, rfl, hf2, fun H3 s3 => ?_⟩
            have y := k H3 ((sT.trans s2).trans s3)
            rw [show truT W.files W.folder ["-d", x] = oneT W.files W.folder "-d" x from rfl, oneT_d] at y
            exact y
          · have ne2 := of_decide_eq_false e
            refine ⟨_, rfl, a, _, _, .str x, rfl, rfl, hl2, atI_nat (j := 1) rfl, rfl, _, rfl, a, _, _, .str m, rfl, rfl, hl2, atI_nat (j := 0) rfl, rfl, rfl, ?_⟩
            rw [dec_str, dec_str]
            have hm2 : m = "-n" ∨ m = "-z" := by
              unfold mks at hm
              simp only [List.mem_cons, List.not_mem_nil, or_false] at hm
              rcases hm with h | h | h | h
              · exact .inl h
              · exact .inr h
              · exact (ne h).elim
              · exact (ne2 h).elim
            have y := k H2 (sT.trans s2)
            rcases hm2 with rfl | rfl
            · rw [show truT W.files W.folder ["-n", x] = oneT W.files W.folder "-n" x from rfl, oneT_n] at y
              rw [show decide (V.bl (!decide (x = "")) = V.bl (decide (("-n" : Str) = "-n"))) = decide (x ≠ "") by
                rw [decide_eq_true (rfl : ("-n" : Str) = "-n"), bl_t]
                exact (decide_not (p := x = "")).symm]
              exact y
            · rw [show truT W.files W.folder ["-z", x] = oneT W.files W.folder "-z" x from rfl, oneT_z] at y
              rw [show decide (V.bl (!decide (x = "")) = V.bl (decide (("-z" : Str) = "-n"))) = decide (x = "") by
                rw [decide_eq_false (show ¬ ("-z" : Str) = "-n" by decide +kernel), bl_f, Bool.not_not]]
              exact y
      · refine if_yes (by rw [decide_eq_false hm]; rfl) ?_
        have y := k H1 sT
        rw [show truT W.files W.folder [m, x] = oneT W.files W.folder m x from rfl, oneT_none _ _ x hm] at y
        exact y
    | [x, m, y], hl, ln, lm, ld, k =>
      refine ⟨_, rfl, a, _, rfl, .inl hl, rfl, _, rfl, if_no rfl ⟨_, rfl, a, _, rfl, .inl hl, rfl, _, rfl, if_yes rfl ⟨_, rfl, a, _, _, .str m, rfl, rfl, hl, atI_nat (j := 1) rfl, (by decide : 2 ≤ sizeLine), fun T nT => ⟨T, _, rfl, .inr (SqT.of upd_same), rfl, rfl, _, rfl, ?_⟩⟩⟩⟩
      have sT := same_upd (o := .tup [.str "=", .str "!="]) nT
      have ei : inV (.str m) [.str "=", .str "!="] = decide (m ∈ (["=", "!="] : List Str)) := inV_iff m ["=", "!="]
      rw [ei]
      have hl1 := sT.seq hl
      have k1 : ∀ H', Same H H' → Q (vO (twoT x m y)) H' := k
      generalize L2.upd H T (.tup [.str "=", .str "!="]) = H1 at sT hl1 ⊢
      by_cases hm : m ∈ (["=", "!="] : List Str)
      · refine if_yes (decide_eq_true hm) ⟨_, rfl, a, _, _, .str x, rfl, rfl, hl1, atI_nat (j := 0) rfl, _, rfl, a, _, _, .str y, rfl, rfl, hl1, atI_nat (j := 2) rfl, rfl, _, rfl, a, _, _, .str m, rfl, rfl, hl1, atI_nat (j := 1) rfl, rfl, rfl, ?_⟩
        rw [dec_str, dec_str]
        have z := k1 H1 sT
        simp only [List.mem_cons, List.not_mem_nil, or_false] at hm
        rcases hm with rfl | rfl
        · rw [show twoT x "=" y = some (decide (x = y)) from if_pos rfl] at z
          rw [show decide (V.bl (decide (x = y)) = V.bl (decide (("=" : Str) = "="))) = decide (x = y) by
            rw [decide_eq_true (rfl : ("=" : Str) = "="), bl_t]]
          exact z
        · rw [show twoT x "!=" y = some (decide (x ≠ y)) from (if_neg (by decide +kernel)).trans (if_pos rfl)] at z
          rw [show decide (V.bl (decide (x = y)) = V.bl (decide (("!=" : Str) = "="))) = decide (x ≠ y) by
            rw [decide_eq_false (show ¬ ("!=" : Str) = "=" by decide +kernel), bl_f]
            exact (decide_not (p := x = y)).symm]
          exact z
      · refine if_no (decide_eq_false hm) ⟨_, rfl, a, _, _, .str x, rfl, rfl, hl1, atI_nat (j := 0) rfl, _, rfl, a, _, _, .str m, rfl, rfl, hl1, atI_nat (j := 1) rfl, _, rfl, a, _, _, .str y, rfl, rfl, hl1, atI_nat (j := 2) rfl, x, m, y, rfl, lm x (.head _), lm y (.tail _ (.tail _ (.head _))), fun H2 s2 => ?_⟩
        have z := k1 H2 (sT.trans s2)
        rw [show twoT x m y = numT x m y from (if_neg fun e => hm (by rw [e]; exact .head _)).trans (if_neg fun e => hm (by rw [e]; exact .tail _ (.head _)))] at z
        exact z
    | x :: m :: y :: u :: r, hl, ln, lm, ld, k =>
      refine ⟨_, rfl, a, _, rfl, .inl hl, rfl, _, rfl, if_no ((ld 1).trans (decide_eq_false (by simp))) ⟨_, rfl, a, _, rfl, .inl hl, rfl, _, rfl, if_no ((ld 3).trans (decide_eq_false (by simp))) ⟨_, rfl, a, _, rfl, .inl hl, rfl, _, rfl, if_yes ?_ (if_yes rfl (k H (Same.refl H)))⟩⟩⟩
      exact congrArg (!·) ((ld 2).trans (decide_eq_false (by simp)))
abbrev sLdu : Stmt := top 119
abbrev nLdu : List Str := ["_law_fields_here", "_law_world_here", "_law_many", "_law_k", "_law_truth_here"]
theorem scLdu : FnScope nLdu ["_law_fields_here", "_law_world_here"] (defScope sLdu) := ⟨rfl, rfl, rfl, by decide +kernel, rfl, by decide +kernel, by decide +kernel⟩
theorem has_Ldu {f : Addr} {fd : FuncData}  (F : Fun K "_law_due" "_law_due" sLdu f fd) (g : mg "_law_due" = some (.ref f)) (B : Blt mg) (hLtr : Has P w K mg base 3 "_law_truth" ["_law_fields_here", "_law_world_here"] (spLtr K)) :
    Has P w K mg base 4 "_law_due" ["_law_fields_here", "_law_world_here"] (spLdu K) := by
  obtain ⟨fLtr, dLtr, gLtr, kLtr, bLtr, GLtr⟩ := hLtr
  refine has_of F g (F.binds (ps := ["_law_fields_here", "_law_world_here"]) fun _ _ _ _ _ _ us hl => match us, hl with | [_, _], _ => rfl) (F.ok scLdu (fun vs H Q E h => ?_) (fun cdv A outer s H vs Q E hr h => ?_))
  · obtain ⟨a, xs, v, W, rfl, _⟩ := h
    rfl
  · refine ⟨_, (pss_cons (ps_set (i := 2) scLdu.nd rfl (.inl rfl) pe_int)
        (pss_cons (ps_for PassesOwn.never rfl (pi_range1 (by rfl) B.range (pa_cons (pe_op op_sub (pe_callB call_len_seq (by rfl) B.len PySem.boot_len (pa_cons (pv 0) pa_nil)) pe_int) pa_nil)) (pg_name (i := 3) scLdu.nd rfl (.inl rfl))
          (pss_one (ps_if (PW.pt (pw_and (pt_cmpR op_eq (pe_ix ix_list (pv 0) (pv 3) (fun _ _ => rfl)) pe_str (nomark _)) (pw_and1 (pt_cmpR op_eq (pv 2) (pv 3) (nomark _))))) (pss_one (ps_set (i := 2) scLdu.nd rfl (.inl rfl) (pe_op op_add (pv 3) pe_int))) pss_nil)))
        (pss_cons (ps_set (i := 4) scLdu.nd rfl (.inl rfl) (pe_call GLtr hr rfl gLtr kLtr bLtr .nil pass0 (pa_cons (pe_slice sl_list (pv 0) (po_some (pv 2)) po_none) (pa_cons (pv 1) pa_nil))))
        (pss_cons (ps_if (pt_cmpR op_isN (pv 4) pe_non (nomark _)) (pss_one (ps_ret pe_int)) pss_nil)
        (pss_one (ps_ret (pe_callTy call_int1 (by rfl) B.int (by decide +kernel) (pa_cons (pe_cmpR op_eq (pv 4) (pe_cmpR op_eq (pe_op op_modN (pe_callTy call_int1 (by rfl) B.int (by decide +kernel) (pa_cons (pv 2) pa_nil)) pe_int) pe_int (nomark _)) (nomark _)) pa_nil)))))))), ?_⟩
    obtain ⟨a, xs, v, W, rfl, hx, hw, G, k⟩ := h
    obtain ⟨hl, ln, lm⟩ := id hx
    have bl := bangs_lt xs
    have e0 : (xs.map V.str).length = xs.length := List.length_map ..
    have en : ((((xs.map V.str).length : Nat) : Int) - 1).toNat = xs.length - 1 := by omega
    refine ⟨_, rfl, a, _, rfl, .inl hl, _, _, rfl, rfl, (((xs.map V.str).length : Nat) : Int) - 1, rfl, by omega, by omega, ?_⟩
    rw [en]
    refine for_range (lo := 0) (n := xs.length - 1) (fun i σ H' => ∃ x3, σ = [some (.ref a), some v, some (.int ((min i (bangs xs) : Nat) : Int)), x3, none] ∧ H' = H) ⟨none, by rw [Nat.zero_min]; rfl, rfl⟩ (fun i σ H' hi e => ?_) (fun σ H' e => ?_)
    · obtain ⟨x3, rfl, rfl⟩ := e
      have hz : (0 : Int) + (i : Nat) = (i : Nat) := by omega
      rw [hz]
      have e1 : xs[i]? = some xs[i] := List.getElem?_eq_getElem (by omega)
      refine ⟨_, rfl, _, rfl, a, _, _, .str xs[i], rfl, rfl, hl, atI_nat (by rw [List.getElem?_map, e1]; rfl), rfl, _, rfl, ?_⟩
      rw [dec_str]
      refine if_by (fun e2 => ?_) (fun e2 => ?_)
      · have e2 := of_decide_eq_true e2
        refine ⟨_, rfl, _, rfl, rfl, _, rfl, ?_⟩
        have e3 : decide (V.int ((min i (bangs xs) : Nat) : Int) = V.int ((i : Nat) : Int)) = decide (i ≤ bangs xs) := decide_eq_decide.mpr ⟨fun z => by have := V.int.inj z; omega, fun z => congrArg V.int (by omega)⟩
        rw [e3]
        refine if_by (fun e4 => ?_) (fun e4 => ?_)
        · have e4 := of_decide_eq_true e4
          have e5 : i < bangs xs := by
            rcases Nat.lt_or_ge i (bangs xs) with z | z
            · exact z
            · have y := bangs_not xs (by omega)
              rw [show bangs xs = i by omega, e1, e2] at y
              exact (y rfl).elim
          refine ⟨_, rfl, _, _, rfl, rfl, some (.int ((i : Nat) : Int)), ?_, rfl⟩
          rw [show ((min (i + 1) (bangs xs) : Nat) : Int) = (i : Int) + 1 by omega]
          rfl
        · have e4 := of_decide_eq_false e4
          refine ⟨some (.int ((i : Nat) : Int)), ?_, rfl⟩
          rw [show min (i + 1) (bangs xs) = min i (bangs xs) by omega]
          rfl
      · have e2 := of_decide_eq_false e2
        have e5 : bangs xs ≤ i := by
          rcases Nat.lt_or_ge i (bangs xs) with z | z
          · have y := bangs_at xs i z
            rw [e1] at y
            exact (e2 (Option.some.inj y)).elim
          · exact z
        refine if_no rfl ⟨some (.int ((i : Nat) : Int)), ?_, rfl⟩
        rw [show min (i + 1) (bangs xs) = min i (bangs xs) by omega]
        rfl
    · obtain ⟨x3, rfl, rfl⟩ := e
      rw [show min (xs.length - 1) (bangs xs) = bangs xs by omega]
      refine ⟨_, rfl, _, rfl, _, rfl, a, _, rfl, hl, fun p np => ⟨_, rfl, p, xs.drop (bangs xs), v, W, rfl, ?_, hw.same (same_upd np), G, fun H1 s1 => ?_⟩⟩
      · rw [cutV_from, ← List.map_drop]
        exact ⟨SqL.of upd_same, by rw [List.length_drop]; omega, fun x m => lm x (List.mem_of_mem_drop m)⟩
      · have fin : ∀ n : Nat, stT (bangs xs) (truT W.files W.folder (xs.drop (bangs xs))) = n → Q (.int (n : Nat)) H1 := fun n z => by
          have y := k H1 ((same_upd np).trans s1)
          unfold dueT at y
          rw [z] at y
          exact y
        refine ⟨_, rfl, rfl, _, rfl, ?_⟩
        cases et : truT W.files W.folder (xs.drop (bangs xs)) with
        | none =>
          rw [et] at fin
          exact if_yes rfl (fin 2 rfl)
        | some b =>
          rw [et] at fin
          refine if_no rfl ⟨_, rfl, _, rfl, .inl ⟨_, rfl, _, _, rfl, rfl, (show (2 : Int) ≠ 0 by decide), rfl, rfl, .inr ⟨_, rfl, ?_⟩⟩⟩
          have e1 : decide (V.int (((bangs xs : Nat) : Int).fmod 2) = V.int 1) = !decide (bangs xs % 2 = 0) := by
            rw [Int.fmod_eq_emod_of_nonneg _ (by decide), ← decide_not]
            exact decide_eq_decide.mpr ⟨fun z => by have := V.int.inj z; omega, fun z => congrArg V.int (by omega)⟩
          have e2 : (if decide (V.bl b = V.bl (decide (V.int (((bangs xs : Nat) : Int).fmod 2) = V.int 1))) = true then (1 : Int) else 0) = ((stT (bangs xs) (some b) : Nat) : Int) := by
            rw [e1]
            exact st_int b (decide (bangs xs % 2 = 0))
          have z := fin _ rfl
          rw [← e2] at z
          exact z
end
end Qb
end PySem
namespace PySem
namespace Qb
open PySem.W PySem.Calls PyProof.Rows L2
theorem ok_of_safe {x : Str} (h : SafeT x) : PyData.strOk x = true := by
  unfold PyData.strOk
  rw [Array.all_eq_true_iff_forall_mem]
  intro c m
  refine decide_eq_true ?_
  have := h c (by simpa [cs] using m)
  omega
theorem strs_shaped {l : List Str} (h : ∀ x ∈ l, SafeT x) : SeqAt.shaped (.list (l.map .str)) = true := sh_ok (sh_lst (n := 0) fun d m => by
  obtain ⟨x, mx, rfl⟩ := List.mem_map.mp m
  exact sh_str (ok_of_safe (h x mx)))
theorem strs_all {K : Frag} {H : Hp} : ∀ l : List Str, DpAll K H (l.map V.str) (l.map PyData.str)
  | [] => .nil
  | x :: l => .cons (.str x) (strs_all l)
theorem strs_eqv : ∀ {l m : List Str}, PyData.eqv (.list (l.map .str)) (.list (m.map .str)) = decide (l = m)
  | l, m => by
    have key : ∀ l m : List Str, PyData.eqvAll (l.map .str) (m.map .str) = decide (l = m) := by
      intro l
      induction l with
      | nil => intro m; cases m <;> rfl
      | cons x l ih =>
        intro m
        cases m with
        | nil => rfl
        | cons y m =>
          show ((x == y) && PyData.eqvAll (l.map .str) (m.map .str)) = _
          rw [ih]
          by_cases e : x = y
          · subst e
            by_cases e2 : l = m
            · subst e2; simp
            · simp [e2]
          · simp [e]
    exact key l m
theorem dz_sb {S : Addr} {H H' : Hp} {d : Dk} {a : Addr} {kvs : List (Key × V)} (h : Dz H a kvs) (hd : DkAt H S d) (s : SB S H H') : Dz H' a kvs := by
  obtain ⟨o, h⟩ := h
  refine ⟨o, SB.at s h fun z => ?_⟩
  unfold DkAt at hd
  rw [z, hd] at h
  cases h
theorem txD_safe (m : Nat) (d : Dk) : SafeT (txD m d).1 := fun c mc => by
  have e : cs (txD m d).1 = ((drs 95 (dr (m + 1) d).1 (dr (m + 1) d).2).1).map sgC := by
    show ((((drs 95 (dr (m + 1) d).1 (dr (m + 1) d).2).1).map sgC).toArray).toList = _
    simp
  rw [e] at mc
  obtain ⟨i, mi, rfl⟩ := List.mem_map.mp mc
  exact sgC_lt i (drs_lt (by decide) _ _ i mi)
/-- a field that may be drawn -/
def Fd (x : Str) : Prop := x.length ≤ 80 ∧ SafeT x
theorem fd_lit {x : Str} (h : (decide (x.length ≤ 80) && (cs x).all fun c => decide (c < 128)) = true) : Fd x := by
  rw [Bool.and_eq_true, List.all_eq_true] at h
  exact ⟨of_decide_eq_true h.1, fun c m => of_decide_eq_true (h.2 c m)⟩
theorem len_app' (x y : Str) : (x ++ y).length = x.length + y.length := by rw [len_cs, cs_app, List.length_append, ← len_cs, ← len_cs]
theorem num_cs (n : Nat) : ∀ c ∈ cs (Str.ofString (toString ((n : Nat) : Int))), c ∈ digC := (nmC_ok n).2.1
theorem len_num {n k : Nat} (h : n < 10 ^ k) (hk : 1 ≤ k) : (Str.ofString (toString ((n : Nat) : Int))).length ≤ k := by
  have z := len_str_int h hk
  rw [len_cs]
  show ((Str.ofString (toString ((n : Nat) : Int))).cps.toList).length ≤ k
  rw [PyProof.Rows.signs_ofString, List.length_map]
  exact z
theorem num_safe (n : Nat) : SafeT (Str.ofString (toString ((n : Nat) : Int))) := fun c m => by
  have := dig_rng c (num_cs n c m)
  omega
theorem log_ok {n : Nat} (h : n < 10 ^ 60) : (((n : Nat) : Int)).natAbs.log2 < 1920 := by
  rw [Int.natAbs_natCast]
  by_cases z : n = 0
  · rw [z]; decide
  · exact (Nat.log2_lt z).mpr (Nat.lt_trans h (by decide))
def nuL : List Nat := [3, 30, 10 ^ 60]
def ofL (x : Str) : List Str := ["0" ++ x, "+" ++ x, "-0", "", "-", " " ++ x, x ++ "a", "1.0"]
theorem of_ok {x : Str} (h : x.length ≤ 60) (s : SafeT x) : ∀ y ∈ ofL x, Fd y := fun y m => by
  have a : ∀ c : Str, (decide (c.length = 1) && (cs c).all fun c => decide (c < 128)) = true → Fd (c ++ x) ∧ Fd (x ++ c) := fun c hc => by
    rw [Bool.and_eq_true, List.all_eq_true] at hc
    have l := of_decide_eq_true hc.1
    have sc : SafeT c := fun c m => of_decide_eq_true (hc.2 c m)
    exact ⟨⟨by rw [len_app']; omega, sc.app s⟩, ⟨by rw [len_app']; omega, s.app sc⟩⟩
  unfold ofL at m
  simp only [List.mem_cons, List.not_mem_nil, or_false] at m
  rcases m with rfl | rfl | rfl | rfl | rfl | rfl | rfl | rfl
  · exact (a "0" (by decide +kernel)).1
  · exact (a "+" (by decide +kernel)).1
  · exact fd_lit (by decide +kernel)
  · exact fd_lit (by decide +kernel)
  · exact fd_lit (by decide +kernel)
  · exact (a " " (by decide +kernel)).1
  · exact (a "a" (by decide +kernel)).2
  · exact fd_lit (by decide +kernel)
def spLnu : Sp := fun vs H Q _ => ∃ (S : Addr) (d : Dk), vs = [.ref S] ∧ DkAt H S d ∧ ∀ H' d' x, SB S H H' → DkAt H' S d' → Fd x → Q (.str x) H'
def spLpl : Sp := fun vs H Q _ => ∃ (S a : Addr) (fs : Fls) (d : Dk), vs = [.ref S, .ref a] ∧ DkAt H S d ∧ Dz H a (kvF fs) ∧ FOk 5 fs ∧ ∀ H' d' x, SB S H H' → DkAt H' S d' → Fd x → Q (.str x) H'
section
variable {P : Program} {w : World} {K : Frag} {mg : Str → Option Value} {base : Heap}
abbrev sLnu : Stmt := top 112
abbrev nLnu : List Str := ["_law_deck_here", "_law_kind", "_law_number_here"]
theorem scLnu : FnScope nLnu ["_law_deck_here"] (defScope sLnu) := ⟨rfl, rfl, rfl, by decide +kernel, rfl, by decide +kernel, by decide +kernel⟩
theorem has_Lnu {f : Addr} {fd : FuncData}  (F : Fun K "_law_number" "_law_number" sLnu f fd) (g : mg "_law_number" = some (.ref f)) (B : Blt mg) (hDr : Has P w K mg base 1 "_law_draw" ["_law_deck_here", "_law_many"] (spDr)) :
    Has P w K mg base 2 "_law_number" ["_law_deck_here"] (spLnu) := by
  obtain ⟨fDr, dDr, gDr, kDr, bDr, GDr⟩ := hDr
  refine has_of F g (F.binds (ps := ["_law_deck_here"]) fun _ _ _ _ _ _ us hl => match us, hl with | [_], _ => rfl) (F.ok scLnu (fun vs H Q E h => ?_) (fun cdv A outer s H vs Q E hr h => ?_))
  · obtain ⟨S, d, rfl, _⟩ := h
    rfl
  · refine ⟨_, (pss_cons (ps_set (i := 1) scLnu.nd rfl (.inl rfl) (pe_call GDr hr rfl gDr kDr bDr .nil pass0 (pa_cons (pv 0) (pa_cons pe_int pa_nil))))
        (pss_cons (ps_set (i := 2) scLnu.nd rfl (.inl rfl) (pe_callTy call_str_int (by rfl) B.str (by decide +kernel) (pa_cons (pe_call GDr hr rfl gDr kDr bDr .nil pass0 (pa_cons (pv 0) (pa_cons (pe_ix ix_list (pe_lst (pa_cons pe_int (pa_cons pe_int (pa_cons (pe_op op_pow pe_int pe_int) pa_nil)))) (pe_call GDr hr rfl gDr kDr bDr .nil pass0 (pa_cons (pv 0) (pa_cons pe_int pa_nil))) (fun _ _ => rfl)) pa_nil))) pa_nil)))
        (pss_cons (ps_if (pt_cmpR op_lt (pv 1) pe_int (nomark _)) (pss_one (ps_ret (pv 2))) pss_nil)
        (pss_cons (ps_weak (ps_if (PW.pt (pw_and (pt_cmpR op_lt (pv 1) pe_int (nomark _)) (pw_and1 (pt_cmpR op_ne (pv 2) pe_str (nomark _))))) (pss_one (ps_ret (pe_op op_add_str pe_str (pv 2)))) pss_nil))
        (pss_one (ps_ret (pe_ix ix_list (pe_lst (pa_cons (pe_op op_add_str pe_str (pv 2)) (pa_cons (pe_op op_add_str pe_str (pv 2)) (pa_cons pe_str (pa_cons pe_str (pa_cons pe_str (pa_cons (pe_op op_add_str pe_str (pv 2)) (pa_cons (pe_op op_add_str (pv 2) pe_str) (pa_cons pe_str pa_nil))))))))) (pe_call GDr hr rfl gDr kDr bDr .nil pass0 (pa_cons (pv 0) (pa_cons pe_int pa_nil))) (fun _ _ => rfl)))))))), ?_⟩
    obtain ⟨S, d, rfl, hd, k⟩ := h
    refine ⟨_, rfl, S, 10, d, rfl, by decide, by decide, hd, fun H1 s1 d1 => ?_⟩
    generalize (dr 10 d).1 = kd
    generalize (dr 10 d).2 = e1 at d1
    refine ⟨_, rfl, _, _, rfl, rfl, ⟨by decide, by decide, by decide⟩, (by decide : 3 ≤ sizeLine), fun p np => ?_⟩
    have hp : (L2.upd H1 p (.lst [.int 3, .int 30, .int ((10 : Int) ^ (60 : Int).toNat)])) p = some (.lst (nuL.map fun n : Nat => V.int (n : Int))) := upd_same
    have s2 := same_upd (o := .lst [.int 3, .int 30, .int ((10 : Int) ^ (60 : Int).toNat)]) np
    have d2 := s2 _ _ d1
    have pS : p ≠ S := Ne.symm (ne_new d1 np)
    generalize L2.upd H1 p (.lst [.int 3, .int 30, .int ((10 : Int) ^ (60 : Int).toNat)]) = H2 at hp s2 d2 ⊢
    refine ⟨_, rfl, S, 3, e1, rfl, by decide, by decide, d2, fun H3 s3 d3 => ?_⟩
    have lt3 := dr_lt (m := 3) (by decide) e1
    generalize (dr 3 e1).1 = i at lt3 ⊢
    generalize (dr 3 e1).2 = e2 at d3
    obtain ⟨m, hm, m0, m1⟩ : ∃ m, nuL[i]? = some m ∧ 0 < m ∧ m ≤ 10 ^ 60 := by
      match i, lt3 with
      | 0, _ => exact ⟨3, rfl, by decide, by decide⟩
      | 1, _ => exact ⟨30, rfl, by decide, by decide⟩
      | 2, _ => exact ⟨10 ^ 60, rfl, by decide, Nat.le_refl _⟩
    have ltm := dr_lt m0 e2
    refine ⟨p, _, _, .int (m : Nat), rfl, rfl, SqL.of (s3.at hp pS), atI_nat (by rw [List.getElem?_map, hm]; rfl), S, m, e2, rfl, m0, m1, d3, fun H4 s4 d4 => ⟨_, rfl, log_ok (Nat.lt_of_lt_of_le ltm m1), ?_⟩⟩
    have sH : SB S H H4 := ((s1.trans (SB.of s2)).trans s3).trans s4
    have lx := len_num (Nat.lt_of_lt_of_le ltm m1) (by decide)
    have sx := num_safe (dr m e2).1
    generalize (dr m e2).2 = e3 at d4
    have fx : Fd (Str.ofString (toString (((dr m e2).1 : Nat) : Int))) := ⟨by omega, sx⟩
    generalize Str.ofString (toString (((dr m e2).1 : Nat) : Int)) = x at lx sx fx ⊢
    refine ⟨_, rfl, _, _, rfl, rfl, _, rfl, if_by (fun e => ⟨_, rfl, k H4 e3 x sH d4 fx⟩) (fun e => ?_)⟩
    have l1 : ∀ c ∈ (["0", "+", "-", " ", "a"] : List Str), c.length = 1 := by decide +kernel
    refine ⟨fun σ' H' => σ' = [some (.ref S), some (.int (kd : Nat)), some (.str x)] ∧ H' = H4, ?_, ?_⟩
    · rintro σ' H' ⟨rfl, rfl⟩
      refine ⟨_, rfl, _, _, rfl, rfl, by rw [l1 "0" (by decide +kernel), sizeLine_eq]; omega, _, rfl, _, _, rfl, rfl, by rw [l1 "+" (by decide +kernel), sizeLine_eq]; omega, _, rfl, _, _, rfl, rfl, by rw [l1 " " (by decide +kernel), sizeLine_eq]; omega, _, rfl, _, _, rfl, rfl, by rw [l1 "a" (by decide +kernel), sizeLine_eq]; omega, (by decide : 8 ≤ sizeLine), fun q nq => ?_⟩
      have s5 := same_upd (o := .lst [.str ("0" ++ x), .str ("+" ++ x), .str "-0", .str "", .str "-", .str (" " ++ x), .str (x ++ "a"), .str "1.0"]) nq
      have hq : (L2.upd H' q (.lst [.str ("0" ++ x), .str ("+" ++ x), .str "-0", .str "", .str "-", .str (" " ++ x), .str (x ++ "a"), .str "1.0"])) q = some (.lst ((ofL x).map V.str)) := upd_same
      have d5 := s5 _ _ d4
      have qS : q ≠ S := Ne.symm (ne_new d4 nq)
      generalize L2.upd H' q (.lst [.str ("0" ++ x), .str ("+" ++ x), .str "-0", .str "", .str "-", .str (" " ++ x), .str (x ++ "a"), .str "1.0"]) = H5 at s5 hq d5 ⊢
      refine ⟨_, rfl, S, 8, e3, rfl, by decide, by decide, d5, fun H6 s6 d6 => ?_⟩
      have lt8 := dr_lt (m := 8) (by decide) e3
      generalize (dr 8 e3).1 = j at lt8 ⊢
      obtain ⟨y, hy⟩ : ∃ y, (ofL x)[j]? = some y := ⟨_, List.getElem?_eq_getElem (show j < (ofL x).length from lt8)⟩
      exact ⟨q, _, _, .str y, rfl, rfl, SqL.of (s6.at hq qS), atI_nat (by rw [List.getElem?_map, hy]; rfl), k H6 _ y ((sH.trans (SB.of s5)).trans s6) d6 (of_ok lx sx y (List.mem_of_getElem? hy))⟩
    · refine ⟨_, rfl, _, _, rfl, rfl, _, rfl, if_by (fun e => ⟨_, rfl, rfl, _, rfl, if_by (fun e2 => ⟨_, rfl, _, _, rfl, rfl, by rw [l1 "-" (by decide +kernel), sizeLine_eq]; omega, ?_⟩) (fun e2 => ⟨rfl, rfl⟩)⟩) (fun e => if_no rfl ⟨rfl, rfl⟩)⟩
      refine k H4 e3 _ sH d4 ⟨by rw [len_app', l1 "-" (by decide +kernel)]; omega, SafeT.app (fun c m => ?_) sx⟩
      have e : cs ("-" : Str) = [45] := by decide +kernel
      rw [e, List.mem_singleton] at m
      omega
end
end Qb
end PySem
namespace PySem
namespace Qb
open PySem.W PySem.Calls PyProof.Rows L2
/-- a test whose ends are joined, each of the two -/
def tWeakB (t : TT) : TT := fun σ H Q => ∃ G : Bool → Hp → Prop, (∀ b H', G b H' → Q b H') ∧ t σ H G
theorem pt_weakB {X : Cx} {e : Expr} {t : TT} (h : PT X e t) : PT X e (tWeakB t) :=
  ⟨fun pins s σ H Q I ⟨G, hG, q⟩ => thn (h.run pins s σ H _ I q) fun c s1 ⟨H1, I1, z⟩ => ⟨H1, I1, hG _ _ z⟩⟩
def wayL (q : Str) : List Str := ["", "/", ".", "..", q, "/" ++ q, "./" ++ q]
theorem way_ok {q : Str} (h : q.length ≤ 20) (s : SafeT q) : ∀ y ∈ wayL q, Fd y := fun y m => by
  have a : ∀ c : Str, (decide (c.length ≤ 2) && (cs c).all fun c => decide (c < 128)) = true → Fd (c ++ q) := fun c hc => by
    rw [Bool.and_eq_true, List.all_eq_true] at hc
    have l := of_decide_eq_true hc.1
    have sc : SafeT c := fun c m => of_decide_eq_true (hc.2 c m)
    exact ⟨by rw [len_app']; omega, sc.app s⟩
  unfold wayL at m
  simp only [List.mem_cons, List.not_mem_nil, or_false] at m
  rcases m with rfl | rfl | rfl | rfl | rfl | rfl | rfl
  · exact fd_lit (by decide +kernel)
  · exact fd_lit (by decide +kernel)
  · exact fd_lit (by decide +kernel)
  · exact fd_lit (by decide +kernel)
  · exact ⟨by omega, s⟩
  · exact a "/" (by decide +kernel)
  · exact a "./" (by decide +kernel)
theorem cut_safe {x : Str} (s : SafeT x) (lo hi : Option Int) : SafeT (cutS x lo hi) := fun c m => by
  rw [cs_cut] at m
  exact s c (List.mem_of_mem_drop (List.mem_of_mem_take m))
theorem cut_lenS (x : Str) (lo hi : Option Int) : (cutS x lo hi).length ≤ x.length := by
  rw [len_cs, cs_cut, List.length_take, List.length_drop]
  have := len_cs x
  omega
noncomputable def pathL (x : Str) : List Str := [x, cutS x (some 1) none, x ++ "/", x ++ "/.."]
theorem path_ok {x : Str} (h : x.length ≤ 20) (s : SafeT x) : ∀ y ∈ pathL x, Fd y := fun y m => by
  have a : ∀ c : Str, (decide (c.length ≤ 3) && (cs c).all fun c => decide (c < 128)) = true → Fd (x ++ c) := fun c hc => by
    rw [Bool.and_eq_true, List.all_eq_true] at hc
    have l := of_decide_eq_true hc.1
    have sc : SafeT c := fun c m => of_decide_eq_true (hc.2 c m)
    exact ⟨by rw [len_app']; omega, s.app sc⟩
  unfold pathL at m
  simp only [List.mem_cons, List.not_mem_nil, or_false] at m
  rcases m with rfl | rfl | rfl | rfl
  · exact ⟨by omega, s⟩
  · exact ⟨by have := cut_lenS x (some 1) none; omega, cut_safe s _ _⟩
  · exact a "/" (by decide +kernel)
  · exact a "/.." (by decide +kernel)
section
variable {P : Program} {w : World} {K : Frag} {mg : Str → Option Value} {base : Heap}
abbrev sLpl : Stmt := top 113
abbrev nLpl : List Str := ["_law_deck_here", "_law_files_here", "_law_paths", "_law_part_here", "_law_path_here"]
theorem scLpl : FnScope nLpl ["_law_deck_here", "_law_files_here"] (defScope sLpl) := ⟨rfl, rfl, rfl, by decide +kernel, rfl, by decide +kernel, by decide +kernel⟩
theorem has_Lpl {f : Addr} {fd : FuncData}  (F : Fun K "_law_place" "_law_place" sLpl f fd) (g : mg "_law_place" = some (.ref f)) (B : Blt mg) (BW : BltW mg) (hPr : Has P w K mg base 2 "_law_part" ["_law_deck_here"] (spPr)) (hDr : Has P w K mg base 1 "_law_draw" ["_law_deck_here", "_law_many"] (spDr)) :
    Has P w K mg base 3 "_law_place" ["_law_deck_here", "_law_files_here"] (spLpl) := by
  obtain ⟨fPr, dPr, gPr, kPr, bPr, GPr⟩ := hPr
  obtain ⟨fDr, dDr, gDr, kDr, bDr, GDr⟩ := hDr
  refine has_of F g (F.binds (ps := ["_law_deck_here", "_law_files_here"]) fun _ _ _ _ _ _ us hl => match us, hl with | [_, _], _ => rfl) (F.ok scLpl (fun vs H Q E h => ?_) (fun cdv A outer s H vs Q E hr h => ?_))
  · obtain ⟨S, a, fs, d, rfl, _⟩ := h
    rfl
  · refine ⟨_, (pss_cons (ps_set (i := 2) scLpl.nd rfl (.inl rfl) (pe_callB (call_sortedD rfl) (by rfl) BW.sorted (by decide +kernel) (pa_cons (pv 1) pa_nil)))
        (pss_cons (ps_set (i := 3) scLpl.nd rfl (.inl rfl) (pe_call GPr hr rfl gPr kPr bPr .nil pass0 (pa_cons (pv 0) pa_nil)))
        (pss_cons (ps_if (pt_weakB (PW.pt (pw_or (pt_cmpR (op_eqD hr.units) (pv 2) (pe_lst pa_nil) (nomark _)) (pw_or1 (pt_cmpR op_eq (pe_call GDr (hr.mono (by decide)) rfl gDr kDr bDr .nil pass0 (pa_cons (pv 0) (pa_cons pe_int pa_nil))) pe_int (nomark _)))))) (pss_one (ps_ret (pe_ix ix_list (pe_lst (pa_cons pe_str (pa_cons pe_str (pa_cons pe_str (pa_cons pe_str (pa_cons (pv 3) (pa_cons (pe_op op_add_str pe_str (pv 3)) (pa_cons (pe_op op_add_str pe_str (pv 3)) pa_nil)))))))) (pe_call GDr (hr.mono (by decide)) rfl gDr kDr bDr .nil pass0 (pa_cons (pv 0) (pa_cons pe_int pa_nil))) (fun _ _ => rfl)))) pss_nil)
        (pss_cons (ps_set (i := 4) scLpl.nd rfl (.inl rfl) (pe_ix ix_list (pv 2) (pe_call GDr (hr.mono (by decide)) rfl gDr kDr bDr .nil pass0 (pa_cons (pv 0) (pa_cons (pe_callB call_len_seq (by rfl) B.len PySem.boot_len (pa_cons (pv 2) pa_nil)) pa_nil))) (fun _ _ => rfl)))
        (pss_one (ps_ret (pe_ix ix_list (pe_lst (pa_cons (pv 4) (pa_cons (pe_slice sl_str (pv 4) (po_some pe_int) po_none) (pa_cons (pe_op op_add_str (pv 4) pe_str) (pa_cons (pe_op op_add_str (pv 4) pe_str) pa_nil))))) (pe_call GDr (hr.mono (by decide)) rfl gDr kDr bDr .nil pass0 (pa_cons (pv 0) (pa_cons pe_int pa_nil))) (fun _ _ => rfl)))))))), ?_⟩
    obtain ⟨S, a, fs, d, rfl, hd, hz, fo, k⟩ := h
    have hl := fo.few
    have lk : (keysF fs).length = fs.length := List.length_map ..
    refine ⟨_, rfl, a, _, keysF fs, rfl, hz.rd, keys_kv fs, by omega, fun ys p pm so np => ?_⟩
    have s1 := same_upd (o := .lst (ys.map V.str)) np
    have hp1 : (L2.upd H p (.lst (ys.map V.str))) p = some (.lst (ys.map V.str)) := upd_same
    have d1 := s1 _ _ hd
    have s01 : SB S H (L2.upd H p (.lst (ys.map V.str))) := SB.of s1
    generalize L2.upd H p (.lst (ys.map V.str)) = H1 at hp1 d1 s01 ⊢
    have pS : p ≠ S := Ne.symm (ne_new hd np)
    refine ⟨_, rfl, S, d, rfl, d1, fun H2 s2 d2 => ?_⟩
    have lq := (pr_ok d).2
    have sq := prD_safe d
    generalize (prD d).1 = q at lq sq ⊢
    generalize (prD d).2 = e1 at d2
    have hp2 := s2.at hp1 pS
    have s02 := s01.trans s2
    have sy : ∀ y ∈ ys, SafeT y ∧ y.length ≤ 20 := fun y m => by
      obtain ⟨e, me, rfl⟩ := List.mem_map.mp (pm.mem_iff.mp m)
      obtain ⟨ps, q, e1, _, _, _, l⟩ := fo.good e me
      exact ⟨fo.safe e me, l⟩
    have lys : ys.length ≤ 5 := by rw [pm.length_eq, lk]; exact hl
    refine ⟨fun b H' => (b = false → ys ≠ []) ∧ SB S H H' ∧ (∃ d', DkAt H' S d') ∧ H' p = some (.lst (ys.map V.str)), fun b H' h => ?_, ?_⟩
    · obtain ⟨h1, s3, ⟨e3, d3⟩, hp3⟩ := h
      cases b with
      | true =>
        refine if_yes rfl ⟨_, rfl, _, rfl, _, _, rfl, rfl, ?_, _, rfl, _, _, rfl, rfl, ?_, (by decide : 7 ≤ sizeLine), fun o no => ?_⟩
        · rw [show ("/" : Str).length = 1 by decide +kernel, sizeLine_eq]; omega
        · rw [show ("./" : Str).length = 2 by decide +kernel, sizeLine_eq]; omega
        · have s4 := same_upd (o := .lst [.str "", .str "/", .str ".", .str "..", .str q, .str ("/" ++ q), .str ("./" ++ q)]) no
          have ho : (L2.upd H' o (.lst [.str "", .str "/", .str ".", .str "..", .str q, .str ("/" ++ q), .str ("./" ++ q)])) o = some (.lst ((wayL q).map V.str)) := upd_same
          have d4 := s4 _ _ d3
          have oS : o ≠ S := Ne.symm (ne_new d3 no)
          generalize L2.upd H' o (.lst [.str "", .str "/", .str ".", .str "..", .str q, .str ("/" ++ q), .str ("./" ++ q)]) = H4 at s4 ho d4 ⊢
          refine ⟨_, rfl, S, 7, e3, rfl, by decide, by decide, d4, fun H5 s5 d5 => ?_⟩
          have lt7 := dr_lt (m := 7) (by decide) e3
          generalize (dr 7 e3).1 = j at lt7 ⊢
          obtain ⟨y, hy⟩ : ∃ y, (wayL q)[j]? = some y := ⟨_, List.getElem?_eq_getElem (show j < (wayL q).length from lt7)⟩
          exact ⟨o, _, _, .str y, rfl, rfl, SqL.of (s5.at ho oS), atI_nat (by rw [List.getElem?_map, hy]; rfl), k H5 _ y ((s3.trans (SB.of s4)).trans s5) d5 (way_ok (by omega) sq y (List.mem_of_getElem? hy))⟩
      | false =>
        have lys0 : 0 < ys.length := List.length_pos_iff.mpr (h1 rfl)
        refine if_no rfl ⟨_, rfl, _, rfl, _, rfl, p, _, rfl, .inl (SqL.of hp3), S, ys.length, e3, by rw [List.length_map]; rfl, lys0, Nat.le_trans (by omega : _ ≤ 2000) (by decide), d3, fun H4 s4 d4 => ?_⟩
        obtain ⟨mx, ex⟩ := getD_mem (dr_lt lys0 e3)
        obtain ⟨sx, lx⟩ := sy _ mx
        generalize ys.getD (dr ys.length e3).1 "" = x at ex sx lx
        generalize (dr ys.length e3).2 = e4 at d4
        refine ⟨p, _, _, .str x, rfl, rfl, SqL.of (s4.at hp3 pS), atI_nat (by rw [List.getElem?_map, ex]; rfl), ?_⟩
        refine ⟨_, rfl, _, rfl, _, rfl, x, rfl, line_small (by omega), _, rfl, _, _, rfl, rfl, ?_, _, rfl, _, _, rfl, rfl, ?_, (by decide : 4 ≤ sizeLine), fun o no => ?_⟩
        · rw [show ("/" : Str).length = 1 by decide +kernel, sizeLine_eq]; omega
        · rw [show ("/.." : Str).length = 3 by decide +kernel, sizeLine_eq]; omega
        · have s5 := same_upd (o := .lst [.str x, .str (cutS x (some 1) none), .str (x ++ "/"), .str (x ++ "/..")]) no
          have ho : (L2.upd H4 o (.lst [.str x, .str (cutS x (some 1) none), .str (x ++ "/"), .str (x ++ "/..")])) o = some (.lst ((pathL x).map V.str)) := upd_same
          have d5 := s5 _ _ d4
          have oS : o ≠ S := Ne.symm (ne_new d4 no)
          generalize L2.upd H4 o (.lst [.str x, .str (cutS x (some 1) none), .str (x ++ "/"), .str (x ++ "/..")]) = H5 at s5 ho d5 ⊢
          refine ⟨_, rfl, S, 4, e4, rfl, by decide, by decide, d5, fun H6 s6 d6 => ?_⟩
          have lt4 := dr_lt (m := 4) (by decide) e4
          generalize (dr 4 e4).1 = j at lt4 ⊢
          obtain ⟨y, hy⟩ : ∃ y, (pathL x)[j]? = some y := ⟨_, List.getElem?_eq_getElem (show j < (pathL x).length from lt4)⟩
          exact ⟨o, _, _, .str y, rfl, rfl, SqL.of (s6.at ho oS), atI_nat (by rw [List.getElem?_map, hy]; rfl), k H6 _ y (((s3.trans s4).trans (SB.of s5)).trans s6) d6 (path_ok lx sx y (List.mem_of_getElem? hy))⟩
    · refine ⟨_, rfl, (by decide : 0 ≤ sizeLine), fun o no => ?_⟩
      have s3 := same_upd (o := .lst []) no
      refine ⟨.list (ys.map .str), .list (([] : List Str).map .str), .lst (SqL.of (s3 _ _ hp2)) (strs_all _), .lst (SqL.of upd_same) (strs_all []), strs_shaped fun y m => (sy y m).1, strs_shaped (l := []) (fun y m => nomatch m), _, rfl, ?_⟩
      rw [strs_eqv]
      have d3 := s3 _ _ d2
      have hp3 := s3 _ _ hp2
      have s03 := s02.trans (SB.of s3)
      generalize L2.upd H2 o (.lst []) = H3 at d3 hp3 s03 ⊢
      by_cases ey : ys = []
      · exact if_yes (decide_eq_true ey) ⟨(fun z => nomatch z), s03, ⟨_, d3⟩, hp3⟩
      · refine if_no (decide_eq_false ey) ⟨_, rfl, S, 4, e1, rfl, by decide, by decide, d3, fun H4 s4 d4 => ⟨rfl, _, rfl, fun _ => ey, s03.trans s4, ⟨_, d4⟩, s4.at hp3 pS⟩⟩
end
end Qb
end PySem
namespace PySem
namespace Qb
open PySem.W PySem.Calls PyProof.Rows L2
def mkL : List Str := ["-n", "-z", "-f", "-d", "-e", "n", "!", "="]
def siL : List Str := ["-eq", "-ne", "-lt", "-le", "-gt", "-ge", "=", "!=", "==", "-EQ", "<"]
def fdB (x : Str) : Bool := decide (x.length ≤ 80) && (cs x).all fun c => decide (c < 128)
theorem mk_fd : ∀ x ∈ mkL, Fd x := fun x m => fd_lit ((by decide +kernel : ∀ x ∈ mkL, fdB x = true) x m)
theorem si_fd : ∀ x ∈ siL, Fd x := fun x m => fd_lit ((by decide +kernel : ∀ x ∈ siL, fdB x = true) x m)
theorem no_fd : Fd "!" := fd_lit (by decide +kernel)
theorem tx_fd {m : Nat} (h : m ≤ 80) (d : Dk) : Fd (txD m d).1 := ⟨Nat.le_trans (txD_len m d) h, txD_safe m d⟩
/-- what holds while fields are drawn -/
structure FS (H0 Hc : Hp) (S a p1 p2 r : Addr) (fs : Fls) (n : Nat) : Prop where
  sb : SB S H0 Hc
  dk : ∃ d, DkAt Hc S d
  n1 : p1 ≠ S
  n2 : p2 ≠ S
  n3 : r ≠ S
  m1 : Hc p1 = some (.lst (mkL.map V.str))
  m2 : Hc p2 = some (.lst (siL.map V.str))
  m3 : Hc r = some (.lst ((List.replicate n ("!" : Str)).map V.str))
  m4 : Dz Hc a (kvF fs)
theorem FS.step {H0 Hc H' : Hp} {S a p1 p2 r : Addr} {fs : Fls} {n : Nat} (f : FS H0 Hc S a p1 p2 r fs n) (s : SB S Hc H') {d : Dk} (hd : DkAt H' S d) : FS H0 H' S a p1 p2 r fs n := by
  obtain ⟨d0, h0⟩ := f.dk
  exact ⟨f.sb.trans s, ⟨d, hd⟩, f.n1, f.n2, f.n3, s.at f.m1 f.n1, s.at f.m2 f.n2, s.at f.m3 f.n3, dz_sb f.m4 h0 s⟩
theorem FS.same {H0 Hc H' : Hp} {S a p1 p2 r : Addr} {fs : Fls} {n : Nat} (f : FS H0 Hc S a p1 p2 r fs n) (s : Same Hc H') : FS H0 H' S a p1 p2 r fs n := by
  obtain ⟨d0, h0⟩ := f.dk
  exact f.step (SB.of s) (s _ _ h0)
theorem FS.put {H0 Hc : Hp} {S a p1 p2 r z : Addr} {fs : Fls} {n : Nat} {o : HO} (f : FS H0 Hc S a p1 p2 r fs n) (z0 : H0 z = none) (zS : z ≠ S) (z1 : z ≠ p1) (z2 : z ≠ p2) (z3 : z ≠ r) (z4 : z ≠ a) : FS H0 (L2.upd Hc z o) S a p1 p2 r fs n := by
  obtain ⟨d, hd⟩ := f.dk
  obtain ⟨od, h4⟩ := f.m4
  refine ⟨f.sb.put_new z0, ⟨d, ?_⟩, f.n1, f.n2, f.n3, ?_, ?_, ?_, ⟨od, ?_⟩⟩
  · unfold DkAt
    rw [upd_ne (Ne.symm zS)]
    exact hd
  · rw [upd_ne (Ne.symm z1)]; exact f.m1
  · rw [upd_ne (Ne.symm z2)]; exact f.m2
  · rw [upd_ne (Ne.symm z3)]; exact f.m3
  · rw [upd_ne (Ne.symm z4)]; exact h4
def tS (d : Dk) : Nat → Dk
  | 0 => d
  | n + 1 => (txD 3 (tS d n)).2
def spLfi : Sp := fun vs H Q _ => ∃ (S a : Addr) (fs : Fls) (d : Dk), vs = [.ref S, .ref a] ∧ DkAt H S d ∧ Dz H a (kvF fs) ∧ FOk 5 fs ∧ ∀ (H' : Hp) (p : Addr) (xs : List Str), SB S H H' → H' p = some (.lst (xs.map V.str)) → xs.length ≤ 10 → (∀ x ∈ xs, Fd x) → Q (.ref p) H'
theorem rep_flat (n : Nat) : (List.replicate n [V.str "!"]).flatten = (List.replicate n ("!" : Str)).map V.str := by
  induction n with
  | zero => rfl
  | succ n ih =>
    rw [List.replicate_succ, List.replicate_succ, List.flatten_cons, List.map_cons, ih]
    rfl
section
variable {P : Program} {w : World} {K : Frag} {mg : Str → Option Value} {base : Heap}
abbrev sLfi : Stmt := top 114
abbrev nLfi : List Str := ["_law_deck_here", "_law_files_here", "_law_marks", "_law_signs_here", "_law_kind", "_law_ahead_here", "_law_k", "_law_one", "_law_other", "_law_fields_here"]
theorem scLfi : FnScope nLfi ["_law_deck_here", "_law_files_here"] (defScope sLfi) := ⟨rfl, rfl, rfl, by decide +kernel, rfl, by decide +kernel, by decide +kernel⟩
theorem has_Lfi {f : Addr} {fd : FuncData}  (F : Fun K "_law_fields" "_law_fields" sLfi f fd) (g : mg "_law_fields" = some (.ref f)) (B : Blt mg) (hDr : Has P w K mg base 1 "_law_draw" ["_law_deck_here", "_law_many"] (spDr)) (hTx : Has P w K mg base 2 "_law_text" ["_law_deck_here", "_law_most"] (spTx)) (hLpl : Has P w K mg base 3 "_law_place" ["_law_deck_here", "_law_files_here"] (spLpl)) (hLnu : Has P w K mg base 2 "_law_number" ["_law_deck_here"] (spLnu)) :
    Has P w K mg base 4 "_law_fields" ["_law_deck_here", "_law_files_here"] (spLfi) := by
  obtain ⟨fDr, dDr, gDr, kDr, bDr, GDr⟩ := hDr
  obtain ⟨fTx, dTx, gTx, kTx, bTx, GTx⟩ := hTx
  obtain ⟨fLpl, dLpl, gLpl, kLpl, bLpl, GLpl⟩ := hLpl
  obtain ⟨fLnu, dLnu, gLnu, kLnu, bLnu, GLnu⟩ := hLnu
  refine has_of F g (F.binds (ps := ["_law_deck_here", "_law_files_here"]) fun _ _ _ _ _ _ us hl => match us, hl with | [_, _], _ => rfl) (F.ok scLfi (fun vs H Q E h => ?_) (fun cdv A outer s H vs Q E hr h => ?_))
  · obtain ⟨S, a, fs, d, rfl, _⟩ := h
    rfl
  · refine ⟨_, (pss_cons (ps_set (i := 2) scLfi.nd rfl (.inl rfl) (pe_lst (pa_cons pe_str (pa_cons pe_str (pa_cons pe_str (pa_cons pe_str (pa_cons pe_str (pa_cons pe_str (pa_cons pe_str (pa_cons pe_str pa_nil))))))))))
        (pss_cons (ps_set (i := 3) scLfi.nd rfl (.inl rfl) (pe_lst (pa_cons pe_str (pa_cons pe_str (pa_cons pe_str (pa_cons pe_str (pa_cons pe_str (pa_cons pe_str (pa_cons pe_str (pa_cons pe_str (pa_cons pe_str (pa_cons pe_str (pa_cons pe_str pa_nil)))))))))))))
        (pss_cons (ps_set (i := 4) scLfi.nd rfl (.inl rfl) (pe_call GDr (hr.mono (by decide)) rfl gDr kDr bDr .nil pass0 (pa_cons (pv 0) (pa_cons pe_int pa_nil))))
        (pss_cons (ps_set (i := 5) scLfi.nd rfl (.inl rfl) (pe_op op_rep (pe_lst (pa_cons pe_str pa_nil)) (pe_call GDr (hr.mono (by decide)) rfl gDr kDr bDr .nil pass0 (pa_cons (pv 0) (pa_cons pe_int pa_nil)))))
        (pss_cons (ps_if (pt_cmpR op_eq (pv 4) pe_int (nomark _)) (pss_one (ps_ret (pe_op op_cat (pv 5) (pe_lc (own := [("_law_k", 6)]) (g := gName 6) (tt := tYes) rfl scLfi.nd (pi_range1 (by rfl) B.range (pa_cons (pe_call GDr (hr.mono (by decide)) rfl gDr kDr bDr .nil pass0 (pa_cons (pv 0) (pa_cons pe_int pa_nil))) pa_nil)) (blkOk_by (N := nLfi) (sc := defScope sLfi) (by decide +kernel)) (fun _ _ _ _ _ => pg_name (i := 6) scLfi.nd rfl (.inl rfl)) (fun _ _ _ _ _ => pts_nil) (fun _ _ _ _ _ => (pe_call GTx (hr.mono (by decide)) rfl gTx kTx bTx .nil pass0 (pa_cons (pv 0) (pa_cons pe_int pa_nil)))))))) pss_nil)
        (pss_cons (ps_if (pt_cmpR op_eq (pv 4) pe_int (nomark _)) (pss_one (ps_ret (pe_op op_cat (pv 5) (pe_lst (pa_cons (pe_ix ix_list (pv 2) (pe_call GDr (hr.mono (by decide)) rfl gDr kDr bDr .nil pass0 (pa_cons (pv 0) (pa_cons pe_int pa_nil))) (fun _ _ => rfl)) pa_nil))))) pss_nil)
        (pss_cons (ps_if (pt_cmpR op_eq (pv 4) pe_int (nomark _)) (pss_one (ps_ret (pe_op op_cat (pv 5) (pe_lst (pa_cons (pe_ix ix_list (pv 2) (pe_call GDr (hr.mono (by decide)) rfl gDr kDr bDr .nil pass0 (pa_cons (pv 0) (pa_cons pe_int pa_nil))) (fun _ _ => rfl)) (pa_cons (pe_call GTx (hr.mono (by decide)) rfl gTx kTx bTx .nil pass0 (pa_cons (pv 0) (pa_cons pe_int pa_nil))) pa_nil)))))) pss_nil)
        (pss_cons (ps_if (pt_cmpR op_eq (pv 4) pe_int (nomark _)) (pss_one (ps_ret (pe_op op_cat (pv 5) (pe_lst (pa_cons (pe_ix ix_list (pv 2) (pe_call GDr (hr.mono (by decide)) rfl gDr kDr bDr .nil pass0 (pa_cons (pv 0) (pa_cons pe_int pa_nil))) (fun _ _ => rfl)) (pa_cons (pe_call GLpl hr rfl gLpl kLpl bLpl .nil pass0 (pa_cons (pv 0) (pa_cons (pv 1) pa_nil))) pa_nil)))))) pss_nil)
        (pss_cons (ps_set (i := 7) scLfi.nd rfl (.inl rfl) (pe_ix ix_list (pe_lst (pa_cons (pe_call GLnu (hr.mono (by decide)) rfl gLnu kLnu bLnu .nil pass0 (pa_cons (pv 0) pa_nil)) (pa_cons (pe_call GTx (hr.mono (by decide)) rfl gTx kTx bTx .nil pass0 (pa_cons (pv 0) (pa_cons pe_int pa_nil))) pa_nil))) (pe_callTy call_int1 (by rfl) B.int (by decide +kernel) (pa_cons (pe_cmpR op_eq (pv 4) pe_int (nomark _)) pa_nil)) (fun _ _ => rfl)))
        (pss_cons (ps_set (i := 8) scLfi.nd rfl (.inl rfl) (pe_ix ix_list (pe_lst (pa_cons (pe_call GLnu (hr.mono (by decide)) rfl gLnu kLnu bLnu .nil pass0 (pa_cons (pv 0) pa_nil)) (pa_cons (pv 7) pa_nil))) (pe_callTy call_int1 (by rfl) B.int (by decide +kernel) (pa_cons (pe_cmpR op_eq (pe_call GDr (hr.mono (by decide)) rfl gDr kDr bDr .nil pass0 (pa_cons (pv 0) (pa_cons pe_int pa_nil))) pe_int (nomark _)) pa_nil)) (fun _ _ => rfl)))
        (pss_cons (ps_set (i := 9) scLfi.nd rfl (.inl rfl) (pe_lst (pa_cons (pv 7) (pa_cons (pe_ix ix_list (pv 3) (pe_call GDr (hr.mono (by decide)) rfl gDr kDr bDr .nil pass0 (pa_cons (pv 0) (pa_cons pe_int pa_nil))) (fun _ _ => rfl)) (pa_cons (pv 8) pa_nil)))))
        (pss_cons (ps_weak (ps_if (pt_cmpR op_eq (pe_call GDr (hr.mono (by decide)) rfl gDr kDr bDr .nil pass0 (pa_cons (pv 0) (pa_cons pe_int pa_nil))) pe_int (nomark _)) (pss_one (ps_expr (pe_bm PySem.F.plainAttrs_list PySem.F.slot_list_append PySem.F.type_list_append mt_append (pv 9) (pa_cons (pv 8) pa_nil)))) pss_nil))
        (pss_one (ps_ret (pe_op op_cat (pv 5) (pv 9)))))))))))))))), ?_⟩
    obtain ⟨S, a, fs, d, rfl, hd, hz, fo, k⟩ := h
    refine ⟨(by decide : 8 ≤ sizeLine), fun p1 np1 => ?_⟩
    have hp1 : (L2.upd H p1 (.lst [.str "-n", .str "-z", .str "-f", .str "-d", .str "-e", .str "n", .str "!", .str "="])) p1 = some (.lst (mkL.map V.str)) := upd_same
    have s1 := same_upd (o := .lst [.str "-n", .str "-z", .str "-f", .str "-d", .str "-e", .str "n", .str "!", .str "="]) np1
    generalize L2.upd H p1 (.lst [.str "-n", .str "-z", .str "-f", .str "-d", .str "-e", .str "n", .str "!", .str "="]) = H1 at hp1 s1 ⊢
    refine ⟨(by decide : 11 ≤ sizeLine), fun p2 np2 => ?_⟩
    have hp2 : (L2.upd H1 p2 (.lst [.str "-eq", .str "-ne", .str "-lt", .str "-le", .str "-gt", .str "-ge", .str "=", .str "!=", .str "==", .str "-EQ", .str "<"])) p2 = some (.lst (siL.map V.str)) := upd_same
    have s2 := same_upd (o := .lst [.str "-eq", .str "-ne", .str "-lt", .str "-le", .str "-gt", .str "-ge", .str "=", .str "!=", .str "==", .str "-EQ", .str "<"]) np2
    generalize L2.upd H1 p2 (.lst [.str "-eq", .str "-ne", .str "-lt", .str "-le", .str "-gt", .str "-ge", .str "=", .str "!=", .str "==", .str "-EQ", .str "<"]) = H2 at hp2 s2 ⊢
    have d1 := s1 _ _ hd
    have d2 := s2 _ _ d1
    have e1 : p1 ≠ S := Ne.symm (ne_new hd np1)
    have e2 : p2 ≠ S := Ne.symm (ne_new d1 np2)
    refine ⟨_, rfl, S, 8, d, rfl, by decide, by decide, d2, fun H3 s3 d3 => ?_⟩
    have lt8 := dr_lt (m := 8) (by decide) d
    generalize (dr 8 d).1 = kd at lt8 ⊢
    generalize (dr 8 d).2 = c1 at d3
    refine ⟨(by decide : 1 ≤ sizeLine), fun q nq => ?_⟩
    have s4 := same_upd (o := .lst [.str "!"]) nq
    have hq : (L2.upd H3 q (.lst [.str "!"])) q = some (.lst [.str "!"]) := upd_same
    have d4 := s4 _ _ d3
    have qS : q ≠ S := Ne.symm (ne_new d3 nq)
    generalize L2.upd H3 q (.lst [.str "!"]) = H4 at s4 hq d4 ⊢
    refine ⟨_, rfl, S, 4, c1, rfl, by decide, by decide, d4, fun H5 s5 d5 => ?_⟩
    have lt4 := dr_lt (m := 4) (by decide) c1
    generalize (dr 4 c1).1 = n at lt4 ⊢
    generalize (dr 4 c1).2 = c2 at d5
    refine ⟨q, _, _, rfl, rfl, s5.at hq qS, by omega, by omega, ?_, fun r nr => ?_⟩
    · rw [sizeLine_eq]
      show 1 * _ ≤ _
      omega
    rw [show ((n : Nat) : Int).toNat = n from Int.toNat_natCast n, rep_flat]
    have rS : r ≠ S := Ne.symm (ne_new d5 nr)
    have s6 := same_upd (o := .lst ((List.replicate n ("!" : Str)).map V.str)) nr
    have sb5 : SB S H2 H5 := (s3.trans (SB.of s4)).trans s5
    have f : FS H (L2.upd H5 r (.lst ((List.replicate n ("!" : Str)).map V.str))) S a p1 p2 r fs n :=
      ⟨(((SB.of s1).trans (SB.of s2)).trans sb5).trans (SB.of s6), ⟨c2, s6 _ _ d5⟩, e1, e2, rS, s6 _ _ (sb5.at (s2 _ _ hp1) e1), s6 _ _ (sb5.at hp2 e2), upd_same, (dz_sb ((hz.same s1).same s2) d2 sb5).same s6⟩
    generalize L2.upd H5 r (.lst ((List.replicate n ("!" : Str)).map V.str)) = H6 at f ⊢
    -- the end: what is ahead, and some more
    have fin : ∀ (H7 : Hp) (u z : Addr) (ys : List Str), FS H H7 S a p1 p2 r fs n → H7 z = none → ys.length ≤ 6 → (∀ y ∈ ys, Fd y) → Q (.ref z) (L2.upd H7 z (.lst ((List.replicate n ("!" : Str)).map V.str ++ ys.map V.str))) := fun H7 u z ys f7 nz ly fy => by
      refine k _ z (List.replicate n ("!" : Str) ++ ys) (f7.sb.trans (SB.of (same_upd nz))) (by rw [upd_same, List.map_append]) ?_ fun x m => ?_
      · rw [List.length_append, List.length_replicate]
        omega
      · rcases List.mem_append.mp m with m | m
        · rw [List.eq_of_mem_replicate m]
          exact no_fd
        · exact fy x m
    have sz : ∀ ys : List Str, ys.length ≤ 6 → ((List.replicate n ("!" : Str)).map V.str).length + (ys.map V.str).length ≤ sizeLine := fun ys l => by
      rw [List.length_map, List.length_map, List.length_replicate, sizeLine_eq]
      omega
    have dk : ∀ c : Nat, decide (V.int (kd : Nat) = V.int (c : Nat)) = decide (kd = c) := fun c => decide_eq_decide.mpr ⟨fun z => by have := V.int.inj z; omega, fun z => by rw [z]⟩
    refine ⟨_, rfl, rfl, _, rfl, if_by (fun e => ?_) (fun e => ?_)⟩
    · -- texts
      obtain ⟨c3, hc3⟩ := f.dk
      have lt5 := dr_lt (m := 5) (by decide) c3
      have bb := big30 (n := (dr 5 c3).1) (by omega)
      refine ⟨_, rfl, _, rfl, S, 5, c3, rfl, by decide, by decide, hc3, fun H7 s7 d7 => ⟨_, rfl, bb.1, bb.2, fun D hD => ?_⟩⟩
      have f7 := f.step s7 d7
      generalize (dr 5 c3).1 = l at lt5 ⊢
      generalize (dr 5 c3).2 = c4 at d7
      refine lc_st (walk_range (lo := 0) (n := l)) (fun i => tS c4 i) (fun i => .str (txD 3 (tS c4 i)).1) d7 hD (by omega) (fun _ _ => trivial) (fun i x H1 H' _ y => by rw [y.1]; exact Same.refl _) (fun i x H8 H9 Q' hi s8 d8 y kk => ?_) (fun H8 s8 d8 hq => ?_)
      · obtain ⟨rfl, rfl⟩ := y
        exact ⟨rfl, _, rfl, S, 3, _, rfl, by decide, d8, fun H4 s4 d4 => kk _ s4 d4⟩
      · have f8 := f7.step s8 d8
        have hq2 : H8 D = some (.lst (((List.range l).map fun i => (txD 3 (tS c4 i)).1).map V.str)) := by
          rw [hq, List.map_map]
          rfl
        have ll : ((List.range l).map fun i => (txD 3 (tS c4 i)).1).length ≤ 6 := by
          rw [List.length_map, List.length_range]
          omega
        exact ⟨r, D, _, _, rfl, rfl, f8.m3, hq2, sz _ ll, fun z nz => fin H8 D z _ f8 nz ll fun y m => by
          obtain ⟨i, _, rfl⟩ := List.mem_map.mp m
          exact tx_fd (by decide) _⟩
    refine ⟨_, rfl, rfl, _, rfl, if_by (fun e => ?_) (fun e => ?_)⟩
    · -- a mark
      obtain ⟨c3, hc3⟩ := f.dk
      refine ⟨_, rfl, _, rfl, _, rfl, S, 8, c3, rfl, by decide, by decide, hc3, fun H7 s7 d7 => ?_⟩
      have f7 := f.step s7 d7
      have ltm := dr_lt (m := 8) (by decide) c3
      generalize (dr 8 c3).1 = j at ltm ⊢
      obtain ⟨m, hm⟩ : ∃ m, mkL[j]? = some m := ⟨_, List.getElem?_eq_getElem (show j < mkL.length from ltm)⟩
      refine ⟨p1, _, _, .str m, rfl, rfl, SqL.of f7.m1, atI_nat (by rw [List.getElem?_map, hm]; rfl), (by decide : 1 ≤ sizeLine), fun u nu => ?_⟩
      have f8 := f7.same (same_upd (o := .lst [.str m]) nu)
      exact ⟨r, u, _, _, rfl, rfl, f8.m3, upd_same, sz [m] (by decide : 1 ≤ 6), fun z nz => fin _ u z [m] f8 nz (by decide : 1 ≤ 6) fun y my => by
        rw [List.mem_singleton.mp my]
        exact mk_fd m (List.mem_of_getElem? hm)⟩
    refine ⟨_, rfl, rfl, _, rfl, if_by (fun e => ?_) (fun e => ?_)⟩
    · -- a mark and a text
      obtain ⟨c3, hc3⟩ := f.dk
      refine ⟨_, rfl, _, rfl, _, rfl, S, 8, c3, rfl, by decide, by decide, hc3, fun H7 s7 d7 => ?_⟩
      have f7 := f.step s7 d7
      have ltm := dr_lt (m := 8) (by decide) c3
      generalize (dr 8 c3).1 = j at ltm ⊢
      generalize (dr 8 c3).2 = c4 at d7
      obtain ⟨m, hm⟩ : ∃ m, mkL[j]? = some m := ⟨_, List.getElem?_eq_getElem (show j < mkL.length from ltm)⟩
      refine ⟨p1, _, _, .str m, rfl, rfl, SqL.of f7.m1, atI_nat (by rw [List.getElem?_map, hm]; rfl), _, rfl, S, 2, c4, rfl, by decide, d7, fun H8 s8 d8 => ⟨(by decide : 2 ≤ sizeLine), fun u nu => ?_⟩⟩
      have f8 := (f7.step s8 d8).same (same_upd (o := .lst [.str m, .str (txD 2 c4).1]) nu)
      exact ⟨r, u, _, _, rfl, rfl, f8.m3, upd_same, sz [m, (txD 2 c4).1] (by decide : 2 ≤ 6), fun z nz => fin _ u z [m, (txD 2 c4).1] f8 nz (by decide : 2 ≤ 6) fun y my => by
        rcases List.mem_cons.mp my with rfl | my
        · exact mk_fd y (List.mem_of_getElem? hm)
        · rw [List.mem_singleton.mp my]
          exact tx_fd (by decide) _⟩
    refine ⟨_, rfl, rfl, _, rfl, if_by (fun e => ?_) (fun e => ?_)⟩
    · -- a mark and a place
      obtain ⟨c3, hc3⟩ := f.dk
      refine ⟨_, rfl, _, rfl, _, rfl, S, 8, c3, rfl, by decide, by decide, hc3, fun H7 s7 d7 => ?_⟩
      have f7 := f.step s7 d7
      have ltm := dr_lt (m := 8) (by decide) c3
      generalize (dr 8 c3).1 = j at ltm ⊢
      generalize (dr 8 c3).2 = c4 at d7
      obtain ⟨m, hm⟩ : ∃ m, mkL[j]? = some m := ⟨_, List.getElem?_eq_getElem (show j < mkL.length from ltm)⟩
      refine ⟨p1, _, _, .str m, rfl, rfl, SqL.of f7.m1, atI_nat (by rw [List.getElem?_map, hm]; rfl), _, rfl, _, rfl, S, a, fs, c4, rfl, d7, f7.m4, fo, fun H8 c5 x s8 d8 fx => ⟨(by decide : 2 ≤ sizeLine), fun u nu => ?_⟩⟩
      have f8 := (f7.step s8 d8).same (same_upd (o := .lst [.str m, .str x]) nu)
      exact ⟨r, u, _, _, rfl, rfl, f8.m3, upd_same, sz [m, x] (by decide : 2 ≤ 6), fun z nz => fin _ u z [m, x] f8 nz (by decide : 2 ≤ 6) fun y my => by
        rcases List.mem_cons.mp my with rfl | my
        · exact mk_fd y (List.mem_of_getElem? hm)
        · rw [List.mem_singleton.mp my]
          exact fx⟩
    -- two and a sign
    obtain ⟨c3, hc3⟩ := f.dk
    refine ⟨_, rfl, S, c3, rfl, hc3, fun H7 c4 x1 s7 d7 fx1 => ⟨_, rfl, S, 2, c4, rfl, by decide, d7, fun H8 s8 d8 => ⟨(by decide : 2 ≤ sizeLine), fun u nu => ⟨_, rfl, rfl, .inr ⟨_, rfl, ?_⟩⟩⟩⟩⟩
    have f8 := ((f.step s7 d7).step s8 d8).same (same_upd (o := .lst [.str x1, .str (txD 2 c4).1]) nu)
    have hu8 : (L2.upd H8 u (.lst [.str x1, .str (txD 2 c4).1])) u = some (.lst [.str x1, .str (txD 2 c4).1]) := upd_same
    generalize L2.upd H8 u (.lst [.str x1, .str (txD 2 c4).1]) = H9 at f8 hu8 ⊢
    obtain ⟨one, ho, fone⟩ : ∃ one : Str, atI [V.str x1, V.str (txD 2 c4).1] (if decide (V.int (kd : Nat) = V.int 4) = true then 1 else 0) = some (.str one) ∧ Fd one := by
      cases decide (V.int (kd : Nat) = V.int 4)
      · exact ⟨x1, atI_nat (j := 0) rfl, fx1⟩
      · exact ⟨_, atI_nat (j := 1) rfl, tx_fd (by decide) _⟩
    refine ⟨u, _, _, .str one, rfl, rfl, SqL.of hu8, ho, ?_⟩
    obtain ⟨c5, hc5⟩ := f8.dk
    refine ⟨_, rfl, S, c5, rfl, hc5, fun H10 c6 x2 s10 d10 fx2 => ⟨_, rfl, (by decide : 2 ≤ sizeLine), fun u2 nu2 => ?_⟩⟩
    have f10 := (f8.step s10 d10).same (same_upd (o := .lst [.str x2, .str one]) nu2)
    have u2S : u2 ≠ S := Ne.symm (ne_new d10 nu2)
    have hu10 : (L2.upd H10 u2 (.lst [.str x2, .str one])) u2 = some (.lst [.str x2, .str one]) := upd_same
    have d11 := (same_upd (o := .lst [.str x2, .str one]) nu2) _ _ d10
    generalize L2.upd H10 u2 (.lst [.str x2, .str one]) = H11 at f10 hu10 d11 ⊢
    refine ⟨_, rfl, S, 4, c6, rfl, by decide, by decide, d11, fun H12 s12 d12 => ⟨rfl, .inr ⟨_, rfl, ?_⟩⟩⟩
    have f12 := f10.step s12 d12
    have hu12 := s12.at hu10 u2S
    obtain ⟨oth, ho2, foth⟩ : ∃ oth : Str, atI [V.str x2, V.str one] (if decide (V.int ((dr 4 c6).1 : Nat) = V.int 0) = true then 1 else 0) = some (.str oth) ∧ Fd oth := by
      cases decide (V.int ((dr 4 c6).1 : Nat) = V.int 0)
      · exact ⟨x2, atI_nat (j := 0) rfl, fx2⟩
      · exact ⟨one, atI_nat (j := 1) rfl, fone⟩
    refine ⟨u2, _, _, .str oth, rfl, rfl, SqL.of hu12, ho2, ?_⟩
    generalize (dr 4 c6).2 = c7 at d12
    refine ⟨_, rfl, _, rfl, _, rfl, S, 11, c7, rfl, by decide, by decide, d12, fun H13 s13 d13 => ?_⟩
    have f13 := f12.step s13 d13
    have lts := dr_lt (m := 11) (by decide) c7
    generalize (dr 11 c7).1 = j at lts ⊢
    generalize (dr 11 c7).2 = c8 at d13
    obtain ⟨g, hg⟩ : ∃ g, siL[j]? = some g := ⟨_, List.getElem?_eq_getElem (show j < siL.length from lts)⟩
    have fg := si_fd g (List.mem_of_getElem? hg)
    refine ⟨p2, _, _, .str g, rfl, rfl, SqL.of f13.m2, atI_nat (by rw [List.getElem?_map, hg]; rfl), _, rfl, (by decide : 3 ≤ sizeLine), fun z nz => ?_⟩
    have z1 := ne_new f13.m1 nz
    have z2 := ne_new f13.m2 nz
    have z3 := ne_new f13.m3 nz
    have zS := ne_new d13 nz
    have z4 : a ≠ z := by
      obtain ⟨o, h⟩ := f13.m4
      exact ne_new h nz
    have z0 : H z = none := SB.none f13.sb nz (Ne.symm zS)
    have f14 := f13.same (same_upd (o := .lst [.str one, .str g, .str oth]) nz)
    have hz14 : (L2.upd H13 z (.lst [.str one, .str g, .str oth])) z = some (.lst (([one, g, oth] : List Str).map V.str)) := upd_same
    generalize L2.upd H13 z (.lst [.str one, .str g, .str oth]) = H14 at f14 hz14 ⊢
    refine ⟨fun σ' H' => ∃ ys : List Str, σ' = [some (.ref S), some (.ref a), some (.ref p1), some (.ref p2), some (.int (kd : Nat)), some (.ref r), none, some (.str one), some (.str oth), some (.ref z)] ∧ FS H H' S a p1 p2 r fs n ∧ H' z = some (.lst (ys.map V.str)) ∧ ys.length ≤ 6 ∧ ∀ y ∈ ys, Fd y, ?_, ?_⟩
    · rintro σ' H' ⟨ys, rfl, f15, hz15, ly, fy⟩
      exact ⟨_, rfl, _, rfl, r, z, _, _, rfl, rfl, f15.m3, hz15, sz ys ly, fun v nv => fin H' z v ys f15 nv ly fy⟩
    · obtain ⟨c9, hc9⟩ := f14.dk
      refine ⟨_, rfl, S, 9, c9, rfl, by decide, by decide, hc9, fun H15 s15 d15 => ⟨rfl, _, rfl, if_by (fun e => ?_) (fun e => ?_)⟩⟩
      · have f15 := f14.step s15 d15
        have hz15 := s15.at hz14 (Ne.symm zS)
        refine ⟨_, rfl, .inl ⟨rfl, _, SqL.of hz15⟩, _, rfl, z, _, _, rfl, rfl, hz15, (by decide : 3 < sizeLine), [one, g, oth, oth], rfl, f15.put z0 (Ne.symm zS) (Ne.symm z1) (Ne.symm z2) (Ne.symm z3) (Ne.symm z4), upd_same, (by decide : 4 ≤ 6), fun y m => ?_⟩
        simp only [List.mem_cons, List.not_mem_nil, or_false] at m
        rcases m with rfl | rfl | rfl | rfl <;> assumption
      · refine ⟨[one, g, oth], rfl, f14.step s15 d15, s15.at hz14 (Ne.symm zS), (by decide : 3 ≤ 6), fun y m => ?_⟩
        simp only [List.mem_cons, List.not_mem_nil, or_false] at m
        rcases m with rfl | rfl | rfl <;> assumption
end
end Qb
end PySem
namespace PySem
namespace Qb
open PySem.W PySem.Calls PyProof.Rows L2
def spCe (K : Frag) : Sp := fun vs H Q _ => ∃ (a : Addr) (ns : List Int) (i : Nat), vs = [.ref a, .int (i : Nat)] ∧ SqL K H a (ns.map V.int) ∧ Q (.int (ns.getD i 0)) H
theorem wD_args (m : Nat) (d : Dk) : (wD m d).1.args.length ≤ 1000 := by
  have z : (wD m d).1.args.length = _ := txs_len _ _
  rw [z]
  exact Nat.le_trans (Nat.le_of_lt (dr_lt (m := 3) (by decide) _)) (by decide)
theorem wD_pl (m : Nat) (d : Dk) : ∀ e ∈ (wD m d).1.funs, Pl 12 e.2 := fnW_pl _
theorem wD_fok (m : Nat) (d : Dk) : FOk m (wD m d).1.files := fsD_ok m d
theorem due_le (fs : Fls) (ps xs : List Str) : dueT fs ps xs ≤ 2 := (stT_succ _ _).2
theorem int_alk {K : Frag} {H : Hp} (i : Int) : Alk K H 16 (.int i) (.int i) := .inl ⟨.int i, .inr (.inr (.inl ⟨_, rfl⟩)), .int i, .int i⟩
section
variable {P : Program} {w : World} {K : Frag} {mg : Str → Option Value} {base : Heap}
abbrev sCe : Stmt := top 93
abbrev nCe : List Str := ["_law_script", "_law_at"]
theorem scCe : FnScope nCe ["_law_script", "_law_at"] (defScope sCe) := ⟨rfl, rfl, rfl, by decide +kernel, rfl, by decide +kernel, by decide +kernel⟩
theorem has_Ce {f : Addr} {fd : FuncData}  (F : Fun K "_law_cell" "_law_cell" sCe f fd) (g : mg "_law_cell" = some (.ref f)) (B : Blt mg)  :
    Has P w K mg base 1 "_law_cell" ["_law_script", "_law_at"] (spCe K) := by
  refine has_of F g (F.binds (ps := ["_law_script", "_law_at"]) fun _ _ _ _ _ _ us hl => match us, hl with | [_, _], _ => rfl) (F.ok scCe (fun vs H Q E h => ?_) (fun cdv A outer s H vs Q E hr h => ?_))
  · obtain ⟨a, ns, i, rfl, _⟩ := h
    rfl
  · refine ⟨_, (pss_cons (ps_if (pt_cmpR op_lt (pv 1) (pe_callB call_len_seq (by rfl) B.len PySem.boot_len (pa_cons (pv 0) pa_nil)) (nomark _)) (pss_one (ps_ret (pe_ix ix_list (pv 0) (pv 1) (fun _ _ => rfl)))) pss_nil)
        (pss_one (ps_ret pe_int))), ?_⟩
    obtain ⟨a, ns, i, rfl, hs, k⟩ := h
    refine ⟨_, rfl, _, rfl, a, _, rfl, .inl hs, _, _, rfl, rfl, _, rfl, ?_⟩
    rw [List.length_map]
    by_cases l : i < ns.length
    · refine if_yes (decide_eq_true (by omega)) ⟨_, rfl, _, rfl, a, _, _, .int (ns.getD i 0), rfl, rfl, hs, atI_nat (by rw [List.getElem?_map, List.getD_eq_getElem?_getD, List.getElem?_eq_getElem l]; rfl), k⟩
    · refine if_no (decide_eq_false (by omega)) ?_
      rw [show ns.getD i 0 = 0 by rw [List.getD_eq_getElem?_getD, List.getElem?_eq_none (by omega)]; rfl] at k
      exact k
abbrev sLw : Stmt := top 120
abbrev nLw : List Str := ["_law_script", "_law_world_here", "_law_cell_here", "_law_fields_here", "_law_due_here", "_law_handed", "_law_turned"]
theorem scLw : FnScope nLw ["_law_script"] (defScope sLw) := ⟨rfl, rfl, rfl, by decide +kernel, rfl, by decide +kernel, by decide +kernel⟩
theorem has_Lw {f : Addr} {fd : FuncData}  (F : Fun K "law" "law" sLw f fd) (g : mg "law" = some (.ref f)) (B : Blt mg) (hWo : Has P w K mg base 4 "_law_world" ["_law_deck_here", "_law_most"] (spWo K)) (hDe : Has P w K mg base 1 "_law_deck" ["_law_cell_here"] (spDe)) (hCe : Has P w K mg base 1 "_law_cell" ["_law_script", "_law_at"] (spCe K)) (hLfi : Has P w K mg base 4 "_law_fields" ["_law_deck_here", "_law_files_here"] (spLfi)) (hLdu : Has P w K mg base 4 "_law_due" ["_law_fields_here", "_law_world_here"] (spLdu K)) (hSm : Has P w K mg base 17 "_law_same" ["_law_found", "_law_due_here"] (spSm K 16)) (hTst : HasR P w K mg base 52 "tested" ["fields", "world"] (spTss K)) :
    Has P w K mg base 55 "law" ["_law_script"] (lawSp K) := by
  obtain ⟨fWo, dWo, gWo, kWo, bWo, GWo⟩ := hWo
  obtain ⟨fDe, dDe, gDe, kDe, bDe, GDe⟩ := hDe
  obtain ⟨fCe, dCe, gCe, kCe, bCe, GCe⟩ := hCe
  obtain ⟨fLfi, dLfi, gLfi, kLfi, bLfi, GLfi⟩ := hLfi
  obtain ⟨fLdu, dLdu, gLdu, kLdu, bLdu, GLdu⟩ := hLdu
  obtain ⟨fSm, dSm, gSm, kSm, bSm, GSm⟩ := hSm
  obtain ⟨fTst, dTst, gTst, kTst, bTst, cTst, GTst⟩ := hTst
  refine has_of F g (F.binds (ps := ["_law_script"]) fun _ _ _ _ _ _ us hl => match us, hl with | [_], _ => rfl) (F.ok scLw (fun vs H Q E h => ?_) (fun cdv A outer s H vs Q E hr h => ?_))
  · obtain ⟨a, ns, rfl, _⟩ := h
    rfl
  · refine ⟨_, (pss_cons (ps_set (i := 1) scLw.nd rfl (.inl rfl) (pe_call GWo (hr.mono (by decide)) rfl gWo kWo bWo .nil pass0 (pa_cons (pe_call GDe (hr.mono (by decide)) rfl gDe kDe bDe .nil pass0 (pa_cons (pe_call GCe (hr.mono (by decide)) rfl gCe kCe bCe .nil pass0 (pa_cons (pv 0) (pa_cons pe_int pa_nil))) pa_nil)) (pa_cons pe_int pa_nil))))
        (pss_cons (ps_for PassesOwn.never rfl (pi_list (pe_op op_cat (pe_lst (pa_cons pe_int pa_nil)) (pe_slice sl_list (pv 0) po_none (po_some pe_int)))) (pg_name (i := 2) scLw.nd rfl (.inl rfl))
          (pss_cons (ps_set (i := 3) scLw.nd rfl (.inl rfl) (pe_call GLfi (hr.mono (by decide)) rfl gLfi kLfi bLfi .nil pass0 (pa_cons (pe_call GDe (hr.mono (by decide)) rfl gDe kDe bDe .nil pass0 (pa_cons (pv 2) pa_nil)) (pa_cons (pe_ix ix_tup (pv 1) pe_int (fun _ _ => rfl)) pa_nil))))
          (pss_cons (ps_set (i := 4) scLw.nd rfl (.inl rfl) (pe_call GLdu (hr.mono (by decide)) rfl gLdu kLdu bLdu .nil pass0 (pa_cons (pv 3) (pa_cons (pv 1) pa_nil))))
          (pss_cons (ps_set (i := 5) scLw.nd rfl (.inl rfl) (pe_callTy call_list_of (by rfl) B.list (by decide +kernel) (pa_cons (pv 3) pa_nil)))
          (pss_cons (ps_if (PW.pt (pw_or (pt_not (pt_val (pe_call GSm (hr.mono (by decide)) rfl gSm kSm bSm .nil pass0 (pa_cons (pe_call GTst (hr.mono (by decide)) rfl gTst kTst bTst .nil pass0 (pa_cons (pv 5) (pa_cons (pv 1) pa_nil))) (pa_cons (pv 4) pa_nil))))) (pw_or1 (pt_cmpR (op_neD hr.units) (pv 5) (pv 3) (nomark _))))) (pss_one (ps_ret pe_bl)) pss_nil)
          (pss_cons (ps_set (i := 6) scLw.nd rfl (.inl rfl) (pe_ix ix_list (pe_lst (pa_cons pe_int (pa_cons pe_int (pa_cons pe_int pa_nil)))) (pv 4) (fun _ _ => rfl)))
          (pss_one (ps_if (PW.pt (pw_and (pt_cmpR (op_neD hr.units) (pv 3) (pe_lst pa_nil) (nomark _)) (pw_and1 (pt_not (pt_val (pe_call GSm (hr.mono (by decide)) rfl gSm kSm bSm .nil pass0 (pa_cons (pe_callKw GTst (hr.mono (by decide)) rfl gTst kTst cTst pass0 (pk_cons (pv 1) (pk_cons (pe_op op_cat (pe_lst (pa_cons pe_str pa_nil)) (pv 3)) pk_nil))) (pa_cons (pv 6) pa_nil)))))))) (pss_one (ps_ret pe_bl)) pss_nil))))))))
        (pss_one (ps_ret (pe_call GSm (hr.mono (by decide)) rfl gSm kSm bSm .nil pass0 (pa_cons (pv 1) (pa_cons (pe_call GWo (hr.mono (by decide)) rfl gWo kWo bWo .nil pass0 (pa_cons (pe_call GDe (hr.mono (by decide)) rfl gDe kDe bDe .nil pass0 (pa_cons (pe_call GCe (hr.mono (by decide)) rfl gCe kCe bCe .nil pass0 (pa_cons (pv 0) (pa_cons pe_int pa_nil))) pa_nil)) (pa_cons pe_int pa_nil))) pa_nil))))))), ?_⟩
    obtain ⟨a, ns, rfl, hS, hl, k⟩ := h
    have G : WGood (wD 5 (dkOf (ns.getD 0 0))).1 := wD_good (by decide) _
    have fo := wD_fok 5 (dkOf (ns.getD 0 0))
    refine ⟨_, rfl, a, ns, 0, rfl, hS, ns.getD 0 0, rfl, fun H1 S s1 nS d1 => ⟨S, 5, _, rfl, by decide, d1, fun H2 v s2 d2 hw2 => ?_⟩⟩
    have e0 : ∀ c, c = ns.getD 0 0 → wD 5 (dkOf c) = wD 5 (dkOf (ns.getD 0 0)) := fun c e => by rw [e]
    have lwa := wD_args 5 (dkOf (ns.getD 0 0))
    have lpl := wD_pl 5 (dkOf (ns.getD 0 0))
    generalize hWe : (wD 5 (dkOf (ns.getD 0 0))).1 = W at hw2 G fo lwa lpl
    obtain ⟨pf0, pn0, pa0, pg0, w2, _⟩ := hw2
    have sH2 : Same H H2 := SB.all ((SB.of s1).trans s2) nS
    have w2 := (w2.same hide_same).at
    have hS2 := sH2.seq hS
    clear d2 s2 s1 nS d1 sH2
    -- the cells
    refine ⟨(by decide : 1 ≤ sizeLine), fun p np => ?_⟩
    have s1 := same_upd (o := .lst [.int 0]) np
    have hp : (L2.upd H2 p (.lst [.int 0])) p = some (.lst [.int 0]) := upd_same
    generalize L2.upd H2 p (.lst [.int 0]) = H3 at s1 hp ⊢
    refine ⟨_, rfl, _, rfl, a, _, rfl, s1.seq hS2, fun q nq => ?_⟩
    have ec : cutV (ns.map V.int) none (some 30) = (ns.take 30).map V.int := by
      rw [show (some (30 : Int)) = some (((30 : Nat) : Nat) : Int) from rfl, cutV_to, List.map_take]
    rw [ec]
    have s2 := same_upd (o := .lst ((ns.take 30).map V.int)) nq
    refine ⟨p, q, _, _, rfl, rfl, s2 _ _ hp, upd_same, ?_, fun r nr => ⟨r, rfl, ⟨_, SqL.of upd_same⟩, ?_⟩⟩
    · rw [List.length_map, List.length_take, sizeLine_eq]
      show 1 + _ ≤ _
      omega
    have s3 := same_upd (o := .lst ([.int 0] ++ (ns.take 30).map V.int)) nr
    have er : [V.int 0] ++ (ns.take 30).map V.int = (0 :: ns.take 30).map V.int := rfl
    have hr3 : (L2.upd (L2.upd H3 q (.lst ((ns.take 30).map V.int))) r (.lst ([.int 0] ++ (ns.take 30).map V.int))) r = some (.lst ((0 :: ns.take 30).map V.int)) := by rw [upd_same, er]
    rw [er] at hr3 s3 ⊢
    have sX := (s1.trans s2).trans s3
    generalize L2.upd (L2.upd H3 q (.lst ((ns.take 30).map V.int))) r (.lst ((0 :: ns.take 30).map V.int)) = X at hr3 sX ⊢
    have wX := w2.same sX
    have hSX := sX.seq hS2
    clear s1 s2 s3 sX
    refine for_it (walk_list (K := K) (a := r) (xs := (0 :: ns.take 30).map V.int)) (fun i σ H' => ∃ z3 z4 z5 z6 z7, σ = [some (.ref a), some v, z3, z4, z5, z6, z7] ∧ Same X H') ⟨none, none, none, none, none, rfl, Same.refl _⟩ (fun i σ H' _ e => ?_) (fun i x σ H' H2' hi e yy => ?_) (fun σ H' e => ?_)
    · obtain ⟨_, _, _, _, _, _, s⟩ := e
      exact SqL.of (s _ _ hr3)
    · obtain ⟨z3, z4, z5, z6, z7, rfl, s⟩ := e
      obtain ⟨rfl, hx⟩ := yy
      rw [List.getElem?_map] at hx
      obtain ⟨c, _, rfl⟩ := Option.map_eq_some_iff.mp hx
      have wc := wX.same s
      obtain ⟨av, pf, pn, pa, pg, gs, rfl, ha, hf, _⟩ := id wc
      refine ⟨_, rfl, c, rfl, fun H4 S4 s4 nS4 d4 => ?_⟩
      have ha4 := sqT_same s4 ha
      refine ⟨_, rfl, av, _, _, _, rfl, rfl, ha4, rfl, S4, pf, W.files, _, rfl, d4, hf.same s4, fo, fun H5 p5 xs s5 hp5 lx fx => ?_⟩
      have s45 : Same H2' H5 := SB.all ((SB.of s4).trans s5) nS4
      have tx5 : TxS K H5 p5 xs := ⟨SqL.of hp5, by omega, fun x m => (fx x m).1⟩
      have w5 := wc.same s45
      have sf : ∀ x ∈ xs, SafeT x := fun x m => (fx x m).2
      have s05 := s.trans s45
      clear ha4 d4 nS4 s4 s5 s45 hf ha
      have dl := due_le W.files W.folder xs
      refine ⟨_, rfl, _, rfl, p5, xs, .ref av, W, rfl, tx5, w5, G, fun H6 s6 => ?_⟩
      have hp6 := s6 _ _ hp5
      refine ⟨_, rfl, p5, _, rfl, .inl (SqL.of hp6), fun h7 nh7 => ?_⟩
      have s7 := same_upd (o := .lst (xs.map V.str)) nh7
      have hh7 : (L2.upd H6 h7 (.lst (xs.map V.str))) h7 = some (.lst (xs.map V.str)) := upd_same
      have s57 := s6.trans s7
      generalize L2.upd H6 h7 (.lst (xs.map V.str)) = H7 at s7 hh7 s57 ⊢
      refine ⟨_, rfl, _, rfl, h7, xs, .ref av, W, rfl, ⟨SqL.of hh7, by omega, fun x m => by have := (fx x m).1; omega⟩, w5.same s57, G, fun H8 s8 => ⟨_, rfl, .int _, .int _, rfl, int_alk _, fun H9 s9 => ⟨_, rfl, if_no rfl ?_⟩⟩⟩
      have s79 := s8.trans s9
      have s59 := s57.trans s79
      have hp9 := s59 _ _ hp5
      refine ⟨_, rfl, _, rfl, .list (xs.map .str), .list (xs.map .str), .lst (SqL.of (s79 _ _ hh7)) (strs_all _), .lst (SqL.of hp9) (strs_all _), strs_shaped sf, strs_shaped sf, _, rfl, ?_⟩
      rw [strs_eqv]
      refine if_no (by rw [decide_eq_true rfl]; rfl) ?_
      generalize hn : dueT W.files W.folder xs = n at dl ⊢
      obtain ⟨t, ht, et⟩ : ∃ t : Nat, atI [V.int 1, V.int 0, V.int 2] ((n : Nat) : Int) = some (.int (t : Nat)) ∧ t = if n = 2 then 2 else 1 - n := by
        match n, dl with
        | 0, _ => exact ⟨1, atI_nat (j := 0) rfl, rfl⟩
        | 1, _ => exact ⟨0, atI_nat (j := 1) rfl, rfl⟩
        | 2, _ => exact ⟨2, atI_nat (j := 2) rfl, rfl⟩
      refine ⟨(by decide : 3 ≤ sizeLine), fun u nu => ⟨_, rfl, u, _, _, .int (t : Nat), rfl, rfl, SqL.of upd_same, ht, ?_⟩⟩
      have su := same_upd (o := .lst [.int 1, .int 0, .int 2]) nu
      have s5u := s59.trans su
      generalize L2.upd H9 u (.lst [.int 1, .int 0, .int 2]) = HA at s5u ⊢
      refine ⟨_, rfl, (by decide : 0 ≤ sizeLine), fun o no => ?_⟩
      have so := same_upd (o := .lst []) no
      have s5o := s5u.trans so
      have ho : (L2.upd HA o (.lst [])) o = some (.lst []) := upd_same
      generalize L2.upd HA o (.lst []) = HB at s5o ho ⊢
      have hpB := s5o _ _ hp5
      refine ⟨.list (xs.map .str), .list (([] : List Str).map .str), .lst (SqL.of hpB) (strs_all _), .lst (SqL.of ho) (strs_all []), strs_shaped sf, strs_shaped (l := []) (fun y m => nomatch m), _, rfl, ?_⟩
      rw [strs_eqv]
      have done : ∀ H', Same H5 H' → ∃ z3 z4 z5 z6 z7, [some (.ref a), some (.ref av), some (.int c), some (.ref p5), some (.int (n : Nat)), some (.ref h7), some (.int (t : Nat))] = [some (V.ref a), some (V.ref av), z3, z4, z5, z6, z7] ∧ Same X H' := fun H' s' => ⟨_, _, _, _, _, rfl, s05.trans s'⟩
      by_cases ex : xs = []
      · exact if_no (by rw [decide_eq_true ex]; rfl) (if_no rfl (done _ s5o))
      · refine if_yes (by rw [decide_eq_false ex]; rfl) ⟨_, rfl, (by decide : 1 ≤ sizeLine), fun y ny => ?_⟩
        have sy := same_upd (o := .lst [.str "!"]) ny
        have hy : (L2.upd HB y (.lst [.str "!"])) y = some (.lst [.str "!"]) := upd_same
        have s5y := s5o.trans sy
        generalize L2.upd HB y (.lst [.str "!"]) = HC at s5y hy ⊢
        refine ⟨_, rfl, y, p5, _, _, rfl, rfl, hy, s5y _ _ hp5, ?_, fun g ng => ?_⟩
        · rw [List.length_map, sizeLine_eq]
          show 1 + _ ≤ _
          omega
        have sg := same_upd (o := .lst ([.str "!"] ++ xs.map V.str)) ng
        have hg : (L2.upd HC g (.lst ([.str "!"] ++ xs.map V.str))) g = some (.lst ((("!" : Str) :: xs).map V.str)) := upd_same
        have s5g := s5y.trans sg
        generalize L2.upd HC g (.lst ([.str "!"] ++ xs.map V.str)) = HD at s5g hg ⊢
        have eb := (due_bang W.files W.folder ex).1
        rw [hn, ← et] at eb
        refine ⟨g, ("!" : Str) :: xs, .ref av, W, rfl, ⟨SqL.of hg, by rw [List.length_cons]; omega, fun x m => ?_⟩, w5.same s5g, G, fun HE sE => ?_⟩
        · rcases List.mem_cons.mp m with rfl | m
          · decide +kernel
          · have := (fx x m).1
            omega
        rw [eb]
        exact ⟨_, rfl, .int _, .int _, rfl, int_alk _, fun HF sF => ⟨_, rfl, if_no rfl (done _ ((s5g.trans sE).trans sF))⟩⟩
    · obtain ⟨z3, z4, z5, z6, z7, rfl, s⟩ := e
      have wc := wX.same s
      have hSc := s.seq hSX
      refine ⟨_, rfl, _, rfl, a, ns, 0, rfl, hSc, _, rfl, fun H3 S2 s3 nS2 d3 => ⟨S2, 5, _, rfl, by decide, d3, fun H4 v4 s4 d4 hw4 => ?_⟩⟩
      rw [e0 _ rfl, hWe] at hw4
      obtain ⟨qf, qn, qa, qg, w4, _⟩ := hw4
      have w4 := (w4.same hide_same).at
      have s34 : Same H' H4 := SB.all ((SB.of s3).trans s4) nS2
      exact ⟨v, v4, rfl, wat_alk (wc.same s34) w4 G.fgood.few G.nfew lwa G.gfew lpl, fun H5 s5 => k H5⟩
end
end Qb
end PySem
namespace PySem
namespace Qb
open PySem.W PySem.Calls PyProof.Rows L2
section
variable {P : Program} {w : World} {K : Frag} {mg : Str → Option Value} {base : Heap}
theorem ok_scr {CR : PyData → Bool → Prop} {f : Addr} {fd : FuncData} (F : Fun K "scripts_in_word" "scripts_in_word" sSw f fd) (g : mg "scripts_in_word" = some (.ref f)) (B : Blt mg) : ∀ n, n ≤ 14 → Has P w K mg base (n + 1) "scripts_in_word" ["pieces"] (spSw K CR n)
  | 0, _ => by
    refine has_of F g (F.binds (ps := ["pieces"]) fun _ _ _ _ _ _ us hl => match us, hl with | [_], _ => rfl) (F.ok scSw (fun vs H Q E h => ?_) (fun cdv A outer s H vs Q E hr h => ?_))
    · obtain ⟨_, _, _, _, _, _, _, _, _, h, _⟩ := h
      exact h.elim
    · obtain ⟨_, _, _, _, _, _, _, _, _, h, _⟩ := h
      exact h.elim
  | n + 1, l => has_Sw (by omega) F g B (ok_scr F g B n (by omega))
end
/-- the law is called over the script: what the body needs is laid out -/
theorem law_at {P : Program} {w : World} {K : Frag} {mg mb : Str → Option Value} {fa a : Addr} {s : Shared} {vs : List Value} {ns : List Int}
    (KX : K.In s.heap) (hns : s.heap.Ns mainGlobals mg) (hb : s.heap.Ns builtinsNs mb) (hbb : ∀ x : Str, x ≠ "__name__" → mb x = bootBuiltins x) (lim : s.heap.NoLimit) (hg : s.gens = #[])
    (ha : s.heap.get? a = some { cls := .type "list", data := .seq vs.toArray }) (hi : IntsAre vs ns) (hl : ns.length ≤ sizeLine)
    (run : ∀ (base : Heap) (H : Hp), K.In base → base.Ns mainGlobals mg → Env0 P w K mg base callerA [] s H → SqL K H a (ns.map V.int) →
      codeAny (model P w) callerA (.call (.ref fa) ⟨[.ref a], []⟩) (CR CX0 [] P w H s (fun v _ => v = .bl true) E0) s) :
    codeAny (model P w) callerA (.call (.ref fa) ⟨[.ref a], []⟩) (fun r s' => r = .ok (.ret (.bool true)) ∧ OldK s.heap s'.heap ∧ s'.os = s.os ∧ AllBare s'.gens) s := by
  have rel := vals_ints hi
  have many := hi.length
  -- the script is tracked, as a thing that is known, where it is none of the module's own
  obtain ⟨H, hH⟩ : ∃ H : Hp, ∀ b, H b = if b = a ∧ K.lookup a = none then some (.frz { cls := .type "list", data := .seq vs.toArray } (.lst (ns.map V.int))) else none := ⟨_, fun _ => rfl⟩
  have only : ∀ b u, H b = some u → b = a ∧ K.lookup a = none ∧ u = .frz { cls := .type "list", data := .seq vs.toArray } (.lst (ns.map V.int)) := fun b u z => by
    rw [hH] at z
    by_cases c : b = a ∧ K.lookup a = none
    · rw [if_pos c] at z
      exact ⟨c.1, c.2, (Option.some.inj z).symm⟩
    · rw [if_neg c] at z
      cases z
  have sq : SqL K H a (ns.map V.int) := by
    cases hk : K.lookup a with
    | none => exact .inl (.inr ⟨_, by rw [hH]; exact if_pos ⟨rfl, hk⟩⟩)
    | some o =>
      have e := KX a o hk
      rw [ha] at e
      cases e
      exact .inr ⟨_, vs.toArray, _, hk, rfl, rfl, rfl, by rw [List.size_toArray, many]; exact hl, by simpa using rel⟩
  have ok : HOk P w H s.heap := fun b u z => by
    obtain ⟨rfl, _, rfl⟩ := only b u z
    exact ⟨ha, by rw [List.length_map]; exact hl, vs, _, rel, ha⟩
  have kept : ∀ b o, s.heap.get? b = some o → H b = none → (hidT s.heap H).get? b = some o := fun b o z n => hidT_get z n
  have baseK : K.In (hidT s.heap H) := fun b o z => kept b o (KX b o z) (by
    cases q : H b with
    | none => rfl
    | some u =>
      obtain ⟨rfl, n, _⟩ := only b u q
      rw [n] at z
      cases z)
  have baseN : ∀ (b : Addr) (m : Str → Option Value), s.heap.Ns b m → (hidT s.heap H).Ns b m := fun b m ⟨o, es, ep, z, d, r⟩ => ⟨o, es, ep, kept b o z (by
    cases q : H b with
    | none => rfl
    | some u =>
      obtain ⟨rfl, _, _⟩ := only b u q
      rw [ha] at z
      cases z
      cases d), d, r⟩
  have env : Env0 P w K mg (hidT s.heap H) callerA [] s H := {
    frames := rfl
    mod := ⟨baseK, baseN _ _ hns, ⟨mb, baseN _ _ hb, hbb⟩, let ⟨m, z1, z2⟩ := lim; ⟨m, baseN _ _ z1, z2⟩⟩
    bs := fun b o z => of_hidT z
    bsz := Nat.le_of_eq (hidT_size _ _)
    funs := trivial
    frf := fun b z => nomatch z
    hok := ok
    bare := .of_eq hg }
  refine codeAny_mono (run _ H baseK (baseN _ _ hns) env sq) fun r s' z => ?_
  cases r with
  | error e => exact z.elim
  | ok fl =>
    cases fl with
    | ret u =>
      obtain ⟨v, H', h1, h2, h3, h4, h5, h6⟩ := z
      obtain rfl : v = .bl true := h6
      obtain rfl : u = Value.bool true := h5
      refine ⟨rfl, OldK.of_keep fun b o y => ?_, h1, h2⟩
      cases q : H b with
      | none => exact h3.keep b o y q (fun z => nomatch z) (fun z => nomatch z)
      | some t =>
        obtain ⟨rfl, _, rfl⟩ := only b t q
        have q2 := h3.frzs _ _ _ q
        obtain ⟨g1, _⟩ := h4 _ _ q2
        rw [ha] at y
        cases y
        exact g1
    | next => exact z.elim
    | brk => exact z.elim
    | cont => exact z.elim
theorem glob_mk {K : Frag} {mg : Str → Option Value} {h : Heap} {x c d : Str} {t : Tok} (X : K.In h) (G : h.Ns mainGlobals mg) (a : nsIn K mainGlobals x = some (some (.str c t))) (e : c = d) : ∃ t, mg x = some (.str d t) := ⟨t, e ▸ mg_of X G a⟩
theorem tup_mk {K : Frag} {mg : Str → Option Value} {h : Heap} {x : Str} {p : Addr} {dd : Option Addr} {its : Array Value} {n : Nat} {sl : Array (Option Value)} {ws : List Str}
    (X : K.In h) (G : h.Ns mainGlobals mg) (a : nsIn K mainGlobals x = some (some (.ref p))) (l : K.lookup p = some ⟨.type "tuple", dd, .seq its n, sl⟩) (z : its.size ≤ 1000) (v : Vals (ws.map V.str) its.toList) :
    ∃ p, mg x = some (.ref p) ∧ ∀ H, SqT K H p (ws.map V.str) :=
  ⟨p, mg_of X G a, fun H => .inr ⟨_, its, n, l, rfl, rfl, Nat.le_trans z (by decide), v⟩⟩
/-- a written dict of texts: its entries -/
inductive EntD (w : World) : List DictEntry → List (Str × V) → Prop where
  | nil : EntD w [] []
  | cons {h : Int} {x : Str} {t : Tok} {u : Value} {v : V} {es : List DictEntry} {ps : List (Str × V)} (hk : h = PyData.keyHash w.params x) (hv : RelV v u) (r : EntD w es ps) : EntD w (⟨h, .str x t, u⟩ :: es) ((x, v) :: ps)
theorem EntD.lit {w : World} : ∀ {es : List DictEntry} {ps : List (Str × V)}, EntD w es ps → KeysLit w.params es
  | _, _, .nil => trivial
  | _, _, .cons hk _ r => ⟨⟨_, _, rfl, hk⟩, r.lit⟩
theorem EntD.none_ref {w : World} : ∀ {es : List DictEntry} {ps : List (Str × V)}, EntD w es ps → es.any (·.refKey) = false
  | _, _, .nil => rfl
  | _, _, .cons _ _ r => by
    rw [List.any_cons, r.none_ref]
    rfl
theorem EntD.find {w : World} (s : Str) : ∀ {es : List DictEntry} {ps : List (Str × V)}, EntD w es ps → (ps.lookup s = none → es.find? (·.key.isStr s) = none) ∧ (∀ v, ps.lookup s = some v → ∃ e, es.find? (·.key.isStr s) = some e ∧ RelV v e.val)
  | _, _, .nil => ⟨fun _ => rfl, fun v z => by cases z⟩
  | _, _, @EntD.cons _ h x t u v es ps hk hv r => by
    have e1 : ((⟨h, .str x t, u⟩ : DictEntry).key.isStr s) = (x == s) := rfl
    rw [List.find?_cons, e1, List.lookup_cons]
    by_cases c : s = x
    · subst c
      simp only [beq_self_eq_true]
      refine ⟨(fun z => by cases z), (fun v' z => ⟨_, rfl, ?_⟩)⟩
      cases z
      exact hv
    · rw [beq_eq_false_iff_ne.mpr c, beq_eq_false_iff_ne.mpr (Ne.symm c)]
      exact r.find s
theorem dict_mk {K : Frag} {w : World} {mg : Str → Option Value} {h : Heap} {d : Addr} {es : Array DictEntry} {n : Nat} {ps : List (Str × V)} {x : Str}
    (X : K.In h) (G : h.Ns mainGlobals mg) (a : nsIn K mainGlobals x = some (some (.ref d))) (l : K.lookup d = some ⟨.type "dict", none, .dict es n, #[]⟩) (e : EntD w es.toList ps) (low : (d == sysModules) = false) :
    mg x = some (.ref d) ∧ KDict K w d es n ∧ ∀ s, (ps.lookup s = none → PySem.W.nsIn K d s = some none) ∧ (∀ v, ps.lookup s = some v → ∃ u, PySem.W.nsIn K d s = some (some u) ∧ RelV v u) := by
  refine ⟨mg_of X G a, ⟨l, e.lit, low⟩, fun s => ?_⟩
  have en : PySem.W.nsIn K d s = (match es.toList.find? (·.key.isStr s) with | some e => some (some e.val) | none => if es.toList.any (·.refKey) then none else some none) := by
    unfold PySem.W.nsIn
    rw [l]
    rfl
  obtain ⟨f1, f2⟩ := e.find s
  refine ⟨fun z => ?_, fun v z => ?_⟩
  · rw [en, f1 z, e.none_ref]
    rfl
  · obtain ⟨e', h1, h2⟩ := f2 v z
    rw [en, h1]
    exact ⟨_, rfl, h2⟩
def rkP : List (Str × V) := [("||", .int 2), ("&&", .int 3), ("==", .int 4), ("!=", .int 4), ("<", .int 5), ("<=", .int 5), (">", .int 5), (">=", .int 5), ("+", .int 6), ("-", .int 6), ("*", .int 7), ("/", .int 7), ("^", .int 7)]
theorem lookup_map (s : Str) : ∀ (l : List (Str × Nat)), (l.map fun p => (p.1, V.int (p.2 : Nat))).lookup s = (l.lookup s).map fun n => V.int (n : Nat)
  | [] => rfl
  | (x, n) :: l => by
    rw [List.map_cons, List.lookup_cons, List.lookup_cons]
    cases (s == x) with
    | true => rfl
    | false => exact lookup_map s l
theorem rks_mk {K : Frag} {w : World} {mg : Str → Option Value} {h : Heap} {d : Addr} {es : Array DictEntry} {n : Nat}
    (X : K.In h) (G : h.Ns mainGlobals mg) (a : nsIn K mainGlobals "RANKS" = some (some (.ref d))) (l : K.lookup d = some ⟨.type "dict", none, .dict es n, #[]⟩) (e : EntD w es.toList rkP) (low : (d == sysModules) = false) :
    ∃ (d : Addr) (es : Array DictEntry) (n : Nat), mg "RANKS" = some (.ref d) ∧ KDict K w d es n ∧ ∀ s : Str, (isOp s = false → PySem.W.nsIn K d s = some none) ∧ (isOp s = true → ∃ t, PySem.W.nsIn K d s = some (some (.int (rk s : Nat) t))) := by
  obtain ⟨h1, h2, h3⟩ := dict_mk X G a l e low
  have er : rkP = rks.map fun p => (p.1, V.int (p.2 : Nat)) := rfl
  refine ⟨d, es, n, h1, h2, fun s => ?_⟩
  obtain ⟨f1, f2⟩ := h3 s
  rw [er, lookup_map] at f1 f2
  refine ⟨fun z => f1 ?_, fun z => ?_⟩
  · unfold isOp at z
    cases q : rks.lookup s with
    | none => rfl
    | some n => rw [q] at z; cases z
  · unfold isOp at z
    obtain ⟨m, hm⟩ := Option.isSome_iff_exists.mp z
    rw [hm] at f2
    obtain ⟨u, h4, t, rfl⟩ := f2 _ rfl
    refine ⟨t, ?_⟩
    rw [h4]
    unfold rk
    rw [hm]
    rfl
theorem glob_mkI {K : Frag} {mg : Str → Option Value} {h : Heap} {x : Str} {c d : Int} {t : Tok} (X : K.In h) (G : h.Ns mainGlobals mg) (a : nsIn K mainGlobals x = some (some (.int c t))) (e : c = d) : ∃ t, mg x = some (.int d t) := ⟨t, e ▸ mg_of X G a⟩
/-- a written tuple of bare pieces -/
inductive TpA (K : Frag) : List Value → List Str → Prop
  | nil : TpA K [] []
  | cons {q : Addr} {its : Array Value} {n : Nat} {dd : Option Addr} {sl : Array (Option Value)} {x : Str} {us : List Value} {xs : List Str} (l : K.lookup q = some ⟨.type "tuple", dd, .seq its n, sl⟩) (e : ∃ t0 t1, its.toList = [.str "bare" t0, .str x t1]) (r : TpA K us xs) : TpA K (.ref q :: us) (x :: xs)
theorem TpA.dp {K : Frag} {H : Hp} : ∀ {us : List Value} {xs : List Str}, TpA K us xs → ∃ vs, Vals vs us ∧ DpAll K H vs (xs.map bareD)
  | _, _, .nil => ⟨[], .nil, .nil⟩
  | _, _, .cons (q := q) (its := its) l ⟨_, _, e⟩ r => by
    obtain ⟨vs, h1, h2⟩ := r.dp (H := H)
    have z : its.size = 2 := by rw [← Array.length_toList, e]; rfl
    refine ⟨.ref q :: vs, .cons rfl h1, .cons (.tup (xs := [.str "bare", .str _]) (.inr ⟨_, its, _, l, rfl, rfl, by rw [z]; decide, ?_⟩) (.cons (.str _) (.cons (.str _) .nil))) h2⟩
    rw [e]
    exact .cons ⟨_, rfl⟩ (.cons ⟨_, rfl⟩ .nil)
theorem sms_mk {K : Frag} {mg : Str → Option Value} {h : Heap} {x : Str} {p : Addr} {dd : Option Addr} {its : Array Value} {n : Nat} {sl : Array (Option Value)} {ws : List Str}
    (X : K.In h) (G : h.Ns mainGlobals mg) (a : nsIn K mainGlobals x = some (some (.ref p))) (l : K.lookup p = some ⟨.type "tuple", dd, .seq its n, sl⟩) (z : its.size ≤ 1000) (v : TpA K its.toList ws) :
    ∃ p, mg x = some (.ref p) ∧ ∀ H, Dp K H (.ref p) (.tuple (ws.map bareD)) :=
  ⟨p, mg_of X G a, fun H => by
    obtain ⟨vs, h1, h2⟩ := v.dp (H := H)
    exact .tup (.inr ⟨_, its, n, l, rfl, rfl, Nat.le_trans z (by decide), h1⟩) h2⟩
/-- the law holds, by what the text's top has left -/
theorem law_holds {P : Program} {w : World} {K : Frag} {mg mb : Str → Option Value} {s : Shared} {fa a : Addr} {vs : List Value} {ns : List Int} {f0 f1 f2 f3 f4 f5 f6 f7 f8 f9 f10 f11 f12 f13 f14 f15 f16 f17 f18 f19 f20 f21 f22 f23 f24 f25 f26 f27 f28 f29 f30 f31 f32 f33 f34 f35 f36 f37 f38 f39 f40 f41 f42 f43 f44 f45 f46 f47 f48 f49 f50 f51 f52 f53 f54 f55 f56 f57 f58 f59 f60 f61 f62 f63 f64 f65 f66 f67 f68 f69 f70 f71 f72 f73 f74 f75 f76 : Addr} {d0 d1 d2 d3 d4 d5 d6 d7 d8 d9 d10 d11 d12 d13 d14 d15 d16 d17 d18 d19 d20 d21 d22 d23 d24 d25 d26 d27 d28 d29 d30 d31 d32 d33 d34 d35 d36 d37 d38 d39 d40 d41 d42 d43 d44 d45 d46 d47 d48 d49 d50 d51 d52 d53 d54 d55 d56 d57 d58 d59 d60 d61 d62 d63 d64 d65 d66 d67 d68 d69 d70 d71 d72 d73 d74 d75 d76 : FuncData}
    (KX : K.In s.heap) (hns : s.heap.Ns mainGlobals mg) (hb : s.heap.Ns builtinsNs mb) (hbb : ∀ x : Str, x ≠ "__name__" → mb x = bootBuiltins x) (lim : s.heap.NoLimit) (hg : s.gens = #[])
    (ha : s.heap.get? a = some { cls := .type "list", data := .seq vs.toArray }) (hi : IntsAre vs ns) (hl : ns.length ≤ 63)
    (W : Wrt K w mg) (B : Blt mg) (Wc : WrtC K mg) (Wd : WrtD K mg) (Wr : WrW mg) (BW : BltW mg) (Wx : WrX mg)
    (F0 : Fun K "name_length" "name_length" sNl f0 d0) (g0 : mg "name_length" = some (.ref f0))
    (F1 : Fun K "is_name" "is_name" sNn f1 d1) (g1 : mg "is_name" = some (.ref f1))
    (F2 : Fun K "is_place" "is_place" sIp f2 d2) (g2 : mg "is_place" = some (.ref f2))
    (F3 : Fun K "is_bare" "is_bare" sIb f3 d3) (g3 : mg "is_bare" = some (.ref f3))
    (F4 : Fun K "begins_set" "begins_set" sBs f4 d4) (g4 : mg "begins_set" = some (.ref f4))
    (F5 : Fun K "may_be_made" "may_be_made" sMb f5 d5) (g5 : mg "may_be_made" = some (.ref f5))
    (F6 : Fun K "is_sum" "is_sum" sIs f6 d6) (g6 : mg "is_sum" = some (.ref f6))
    (F7 : Fun K "is_shown_as_size" "is_shown_as_size" sSz f7 d7) (g7 : mg "is_shown_as_size" = some (.ref f7))
    (F8 : Fun K "has_neighbours" "has_neighbours" sHn f8 d8) (g8 : mg "has_neighbours" = some (.ref f8))
    (F9 : Fun K "is_piece" "is_piece" sPc f9 d9) (g9 : mg "is_piece" = some (.ref f9))
    (F10 : Fun K "is_wide_piece" "is_wide_piece" sWp f10 d10) (g10 : mg "is_wide_piece" = some (.ref f10))
    (F11 : Fun K "is_dollar" "is_dollar" sDl f11 d11) (g11 : mg "is_dollar" = some (.ref f11))
    (F12 : Fun K "is_deed_on" "is_deed_on" sDd f12 d12) (g12 : mg "is_deed_on" = some (.ref f12))
    (F13 : Fun K "are_wide" "are_wide" sAw f13 d13) (g13 : mg "are_wide" = some (.ref f13))
    (F14 : Fun K "are_pieces" "are_pieces" sAp f14 d14) (g14 : mg "are_pieces" = some (.ref f14))
    (F15 : Fun K "is_full_word" "is_full_word" sFw f15 d15) (g15 : mg "is_full_word" = some (.ref f15))
    (F16 : Fun K "is_key_word" "is_key_word" sKw f16 d16) (g16 : mg "is_key_word" = some (.ref f16))
    (F17 : Fun K "is_first_word" "is_first_word" sFi f17 d17) (g17 : mg "is_first_word" = some (.ref f17))
    (F18 : Fun K "are_words" "are_words" sAws f18 d18) (g18 : mg "are_words" = some (.ref f18))
    (F19 : Fun K "is_turn" "is_turn" sTu f19 d19) (g19 : mg "is_turn" = some (.ref f19))
    (F20 : Fun K "are_turns" "are_turns" sAt f20 d20) (g20 : mg "are_turns" = some (.ref f20))
    (F21 : Fun K "is_do" "is_do" sDo f21 d21) (g21 : mg "is_do" = some (.ref f21))
    (F22 : Fun K "are_if_arms" "are_if_arms" sIa f22 d22) (g22 : mg "are_if_arms" = some (.ref f22))
    (F23 : Fun K "is_arm_head" "is_arm_head" sAh f23 d23) (g23 : mg "is_arm_head" = some (.ref f23))
    (F24 : Fun K "are_case_arms" "are_case_arms" sCa f24 d24) (g24 : mg "are_case_arms" = some (.ref f24))
    (F25 : Fun K "is_block" "is_block" sBk f25 d25) (g25 : mg "is_block" = some (.ref f25))
    (F26 : Fun K "is_command" "is_command" sCm f26 d26) (g26 : mg "is_command" = some (.ref f26))
    (F27 : Fun K "scripts_in_word" "scripts_in_word" sSw f27 d27) (g27 : mg "scripts_in_word" = some (.ref f27))
    (F28 : Fun K "commands_in_word" "commands_in_word" sCiw f28 d28) (g28 : mg "commands_in_word" = some (.ref f28))
    (F29 : Fun K "all_at" "all_at" sAa f29 d29) (g29 : mg "all_at" = some (.ref f29))
    (F30 : Fun K "turn_words" "turn_words" sTw f30 d30) (g30 : mg "turn_words" = some (.ref f30))
    (F31 : Fun K "if_arms" "if_arms" sIfa f31 d31) (g31 : mg "if_arms" = some (.ref f31))
    (F32 : Fun K "case_arms" "case_arms" sCaa f32 d32) (g32 : mg "case_arms" = some (.ref f32))
    (F33 : Fun K "block_parts" "block_parts" sBp f33 d33) (g33 : mg "block_parts" = some (.ref f33))
    (F34 : Fun K "parts_of" "parts_of" sPo f34 d34) (g34 : mg "parts_of" = some (.ref f34))
    (F35 : Fun K "commands_within" "commands_within" sCin f35 d35) (g35 : mg "commands_within" = some (.ref f35))
    (F36 : Fun K "first_wrong_in" "first_wrong_in" sFwi f36 d36) (g36 : mg "first_wrong_in" = some (.ref f36))
    (F37 : Fun K "first_wrong" "first_wrong" sFwr f37 d37) (g37 : mg "first_wrong" = some (.ref f37))
    (F38 : Fun K "is_script" "is_script" sIsc f38 d38) (g38 : mg "is_script" = some (.ref f38))
    (F39 : Fun K "is_path" "is_path" sIpa f39 d39) (g39 : mg "is_path" = some (.ref f39))
    (F40 : Fun K "parent_of" "parent_of" sPao f40 d40) (g40 : mg "parent_of" = some (.ref f40))
    (F41 : Fun K "is_folder" "is_folder" sIfo f41 d41) (g41 : mg "is_folder" = some (.ref f41))
    (F42 : Fun K "path_said" "path_said" sPsa f42 d42) (g42 : mg "path_said" = some (.ref f42))
    (F43 : Fun K "are_names" "are_names" sAns f43 d43) (g43 : mg "are_names" = some (.ref f43))
    (F44 : Fun K "is_status" "is_status" sIst f44 d44) (g44 : mg "is_status" = some (.ref f44))
    (F45 : Fun K "is_world" "is_world" sIwo f45 d45) (g45 : mg "is_world" = some (.ref f45))
    (F46 : Fun K "check_world" "check_world" sCkw f46 d46) (g46 : mg "check_world" = some (.ref f46))
    (F47 : Fun K "is_integer" "is_integer" sIi f47 d47) (g47 : mg "is_integer" = some (.ref f47))
    (F48 : Fun K "is_less" "is_less" sIls f48 d48) (g48 : mg "is_less" = some (.ref f48))
    (F49 : Fun K "truth_of_two" "truth_of_two" sTrw f49 d49) (g49 : mg "truth_of_two" = some (.ref f49))
    (F50 : Fun K "truth_of_text" "truth_of_text" sTrx f50 d50) (g50 : mg "truth_of_text" = some (.ref f50))
    (F51 : Fun K "truth_of" "truth_of" sTro f51 d51) (g51 : mg "truth_of" = some (.ref f51))
    (F52 : Fun K "test_status" "test_status" sTss f52 d52) (g52 : mg "test_status" = some (.ref f52))
    (F53 : Fun K "tested" "tested" sTst f53 d53) (g53 : mg "tested" = some (.ref f53))
    (F54 : Fun K "_law_cell" "_law_cell" sCe f54 d54) (g54 : mg "_law_cell" = some (.ref f54))
    (F55 : Fun K "_law_deck" "_law_deck" sDe f55 d55) (g55 : mg "_law_deck" = some (.ref f55))
    (F56 : Fun K "_law_draw" "_law_draw" sDr f56 d56) (g56 : mg "_law_draw" = some (.ref f56))
    (F57 : Fun K "_law_signs" "_law_signs" sSi f57 d57) (g57 : mg "_law_signs" = some (.ref f57))
    (F58 : Fun K "_law_text" "_law_text" sTx f58 d58) (g58 : mg "_law_text" = some (.ref f58))
    (F59 : Fun K "_law_part" "_law_part" sPr f59 d59) (g59 : mg "_law_part" = some (.ref f59))
    (F60 : Fun K "_law_joined" "_law_joined" sJo f60 d60) (g60 : mg "_law_joined" = some (.ref f60))
    (F61 : Fun K "_law_folders" "_law_folders" sFo f61 d61) (g61 : mg "_law_folders" = some (.ref f61))
    (F62 : Fun K "_law_files" "_law_files" sFs f62 d62) (g62 : mg "_law_files" = some (.ref f62))
    (F63 : Fun K "_law_name" "_law_name" sNa f63 d63) (g63 : mg "_law_name" = some (.ref f63))
    (F64 : Fun K "_law_function" "_law_function" sFu f64 d64) (g64 : mg "_law_function" = some (.ref f64))
    (F65 : Fun K "_law_world" "_law_world" sWo f65 d65) (g65 : mg "_law_world" = some (.ref f65))
    (F66 : Fun K "_law_same" "_law_same" sSm f66 d66) (g66 : mg "_law_same" = some (.ref f66))
    (F67 : Fun K "_law_is_folder" "_law_is_folder" sLif f67 d67) (g67 : mg "_law_is_folder" = some (.ref f67))
    (F68 : Fun K "_law_number" "_law_number" sLnu f68 d68) (g68 : mg "_law_number" = some (.ref f68))
    (F69 : Fun K "_law_place" "_law_place" sLpl f69 d69) (g69 : mg "_law_place" = some (.ref f69))
    (F70 : Fun K "_law_fields" "_law_fields" sLfi f70 d70) (g70 : mg "_law_fields" = some (.ref f70))
    (F71 : Fun K "_law_is_whole" "_law_is_whole" sLiw f71 d71) (g71 : mg "_law_is_whole" = some (.ref f71))
    (F72 : Fun K "_law_path" "_law_path" sLpt f72 d72) (g72 : mg "_law_path" = some (.ref f72))
    (F73 : Fun K "_law_number_truth" "_law_number_truth" sLnt f73 d73) (g73 : mg "_law_number_truth" = some (.ref f73))
    (F74 : Fun K "_law_truth" "_law_truth" sLtr f74 d74) (g74 : mg "_law_truth" = some (.ref f74))
    (F75 : Fun K "_law_due" "_law_due" sLdu f75 d75) (g75 : mg "_law_due" = some (.ref f75))
    (F76 : Fun K "law" "law" sLw f76 d76) (g76 : mg "law" = some (.ref f76))
    (hfa : mg "law" = some (.ref fa)) : codeAny (model P w) callerA (.call (.ref fa) ⟨[.ref a], []⟩) (fun r s' => r = .ok (.ret (.bool true)) ∧ OldK s.heap s'.heap ∧ s'.os = s.os ∧ AllBare s'.gens) s := by
  have e := hfa.symm.trans g76
  cases e
  have b0 := F0.binds (ps := ["text"]) fun _ _ _ _ _ _ us hl => match us, hl with | [_], _ => rfl
  have b1 := F1.binds (ps := ["text"]) fun _ _ _ _ _ _ us hl => match us, hl with | [_], _ => rfl
  have b2 := F2.binds (ps := ["text"]) fun _ _ _ _ _ _ us hl => match us, hl with | [_], _ => rfl
  have b3 := F3.binds (ps := ["text"]) fun _ _ _ _ _ _ us hl => match us, hl with | [_], _ => rfl
  have b4 := F4.binds (ps := ["text"]) fun _ _ _ _ _ _ us hl => match us, hl with | [_], _ => rfl
  have b5 := F5.binds (ps := ["name"]) fun _ _ _ _ _ _ us hl => match us, hl with | [_], _ => rfl
  have b6 := F6.binds (ps := ["tree"]) fun _ _ _ _ _ _ us hl => match us, hl with | [_], _ => rfl
  have b7 := F7.binds (ps := ["name", "deed"]) fun _ _ _ _ _ _ us hl => match us, hl with | [_, _], _ => rfl
  have b8 := F8.binds (ps := ["pieces", "kind"]) fun _ _ _ _ _ _ us hl => match us, hl with | [_, _], _ => rfl
  have b9 := F9.binds (ps := ["piece"]) fun _ _ _ _ _ _ us hl => match us, hl with | [_], _ => rfl
  have b10 := F10.binds (ps := ["piece"]) fun _ _ _ _ _ _ us hl => match us, hl with | [_], _ => rfl
  have b11 := F11.binds (ps := ["piece"]) fun _ _ _ _ _ _ us hl => match us, hl with | [_], _ => rfl
  have b12 := F12.binds (ps := ["name", "deed"]) fun _ _ _ _ _ _ us hl => match us, hl with | [_, _], _ => rfl
  have b13 := F13.binds (ps := ["pieces"]) fun _ _ _ _ _ _ us hl => match us, hl with | [_], _ => rfl
  have b14 := F14.binds (ps := ["pieces"]) fun _ _ _ _ _ _ us hl => match us, hl with | [_], _ => rfl
  have b15 := F15.binds (ps := ["word"]) fun _ _ _ _ _ _ us hl => match us, hl with | [_], _ => rfl
  have b16 := F16.binds (ps := ["word"]) fun _ _ _ _ _ _ us hl => match us, hl with | [_], _ => rfl
  have b17 := F17.binds (ps := ["word", "sets"]) fun _ _ _ _ _ _ us hl => match us, hl with | [_, _], _ => rfl
  have b18 := F18.binds (ps := ["words"]) fun _ _ _ _ _ _ us hl => match us, hl with | [_], _ => rfl
  have b19 := F19.binds (ps := ["number", "mark", "word"]) fun _ _ _ _ _ _ us hl => match us, hl with | [_, _, _], _ => rfl
  have b20 := F20.binds (ps := ["turns"]) fun _ _ _ _ _ _ us hl => match us, hl with | [_], _ => rfl
  have b21 := F21.binds (ps := ["sets", "words", "turns"]) fun _ _ _ _ _ _ us hl => match us, hl with | [_, _, _], _ => rfl
  have b22 := F22.binds (ps := ["arms"]) fun _ _ _ _ _ _ us hl => match us, hl with | [_], _ => rfl
  have b23 := F23.binds (ps := ["words"]) fun _ _ _ _ _ _ us hl => match us, hl with | [_], _ => rfl
  have b24 := F24.binds (ps := ["arms"]) fun _ _ _ _ _ _ us hl => match us, hl with | [_], _ => rfl
  have b25 := F25.binds (ps := ["command"]) fun _ _ _ _ _ _ us hl => match us, hl with | [_], _ => rfl
  have b26 := F26.binds (ps := ["command"]) fun _ _ _ _ _ _ us hl => match us, hl with | [_], _ => rfl
  have b27 := F27.binds (ps := ["pieces"]) fun _ _ _ _ _ _ us hl => match us, hl with | [_], _ => rfl
  have b28 := F28.binds (ps := ["word"]) fun _ _ _ _ _ _ us hl => match us, hl with | [_], _ => rfl
  have b29 := F29.binds (ps := ["path", "kind", "parts"]) fun _ _ _ _ _ _ us hl => match us, hl with | [_, _, _], _ => rfl
  have b30 := F30.binds (ps := ["index", "turns"]) fun _ _ _ _ _ _ us hl => match us, hl with | [_, _], _ => rfl
  have b31 := F31.binds (ps := ["arms"]) fun _ _ _ _ _ _ us hl => match us, hl with | [_], _ => rfl
  have b32 := F32.binds (ps := ["arms"]) fun _ _ _ _ _ _ us hl => match us, hl with | [_], _ => rfl
  have b33 := F33.binds (ps := ["command"]) fun _ _ _ _ _ _ us hl => match us, hl with | [_], _ => rfl
  have b34 := F34.binds (ps := ["command"]) fun _ _ _ _ _ _ us hl => match us, hl with | [_], _ => rfl
  have b35 := F35.binds (ps := ["command"]) fun _ _ _ _ _ _ us hl => match us, hl with | [_], _ => rfl
  have b36 := F36.binds (ps := ["commands"]) fun _ _ _ _ _ _ us hl => match us, hl with | [_], _ => rfl
  have b37 := F37.binds (ps := ["script"]) fun _ _ _ _ _ _ us hl => match us, hl with | [_], _ => rfl
  have b38 := F38.binds (ps := ["tree"]) fun _ _ _ _ _ _ us hl => match us, hl with | [_], _ => rfl
  have b39 := F39.binds (ps := ["path"]) fun _ _ _ _ _ _ us hl => match us, hl with | [_], _ => rfl
  have b40 := F40.binds (ps := ["path"]) fun _ _ _ _ _ _ us hl => match us, hl with | [_], _ => rfl
  have b41 := F41.binds (ps := ["files", "path"]) fun _ _ _ _ _ _ us hl => match us, hl with | [_, _], _ => rfl
  have b42 := F42.binds (ps := ["folder", "text"]) fun _ _ _ _ _ _ us hl => match us, hl with | [_, _], _ => rfl
  have b43 := F43.binds (ps := ["names"]) fun _ _ _ _ _ _ us hl => match us, hl with | [_], _ => rfl
  have b44 := F44.binds (ps := ["status"]) fun _ _ _ _ _ _ us hl => match us, hl with | [_], _ => rfl
  have b45 := F45.binds (ps := ["world"]) fun _ _ _ _ _ _ us hl => match us, hl with | [_], _ => rfl
  have b46 := F46.binds (ps := ["world"]) fun _ _ _ _ _ _ us hl => match us, hl with | [_], _ => rfl
  have b47 := F47.binds (ps := ["text"]) fun _ _ _ _ _ _ us hl => match us, hl with | [_], _ => rfl
  have b48 := F48.binds (ps := ["one", "other"]) fun _ _ _ _ _ _ us hl => match us, hl with | [_, _], _ => rfl
  have b49 := F49.binds (ps := ["one", "sign", "other"]) fun _ _ _ _ _ _ us hl => match us, hl with | [_, _, _], _ => rfl
  have b50 := F50.binds (ps := ["sign", "text", "world"]) fun _ _ _ _ _ _ us hl => match us, hl with | [_, _, _], _ => rfl
  have b51 := F51.binds (ps := ["fields", "world"]) fun _ _ _ _ _ _ us hl => match us, hl with | [_, _], _ => rfl
  have b52 := F52.binds (ps := ["fields", "world"]) fun _ _ _ _ _ _ us hl => match us, hl with | [_, _], _ => rfl
  have b53 := F53.binds (ps := ["fields", "world"]) fun _ _ _ _ _ _ us hl => match us, hl with | [_, _], _ => rfl
  have b54 := F54.binds (ps := ["_law_script", "_law_at"]) fun _ _ _ _ _ _ us hl => match us, hl with | [_, _], _ => rfl
  have b55 := F55.binds (ps := ["_law_cell_here"]) fun _ _ _ _ _ _ us hl => match us, hl with | [_], _ => rfl
  have b56 := F56.binds (ps := ["_law_deck_here", "_law_many"]) fun _ _ _ _ _ _ us hl => match us, hl with | [_, _], _ => rfl
  have b57 := F57.binds (ps := []) fun _ _ _ _ _ _ us hl => match us, hl with | [], _ => rfl
  have b58 := F58.binds (ps := ["_law_deck_here", "_law_most"]) fun _ _ _ _ _ _ us hl => match us, hl with | [_, _], _ => rfl
  have b59 := F59.binds (ps := ["_law_deck_here"]) fun _ _ _ _ _ _ us hl => match us, hl with | [_], _ => rfl
  have b60 := F60.binds (ps := ["_law_folder", "_law_part_here"]) fun _ _ _ _ _ _ us hl => match us, hl with | [_, _], _ => rfl
  have b61 := F61.binds (ps := ["_law_files_here"]) fun _ _ _ _ _ _ us hl => match us, hl with | [_], _ => rfl
  have b62 := F62.binds (ps := ["_law_deck_here", "_law_most"]) fun _ _ _ _ _ _ us hl => match us, hl with | [_, _], _ => rfl
  have b63 := F63.binds (ps := ["_law_deck_here"]) fun _ _ _ _ _ _ us hl => match us, hl with | [_], _ => rfl
  have b64 := F64.binds (ps := ["_law_deck_here"]) fun _ _ _ _ _ _ us hl => match us, hl with | [_], _ => rfl
  have b65 := F65.binds (ps := ["_law_deck_here", "_law_most"]) fun _ _ _ _ _ _ us hl => match us, hl with | [_, _], _ => rfl
  have b66 := F66.binds (ps := ["_law_found", "_law_due_here"]) fun _ _ _ _ _ _ us hl => match us, hl with | [_, _], _ => rfl
  have b67 := F67.binds (ps := ["_law_files_here", "_law_path_here"]) fun _ _ _ _ _ _ us hl => match us, hl with | [_, _], _ => rfl
  have b68 := F68.binds (ps := ["_law_deck_here"]) fun _ _ _ _ _ _ us hl => match us, hl with | [_], _ => rfl
  have b69 := F69.binds (ps := ["_law_deck_here", "_law_files_here"]) fun _ _ _ _ _ _ us hl => match us, hl with | [_, _], _ => rfl
  have b70 := F70.binds (ps := ["_law_deck_here", "_law_files_here"]) fun _ _ _ _ _ _ us hl => match us, hl with | [_, _], _ => rfl
  have b71 := F71.binds (ps := ["_law_line"]) fun _ _ _ _ _ _ us hl => match us, hl with | [_], _ => rfl
  have b72 := F72.binds (ps := ["_law_folder", "_law_line"]) fun _ _ _ _ _ _ us hl => match us, hl with | [_, _], _ => rfl
  have b73 := F73.binds (ps := ["_law_one", "_law_sign", "_law_other"]) fun _ _ _ _ _ _ us hl => match us, hl with | [_, _, _], _ => rfl
  have b74 := F74.binds (ps := ["_law_fields_here", "_law_world_here"]) fun _ _ _ _ _ _ us hl => match us, hl with | [_, _], _ => rfl
  have b75 := F75.binds (ps := ["_law_fields_here", "_law_world_here"]) fun _ _ _ _ _ _ us hl => match us, hl with | [_, _], _ => rfl
  have kb53 : KBinds K d53 ["fields", "world"] ["world", "fields"] revG revG := by
    obtain ⟨oc, od, kV, doc, pm, an, cdv, ct, osl, rfl, lk, hcd⟩ := F53.ex
    refine ⟨fun s us ws _ hl => ?_, fun r rz => revG_rel r rz⟩
    match us, ws, hl with
    | [], [x, y], _ => exact .of_eq rfl
    | u :: us, ws, h => exact absurd (show 0 = 2 from h) (by decide)
    | [], x :: y :: z :: ws, h => exact absurd (show (x :: y :: z :: ws).reverse.length = 2 from h) (by simp)
    | [], [x], h => exact absurd (show 1 = 2 from h) (by decide)
    | [], [], h => exact absurd (show 0 = 2 from h) (by decide)
  have bL : ∀ (s : Shared) (u : Value), BindsTo s d76 ⟨[u], []⟩ ((["_law_script"] : List Str).zip [u]) := by
    obtain ⟨oc, od, kV, doc, pm, an, cdv, ct, osl, rfl, lk, hcd⟩ := F76.ex
    exact fun s u => .of_eq rfl
  refine law_at KX hns hb hbb lim hg ha hi (Nat.le_trans hl (by decide)) fun base H hK hN env sq => ?_
  have oNl := has_Nl (P := P) (w := w) (base := base)  F0 g0 B W
  have oNn := has_Nn (P := P) (w := w) (base := base)  F1 g1 B oNl
  have oIp := has_Ip (P := P) (w := w) (base := base)  F2 g2 B W
  have oIb := has_Ib (P := P) (w := w) (base := base)  F3 g3 B W
  have oBs := has_Bs (P := P) (w := w) (base := base)  F4 g4 B oNl
  have oMb := has_Mb (P := P) (w := w) (base := base)  F5 g5 W Wd oNn
  have oIs : Has P w K mg base 18 "is_sum" ["tree"] (spIsT K 15) := ⟨f6, d6, g6, F6.kp, b6, ok_IsT (P := P) (w := w) (base := base) F6 g6 b6 B W oIp oNn 15⟩
  have oSz := has_Sz (P := P) (w := w) (base := base)  F7 g7 B
  have oHn := has_Hn (P := P) (w := w) (base := base)  F8 g8 B
  have hWs := ok_words (P := P) (w := w) (base := base) (CR := CRg CmU) F14 g14 F13 g13 F9 g9 F10 g10 F11 g11 F12 g12 B W oSz oHn oIb oIp oNn oIs
  have oAp : Has P w K mg base 40 "are_pieces" ["pieces"] (spWs K (CRg CmU) 5 false) := (hWs 5 (by decide)).1
  have oFw := has_Fw (P := P) (w := w) (base := base) (C := CmU)  F15 g15 B oAp
  have oKw := has_Kw (P := P) (w := w) (base := base) (C := CmU)  F16 g16 B W
  have oFi := has_Fi (P := P) (w := w) (base := base) (C := CmU)  F17 g17 B oKw oBs
  have oAws := has_Aws (P := P) (w := w) (base := base) (C := CmU)  F18 g18 B oFw
  have oTu := has_Tu (P := P) (w := w) (base := base) (C := CmU)  F19 g19 B oFw Wc
  have oAt := has_At (P := P) (w := w) (base := base) (C := CmU)  F20 g20 B oTu
  have oDo := has_Do (P := P) (w := w) (base := base) (C := CmU)  F21 g21 B oAp oNn oAt oAws oFi
  have oIa := has_Ia (P := P) (w := w) (base := base) (C := CmU)  F22 g22 B
  have oAh := has_Ah (P := P) (w := w) (base := base) (C := CmU)  F23 g23 B oAws
  have oCa := has_Ca (P := P) (w := w) (base := base) (C := CmU)  F24 g24 B oAh
  have oBk := has_Bk (P := P) (w := w) (base := base) (C := CmU)  F25 g25 B oAt oIa oAws oNn oCa oFw
  have oCm := has_Cm (P := P) (w := w) (base := base) (C := CmU) cu_hd F26 g26 B Wd oDo oMb oBk
  have hSw := ok_scr (P := P) (w := w) (base := base) (CR := CRg CmU) F27 g27 B
  have oCiw := has_Ciw (P := P) (w := w) (base := base) (n := 5) (by decide) F28 g28 B (hSw 5 (by decide))
  have oAa := has_Aa (P := P) (w := w) (base := base)  F29 g29 B
  have oTw := has_Tw (P := P) (w := w) (base := base)  F30 g30 B
  have oIfa := has_Ifa (P := P) (w := w) (base := base)  F31 g31 B oAa
  have oCaa := has_Caa (P := P) (w := w) (base := base)  F32 g32 B oAa
  have oBp := has_Bp (P := P) (w := w) (base := base) (C := CmU)  F33 g33 B oAa oTw oIfa oCaa
  have oPo := has_Po (P := P) (w := w) (base := base) (C := CmU) cu_hd F34 g34 B oAa oTw oBp
  have oCin := has_Cin (P := P) (w := w) (base := base) (C := CmU) cu_hd F35 g35 B oPo oCiw
  have oFwi := has_Fwi (P := P) (w := w) (base := base)  F36 g36 B oCm oCin
  have oFwr := has_Fwr (P := P) (w := w) (base := base)  F37 g37 B oFwi
  have oIsc := has_Isc (P := P) (w := w) (base := base)  F38 g38 B oFwr
  have oIpa := has_Ipa (P := P) (w := w) (base := base)  F39 g39 B
  have oPao := has_Pao (P := P) (w := w) (base := base)  F40 g40 B Wr
  have oIfo := has_Ifo (P := P) (w := w) (base := base)  F41 g41 B Wr
  have oPsa := has_Psa (P := P) (w := w) (base := base)  F42 g42 B Wr
  have oAns := has_Ans (P := P) (w := w) (base := base)  F43 g43 B oNn
  have oIst := has_Ist (P := P) (w := w) (base := base)  F44 g44 B Wr
  have oIwo := has_Iwo (P := P) (w := w) (base := base)  F45 g45 B oIfo oPao oIpa oIst oAns oIsc
  have oCkw := has_Ckw (P := P) (w := w) (base := base)  F46 g46 B oIwo
  have oIi := has_Ii (P := P) (w := w) (base := base)  F47 g47 B W
  have oIlF := has_IlF (P := P) (w := w) (base := base) F48 g48 B
  have oIls := has_Ils (P := P) (w := w) (base := base) F48 g48 B oIlF
  have oTrw := has_Trw (P := P) (w := w) (base := base)  F49 g49 B oIi oIls
  have oTrx := has_Trx (P := P) (w := w) (base := base)  F50 g50 B oPsa oIfo
  have oTro := has_Tro (P := P) (w := w) (base := base)  F51 g51 B oTrx oTrw
  have oTss := has_Tss (P := P) (w := w) (base := base)  F52 g52 B Wx oTro
  have oTst : HasR P w K mg base 52 "tested" ["fields", "world"] (spTss K) := ⟨f53, d53, g53, F53.kp, b53, kb53, ok_Tst (P := P) (w := w) (base := base) F53 g53 B oCkw oTss⟩
  have oCe := has_Ce (P := P) (w := w) (base := base)  F54 g54 B
  have oDe := has_De (P := P) (w := w) (base := base)  F55 g55 B
  have oDr := has_Dr (P := P) (w := w) (base := base)  F56 g56 B
  have oSi := has_Si (P := P) (w := w) (base := base)  F57 g57 B
  have oTx := has_Tx (P := P) (w := w) (base := base)  F58 g58 B oDr oSi
  have oPr := has_Pr (P := P) (w := w) (base := base)  F59 g59 B oDr oSi
  have oJo := has_Jo (P := P) (w := w) (base := base)  F60 g60 B
  have oFo := has_Fo (P := P) (w := w) (base := base)  F61 g61 B BW
  have oFs := has_Fs (P := P) (w := w) (base := base)  F62 g62 B oDr oFo oJo oPr oTx
  have oNa := has_Na (P := P) (w := w) (base := base)  F63 g63 B oDr
  have oFu := has_Fu (P := P) (w := w) (base := base)  F64 g64 B oDr
  have oWo := has_Wo (P := P) (w := w) (base := base)  F65 g65 B oFs oFo oDr oNa oTx oFu
  have oSm : Has P w K mg base 17 "_law_same" ["_law_found", "_law_due_here"] (spSm K 16) := ⟨f66, d66, g66, F66.kp, b66, ok_Sm (P := P) (w := w) (base := base) F66 g66 b66 B 16⟩
  have oLif := has_Lif (P := P) (w := w) (base := base)  F67 g67 B
  have oLnu := has_Lnu (P := P) (w := w) (base := base)  F68 g68 B oDr
  have oLpl := has_Lpl (P := P) (w := w) (base := base)  F69 g69 B BW oPr oDr
  have oLfi := has_Lfi (P := P) (w := w) (base := base)  F70 g70 B oDr oTx oLpl oLnu
  have oLiw := has_Liw (P := P) (w := w) (base := base)  F71 g71 B
  have oLpt := has_Lpt (P := P) (w := w) (base := base)  F72 g72 B
  have oLnt := has_Lnt (P := P) (w := w) (base := base)  F73 g73 B oLiw
  have oLtr := has_Ltr (P := P) (w := w) (base := base)  F74 g74 B oLnt oLpt oLif
  have oLdu := has_Ldu (P := P) (w := w) (base := base)  F75 g75 B oLtr
  have oLw := has_Lw (P := P) (w := w) (base := base)  F76 g76 B oWo oDe oCe oLfi oLdu oSm oTst
  have hr : Room 55 callerA := ⟨rfl, by decide, by decide⟩
  obtain ⟨f', d', g', _, b', GL⟩ := oLw
  have ef : f' = fa := Value.ref.inj (Option.some.inj (g'.symm.trans g76))
  subst ef
  refine GL.run callerA [] s H ⟨[.ref a], []⟩ [.ref a] [.ref a] (fun v _ => v = V.bl true) E0 hr env ?_ (.cons rfl .nil) ⟨a, ns, rfl, sq, hl, fun _ => rfl⟩
  exact b' s [.ref a] KX rfl
end Qb
end PySem
open PySem PySem.W PyProof.Rows
set_option maxRecDepth 100000 in
set_option maxHeartbeats 0 in
theorem PySem.Challenge.cw_quotedback_k51_test_answers_holds : PySem.Challenge.rw_quotedback_k51_test_answers.Holds := by
  w_on; o_law; k_head; (case hw => w_witness2)
  k_fill
  refine Att.attach_call (l := PySem.Challenge.rw_quotedback_k51_test_answers) (n := 63) rfl rfl ?F
  case F =>
    intro w s₀ s₁ mg mb fa o pm cd doc a vs ns G Y ho hd hcd hmg hobj hints hlen hg
    have KX := kIn_of Y
    refine' PySem.Qb.law_holds KX G.T.g G.T.b G.T.builtins G.T.nolimit hg hobj hints hlen
      ⟨PySem.Qb.glob_mk KX G.T.g ?s0 ?e0, PySem.Qb.glob_mk KX G.T.g ?s1 ?e1, PySem.Qb.glob_mk KX G.T.g ?s2 ?e2, PySem.Qb.glob_mk KX G.T.g ?s3 ?e3, PySem.Qb.tup_mk KX G.T.g ?tapls ?tlpls ?tzpls ?tvpls, PySem.Qb.tup_mk KX G.T.g ?taalls ?tlalls ?tzalls ?tvalls, PySem.Qb.tup_mk KX G.T.g ?takws ?tlkws ?tzkws ?tvkws, PySem.Qb.tup_mk KX G.T.g ?tacuts ?tlcuts ?tzcuts ?tvcuts, PySem.Qb.rks_mk KX G.T.g ?ra ?rl ?re ?rlow⟩
      ⟨mg_none_of KX G.T.g ?y0, mg_none_of KX G.T.g ?y1, mg_none_of KX G.T.g ?y2, mg_none_of KX G.T.g ?y3, mg_none_of KX G.T.g ?y4, mg_none_of KX G.T.g ?y5, mg_none_of KX G.T.g ?y6, mg_none_of KX G.T.g ?y7, mg_none_of KX G.T.g ?y8, mg_none_of KX G.T.g ?y9, mg_none_of KX G.T.g ?y10, mg_none_of KX G.T.g ?y11, mg_none_of KX G.T.g ?y12, mg_none_of KX G.T.g ?y13, mg_none_of KX G.T.g ?y14, mg_none_of KX G.T.g ?y15, mg_none_of KX G.T.g ?y16, mg_none_of KX G.T.g ?y17, mg_none_of KX G.T.g ?y18, mg_none_of KX G.T.g ?y19⟩
      ⟨PySem.Qb.tup_mk KX G.T.g ?tapms ?tlpms ?tzpms ?tvpms, PySem.Qb.sms_mk KX G.T.g ?tasms ?tlsms ?tzsms ?tvsms⟩
      ⟨PySem.Qb.tup_mk KX G.T.g ?tades ?tldes ?tzdes ?tvdes, PySem.Qb.tup_mk KX G.T.g ?tatos ?tltos ?tztos ?tvtos, PySem.Qb.tup_mk KX G.T.g ?tabds ?tlbds ?tzbds ?tvbds, PySem.Qb.tup_mk KX G.T.g ?tands ?tlnds ?tznds ?tvnds, PySem.Qb.tup_mk KX G.T.g ?tants ?tlnts ?tznts ?tvnts, PySem.Qb.tup_mk KX G.T.g ?talts ?tllts ?tzlts ?tvlts⟩
      ⟨PySem.Qb.glob_mk KX G.T.g ?s4 ?e4, PySem.Qb.glob_mkI KX G.T.g ?s5 ?e5⟩
      ⟨mg_none_of KX G.T.g ?y20⟩
      ⟨PySem.Qb.glob_mkI KX G.T.g ?s6 ?e6⟩
      (L2.fun_mk ?lf0 ?cf0 ?kf0) (mg_of KX G.T.g ?af0)
      (L2.fun_mk ?lf1 ?cf1 ?kf1) (mg_of KX G.T.g ?af1)
      (L2.fun_mk ?lf2 ?cf2 ?kf2) (mg_of KX G.T.g ?af2)
      (L2.fun_mk ?lf3 ?cf3 ?kf3) (mg_of KX G.T.g ?af3)
      (L2.fun_mk ?lf4 ?cf4 ?kf4) (mg_of KX G.T.g ?af4)
      (L2.fun_mk ?lf5 ?cf5 ?kf5) (mg_of KX G.T.g ?af5)
      (L2.fun_mk ?lf6 ?cf6 ?kf6) (mg_of KX G.T.g ?af6)
      (L2.fun_mk ?lf7 ?cf7 ?kf7) (mg_of KX G.T.g ?af7)
      (L2.fun_mk ?lf8 ?cf8 ?kf8) (mg_of KX G.T.g ?af8)
      (L2.fun_mk ?lf9 ?cf9 ?kf9) (mg_of KX G.T.g ?af9)
      (L2.fun_mk ?lf10 ?cf10 ?kf10) (mg_of KX G.T.g ?af10)
      (L2.fun_mk ?lf11 ?cf11 ?kf11) (mg_of KX G.T.g ?af11)
      (L2.fun_mk ?lf12 ?cf12 ?kf12) (mg_of KX G.T.g ?af12)
      (L2.fun_mk ?lf13 ?cf13 ?kf13) (mg_of KX G.T.g ?af13)
      (L2.fun_mk ?lf14 ?cf14 ?kf14) (mg_of KX G.T.g ?af14)
      (L2.fun_mk ?lf15 ?cf15 ?kf15) (mg_of KX G.T.g ?af15)
      (L2.fun_mk ?lf16 ?cf16 ?kf16) (mg_of KX G.T.g ?af16)
      (L2.fun_mk ?lf17 ?cf17 ?kf17) (mg_of KX G.T.g ?af17)
      (L2.fun_mk ?lf18 ?cf18 ?kf18) (mg_of KX G.T.g ?af18)
      (L2.fun_mk ?lf19 ?cf19 ?kf19) (mg_of KX G.T.g ?af19)
      (L2.fun_mk ?lf20 ?cf20 ?kf20) (mg_of KX G.T.g ?af20)
      (L2.fun_mk ?lf21 ?cf21 ?kf21) (mg_of KX G.T.g ?af21)
      (L2.fun_mk ?lf22 ?cf22 ?kf22) (mg_of KX G.T.g ?af22)
      (L2.fun_mk ?lf23 ?cf23 ?kf23) (mg_of KX G.T.g ?af23)
      (L2.fun_mk ?lf24 ?cf24 ?kf24) (mg_of KX G.T.g ?af24)
      (L2.fun_mk ?lf25 ?cf25 ?kf25) (mg_of KX G.T.g ?af25)
      (L2.fun_mk ?lf26 ?cf26 ?kf26) (mg_of KX G.T.g ?af26)
      (L2.fun_mk ?lf27 ?cf27 ?kf27) (mg_of KX G.T.g ?af27)
      (L2.fun_mk ?lf28 ?cf28 ?kf28) (mg_of KX G.T.g ?af28)
      (L2.fun_mk ?lf29 ?cf29 ?kf29) (mg_of KX G.T.g ?af29)
      (L2.fun_mk ?lf30 ?cf30 ?kf30) (mg_of KX G.T.g ?af30)
      (L2.fun_mk ?lf31 ?cf31 ?kf31) (mg_of KX G.T.g ?af31)
      (L2.fun_mk ?lf32 ?cf32 ?kf32) (mg_of KX G.T.g ?af32)
      (L2.fun_mk ?lf33 ?cf33 ?kf33) (mg_of KX G.T.g ?af33)
      (L2.fun_mk ?lf34 ?cf34 ?kf34) (mg_of KX G.T.g ?af34)
      (L2.fun_mk ?lf35 ?cf35 ?kf35) (mg_of KX G.T.g ?af35)
      (L2.fun_mk ?lf36 ?cf36 ?kf36) (mg_of KX G.T.g ?af36)
      (L2.fun_mk ?lf37 ?cf37 ?kf37) (mg_of KX G.T.g ?af37)
      (L2.fun_mk ?lf38 ?cf38 ?kf38) (mg_of KX G.T.g ?af38)
      (L2.fun_mk ?lf39 ?cf39 ?kf39) (mg_of KX G.T.g ?af39)
      (L2.fun_mk ?lf40 ?cf40 ?kf40) (mg_of KX G.T.g ?af40)
      (L2.fun_mk ?lf41 ?cf41 ?kf41) (mg_of KX G.T.g ?af41)
      (L2.fun_mk ?lf42 ?cf42 ?kf42) (mg_of KX G.T.g ?af42)
      (L2.fun_mk ?lf43 ?cf43 ?kf43) (mg_of KX G.T.g ?af43)
      (L2.fun_mk ?lf44 ?cf44 ?kf44) (mg_of KX G.T.g ?af44)
      (L2.fun_mk ?lf45 ?cf45 ?kf45) (mg_of KX G.T.g ?af45)
      (L2.fun_mk ?lf46 ?cf46 ?kf46) (mg_of KX G.T.g ?af46)
      (L2.fun_mk ?lf47 ?cf47 ?kf47) (mg_of KX G.T.g ?af47)
      (L2.fun_mk ?lf48 ?cf48 ?kf48) (mg_of KX G.T.g ?af48)
      (L2.fun_mk ?lf49 ?cf49 ?kf49) (mg_of KX G.T.g ?af49)
      (L2.fun_mk ?lf50 ?cf50 ?kf50) (mg_of KX G.T.g ?af50)
      (L2.fun_mk ?lf51 ?cf51 ?kf51) (mg_of KX G.T.g ?af51)
      (L2.fun_mk ?lf52 ?cf52 ?kf52) (mg_of KX G.T.g ?af52)
      (L2.fun_mk ?lf53 ?cf53 ?kf53) (mg_of KX G.T.g ?af53)
      (L2.fun_mk ?lf54 ?cf54 ?kf54) (mg_of KX G.T.g ?af54)
      (L2.fun_mk ?lf55 ?cf55 ?kf55) (mg_of KX G.T.g ?af55)
      (L2.fun_mk ?lf56 ?cf56 ?kf56) (mg_of KX G.T.g ?af56)
      (L2.fun_mk ?lf57 ?cf57 ?kf57) (mg_of KX G.T.g ?af57)
      (L2.fun_mk ?lf58 ?cf58 ?kf58) (mg_of KX G.T.g ?af58)
      (L2.fun_mk ?lf59 ?cf59 ?kf59) (mg_of KX G.T.g ?af59)
      (L2.fun_mk ?lf60 ?cf60 ?kf60) (mg_of KX G.T.g ?af60)
      (L2.fun_mk ?lf61 ?cf61 ?kf61) (mg_of KX G.T.g ?af61)
      (L2.fun_mk ?lf62 ?cf62 ?kf62) (mg_of KX G.T.g ?af62)
      (L2.fun_mk ?lf63 ?cf63 ?kf63) (mg_of KX G.T.g ?af63)
      (L2.fun_mk ?lf64 ?cf64 ?kf64) (mg_of KX G.T.g ?af64)
      (L2.fun_mk ?lf65 ?cf65 ?kf65) (mg_of KX G.T.g ?af65)
      (L2.fun_mk ?lf66 ?cf66 ?kf66) (mg_of KX G.T.g ?af66)
      (L2.fun_mk ?lf67 ?cf67 ?kf67) (mg_of KX G.T.g ?af67)
      (L2.fun_mk ?lf68 ?cf68 ?kf68) (mg_of KX G.T.g ?af68)
      (L2.fun_mk ?lf69 ?cf69 ?kf69) (mg_of KX G.T.g ?af69)
      (L2.fun_mk ?lf70 ?cf70 ?kf70) (mg_of KX G.T.g ?af70)
      (L2.fun_mk ?lf71 ?cf71 ?kf71) (mg_of KX G.T.g ?af71)
      (L2.fun_mk ?lf72 ?cf72 ?kf72) (mg_of KX G.T.g ?af72)
      (L2.fun_mk ?lf73 ?cf73 ?kf73) (mg_of KX G.T.g ?af73)
      (L2.fun_mk ?lf74 ?cf74 ?kf74) (mg_of KX G.T.g ?af74)
      (L2.fun_mk ?lf75 ?cf75 ?kf75) (mg_of KX G.T.g ?af75)
      (L2.fun_mk ?lf76 ?cf76 ?kf76) (mg_of KX G.T.g ?af76) hmg
    (case s0 => k_is)
    (case s1 => k_is)
    (case s2 => k_is)
    (case s3 => k_is)
    (case s4 => k_is)
    (case s5 => k_is)
    (case tapls => k_is)
    (case tlpls => k_is)
    (case taalls => k_is)
    (case tlalls => k_is)
    (case takws => k_is)
    (case tlkws => k_is)
    (case tacuts => k_is)
    (case tlcuts => k_is)
    (case tapms => k_is)
    (case tlpms => k_is)
    (case tades => k_is)
    (case tldes => k_is)
    (case tatos => k_is)
    (case tltos => k_is)
    (case tabds => k_is)
    (case tlbds => k_is)
    (case tands => k_is)
    (case tlnds => k_is)
    (case tants => k_is)
    (case tlnts => k_is)
    (case talts => k_is)
    (case tllts => k_is)
    (case tasms => k_is)
    (case tlsms => k_is)
    (case ra => k_is)
    (case rl => k_is)
    (case y0 => k_is)
    (case y1 => k_is)
    (case y2 => k_is)
    (case y3 => k_is)
    (case y4 => k_is)
    (case y5 => k_is)
    (case y6 => k_is)
    (case y7 => k_is)
    (case y8 => k_is)
    (case y9 => k_is)
    (case y10 => k_is)
    (case y11 => k_is)
    (case y12 => k_is)
    (case y13 => k_is)
    (case y14 => k_is)
    (case y15 => k_is)
    (case y16 => k_is)
    (case y17 => k_is)
    (case y18 => k_is)
    (case y19 => k_is)
    (case y20 => k_is)
    (case s6 => k_is)
    (case af0 => k_is)
    (case lf0 => k_is)
    (case cf0 => k_is)
    (case kf0 => k_is)
    (case af1 => k_is)
    (case lf1 => k_is)
    (case cf1 => k_is)
    (case kf1 => k_is)
    (case af2 => k_is)
    (case lf2 => k_is)
    (case cf2 => k_is)
    (case kf2 => k_is)
    (case af3 => k_is)
    (case lf3 => k_is)
    (case cf3 => k_is)
    (case kf3 => k_is)
    (case af4 => k_is)
    (case lf4 => k_is)
    (case cf4 => k_is)
    (case kf4 => k_is)
    (case af5 => k_is)
    (case lf5 => k_is)
    (case cf5 => k_is)
    (case kf5 => k_is)
    (case af6 => k_is)
    (case lf6 => k_is)
    (case cf6 => k_is)
    (case kf6 => k_is)
    (case af7 => k_is)
    (case lf7 => k_is)
    (case cf7 => k_is)
    (case kf7 => k_is)
    (case af8 => k_is)
    (case lf8 => k_is)
    (case cf8 => k_is)
    (case kf8 => k_is)
    (case af9 => k_is)
    (case lf9 => k_is)
    (case cf9 => k_is)
    (case kf9 => k_is)
    (case af10 => k_is)
    (case lf10 => k_is)
    (case cf10 => k_is)
    (case kf10 => k_is)
    (case af11 => k_is)
    (case lf11 => k_is)
    (case cf11 => k_is)
    (case kf11 => k_is)
    (case af12 => k_is)
    (case lf12 => k_is)
    (case cf12 => k_is)
    (case kf12 => k_is)
    (case af13 => k_is)
    (case lf13 => k_is)
    (case cf13 => k_is)
    (case kf13 => k_is)
    (case af14 => k_is)
    (case lf14 => k_is)
    (case cf14 => k_is)
    (case kf14 => k_is)
    (case af15 => k_is)
    (case lf15 => k_is)
    (case cf15 => k_is)
    (case kf15 => k_is)
    (case af16 => k_is)
    (case lf16 => k_is)
    (case cf16 => k_is)
    (case kf16 => k_is)
    (case af17 => k_is)
    (case lf17 => k_is)
    (case cf17 => k_is)
    (case kf17 => k_is)
    (case af18 => k_is)
    (case lf18 => k_is)
    (case cf18 => k_is)
    (case kf18 => k_is)
    (case af19 => k_is)
    (case lf19 => k_is)
    (case cf19 => k_is)
    (case kf19 => k_is)
    (case af20 => k_is)
    (case lf20 => k_is)
    (case cf20 => k_is)
    (case kf20 => k_is)
    (case af21 => k_is)
    (case lf21 => k_is)
    (case cf21 => k_is)
    (case kf21 => k_is)
    (case af22 => k_is)
    (case lf22 => k_is)
    (case cf22 => k_is)
    (case kf22 => k_is)
    (case af23 => k_is)
    (case lf23 => k_is)
    (case cf23 => k_is)
    (case kf23 => k_is)
    (case af24 => k_is)
    (case lf24 => k_is)
    (case cf24 => k_is)
    (case kf24 => k_is)
    (case af25 => k_is)
    (case lf25 => k_is)
    (case cf25 => k_is)
    (case kf25 => k_is)
    (case af26 => k_is)
    (case lf26 => k_is)
    (case cf26 => k_is)
    (case kf26 => k_is)
    (case af27 => k_is)
    (case lf27 => k_is)
    (case cf27 => k_is)
    (case kf27 => k_is)
    (case af28 => k_is)
    (case lf28 => k_is)
    (case cf28 => k_is)
    (case kf28 => k_is)
    (case af29 => k_is)
    (case lf29 => k_is)
    (case cf29 => k_is)
    (case kf29 => k_is)
    (case af30 => k_is)
    (case lf30 => k_is)
    (case cf30 => k_is)
    (case kf30 => k_is)
    (case af31 => k_is)
    (case lf31 => k_is)
    (case cf31 => k_is)
    (case kf31 => k_is)
    (case af32 => k_is)
    (case lf32 => k_is)
    (case cf32 => k_is)
    (case kf32 => k_is)
    (case af33 => k_is)
    (case lf33 => k_is)
    (case cf33 => k_is)
    (case kf33 => k_is)
    (case af34 => k_is)
    (case lf34 => k_is)
    (case cf34 => k_is)
    (case kf34 => k_is)
    (case af35 => k_is)
    (case lf35 => k_is)
    (case cf35 => k_is)
    (case kf35 => k_is)
    (case af36 => k_is)
    (case lf36 => k_is)
    (case cf36 => k_is)
    (case kf36 => k_is)
    (case af37 => k_is)
    (case lf37 => k_is)
    (case cf37 => k_is)
    (case kf37 => k_is)
    (case af38 => k_is)
    (case lf38 => k_is)
    (case cf38 => k_is)
    (case kf38 => k_is)
    (case af39 => k_is)
    (case lf39 => k_is)
    (case cf39 => k_is)
    (case kf39 => k_is)
    (case af40 => k_is)
    (case lf40 => k_is)
    (case cf40 => k_is)
    (case kf40 => k_is)
    (case af41 => k_is)
    (case lf41 => k_is)
    (case cf41 => k_is)
    (case kf41 => k_is)
    (case af42 => k_is)
    (case lf42 => k_is)
    (case cf42 => k_is)
    (case kf42 => k_is)
    (case af43 => k_is)
    (case lf43 => k_is)
    (case cf43 => k_is)
    (case kf43 => k_is)
    (case af44 => k_is)
    (case lf44 => k_is)
    (case cf44 => k_is)
    (case kf44 => k_is)
    (case af45 => k_is)
    (case lf45 => k_is)
    (case cf45 => k_is)
    (case kf45 => k_is)
    (case af46 => k_is)
    (case lf46 => k_is)
    (case cf46 => k_is)
    (case kf46 => k_is)
    (case af47 => k_is)
    (case lf47 => k_is)
    (case cf47 => k_is)
    (case kf47 => k_is)
    (case af48 => k_is)
    (case lf48 => k_is)
    (case cf48 => k_is)
    (case kf48 => k_is)
    (case af49 => k_is)
    (case lf49 => k_is)
    (case cf49 => k_is)
    (case kf49 => k_is)
    (case af50 => k_is)
    (case lf50 => k_is)
    (case cf50 => k_is)
    (case kf50 => k_is)
    (case af51 => k_is)
    (case lf51 => k_is)
    (case cf51 => k_is)
    (case kf51 => k_is)
    (case af52 => k_is)
    (case lf52 => k_is)
    (case cf52 => k_is)
    (case kf52 => k_is)
    (case af53 => k_is)
    (case lf53 => k_is)
    (case cf53 => k_is)
    (case kf53 => k_is)
    (case af54 => k_is)
    (case lf54 => k_is)
    (case cf54 => k_is)
    (case kf54 => k_is)
    (case af55 => k_is)
    (case lf55 => k_is)
    (case cf55 => k_is)
    (case kf55 => k_is)
    (case af56 => k_is)
    (case lf56 => k_is)
    (case cf56 => k_is)
    (case kf56 => k_is)
    (case af57 => k_is)
    (case lf57 => k_is)
    (case cf57 => k_is)
    (case kf57 => k_is)
    (case af58 => k_is)
    (case lf58 => k_is)
    (case cf58 => k_is)
    (case kf58 => k_is)
    (case af59 => k_is)
    (case lf59 => k_is)
    (case cf59 => k_is)
    (case kf59 => k_is)
    (case af60 => k_is)
    (case lf60 => k_is)
    (case cf60 => k_is)
    (case kf60 => k_is)
    (case af61 => k_is)
    (case lf61 => k_is)
    (case cf61 => k_is)
    (case kf61 => k_is)
    (case af62 => k_is)
    (case lf62 => k_is)
    (case cf62 => k_is)
    (case kf62 => k_is)
    (case af63 => k_is)
    (case lf63 => k_is)
    (case cf63 => k_is)
    (case kf63 => k_is)
    (case af64 => k_is)
    (case lf64 => k_is)
    (case cf64 => k_is)
    (case kf64 => k_is)
    (case af65 => k_is)
    (case lf65 => k_is)
    (case cf65 => k_is)
    (case kf65 => k_is)
    (case af66 => k_is)
    (case lf66 => k_is)
    (case cf66 => k_is)
    (case kf66 => k_is)
    (case af67 => k_is)
    (case lf67 => k_is)
    (case cf67 => k_is)
    (case kf67 => k_is)
    (case af68 => k_is)
    (case lf68 => k_is)
    (case cf68 => k_is)
    (case kf68 => k_is)
    (case af69 => k_is)
    (case lf69 => k_is)
    (case cf69 => k_is)
    (case kf69 => k_is)
    (case af70 => k_is)
    (case lf70 => k_is)
    (case cf70 => k_is)
    (case kf70 => k_is)
    (case af71 => k_is)
    (case lf71 => k_is)
    (case cf71 => k_is)
    (case kf71 => k_is)
    (case af72 => k_is)
    (case lf72 => k_is)
    (case cf72 => k_is)
    (case kf72 => k_is)
    (case af73 => k_is)
    (case lf73 => k_is)
    (case cf73 => k_is)
    (case kf73 => k_is)
    (case af74 => k_is)
    (case lf74 => k_is)
    (case cf74 => k_is)
    (case kf74 => k_is)
    (case af75 => k_is)
    (case lf75 => k_is)
    (case cf75 => k_is)
    (case kf75 => k_is)
    (case af76 => k_is)
    (case lf76 => k_is)
    (case cf76 => k_is)
    (case kf76 => k_is)
    (case e6 => first | rfl | decide +kernel)
    (case e0 => first | rfl | decide +kernel)
    (case e1 => first | rfl | decide +kernel)
    (case e2 => first | rfl | decide +kernel)
    (case e3 => first | rfl | decide +kernel)
    (case e4 => first | rfl | decide +kernel)
    (case e5 => first | rfl | decide +kernel)
    (case tzpls => decide +kernel)
    (case tvpls => exact (.cons ⟨_, rfl⟩ (.cons ⟨_, rfl⟩ (.cons ⟨_, rfl⟩ (.cons ⟨_, rfl⟩ (.cons ⟨_, rfl⟩ .nil))))))
    (case tzalls => decide +kernel)
    (case tvalls => exact (.cons ⟨_, rfl⟩ (.cons ⟨_, rfl⟩ .nil)))
    (case tzkws => decide +kernel)
    (case tvkws => exact (.cons ⟨_, rfl⟩ (.cons ⟨_, rfl⟩ (.cons ⟨_, rfl⟩ (.cons ⟨_, rfl⟩ (.cons ⟨_, rfl⟩ (.cons ⟨_, rfl⟩ (.cons ⟨_, rfl⟩ (.cons ⟨_, rfl⟩ (.cons ⟨_, rfl⟩ (.cons ⟨_, rfl⟩ (.cons ⟨_, rfl⟩ (.cons ⟨_, rfl⟩ (.cons ⟨_, rfl⟩ (.cons ⟨_, rfl⟩ (.cons ⟨_, rfl⟩ (.cons ⟨_, rfl⟩ .nil)))))))))))))))))
    (case tzcuts => decide +kernel)
    (case tvcuts => exact (.cons ⟨_, rfl⟩ (.cons ⟨_, rfl⟩ (.cons ⟨_, rfl⟩ (.cons ⟨_, rfl⟩ .nil)))))
    (case tzpms => decide +kernel)
    (case tvpms => exact (.cons ⟨_, rfl⟩ (.cons ⟨_, rfl⟩ (.cons ⟨_, rfl⟩ .nil))))
    (case tzdes => decide +kernel)
    (case tvdes => exact (.cons ⟨_, rfl⟩ (.cons ⟨_, rfl⟩ (.cons ⟨_, rfl⟩ (.cons ⟨_, rfl⟩ (.cons ⟨_, rfl⟩ (.cons ⟨_, rfl⟩ (.cons ⟨_, rfl⟩ (.cons ⟨_, rfl⟩ (.cons ⟨_, rfl⟩ (.cons ⟨_, rfl⟩ (.cons ⟨_, rfl⟩ (.cons ⟨_, rfl⟩ (.cons ⟨_, rfl⟩ (.cons ⟨_, rfl⟩ (.cons ⟨_, rfl⟩ .nil))))))))))))))))
    (case tztos => decide +kernel)
    (case tvtos => exact (.cons ⟨_, rfl⟩ (.cons ⟨_, rfl⟩ (.cons ⟨_, rfl⟩ (.cons ⟨_, rfl⟩ (.cons ⟨_, rfl⟩ (.cons ⟨_, rfl⟩ (.cons ⟨_, rfl⟩ (.cons ⟨_, rfl⟩ (.cons ⟨_, rfl⟩ (.cons ⟨_, rfl⟩ (.cons ⟨_, rfl⟩ (.cons ⟨_, rfl⟩ (.cons ⟨_, rfl⟩ (.cons ⟨_, rfl⟩ (.cons ⟨_, rfl⟩ (.cons ⟨_, rfl⟩ (.cons ⟨_, rfl⟩ .nil))))))))))))))))))
    (case tzbds => decide +kernel)
    (case tvbds => exact (.cons ⟨_, rfl⟩ (.cons ⟨_, rfl⟩ (.cons ⟨_, rfl⟩ (.cons ⟨_, rfl⟩ (.cons ⟨_, rfl⟩ (.cons ⟨_, rfl⟩ (.cons ⟨_, rfl⟩ .nil))))))))
    (case tznds => decide +kernel)
    (case tvnds => exact (.cons ⟨_, rfl⟩ (.cons ⟨_, rfl⟩ (.cons ⟨_, rfl⟩ (.cons ⟨_, rfl⟩ .nil)))))
    (case tznts => decide +kernel)
    (case tvnts => exact (.cons ⟨_, rfl⟩ (.cons ⟨_, rfl⟩ (.cons ⟨_, rfl⟩ .nil))))
    (case tzlts => decide +kernel)
    (case tvlts => exact (.cons ⟨_, rfl⟩ (.cons ⟨_, rfl⟩ .nil)))
    (case tzsms => decide +kernel)
    (case tvsms => (refine' .cons ?l0 ?e0 (.cons ?l1 ?e1 (.cons ?l2 ?e2 (.cons ?l3 ?e3 .nil))); (case l0 => k_is); (case l1 => k_is); (case l2 => k_is); (case l3 => k_is); (case e0 => exact ⟨_, _, rfl⟩); (case e1 => exact ⟨_, _, rfl⟩); (case e2 => exact ⟨_, _, rfl⟩); (case e3 => exact ⟨_, _, rfl⟩)))
    (case re => exact (.cons rfl ⟨_, rfl⟩ (.cons rfl ⟨_, rfl⟩ (.cons rfl ⟨_, rfl⟩ (.cons rfl ⟨_, rfl⟩ (.cons rfl ⟨_, rfl⟩ (.cons rfl ⟨_, rfl⟩ (.cons rfl ⟨_, rfl⟩ (.cons rfl ⟨_, rfl⟩ (.cons rfl ⟨_, rfl⟩ (.cons rfl ⟨_, rfl⟩ (.cons rfl ⟨_, rfl⟩ (.cons rfl ⟨_, rfl⟩ (.cons rfl ⟨_, rfl⟩ .nil))))))))))))))
    (case rlow => decide +kernel)
