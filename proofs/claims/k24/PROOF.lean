import PyProof.Rows.All
import Wide.All
import OpenK.AllK
import Wide.FinOn
import PyProof.EqAt
import PyProof.EqKinds
import PyProof.TupleCall
import PyProof.RulesMatchSeq
import PyProof.Rows.MatchSeqLen
import HandS.ForMost
import HandS.Walk
import HandS.Iter
import HandS.Text
import HandS.IsInst
import PyProof.RulesMatchSingle
import HandS.Wide
import HandS.Style
import HandS.WideBits
import PyProof.Rows.StrRev
import PyProof.EnumMake
import PyProof.Draws
import HandS.More
import HandS.TupLe
import HandS.Replace
import HandS.StrMore
import HandS.Strs
import HandS.Set
import HandS.SetFor
import PyProof.Rows.SetFrom
import PySem.Challenge.RW_quotedback_k24_whole_joined_and_turned_a
set_option Elab.async false
set_option linter.all false
set_option maxRecDepth 100000
set_option maxHeartbeats 8000000
namespace PySem
namespace Qb
open PySem.W PySem.Calls PyProof.Rows L2
/-! # match over tuples, texts and names -/
/-- what a pattern asks: the values of its names in their order, or that it does not fit -/
abbrev PatR := V → Hp → (Option (List V) → Prop) → Prop
def PatE (X : Cx) (pins : List (Addr × Obj)) (σ : L2.St) (H : Hp) (ns : List Str) (Q : Option (List V) → Prop) (res : Option (List (Str × Value))) (s : Shared) : Prop :=
  Inv X pins σ H s ∧ match res with
    | none => Q none
    | some bs => bs.map (·.1) = ns ∧ ∃ vs, Vals vs (bs.map (·.2)) ∧ Q (some vs)
structure PPt (X : Cx) (pat : Pattern) (ns : List Str) (r : PatR) : Prop where
  run : ∀ (pins : List (Addr × Obj)) (s : Shared) (σ : L2.St) (H : Hp) (v : V) (u : Value) (Q : Option (List V) → Prop), Inv X pins σ H s → RelV v u → r v H Q →
    wpAny (model X.prog X.w) X.A (matchPattern pat X.env u) (fun res s1 => PatE X pins σ H ns Q res s1) X.xe s
def rEach : List PatR → List V → Hp → (Option (List V) → Prop) → Prop
  | r :: rs, x :: xs, H, Q => r x H fun o => match o with
    | none => Q none
    | some vs => rEach rs xs H fun o' => match o' with
      | none => Q none
      | some more => Q (some (vs ++ more))
  | _, _, _, Q => Q (some [])
structure PPs (X : Cx) (pats : List Pattern) (ns : List Str) (rs : List PatR) : Prop where
  len : rs.length = pats.length
  run : ∀ (pins : List (Addr × Obj)) (s : Shared) (σ : L2.St) (H : Hp) (vs : List V) (us : List Value) (Q : Option (List V) → Prop), Inv X pins σ H s → Vals vs us → vs.length = pats.length → rEach rs vs H Q →
    wpAny (model X.prog X.w) X.A (matchEach pats X.env us) (fun res s1 => PatE X pins σ H ns Q res s1) X.xe s
theorem ext_keeps {h h2 : Heap} (ex : Heap.ExtBut h.objs.size h h2) (b : Addr) (o : Obj) (z : h.get? b = some o) : h2.get? b = some o := by
  exact ex b o (Nat.ne_of_lt (Heap.lt_size z)) z
section
variable {X : Cx} {pos pos' : Pos}
def rLit (c : Str) : PatR := fun v _ Q => ∃ y, v = .str y ∧ Q (if y = c then some [] else none)
theorem pp_lit {c : Str} {j : Nat} : PPt X (.MatchValue (.Constant (.str c) j pos) pos') [] (rLit c) := by
  refine ⟨fun pins s σ H v u Q I r h => wpAny_matchPattern_Value ?_⟩
  obtain ⟨y, rfl, q⟩ := h
  refine thn (pe_str.run pins s σ H (fun z H1 => z = .str c ∧ H1 = H) I ⟨rfl, rfl⟩) fun x s1 ⟨z, H1, I1, rz, ez, eH⟩ => ?_
  subst ez
  subst eH
  refine thn (op_eq pins s1 σ H1 (.str y) (.str c) u x (fun w H2 => w = .bl (decide (V.str y = V.str c)) ∧ H2 = H1) I1 r rz ⟨rfl, rfl, rfl⟩) fun b s2 ⟨w, H2, I2, rw2, ew, eH⟩ => ?_
  subst ew
  subst eH
  obtain rfl : b = Value.bool (decide (V.str y = V.str c)) := rw2
  show wpAny _ _ (truthy (.bool _)) _ _ _
  refine wpAny_pure ?_
  by_cases e : y = c
  · rw [if_pos e] at q
    rw [if_pos (by simpa using e)]
    exact ⟨I2, rfl, [], .nil, q⟩
  · rw [if_neg e] at q
    rw [if_neg (by simpa using e)]
    exact ⟨I2, q⟩
def rCap : PatR := fun v _ Q => Q (some [v])
theorem pp_cap {n : Str} : PPt X (.MatchAs none (some n) pos) [n] rCap :=
  ⟨fun pins s σ H v u Q I r h => wpAny_matchPattern_Capture ⟨I, rfl, [v], .cons r .nil, h⟩⟩
def rAny1 : PatR := fun _ _ Q => Q (some [])
theorem pp_any : PPt X (.MatchAs none none pos) [] rAny1 :=
  ⟨fun pins s σ H v u Q I r h => wpAny_matchPattern_Capture ⟨I, rfl, [], .nil, h⟩⟩
theorem pps_nil : PPs X [] [] [] :=
  ⟨rfl, fun pins s σ H vs us Q I r hl h => by
    cases r with
    | nil => exact wpAny_matchEach_nil ⟨I, rfl, [], .nil, h⟩
    | cons _ _ => cases hl⟩
theorem pps_cons {p : Pattern} {ps : List Pattern} {ns ms : List Str} {r : PatR} {rs : List PatR} (h1 : PPt X p ns r) (h2 : PPs X ps ms rs) (hp : p.isStar = false := by rfl) : PPs X (p :: ps) (ns ++ ms) (r :: rs) := by
  refine ⟨congrArg Nat.succ h2.len, fun pins s σ H vs us Q I rv hl h => ?_⟩
  cases rv with
  | nil => cases hl
  | @cons x u xs us rx rt =>
    refine wpAny_matchEach_cons (thn (h1.run pins s σ H x u _ I rx h) fun res s1 ⟨I1, z⟩ => ?_) hp
    cases res with
    | none => exact ⟨I1, z⟩
    | some bs =>
      obtain ⟨e1, vs1, r1, q1⟩ := z
      refine thn (h2.run pins s1 σ H xs us _ I1 rt (Nat.succ.inj hl) q1) fun res2 s2 ⟨I2, z2⟩ => ?_
      cases res2 with
      | none => exact ⟨I2, z2⟩
      | some more =>
        obtain ⟨e2, vs2, r2, q2⟩ := z2
        exact ⟨I2, by rw [List.map_append, e1, e2], vs1 ++ vs2, by rw [List.map_append]; exact r1.append r2, q2⟩
def rSeq (K : Frag) (n : Nat) (rs : List PatR) : PatR := fun v H Q => ∃ a xs, v = .ref a ∧ SqT K H a xs ∧ (xs.length ≠ n → Q none) ∧ (xs.length = n → rEach rs xs H Q)
theorem pp_seq {ps : List Pattern} {ns : List Str} {rs : List PatR} {n : Nat} (hc : X.calm = true) (h : PPs X ps ns rs) (hn : ps.length = n := by rfl) (hstar : ps.findIdx? (·.isStar) = none := by rfl)
    (hwild : (ps.all fun p => p.isWildcard || (p.isStar && p.names.isEmpty)) = false := by rfl) : PPt X (.MatchSequence ps pos) ns (rSeq X.K n rs) := by
  refine ⟨fun pins s σ H v u Q I r h' => ?_⟩
  obtain ⟨a, xs, rfl, sq, qn, qy⟩ := h'
  obtain rfl : u = Value.ref a := r
  obtain ⟨its, rv, ht, hz⟩ := I.tuple sq
  have hfit : ((its.toArray.size : Nat) : Int) < 2 ^ 63 := by
    have e := rv.length
    rw [List.size_toArray, ← e]
    rw [sizeLine_eq] at hz
    omega
  have e := rv.length
  by_cases c : xs.length = n
  · refine matchSeq_tuple_hit ht hfit (by rw [List.size_toArray, ← e, c, hn]) ?_ hstar hwild
    have sz : ps.length = its.toArray.size := by rw [List.size_toArray, ← e, c, hn]
    rw [sz]
    refine unpackItems_tuple (I.ok.hd hc) ht fun h2 ex => ?_
    have J : Inv X pins σ H { s with heap := h2, toks := s.toks + 1 + 1 } := I.kept (t' := s.toks + 1 + 1) fun b o z => ext_keeps ex b o z
    refine h.run pins _ σ H xs _ Q J (by simpa using rv) (by rw [c, hn]) (qy c)
  · exact matchSeq_tuple_miss ht hfit (by rw [List.size_toArray, ← e, hn]; exact c) ⟨I.tok _, qn c⟩ hstar hwild
/-- one of some patterns without names -/
def rOr : List PatR → PatR
  | [] => fun _ _ Q => Q none
  | r :: rs => fun v H Q => r v H fun o => match o with
    | some vs => Q (some vs)
    | none => rOr rs v H Q
structure PFirst (X : Cx) (pats : List Pattern) (rs : List PatR) : Prop where
  run : ∀ (pins : List (Addr × Obj)) (s : Shared) (σ : L2.St) (H : Hp) (v : V) (u : Value) (Q : Option (List V) → Prop), Inv X pins σ H s → RelV v u → rOr rs v H Q →
    wpAny (model X.prog X.w) X.A (matchFirst pats X.env u) (fun res s1 => PatE X pins σ H [] Q res s1) X.xe s
theorem pf_nil : PFirst X [] [] := ⟨fun pins s σ H v u Q I r h => wpAny_matchFirst_nil ⟨I, h⟩⟩
theorem pf_cons {p : Pattern} {ps : List Pattern} {r : PatR} {rs : List PatR} (h1 : PPt X p [] r) (h2 : PFirst X ps rs) : PFirst X (p :: ps) (r :: rs) := by
  refine ⟨fun pins s σ H v u Q I rv h => wpAny_matchFirst_cons (thn (h1.run pins s σ H v u _ I rv h) fun res s1 ⟨I1, z⟩ => ?_)⟩
  cases res with
  | none => exact h2.run pins s1 σ H v u Q I1 rv z
  | some bs => exact ⟨I1, z⟩
theorem pp_or {ps : List Pattern} {rs : List PatR} (h : PFirst X ps rs) (hno : namesOfAll (ps.take 1) = [] := by rfl) : PPt X (.MatchOr ps pos) [] (rOr rs) := by
  refine ⟨fun pins s σ H v u Q I r h' => wpAny_matchPattern_Or (thn (h.run pins s σ H v u Q I r h') fun res s1 ⟨I1, z⟩ => ?_)⟩
  cases res with
  | none => exact ⟨I1, z⟩
  | some bs =>
    obtain ⟨e, vs, rv, q⟩ := z
    have e0 : bs = [] := List.map_eq_nil_iff.mp e
    subst e0
    cases rv
    rw [hno]
    exact ⟨I1, rfl, [], .nil, q⟩
/-- names stored in their slots, from the left -/
def setAll : L2.St → List Nat → List V → L2.St
  | σ, i :: is, v :: vs => setAll (σ.set i (some v)) is vs
  | σ, _, _ => σ
def SlotsOk (X : Cx) (ns : List Str) (is : List Nat) : Prop := Paired (fun n i => X.N[i]? = some n ∧ L2.Loc X.env.scope n ∧ (X.fn n = true ∨ X.env.scope.names.lookup n = some .local)) ns is
theorem store_all (hN : X.N.Nodup) {pins : List (Addr × Obj)} {H : Hp} {Q : Unit → Shared → Prop} : ∀ {ns : List Str} {is : List Nat} {bs : List (Str × Value)} {vs : List V} {σ : L2.St} {s : Shared}, SlotsOk X ns is → bs.map (·.1) = ns → Vals vs (bs.map (·.2)) → Inv X pins σ H s →
    (∀ s', Inv X pins (setAll σ is vs) H s' → Q () s') → wpAny (model X.prog X.w) X.A (assignInOrder (bs.map fun (n, _) => bindName X.env n) (bs.map (·.2))) Q X.xe s
  | _, _, [], _, _, _, ok, e, rv, I, q => by
    subst e
    cases rv
    cases ok
    exact wpAny_assignInOrder_none (q _ I)
  | _, _, (n, u) :: bs, _, _, _, ok, e, rv, I, q => by
    subst e
    cases rv with
    | cons r1 r2 =>
      cases ok with
      | cons o1 o2 =>
        refine wpAny_assignInOrder_more (wpAny_bindName (store_ok I hN o1.1 o1.2.1 r1 (fun s' I' => store_all hN o2 rfl r2 I' q) o1.2.2))
def tCases : List (List Nat × PatR × TS) → V → TS
  | [], _ => fun D σ H => D.nx σ H
  | (is, r, t) :: rest, v => fun D σ H => r v H fun o => match o with
    | none => tCases rest v D σ H
    | some vs => t D (setAll σ is vs) H
structure PCs (X : Cx) (cases : List MatchCase) (cs : List (List Nat × PatR × TS)) : Prop where
  run : ∀ (pins : List (Addr × Obj)) (s : Shared) (σ : L2.St) (H : Hp) (D : Ends) (v : V) (u : Value) (first : Bool), Inv X pins σ H s → RelV v u → tCases cs v D σ H →
    wpAny (model X.prog X.w) X.A (matchCases cases X.env u first) (SP X pins D) X.xe s
theorem pcs_nil : PCs X [] [] := ⟨fun pins s σ H D v u first I r h => wpAny_matchCases_nil ⟨σ, H, I, h⟩⟩
theorem pcs_cons {p : Pattern} {body : List Stmt} {cases : List MatchCase} {ns : List Str} {is : List Nat} {r : PatR} {t : TS} {cs : List (List Nat × PatR × TS)} (hN : X.N.Nodup) (h1 : PPt X p ns r) (hs : SlotsOk X ns is) (hb : PSs X body t) (h2 : PCs X cases cs) :
    PCs X (⟨p, none, body⟩ :: cases) ((is, r, t) :: cs) := by
  refine ⟨fun pins s σ H D v u first I rv h => wpAny_matchCases_cons (thn (h1.run pins s σ H v u _ I rv h) fun res s1 ⟨I1, z⟩ => ?_)⟩
  cases res with
  | none => exact h2.run pins s1 σ H D v u false I1 rv z
  | some bs =>
    obtain ⟨e, vs, r2, q⟩ := z
    exact store_all hN hs e r2 I1 fun s2 I2 => hb.run pins s2 _ H D I2 q
def tMatch (te : TE) (cs : List (List Nat × PatR × TS)) : TS := fun D σ H => te σ H fun v H1 => tCases cs v D σ H1
theorem ps_match {e : Expr} {cases : List MatchCase} {te : TE} {cs : List (List Nat × PatR × TS)} (he : PE X e te) (hc : PCs X cases cs) : PS X (.Match e cases pos) (tMatch te cs) :=
  ⟨fun pins s σ H D I h => wpAny_Match (thn (he.run pins s σ H _ I h) fun u s1 ⟨v, H1, I1, rv, q⟩ => hc.run pins s1 σ H1 D v u true I1 rv q)⟩
end
/-! # heaps -/
theorem same_upd {H : Hp} {a : Addr} {o : HO} (h : H a = none) : Same H (upd H a o) := fun b u e => by
  rw [upd_ne (ne_of_none e h)]
  exact e
theorem same_upd2 {H H1 : Hp} {a : Addr} {o : HO} (s : Same H H1) (h : H a = none) : Same H (upd H1 a o) := fun b u e => by
  rw [upd_ne (ne_of_none e h)]
  exact s b u e
theorem take_snoc {α : Type} {l : List α} {i : Nat} {x : α} (h : l[i]? = some x) : l.take (i + 1) = l.take i ++ [x] := by
  rw [List.take_succ, h]
  rfl
theorem if_no {c : Bool} {A B : Prop} (h : c = false) (b : B) : if c = true then A else B := by
  rw [h, if_neg Bool.false_ne_true]
  exact b
theorem if_yes {c : Bool} {A B : Prop} (h : c = true) (a : A) : if c = true then A else B := by
  rw [if_pos h]
  exact a
theorem if_by {c : Bool} {A B : Prop} (a : c = true → A) (b : c = false → B) : if c = true then A else B := by
  cases c with
  | true => exact a rfl
  | false => exact b rfl
abbrev cs (x : Str) : List Nat := x.cps.toList
theorem glob_str {X : Cx} {x : Str} {c : Str} {pos : Pos} (hg : Gl X x) (hm : ∃ t, X.mg x = some (.str c t)) (hd : (x == ("__debug__" : Str)) = false := by decide) : PE X (.Name x pos) (tC (.str c)) := by
  obtain ⟨t, e⟩ := hm
  exact pe_glob hg e ⟨t, rfl⟩ hd
theorem pe_never {X : Cx} {e : Expr} : PE X e (fun _ _ _ => False) := ⟨fun _ _ _ _ _ _ h => h.elim⟩
theorem pt_never {X : Cx} {e : Expr} : PT X e (fun _ _ _ => False) := ⟨fun _ _ _ _ _ _ h => h.elim⟩
theorem sqT_same {K : Frag} {H H' : Hp} {a : Addr} {xs : List V} (s : Same H H') (h : SqT K H a xs) : SqT K H' a xs := by
  rcases h with (h | ⟨o, h⟩) | h
  · exact .inl (.inl (s _ _ h))
  · exact .inl (.inr ⟨o, s _ _ h⟩)
  · exact .inr h
theorem dp_same {K : Frag} {H H' : Hp} (s : Same H H') : ∀ {d : PyData} {v : V}, Dp K H v d → Dp K H' v d := by
  intro d v h
  exact Dp.rec (motive_1 := fun v d _ => Dp K H' v d) (motive_2 := fun vs ds _ => DpAll K H' vs ds) .non .bl .int .str (fun h1 _ ih => .lst (s.seq h1) ih) (fun h1 _ ih => .tup (sqT_same s h1) ih) .nil (fun _ _ a b => .cons a b) h
theorem dpAll_same {K : Frag} {H H' : Hp} (s : Same H H') : ∀ {ds : List PyData} {vs : List V}, DpAll K H vs ds → DpAll K H' vs ds
  | [], _, .nil => .nil
  | _ :: _, _, .cons h t => .cons (dp_same s h) (dpAll_same s t)
theorem dpLen {K : Frag} {H : Hp} : ∀ {vs : List V} {ds : List PyData}, DpAll K H vs ds → vs.length = ds.length
  | _, _, .nil => rfl
  | _, _, .cons _ t => congrArg Nat.succ (dpLen t)
theorem dpAt {K : Frag} {H : Hp} : ∀ {vs : List V} {ds : List PyData} {i : Nat} {d : PyData}, DpAll K H vs ds → ds[i]? = some d → ∃ v, vs[i]? = some v ∧ Dp K H v d
  | _, _, _, _, .nil, e => by cases e
  | _, _, 0, _, .cons h _, e => by
    obtain rfl := Option.some.inj e
    exact ⟨_, rfl, h⟩
  | _, _, i + 1, _, .cons _ t, e => dpAt (i := i) t e
theorem dpAt' {K : Frag} {H : Hp} : ∀ {vs : List V} {ds : List PyData} {i : Nat} {v : V}, DpAll K H vs ds → vs[i]? = some v → ∃ d, ds[i]? = some d ∧ Dp K H v d
  | _, _, _, _, .nil, e => by cases e
  | _, _, 0, _, .cons h _, e => by
    obtain rfl := Option.some.inj e
    exact ⟨_, rfl, h⟩
  | _, _, i + 1, _, .cons _ t, e => dpAt' (i := i) t e
theorem dpApp {K : Frag} {H : Hp} : ∀ {vs ws : List V} {ds es : List PyData}, DpAll K H vs ds → DpAll K H ws es → DpAll K H (vs ++ ws) (ds ++ es)
  | _, _, _, _, .nil, h => h
  | _, _, _, _, .cons h t, h' => .cons h (dpApp t h')
theorem dpDrop {K : Frag} {H : Hp} : ∀ (n : Nat) {vs : List V} {ds : List PyData}, DpAll K H vs ds → DpAll K H (vs.drop n) (ds.drop n)
  | 0, _, _, h => h
  | n + 1, _, _, .nil => .nil
  | n + 1, _, _, .cons _ t => dpDrop n t
theorem dpTake {K : Frag} {H : Hp} : ∀ (n : Nat) {vs : List V} {ds : List PyData}, DpAll K H vs ds → DpAll K H (vs.take n) (ds.take n)
  | 0, _, _, _ => .nil
  | n + 1, _, _, .nil => .nil
  | n + 1, _, _, .cons h t => .cons h (dpTake n t)
theorem dp_tup {K : Frag} {H : Hp} {v : V} {ds : List PyData} (h : Dp K H v (.tuple ds)) : ∃ a xs, v = .ref a ∧ SqT K H a xs ∧ DpAll K H xs ds := by
  cases h with
  | tup h1 h2 => exact ⟨_, _, rfl, h1, h2⟩
theorem dp_lst {K : Frag} {H : Hp} {v : V} {ds : List PyData} (h : Dp K H v (.list ds)) : ∃ a xs, v = .ref a ∧ SqL K H a xs ∧ DpAll K H xs ds := by
  cases h with
  | lst h1 h2 => exact ⟨_, _, rfl, h1, h2⟩
theorem dp_str {K : Frag} {H : Hp} {v : V} {x : Str} (h : Dp K H v (.str x)) : v = .str x := by
  cases h
  rfl
theorem dp_two {K : Frag} {H : Hp} {v : V} {x y : Str} (h : Dp K H v (.tuple [.str x, .str y])) : ∃ a, v = .ref a ∧ SqT K H a [.str x, .str y] := by
  obtain ⟨a, xs, rfl, q, all⟩ := dp_tup h
  cases all with
  | cons h1 t =>
    cases t with
    | cons h2 t =>
      cases t
      obtain rfl := dp_str h1
      obtain rfl := dp_str h2
      exact ⟨a, rfl, q⟩
/-! # a def's place and promise -/
def Has (P : Program) (w : World) (K : Frag) (mg : Str → Option Value) (base : Heap) (k : Nat) (x : Str) (ps : List Str) (sp : Sp) : Prop :=
  ∃ (f : Addr) (fd : FuncData), mg x = some (.ref f) ∧ PySem.W.keepIn K (.ref f) = true ∧ Binds K fd ps [] ∧ FnOk P w K mg base CX0 k f fd ps sp
/-- the same, its one argument told by its name -/
def HasK (P : Program) (w : World) (K : Frag) (mg : Str → Option Value) (base : Heap) (k : Nat) (x : Str) (ps : List Str) (sp : Sp) : Prop :=
  ∃ (f : Addr) (fd : FuncData), mg x = some (.ref f) ∧ PySem.W.keepIn K (.ref f) = true ∧ Binds K fd ps [] ∧ KBinds K fd ps ps (fun us ws => us ++ ws) (fun vs zs => vs ++ zs) ∧ FnOk P w K mg base CX0 k f fd ps sp
theorem HasK.has {P : Program} {w : World} {K : Frag} {mg : Str → Option Value} {base : Heap} {k : Nat} {x : Str} {ps : List Str} {sp : Sp} (h : HasK P w K mg base k x ps sp) : Has P w K mg base k x ps sp := by
  obtain ⟨f, fd, a, b, c, _, d⟩ := h
  exact ⟨f, fd, a, b, c, d⟩
theorem has_of {P : Program} {w : World} {K : Frag} {mg : Str → Option Value} {base : Heap} {k : Nat} {x qual : Str} {st : Stmt} {f : Addr} {fd : FuncData} {ps : List Str} {sp : Sp} (F : Fun K x qual st f fd) (g : mg x = some (.ref f)) (b : Binds K fd ps []) (o : FnOk P w K mg base CX0 k f fd ps sp) : Has P w K mg base k x ps sp := ⟨f, fd, g, F.kp, b, o⟩
theorem hasK_of {P : Program} {w : World} {K : Frag} {mg : Str → Option Value} {base : Heap} {k : Nat} {x qual : Str} {st : Stmt} {f : Addr} {fd : FuncData} {ps : List Str} {sp : Sp} (F : Fun K x qual st f fd) (g : mg x = some (.ref f)) (b : Binds K fd ps []) (c : KBinds K fd ps ps (fun us ws => us ++ ws) (fun vs zs => vs ++ zs)) (o : FnOk P w K mg base CX0 k f fd ps sp) : HasK P w K mg base k x ps sp := ⟨f, fd, g, F.kp, b, c, o⟩
section
variable {X : Cx} {CX : CXT} {k : Nat} {f : Addr} {fd : FuncData} {ps ks : List Str} {sp : Sp} {x : Str} {p pos : Pos} {E : XK} {kws : List Keyword} {tk : TA} {g : List Value → List Value → List Value} {gV : List V → List V → List V}
def tCallKw (sp : Sp) (gV : List V → List V → List V) (E : XK) (tk : TA) : TE := fun σ H Q => tk σ H fun zs H2 => sp (gV [] zs) H2 Q E
theorem pe_callKw (F : FnOk X.prog X.w X.K X.mg X.base CX k f fd ps sp) (hr : Room k X.A) (hg : Gl X x) (hm : X.mg x = some (.ref f)) (hk : PySem.W.keepIn X.K (.ref f) = true) (hb : KBinds X.K fd ps ks g gV) (hx : Passes CX X E)
    (hkw : PK X kws tk) (hall : (backToKw pos (keywordEach kws X.env)).all (·.1.isSome) = true := by rfl) (hks : (backToKw pos (keywordEach kws X.env)).filterMap (·.1) = ks := by rfl)
    (hdb : (x == ("__debug__" : Str)) = false := by decide)
    (hpl : ((backTo pos (starEach [] X.env)).any (·.1) || (backToKw pos (keywordEach kws X.env)).any (·.1.isNone)) = false := by rfl) :
    PE X (.Call (.Name x p) [] kws pos) (tCallKw sp gV E tk) := by
  refine ⟨fun pins s σ H Q I h => ?_⟩
  refine wpAny_Call_Name_kw (ld_glob I hg hm ?_ hdb)
  refine PySem.W.callWith_KW0 (h₀ := X.base) I.ok.mod.kin hk hall (thn (hkw.run pos pins s σ H _ I h) fun ws s2 ⟨zs, H2, I2, rz, q2⟩ => ⟨I2.kIn, ?_⟩) hpl
  rw [hks]
  exact run_fnk F hr hb hx I2 .nil rz q2
end
theorem len_cs (x : Str) : x.length = (cs x).length := by
  show x.cps.size = _
  simp
theorem ixN_of {n j : Nat} (h : j < n) : ixN n (j : Int) = some j := by
  unfold ixN
  rw [if_pos (by omega), if_pos (by omega)]
  simp
theorem fm0 {m : Int} (h : 0 < m) (a : Int) : 0 ≤ a.fmod m := by
  rw [Int.fmod_eq_emod_of_nonneg _ (by omega)]
  exact Int.emod_nonneg _ (by omega)
theorem fm1 {m : Int} (h : 0 < m) (a : Int) : a.fmod m < m := by
  rw [Int.fmod_eq_emod_of_nonneg _ (by omega)]
  exact Int.emod_lt_of_pos _ h
/-- a while's word over a natural number -/
theorem while_n {c : TT} {tb : TS} {D : Ends} {σ : L2.St} {H : Hp} (Pv : Nat → L2.St → Hp → Prop) (m : Nat) (h0 : Pv m σ H)
    (hs : ∀ m σ H, Pv m σ H → c σ H fun b H1 => if b = true then ∃ N : L2.St → Hp → Prop, (∀ σ' H', N σ' H' → ∃ m', m' < m ∧ Pv m' σ' H') ∧ tb { D with nx := N, ct := N, bk := D.nx } σ H1 else D.nx σ H1) : tWhile c tb D σ H :=
  ⟨Pv, ⟨m, h0⟩, hs⟩
/-! # cases -/
def tNoE : TE := fun _ _ _ => False
theorem pe_no {X : Cx} {e : Expr} : PE X e tNoE := ⟨fun _ _ _ _ _ _ h => h.elim⟩
/-- True, False as a pattern -/
def rBool (c : Bool) : PatR := fun v _ Q => ∃ b, v = .bl b ∧ Q (if b = c then some [] else none)
theorem pp_bool {X : Cx} {pos : Pos} {c : Bool} : PPt X (.MatchSingleton (.bool c) pos) [] (rBool c) := by
  refine ⟨fun pins s σ H v u Q I r h => ?_⟩
  obtain ⟨b, rfl, q⟩ := h
  obtain rfl : u = Value.bool b := r
  refine wpAny_matchPattern_Singleton_bool ?_
  cases b <;> cases c
  · exact ⟨I, rfl, [], .nil, q⟩
  · exact ⟨I, q⟩
  · exact ⟨I, q⟩
  · exact ⟨I, rfl, [], .nil, q⟩
theorem either_bool {b : Bool} {H : Hp} {Q : Option (List V) → Prop} (h : Q (some [])) : rOr [rBool true, rBool false] (.bl b) H Q := by
  cases b
  · exact ⟨false, rfl, ⟨false, rfl, h⟩⟩
  · exact ⟨true, rfl, h⟩
def rNo : PatR := fun _ _ _ => False
theorem pcs_never {X : Cx} {cases : List MatchCase} : PCs X cases [([], rNo, fun _ _ _ => False)] := ⟨fun _ _ _ _ _ _ _ _ _ _ h => h.elim⟩
def Hit (r : PatR) (y : Str) : Prop := ∀ H Q, Q (some []) → r (.str y) H Q
def Miss (r : PatR) (y : Str) : Prop := ∀ H Q, Q none → r (.str y) H Q
theorem hit_lit {c : Str} : Hit (rLit c) c := fun H Q h => ⟨c, rfl, by rw [if_pos rfl]; exact h⟩
theorem miss_lit {c y : Str} (ne : y ≠ c) : Miss (rLit c) y := fun H Q h => ⟨y, rfl, by rw [if_neg ne]; exact h⟩
theorem hit_or {r : PatR} {rs : List PatR} {y : Str} (h : Hit r y) : Hit (rOr (r :: rs)) y := fun H Q q => h H _ q
theorem hit_or2 {r : PatR} {rs : List PatR} {y : Str} (m : Miss r y) (h : Hit (rOr rs) y) : Hit (rOr (r :: rs)) y := fun H Q q => m H _ (h H Q q)
theorem miss_or {r : PatR} {rs : List PatR} {y : Str} (m : Miss r y) (h : Miss (rOr rs) y) : Miss (rOr (r :: rs)) y := fun H Q q => m H _ (h H Q q)
theorem miss_or0 {y : Str} : Miss (rOr []) y := fun H Q q => q
theorem each_caps {H : Hp} : ∀ {ys : List V} {Q : Option (List V) → Prop}, Q (some ys) → rEach (List.replicate ys.length rCap) ys H Q
  | [], _, h => h
  | y :: ys, Q, h => by
    show rEach (List.replicate ys.length rCap) ys H _
    exact each_caps (ys := ys) (Q := fun o' => match o' with | none => Q none | some more => Q (some ([y] ++ more))) h
theorem case_hit {K : Frag} {n : Nat} {r : PatR} {rs : List PatR} {is : List Nat} {t : TS} {rest : List (List Nat × PatR × TS)} {a : Addr} {c : Str} {ys : List V} {D : Ends} {σ : L2.St} {H : Hp} (hq : SqT K H a (.str c :: ys)) (hh : Hit r c) (h : t D (setAll σ is ys) H)
    (hr : rs = List.replicate ys.length rCap := by rfl) (hn : n = ys.length + 1 := by rfl) : tCases ((is, rSeq K n (r :: rs), t) :: rest) (.ref a) D σ H := by
  subst hr
  subst hn
  refine ⟨a, _, rfl, hq, fun ne => absurd rfl ne, fun _ => ?_⟩
  refine hh H _ ?_
  exact each_caps (Q := fun o' => match o' with | none => tCases rest (.ref a) D σ H | some more => t D (setAll σ is ([] ++ more)) H) h
theorem case_miss {K : Frag} {n : Nat} {r : PatR} {rs : List PatR} {is : List Nat} {t : TS} {rest : List (List Nat × PatR × TS)} {a : Addr} {c : Str} {ys : List V} {D : Ends} {σ : L2.St} {H : Hp} (hq : SqT K H a (.str c :: ys)) (hh : Miss r c ∨ ys.length + 1 ≠ n) (h : tCases rest (.ref a) D σ H) :
    tCases ((is, rSeq K n (r :: rs), t) :: rest) (.ref a) D σ H := by
  rcases hh with hh | ne
  · exact ⟨a, _, rfl, hq, fun _ => h, fun _ => hh H _ h⟩
  · exact ⟨a, _, rfl, hq, fun _ => h, fun e => absurd e ne⟩
theorem ml {c y : Str} {n m : Nat} (ne : y ≠ c := by decide +kernel) : Miss (rLit c) y ∨ n ≠ m := .inl (miss_lit ne)
/-- what a piece's tuple holds -/
theorem pc_two {K : Frag} {H : Hp} {v : V} {k : Str} {d : PyData} (h : Dp K H v (.tuple [.str k, d])) : ∃ a x, v = .ref a ∧ SqT K H a [.str k, x] ∧ Dp K H x d := by
  obtain ⟨a, xs, rfl, hq, all⟩ := dp_tup h
  cases all with
  | cons h1 t1 =>
    obtain rfl := dp_str h1
    cases t1 with
    | cons h2 t2 =>
      cases t2
      exact ⟨a, _, rfl, hq, h2⟩
theorem pc_three {K : Frag} {H : Hp} {v : V} {k : Str} {d e : PyData} (h : Dp K H v (.tuple [.str k, d, e])) : ∃ a x y, v = .ref a ∧ SqT K H a [.str k, x, y] ∧ Dp K H x d ∧ Dp K H y e := by
  obtain ⟨a, xs, rfl, hq, all⟩ := dp_tup h
  cases all with
  | cons h1 t1 =>
    obtain rfl := dp_str h1
    cases t1 with
    | cons h2 t2 =>
      cases t2 with
      | cons h3 t3 =>
        cases t3
        exact ⟨a, _, _, rfl, hq, h2, h3⟩
/-- data that can be laid, no deeper than n -/
def Sh (n : Nat) (d : PyData) : Prop := d.canLay0 = true ∧ d.depth ≤ n
theorem sh_all {n : Nat} : ∀ {ds : List PyData}, (∀ d ∈ ds, Sh n d) → PyData.canLayAll0 ds = true ∧ PyData.depthAll ds ≤ n
  | [], _ => ⟨PyData.canLayAll0.eq_1, by rw [PyData.depthAll.eq_1]; exact Nat.zero_le _⟩
  | d :: ds, h => by
    have h1 := h d (.head _)
    have h2 := sh_all (n := n) (ds := ds) fun e m => h e (.tail _ m)
    exact ⟨by rw [PyData.canLayAll0.eq_2, h1.1, h2.1]; rfl, by rw [PyData.depthAll.eq_2]; exact Nat.max_le.mpr ⟨h1.2, h2.2⟩⟩
theorem sh_lst {n : Nat} {ds : List PyData} (h : ∀ d ∈ ds, Sh n d) : Sh (n + 1) (.list ds) := by
  have z := sh_all h
  exact ⟨by rw [PyData.canLay0.eq_5]; exact z.1, by rw [PyData.depth.eq_1]; omega⟩
theorem sh_tup {n : Nat} {ds : List PyData} (h : ∀ d ∈ ds, Sh n d) : Sh (n + 1) (.tuple ds) := by
  have z := sh_all h
  exact ⟨by rw [PyData.canLay0.eq_6]; exact z.1, by rw [PyData.depth.eq_2]; omega⟩
theorem sh_str {x : Str} (h : PyData.strOk x = true) : Sh 0 (.str x) := ⟨by rw [PyData.canLay0.eq_4]; exact h, Nat.le_of_eq rfl⟩
theorem sh_mono {n m : Nat} {d : PyData} (h : Sh n d) (l : n ≤ m) : Sh m d := ⟨h.1, Nat.le_trans h.2 l⟩
theorem sh_ok {n : Nat} {d : PyData} (h : Sh n d) (l : n ≤ 64 := by decide) : SeqAt.shaped d = true := by
  unfold SeqAt.shaped
  rw [h.1, decide_eq_true (Nat.le_trans h.2 l)]
  rfl
theorem eqv_nil (ds : List PyData) : PyData.eqv (.list ds) (.list []) = ds.isEmpty := by
  cases ds <;> rfl
/-- all of the answers of a walk -/
theorem lc_all {K : Frag} {a D : Addr} {xs : List V} {bs : List Bool} {H : Hp} {σ : L2.St} {vs : List Nat} {g : TG} {te : TE} {Qd : Hp → Prop} (hq : SqL K H a xs) (hD : H D = none) (hb : bs.length = xs.length) (hl : xs.length ≤ 1000)
    (turn : ∀ (i : Nat) (x : V) (b : Bool) (H' : Hp) (Q : VK), xs[i]? = some x → bs[i]? = some b → Same H H' → (∀ H4, Same H' H4 → Q (.bl b) H4) → g x (wipe σ vs) H' fun σ2 H2 => wipe σ2 vs = wipe σ vs ∧ te σ2 H2 Q)
    (hd : ∀ H', Same H H' → SqL K H' D (bs.map V.bl) → Qd H') :
    ∃ W : Nat → Nat → Hp → Prop, (∃ m, W 0 m (L2.upd H D (.lst []))) ∧ ∀ i m H, W i m H →
      ((Itl K a).stop i H ∧ Qd H) ∨ ((Itl K a).go i H ∧ ∃ Nx : Hp → Prop, (∀ H', Nx H' → ∃ m', m' < m ∧ W (i + 1) m' H') ∧ ∀ x H', (Itl K a).yld i H x H' → g x (wipe σ vs) H' fun σ2 H2 => wipe σ2 vs = wipe σ vs ∧ tYes σ2 H2 fun b H3 =>
        if b = true then te σ2 H3 fun y H4 => ∃ acc, H4 D = some (.lst acc) ∧ acc.length < sizeLine ∧ Nx (L2.upd H4 D (.lst (acc ++ [y]))) else Nx H3) := by
  refine lc_it (walk_list (xs := xs)) (fun i H' => Same H H' ∧ H' D = some (.lst ((bs.take i).map V.bl))) ⟨same_upd hD, upd_same⟩ (fun i H' _ e => e.1.seq hq) (fun i x H' H2 hi e y => ?_) (fun H' e => ?_)
  · obtain ⟨rfl, hx⟩ := y
    obtain ⟨s1, h1⟩ := e
    obtain ⟨b, hbi⟩ : ∃ b, bs[i]? = some b := ⟨_, List.getElem?_eq_getElem (by omega)⟩
    refine turn i x b H2 _ hx hbi s1 fun H4 s4 => ⟨_, s4 _ _ h1, ?_, same_upd2 (s1.trans s4) hD, ?_⟩
    · rw [List.length_map, List.length_take, sizeLine_eq]
      omega
    · rw [upd_same, take_snoc hbi, List.map_append]
      rfl
  · obtain ⟨s1, h1⟩ := e
    rw [← hb, List.take_length] at h1
    exact hd H' s1 (SqL.of h1)
def hide (H : Hp) (W : Addr) : Hp := fun b => if b = W then none else H b
theorem hide_same {H : Hp} {W : Addr} : Same (hide H W) H := fun b o h => by
  unfold hide at h
  by_cases e : b = W
  · rw [if_pos e] at h; cases h
  · rw [if_neg e] at h; exact h
theorem hide_upd {H : Hp} {W : Addr} {o : HO} : Same (hide H W) (hide (L2.upd H W o) W) := fun b u h => by
  unfold hide at h ⊢
  by_cases e : b = W
  · rw [if_pos e] at h; cases h
  · rw [if_neg e] at h ⊢
    rw [upd_ne e]
    exact h
theorem hide_ne {H : Hp} {W b : Addr} {o : HO} (h : H b = some o) (ne : b ≠ W) : hide H W b = some o := by
  unfold hide
  rw [if_neg ne]
  exact h
theorem hide_mono {H H' : Hp} {W : Addr} (s : Same H H') : Same (hide H W) (hide H' W) := fun b u h => by
  unfold hide at h ⊢
  by_cases e : b = W
  · rw [if_pos e] at h; cases h
  · rw [if_neg e] at h ⊢
    exact s b u h
/-- what was there before W came -/
theorem hide_of {H H' : Hp} {W : Addr} (s : Same H H') (h : H W = none) : Same H (hide H' W) := fun b u e => by
  unfold hide
  rw [if_neg (ne_of_none e h)]
  exact s b u e
end Qb
end PySem
namespace PySem
namespace Qb
open PySem.W PySem.Calls PyProof.Rows L2
/-! # |= and &=, of names and of fields -/
section
variable {X : Cx}
theorem ip_or : PIp X .BitOr (ipI fun i j => Builtin.bitOr i j) := by
  intro pins s σ H x y v u Q I r1 r2 h
  obtain ⟨i, j, e1, e2, q⟩ := h
  subst e1; subst e2
  obtain ⟨t, rfl⟩ := r1
  obtain ⟨t', rfl⟩ := r2
  exact ior_int ⟨.int _, H, I.tok _, ⟨_, rfl⟩, q⟩
theorem ip_and : PIp X .BitAnd (ipI fun i j => Builtin.bitAnd i j) := by
  intro pins s σ H x y v u Q I r1 r2 h
  obtain ⟨i, j, e1, e2, q⟩ := h
  subst e1; subst e2
  obtain ⟨t, rfl⟩ := r1
  obtain ⟨t', rfl⟩ := r2
  exact iand_int ⟨.int _, H, I.tok _, ⟨_, rfl⟩, q⟩
def rOrI : V → V → Hp → VK → Prop := fun x y H Q => ∃ i j, x = .int i ∧ y = .int j ∧ Q (.int (Builtin.bitOr i j)) H
theorem in_or : InOp X .BitOr rOrI := by
  rintro pins s σ H x y u v Q I rx ry ⟨i, j, rfl, rfl, q⟩
  obtain ⟨t, rfl⟩ := (show ∃ t, u = Value.int i t from rx)
  obtain ⟨t', rfl⟩ := (show ∃ t', v = Value.int j t' from ry)
  exact ior_int ⟨.int _, H, I.tok _, ⟨_, rfl⟩, q⟩
end
/-! # x[::-1] of a text -/
def revS (x : Str) : Str := ⟨x.cps.reverse⟩
theorem rev_slice (x : Str) (u : Tok) : Txt.sliceBy x none none (-1, u) = revS x := by
  have e : (Txt.sliceBy x none none (-1, u)).cps.toList = (revS x).cps.toList := by
    rw [step_rev_list]
    show _ = x.cps.reverse.toList
    rw [Array.toList_reverse]
    refine List.ext_getElem (by simp [Str.length]) fun i h1 h2 => ?_
    have hi : i < x.cps.size := by simpa [Str.length] using h1
    rw [List.getElem_map, List.getElem_range, List.getElem_reverse]
    have : x.length - 1 - i < x.cps.size := by show x.cps.size - 1 - i < _; omega
    simp [Array.getD, this]
    rfl
  have := Array.toList_inj.mp e
  cases h : Txt.sliceBy x none none (-1, u)
  rw [h] at this
  rw [show revS x = ⟨(revS x).cps⟩ from rfl, ← this]
def tRevS (te : TE) : TE := fun σ H Q => te σ H fun v H1 => ∃ x, v = .str x ∧ x.length ≤ sizeLine ∧ Q (.str (revS x)) H1
theorem pe_revS {X : Cx} {e : Expr} {te : TE} {k : Nat} {p1 p2 p3 pos : Pos} (he : PE X e te) : PE X (.Subscript e (.Slice none none (some (.UnaryOp .USub (.Constant (.int 1) k p1) p2)) p3) pos) (tRevS te) := by
  refine ⟨fun pins s σ H Q I h => ?_⟩
  refine Subscript_ (thn (he.run pins s σ H _ I h) fun v s1 ⟨y, H1, I1, r1, q1⟩ => ?_)
  obtain ⟨x, ex, hx, q⟩ := q1
  subst ex
  obtain ⟨t0, rfl⟩ := r1
  have hst : PO X (some (.UnaryOp .USub (.Constant (.int 1) k p1) p2)) (tPart (tUn (rU fun i => .int (-i)) (tC (.int 1)))) := po_some (pe_un un_neg pe_int)
  refine wpAny_Slice (thn (po_none.run pins s1 σ H1 (fun o H2 => o = none ∧ H2 = H1) I1 ⟨rfl, rfl⟩) fun vl s2 ⟨l, H2, I2, pl, el, e2⟩ => ?_)
  subst el e2
  refine thn (po_none.run pins s2 σ H2 (fun o H3 => o = none ∧ H3 = H2) I2 ⟨rfl, rfl⟩) fun vu s3 ⟨u, H3, I3, pu, eu, e3⟩ => ?_
  subst eu e3
  refine thn (hst.run pins s3 σ H3 (fun o H4 => o = some (-1) ∧ H4 = H3) I3 ⟨1, rfl, -1, rfl, rfl, rfl⟩) fun vs s4 ⟨o, H4, I4, ps, eo, e4⟩ => ?_
  subst eo e4
  have I5 : Inv X pins σ H4 { s4 with heap := s4.heap.push { cls := .type "slice", data := .fields #[vl, vu, vs] } } := I4.kept (t' := s4.toks) fun b ob q => Heap.get?_push_of_some _ q
  obtain ⟨l, e1, e2⟩ := IsPart.raw pl
  obtain ⟨u, e3, e4⟩ := IsPart.raw pu
  obtain ⟨st, e5, e6⟩ := IsPart.raw ps
  subst e1 e3 e5
  cases l with
  | some l => cases e2
  | none =>
  cases u with
  | some u => cases e4
  | none =>
  cases st with
  | none => cases e6
  | some st =>
  obtain ⟨i, ti⟩ := st
  obtain rfl : i = -1 := Option.some.inj e6
  show wpAny (model X.prog X.w) X.A (subscriptTail e (.Slice none none (some (.UnaryOp .USub (.Constant (.int 1) k p1) p2)) p3) (.str x t0) (.ref s4.heap.objs.size)) (EP X pins σ Q) X.xe { s4 with heap := s4.heap.push { cls := .type "slice", data := .fields #[_, _, _] } }
  refine tail_any (ops := [.str x t0, .ref s4.heap.objs.size]) (typeIs_str _ _ _) (F.slot_str_getitem.lookup) ?_ (by with_unfolding_all rfl)
  refine wpAny_getItem_str_slice (l := none) (u := none) (st := some (-1, ti)) (Heap.IsSliceOf.new _ _ _ _) rfl ?_
  have hl : (Txt.sliceBy x none none (-1, ti)).length ≤ sizeLine := by
    rw [rev_slice]
    show x.cps.reverse.size ≤ _
    rw [Array.size_reverse]
    exact hx
  rw [← rev_slice x ti] at q
  unfold Txt.sliceBy at q hl
  show Made.post (if (((-1 : Int) == 1) && (slicePicked x none none (some (-1, ti))).length == x.length) = true then Made.val (.str x t0) else Made.str ⟨((slicePicked x none none (some (-1, ti))).filterMap (x.cps[·]?)).toArray⟩) (EP X pins σ Q) _
  rw [if_neg (by simp)]
  rw [if_neg (by simp)] at q hl
  exact ⟨hl, .str _, H4, I5.tok _, ⟨_, rfl⟩, q⟩
/-! # enumerate of a text -/
def Ites (x : Str) : It :=
  ⟨fun i _ => i < x.cps.size, fun i H v H' => ∃ T c, v = .ref T ∧ H T = none ∧ x.cps[i]? = some c ∧ H' = L2.upd H T (.tup [.int (i : Nat), .str ⟨#[c]⟩]), fun i _ => i = x.cps.size⟩
theorem turn_enumS {P : Program} {w : World} {K : PySem.W.Frag} {elts : List Expr} {kk : Nat} {tpos : Pos} (x : Str) (t : Tok) (ty : String) (hty : ty = "str_ascii_iterator" ∨ ty = "str_iterator") (e it : Addr) :
    Turn P w K (.Tuple elts kk tpos) (Ites x) [e, it] e (fun i h => (∃ old, IsEnum h e it ((i : Nat) : Int) old) ∧ h.IsStrIter it ty x t i ∧ e ≠ it) where
  mem := by simp
  obj := fun i h st b hb => by
    obtain ⟨⟨old, he⟩, ⟨o, ho, hc, hd⟩, _⟩ := st
    have e' : b = e ∨ b = it := by simpa using hb
    rcases e' with z | z
    · rw [z]; exact ⟨_, he, fun v q => nomatch q⟩
    · rw [z]; exact ⟨o, ho, fun v q => by rw [hd] at q; cases q⟩
  keep := fun i h h' st k => let ⟨⟨old, he⟩, ⟨o, ho, r⟩, hne⟩ := st; ⟨⟨old, k e (by simp) _ he⟩, ⟨o, k it (by simp) o ho, r⟩, hne⟩
  item := by
    intro X hP hw hK hc i pins s σ H E I hf st hg
    subst hP hw hK
    obtain ⟨⟨old, he⟩, hit, hne⟩ := st
    have D : Draws X.prog X.w X.A.in1 it [it] x.cps.size (fun i v => ∃ c u, x.cps[i]? = some c ∧ v = .str ⟨#[c]⟩ u) (fun i h => h.IsStrIter it ty x t i) := by
      rcases hty with e | e
      · rw [e]; exact Draws.strAscii (A := X.A.in1) (show X.A.in1.handled = none from I.ok.hd hc) it x t
      · rw [e]; exact Draws.strWide (A := X.A.in1) (show X.A.in1.handled = none from I.ok.hd hc) it x t
    have hel : e < s.heap.objs.size := Heap.lt_size he
    have hil : it < s.heap.objs.size := by obtain ⟨_, q, _⟩ := hit; exact Heap.lt_size q
    refine wpAny_pyNext_enum_itemD D he hit hg hne (by simpa using hne) fun u h' tk hP ho hit' hT hsz hk => ?_
    obtain ⟨c, tu, hcx, rfl⟩ := hP
    refine ⟨_, rfl, wpAny_letOwnedTupleGo_enum (s := { s with heap := h', toks := tk + 1 }) ho fun h'' he' sb => ?_⟩
    have hT2 : h''.get? s.heap.objs.size = some { cls := .type "tuple", data := .seq #[.int i tk, .str ⟨#[c]⟩ tu] } := (sb.2 _ (Nat.ne_of_gt hel)).trans hT
    have new : ObjOk X.prog X.w (L2.upd H s.heap.objs.size (.tup [.int (i : Nat), .str ⟨#[c]⟩])) h'' s.heap.objs.size (.tup [.int (i : Nat), .str ⟨#[c]⟩]) :=
      ⟨by show 2 ≤ sizeLine; decide, [.int i tk, .str ⟨#[c]⟩ tu], .cons ⟨_, rfl⟩ (.cons ⟨_, rfl⟩ .nil), ⟨_, hT2, rfl, _, rfl⟩⟩
    have I1 : Inv X pins σ (L2.upd H s.heap.objs.size (.tup [.int (i : Nat), .str ⟨#[c]⟩])) { s with heap := h'', toks := tk + 1 } :=
      I.turnedNew (ch := [e, it]) (fun b ob hb q => (sb.2 b (fun z => hb (by simp [z]))).trans (hk b ob (fun z => hb (by simp [z])) (fun z => hb (by simp [z])) q)) hf (Nat.le_refl _) new
    refine ⟨.ref s.heap.objs.size, _, I1, rfl, ⟨_, c, rfl, I.hok.fresh (Nat.le_refl _), hcx, rfl⟩, ⟨⟨.str ⟨#[c]⟩ tu, ?_⟩, ?_, hne⟩, fun b hb => ?_⟩
    · have e1 : ((i + 1 : Nat) : Int) = (i : Int) + 1 := by omega
      rw [e1]; exact he'
    · obtain ⟨o, q, r⟩ := hit'
      exact ⟨o, (sb.2 it (Ne.symm hne)).trans q, r⟩
    · have hb' : b < s.heap.objs.size := by
        have e' : b = e ∨ b = it := by simpa using hb
        rcases e' with z | z
        · rw [z]; exact hel
        · rw [z]; exact hil
      rw [upd_ne (Nat.ne_of_lt hb')]
      exact (hf b hb).1
  done := by
    intro X hP hw hK hc i pins s σ H E I hf st hg
    subst hP hw hK
    obtain ⟨⟨old, he⟩, hit, hne⟩ := st
    have D : Draws X.prog X.w X.A.in1 it [it] x.cps.size (fun i v => ∃ c u, x.cps[i]? = some c ∧ v = .str ⟨#[c]⟩ u) (fun i h => h.IsStrIter it ty x t i) := by
      rcases hty with e | e
      · rw [e]; exact Draws.strAscii (A := X.A.in1) (show X.A.in1.handled = none from I.ok.hd hc) it x t
      · rw [e]; exact Draws.strWide (A := X.A.in1) (show X.A.in1.handled = none from I.ok.hd hc) it x t
    obtain rfl : i = x.cps.size := hg
    obtain ⟨f0, f1, f2, f3, f4, f5⟩ := hf it (by simp)
    exact wpAny_pyNext_enum_endD D he hit fun h' eb => ⟨rfl, I.turned (t' := s.toks) (fun b o hb q => eb b o hb q) f0 f1 f3 f4 f5⟩
  self := fun A i s Q E st h => let ⟨⟨_, he⟩, _⟩ := st; wpAny_pyIter_enum he h
def iEnumS (ta : TA) : TI := fun σ H R => ta σ H fun vs H1 => ∃ x, vs = [.str x] ∧ R (Ites x) H1
theorem pi_enumS {X : Cx} {e : Expr} {ta : TA} {p pos tpos : Pos} {elts : List Expr} {kk : Nat} (hg : Gl X "enumerate") (hm : X.mg "enumerate" = none) (ha : PA X [e] ta) (hs : starEach [e] X.env = [(false, eval e X.env)] := by rfl) :
    PI X (.Tuple elts kk tpos) (.Call (.Name "enumerate" p) [e] [] pos) (iEnumS ta) := by
  refine ⟨fun pins s σ H R I h => ?_⟩
  refine Call_ (ld_blt I hg hm boot_enumerate (PyProof.Rows.callWith_type1 (thn (ha.run pos pins s σ H _ I h) fun us s1 ⟨vs, H1, I1, r1, q1⟩ => ?_) hs rfl))
  obtain ⟨x, ex, q⟩ := q1
  subst ex
  cases r1 with
  | cons r rr =>
    cases rr
    obtain ⟨t, rfl⟩ := r
    refine call_enumerate_str fun h' he hit hsz hk => wpAny_pyIter_enum he ?_
    have I2 : Inv X pins σ H1 { s1 with heap := h' } := I1.kept (t' := s1.toks) hk
    have hty : strIterType x = "str_ascii_iterator" ∨ strIterType x = "str_iterator" := by
      unfold strIterType
      split
      · first | exact .inl rfl | exact .inr rfl
      · first | exact .inr rfl | exact .inl rfl
    refine ⟨s1.heap.objs.size + 1, [s1.heap.objs.size + 1, s1.heap.objs.size], _, _, H1, rfl, I2, turn_enumS x t (strIterType x) hty (s1.heap.objs.size + 1) s1.heap.objs.size, ⟨⟨.none, he⟩, hit, Nat.succ_ne_self _⟩, fun b hb => ?_, q⟩
    have e' : b = s1.heap.objs.size + 1 ∨ b = s1.heap.objs.size := by simpa using hb
    have hle : s1.heap.objs.size ≤ b := by
      rcases e' with z | z
      · rw [z]; exact Nat.le_add_right _ _
      · rw [z]; exact Nat.le_refl _
    exact I1.fpOk hle (I1.hok.fresh hle)
theorem walk_enumS {z : Str} : L2.Walk (Ites z) z.cps.size (fun _ => True) (fun i H v H' => ∃ T c, v = .ref T ∧ H T = none ∧ z.cps[i]? = some c ∧ H' = L2.upd H T (.tup [.int (i : Nat), .str ⟨#[c]⟩])) :=
  ⟨fun _ _ hi _ => hi, fun _ _ => rfl, fun _ _ _ _ _ _ y => y⟩
end Qb
end PySem
namespace PySem
namespace Qb
open PySem.W PySem.Calls PyProof.Rows L2
def signsS : Str := "\n !\"#$&'()*+,-./0123456789:;<=>?@ABCDEFGHIJKLMNOPQRSTUVWXYZ[\\]^_`abcdefghijklmnopqrstuvwxyz{|}~"
abbrev sg (c : Nat) : Str := ⟨#[c]⟩
def rgD (r : Nat × Nat) : PyData := .tuple [.str (sg r.1), .str (sg r.2)]
inductive Pt where
  | one (c : Nat)
  | any
  | lot
  | of (no : Bool) (rs : List (Nat × Nat))
def Pt.d : Pt → PyData
  | .one c => .tuple [.str "one", .str (sg c)]
  | .any => .tuple [.str "any"]
  | .lot => .tuple [.str "lot"]
  | .of no rs => .tuple [.str "of", .bool no, .list (rs.map rgD)]
def Pt.good : Pt → Prop
  | .one c => c ∈ cs signsS
  | .of _ rs => rs ≠ [] ∧ ∀ r ∈ rs, r.1 ∈ cs signsS ∧ r.2 ∈ cs signsS ∧ r.1 ≤ r.2
  | _ => True
def Pt.few : Pt → Prop
  | .of _ rs => rs.length ≤ 300
  | _ => True
def Pt.takes : Pt → Nat → Bool
  | .one c, x => c == x
  | .of no rs, x => (rs.any fun r => decide (r.1 ≤ x) && decide (x ≤ r.2)) != no
  | _, _ => true
def Pt.isLot : Pt → Bool
  | .lot => true
  | _ => false
/-- a row of pieces lets a row of signs by -/
def M : List Pt → List Nat → Prop
  | [], w => w = []
  | p :: ps, w => if p.isLot = true then ∃ k, k ≤ w.length ∧ M ps (w.drop k) else ∃ c v, w = c :: v ∧ p.takes c = true ∧ M ps v
theorem M_nil {w : List Nat} : M [] w ↔ w = [] := Iff.rfl
theorem M_lot {ps : List Pt} {w : List Nat} : M (.lot :: ps) w ↔ ∃ k, k ≤ w.length ∧ M ps (w.drop k) := by
  show (if _ then _ else _) ↔ _
  rw [if_pos (show Pt.lot.isLot = true from rfl)]
theorem M_one {p : Pt} {ps : List Pt} {w : List Nat} (h : p.isLot = false) : M (p :: ps) w ↔ ∃ c v, w = c :: v ∧ p.takes c = true ∧ M ps v := by
  show (if _ then _ else _) ↔ _
  rw [h, if_neg (by decide)]
theorem isLot_eq {p : Pt} (h : p.isLot = true) : p = .lot := by
  cases p <;> first | rfl | cases h
theorem M_append : ∀ {ps qs : List Pt} {w : List Nat}, M (ps ++ qs) w ↔ ∃ k, k ≤ w.length ∧ M ps (w.take k) ∧ M qs (w.drop k)
  | [], qs, w => by
    constructor
    · intro h
      exact ⟨0, Nat.zero_le _, rfl, h⟩
    · rintro ⟨k, hk, h1, h2⟩
      have h1 : w.take k = [] := h1
      have : k = 0 ∨ w = [] := by
        cases k with
        | zero => exact .inl rfl
        | succ k => cases w with
          | nil => exact .inr rfl
          | cons _ _ => cases h1
      rcases this with rfl | rfl
      · exact h2
      · simpa using h2
  | p :: ps, qs, w => by
    cases hp : p.isLot with
    | true =>
      obtain rfl := isLot_eq hp
      rw [List.cons_append, M_lot]
      constructor
      · rintro ⟨j, hj, h⟩
        obtain ⟨k, hk, h1, h2⟩ := M_append.mp h
        rw [List.length_drop] at hk
        refine ⟨j + k, by omega, M_lot.mpr ⟨j, by rw [List.length_take]; omega, ?_⟩, by rw [List.drop_drop] at h2; exact h2⟩
        rw [List.drop_take, show j + k - j = k by omega]
        exact h1
      · rintro ⟨k, hk, h1, h2⟩
        obtain ⟨j, hj, h1⟩ := M_lot.mp h1
        rw [List.length_take] at hj
        refine ⟨j, by omega, M_append.mpr ⟨k - j, by rw [List.length_drop]; omega, by rw [List.drop_take] at h1; exact h1, ?_⟩⟩
        rw [List.drop_drop, show j + (k - j) = k by omega]
        exact h2
    | false =>
      rw [List.cons_append, M_one hp]
      constructor
      · rintro ⟨c, v, rfl, ht, h⟩
        obtain ⟨k, hk, h1, h2⟩ := M_append.mp h
        exact ⟨k + 1, Nat.succ_le_succ hk, (M_one hp).mpr ⟨c, v.take k, rfl, ht, h1⟩, h2⟩
      · rintro ⟨k, hk, h1, h2⟩
        obtain ⟨c, v, e, ht, h⟩ := (M_one hp).mp h1
        cases w with
        | nil => simp at e
        | cons d u =>
          cases k with
          | zero => cases e
          | succ k =>
            obtain ⟨rfl, rfl⟩ := List.cons.inj e
            exact ⟨d, u, rfl, ht, M_append.mpr ⟨k, Nat.le_of_succ_le_succ hk, h, h2⟩⟩
theorem M_congr {a b b' : List Pt} (h : ∀ w, M b w ↔ M b' w) (w : List Nat) : M (a ++ b) w ↔ M (a ++ b') w := by
  rw [M_append, M_append]
  constructor
  · rintro ⟨k, hk, h1, h2⟩; exact ⟨k, hk, h1, (h _).mp h2⟩
  · rintro ⟨k, hk, h1, h2⟩; exact ⟨k, hk, h1, (h _).mpr h2⟩
theorem M_lot_lot {ps : List Pt} (w : List Nat) : M (.lot :: .lot :: ps) w ↔ M (.lot :: ps) w := by
  rw [M_lot, M_lot]
  constructor
  · rintro ⟨k, hk, h⟩
    obtain ⟨j, hj, h⟩ := M_lot.mp h
    rw [List.length_drop] at hj
    rw [List.drop_drop] at h
    exact ⟨k + j, by omega, h⟩
  · rintro ⟨k, hk, h⟩
    exact ⟨0, Nat.zero_le _, M_lot.mpr ⟨k, hk, h⟩⟩
theorem drop_cons {w : List Nat} {k : Nat} (h : k < w.length) : w.drop k = w[k] :: w.drop (k + 1) := List.drop_eq_getElem_cons h
theorem M_lot_any {ps : List Pt} (w : List Nat) : M (.lot :: .any :: ps) w ↔ M (.any :: .lot :: ps) w := by
  rw [M_lot, M_one (p := .any) rfl]
  constructor
  · rintro ⟨k, hk, h⟩
    obtain ⟨c, v, e, _, hv⟩ := (M_one (p := .any) rfl).mp h
    cases w with
    | nil => simp at e
    | cons d u =>
      refine ⟨d, u, rfl, rfl, M_lot.mpr ⟨k, ?_, ?_⟩⟩
      · have : k < (d :: u).length := by
          rcases Nat.lt_or_ge k (d :: u).length with z | z
          · exact z
          · rw [List.drop_eq_nil_of_le z] at e; cases e
        simpa [Nat.lt_succ_iff] using this
      · have : u.drop k = v := by
          have e2 := congrArg List.tail e
          rw [List.tail_drop] at e2
          exact e2
        rw [this]
        exact hv
  · rintro ⟨c, v, rfl, _, h⟩
    obtain ⟨k, hk, h⟩ := M_lot.mp h
    have e : (c :: v).drop k = (c :: v)[k]'(by simp; omega) :: v.drop k := drop_cons (w := c :: v) (by simp; omega)
    exact ⟨k, by simp; omega, (M_one (p := .any) rfl).mpr ⟨_, _, e, rfl, h⟩⟩
/-! ## the rows that a machine reads -/
def lotAt (R : List Pt) (q : Nat) : Bool := match R[q]? with
  | some p => p.isLot
  | none => false
theorem lotAt_lt {R : List Pt} {q : Nat} (h : lotAt R q = true) : q < R.length := by
  unfold lotAt at h
  rcases Nat.lt_or_ge q R.length with z | z
  · exact z
  · rw [List.getElem?_eq_none z] at h; cases h
theorem drop_lot {R : List Pt} {q : Nat} (h : lotAt R q = true) : R.drop q = .lot :: R.drop (q + 1) := by
  have l := lotAt_lt h
  unfold lotAt at h
  rw [List.getElem?_eq_getElem l] at h
  rw [List.drop_eq_getElem_cons l, isLot_eq h]
theorem drop_non {R : List Pt} {q : Nat} (l : q < R.length) (h : lotAt R q = false) : R.drop q = R[q] :: R.drop (q + 1) ∧ R[q].isLot = false := by
  unfold lotAt at h
  rw [List.getElem?_eq_getElem l] at h
  exact ⟨List.drop_eq_getElem_cons l, h⟩
/-- no two lots side by side -/
def Sep (R : List Pt) : Prop := ∀ q, lotAt R q = true → lotAt R (q + 1) = false
def Acc (R : List Pt) (s : Nat) (w : List Nat) : Prop := ∃ q, s.testBit q = true ∧ M (R.drop q) w
def In (R : List Pt) (s : Nat) : Prop := ∀ q, s.testBit q = true → q ≤ R.length
def Cl (R : List Pt) (s : Nat) : Prop := ∀ q, s.testBit q = true → lotAt R q = true → s.testBit (q + 1) = true
/-- what is behind a lot is behind it from any place ahead -/
theorem M_drop_lot {R : List Pt} {w : List Nat} {k : Nat} (hk : lotAt R k = true) : ∀ {n q : Nat}, q + n = k → M (R.drop q) w → M (R.drop k) w
  | 0, q, e, h => by
    obtain rfl : q = k := by omega
    exact h
  | n + 1, q, e, h => by
    have l := lotAt_lt hk
    have lk := drop_lot hk
    have ex : ∃ v j, j ≤ w.length ∧ v = w.drop j ∧ M (R.drop (q + 1)) v := by
      cases hq : lotAt R q with
      | true =>
        rw [drop_lot hq, M_lot] at h
        obtain ⟨j, hj, h⟩ := h
        exact ⟨_, j, hj, rfl, h⟩
      | false =>
        obtain ⟨e1, e2⟩ := drop_non (by omega) hq
        rw [e1, M_one e2] at h
        obtain ⟨c, v, rfl, _, h⟩ := h
        exact ⟨v, 1, by simp, rfl, h⟩
    obtain ⟨v, j, hj, rfl, hv⟩ := ex
    have z := M_drop_lot hk (n := n) (q := q + 1) (by omega) hv
    rw [lk, M_lot] at z ⊢
    obtain ⟨i, hi, z⟩ := z
    rw [List.length_drop] at hi
    rw [List.drop_drop] at z
    exact ⟨j + i, by omega, z⟩
/-- bits below k taken away -/
def clr (s k : Nat) : Nat := s / 2 ^ k * 2 ^ k
theorem clr_bit (s k q : Nat) : (clr s k).testBit q = (decide (k ≤ q) && s.testBit q) := by
  unfold clr
  rw [Nat.testBit_mul_two_pow]
  by_cases h : k ≤ q
  · rw [decide_eq_true h, Nat.testBit_div_two_pow, Nat.sub_add_cancel h]
  · rw [decide_eq_false h]
    rfl
theorem clr_int (s k : Nat) : Builtin.bitAnd (s : Int) (Builtin.bitNot ((2 : Int) ^ k - 1)) = ((clr s k : Nat) : Int) := by
  rw [bitAnd_not, Bits.bitAnd_mask k (Int.natCast_nonneg _)]
  have e : ((s : Int) % 2 ^ k) = ((s % 2 ^ k : Nat) : Int) := by
    rw [Int.natCast_emod, PySem.W.kbt_cast]
  rw [e]
  have := Nat.div_add_mod s (2 ^ k)
  unfold clr
  have h2 : s / 2 ^ k * 2 ^ k = 2 ^ k * (s / 2 ^ k) := Nat.mul_comm _ _
  omega
theorem and_int (a b : Nat) : Builtin.bitAnd (a : Int) (b : Int) = ((a &&& b : Nat) : Int) := by
  rw [bitAnd_pp (Int.natCast_nonneg _) (Int.natCast_nonneg _)]
  rfl
theorem or_int' (a b : Nat) : Builtin.bitOr (a : Int) (b : Int) = ((a ||| b : Nat) : Int) := by
  rw [bitOr_nn (Int.natCast_nonneg _) (Int.natCast_nonneg _)]
  rfl
theorem clr_ok {R : List Pt} {s k : Nat} (hs : Sep R) (hi : In R s) (hc : Cl R s) (hk : lotAt R k = true) (hb : s.testBit k = true) : In R (clr s k) ∧ Cl R (clr s k) ∧ ∀ w, Acc R (clr s k) w ↔ Acc R s w := by
  refine ⟨fun q h => ?_, fun q h hl => ?_, fun w => ⟨?_, ?_⟩⟩
  · rw [clr_bit, Bool.and_eq_true] at h
    exact hi q h.2
  · rw [clr_bit, Bool.and_eq_true] at h ⊢
    exact ⟨decide_eq_true (by have := of_decide_eq_true h.1; omega), hc q h.2 hl⟩
  · rintro ⟨q, h, m⟩
    rw [clr_bit, Bool.and_eq_true] at h
    exact ⟨q, h.2, m⟩
  · rintro ⟨q, h, m⟩
    by_cases e : k ≤ q
    · exact ⟨q, by rw [clr_bit, decide_eq_true e, h]; rfl, m⟩
    · exact ⟨k, by rw [clr_bit, decide_eq_true (Nat.le_refl _), hb]; rfl, M_drop_lot hk (n := k - q) (by omega) m⟩
/-- the bits of a row's lots -/
def Lots (R : List Pt) (l : Nat) : Prop := ∀ q, l.testBit q = lotAt R q
def cl1 (s l : Nat) : Nat := s ||| ((s &&& l) * 2)
theorem dbl_bit (s q : Nat) : (s * 2).testBit q = (decide (1 ≤ q) && s.testBit (q - 1)) := by
  have := Nat.testBit_mul_two_pow s q 1
  rw [Nat.pow_one] at this
  exact this
theorem cl1_ok {R : List Pt} {s l : Nat} (hs : Sep R) (hL : Lots R l) (hi : In R s) : In R (cl1 s l) ∧ Cl R (cl1 s l) ∧ ∀ w, Acc R (cl1 s l) w ↔ Acc R s w := by
  have bit : ∀ q, (cl1 s l).testBit q = true ↔ s.testBit q = true ∨ ∃ p, q = p + 1 ∧ s.testBit p = true ∧ lotAt R p = true := by
    intro q
    unfold cl1
    rw [Nat.testBit_or, dbl_bit, Nat.testBit_and, Bool.or_eq_true, Bool.and_eq_true, Bool.and_eq_true, hL]
    constructor
    · rintro (h | ⟨h1, h2, h3⟩)
      · exact .inl h
      · have := of_decide_eq_true h1
        exact .inr ⟨q - 1, by omega, h2, h3⟩
    · rintro (h | ⟨p, rfl, h2, h3⟩)
      · exact .inl h
      · exact .inr ⟨decide_eq_true (by omega), by rw [Nat.add_sub_cancel]; exact h2, by rw [Nat.add_sub_cancel]; exact h3⟩
  refine ⟨fun q h => ?_, fun q h hl => ?_, fun w => ⟨?_, ?_⟩⟩
  · rcases (bit q).mp h with h | ⟨p, rfl, h1, h2⟩
    · exact hi q h
    · exact lotAt_lt h2
  · rcases (bit q).mp h with h | ⟨p, rfl, h1, h2⟩
    · exact (bit _).mpr (.inr ⟨q, rfl, h, hl⟩)
    · rw [hs p h2] at hl
      cases hl
  · rintro ⟨q, h, m⟩
    rcases (bit q).mp h with h | ⟨p, rfl, h1, h2⟩
    · exact ⟨q, h, m⟩
    · exact ⟨p, h1, by rw [drop_lot h2, M_lot]; exact ⟨0, Nat.zero_le _, m⟩⟩
  · rintro ⟨q, h, m⟩
    exact ⟨q, (bit q).mpr (.inl h), m⟩
/-- the bits of the pieces that take a sign -/
def Mask (R : List Pt) (c k : Nat) : Prop := ∀ q, k.testBit q = true ↔ ∃ p, R[q]? = some p ∧ p.isLot = false ∧ p.takes c = true
def stp (s k l : Nat) : Nat := ((s &&& k) * 2) ||| (s &&& l)
theorem stp_ok {R : List Pt} {s l k c : Nat} (hs : Sep R) (hL : Lots R l) (hM : Mask R c k) (hi : In R s) (hc : Cl R s) : In R (stp s k l) ∧ ∀ w, Acc R (stp s k l) w ↔ Acc R s (c :: w) := by
  have bit : ∀ q, (stp s k l).testBit q = true ↔ (∃ p x, q = p + 1 ∧ s.testBit p = true ∧ R[p]? = some x ∧ x.isLot = false ∧ x.takes c = true) ∨ (s.testBit q = true ∧ lotAt R q = true) := by
    intro q
    unfold stp
    rw [Nat.testBit_or, dbl_bit, Nat.testBit_and, Nat.testBit_and, Bool.or_eq_true, Bool.and_eq_true, Bool.and_eq_true, Bool.and_eq_true, hL]
    constructor
    · rintro (⟨h1, h2, h3⟩ | h)
      · have := of_decide_eq_true h1
        obtain ⟨x, e⟩ := (hM _).mp h3
        exact .inl ⟨q - 1, x, by omega, h2, e⟩
      · exact .inr h
    · rintro (⟨p, x, rfl, h2, h3⟩ | h)
      · exact .inl ⟨decide_eq_true (by omega), by rw [Nat.add_sub_cancel]; exact h2, by rw [Nat.add_sub_cancel]; exact (hM _).mpr ⟨x, h3⟩⟩
      · exact .inr h
  have lt : ∀ {p : Nat} {x : Pt}, R[p]? = some x → ∃ h : p < R.length, R[p] = x := fun e => List.getElem?_eq_some_iff.mp e
  refine ⟨fun q h => ?_, fun w => ⟨?_, ?_⟩⟩
  · rcases (bit q).mp h with ⟨p, x, rfl, h1, h2, _⟩ | ⟨h, _⟩
    · exact (lt h2).1
    · exact hi q h
  · rintro ⟨q, h, m⟩
    rcases (bit q).mp h with ⟨p, x, rfl, h1, h2, h3, h4⟩ | ⟨h, hl⟩
    · obtain ⟨l', rfl⟩ := lt h2
      exact ⟨p, h1, by rw [List.drop_eq_getElem_cons l']; exact (M_one h3).mpr ⟨c, w, rfl, h4, m⟩⟩
    · rw [drop_lot hl, M_lot] at m
      obtain ⟨j, hj, m⟩ := m
      exact ⟨q, h, by rw [drop_lot hl, M_lot]; exact ⟨j + 1, Nat.succ_le_succ hj, m⟩⟩
  · rintro ⟨q, h, m⟩
    have one : ∀ p, s.testBit p = true → lotAt R p = false → M (R.drop p) (c :: w) → Acc R (stp s k l) w := by
      intro p hp hl m
      have lp : p < R.length := by
        rcases Nat.lt_or_ge p R.length with z | z
        · exact z
        · rw [List.drop_eq_nil_of_le z] at m; cases m
      obtain ⟨e1, e2⟩ := drop_non lp hl
      rw [e1, M_one e2] at m
      obtain ⟨c', v, e, ht, m⟩ := m
      obtain ⟨rfl, rfl⟩ := List.cons.inj e
      exact ⟨p + 1, (bit _).mpr (.inl ⟨p, R[p], rfl, hp, List.getElem?_eq_getElem lp, e2, ht⟩), m⟩
    cases hl : lotAt R q with
    | false => exact one q h hl m
    | true =>
      rw [drop_lot hl, M_lot] at m
      obtain ⟨j, hj, m⟩ := m
      cases j with
      | zero => exact one (q + 1) (hc q h hl) (hs q hl) m
      | succ j => exact ⟨q, (bit q).mpr (.inr ⟨h, hl⟩), by rw [drop_lot hl, M_lot]; exact ⟨j, Nat.le_of_succ_le_succ hj, m⟩⟩
theorem acc_end {R : List Pt} {s : Nat} (hs : Sep R) (hi : In R s) (hc : Cl R s) : s.testBit R.length = true ↔ Acc R s [] := by
  constructor
  · intro h
    exact ⟨_, h, by rw [List.drop_length]; rfl⟩
  · rintro ⟨q, h, m⟩
    have one : ∀ p, s.testBit p = true → lotAt R p = false → M (R.drop p) [] → s.testBit R.length = true := by
      intro p hp hl m
      rcases Nat.lt_or_ge p R.length with z | z
      · obtain ⟨e1, e2⟩ := drop_non z hl
        rw [e1, M_one e2] at m
        obtain ⟨c, v, e, _⟩ := m
        cases e
      · have := hi p hp
        rw [show R.length = p by omega]
        exact hp
    cases hl : lotAt R q with
    | false => exact one q h hl m
    | true =>
      rw [drop_lot hl, M_lot] at m
      obtain ⟨j, hj, m⟩ := m
      obtain rfl : j = 0 := by simpa using hj
      exact one (q + 1) (hc q h hl) (hs q hl) m
/-- a standing that is closed, and what it lets by -/
structure Std (R : List Pt) (s : Nat) (f : List Nat → Prop) : Prop where
  ins : In R s
  cl : Cl R s
  acc : ∀ w, Acc R s w ↔ f w
theorem in_lt {R : List Pt} {s : Nat} (h : In R s) : s < 2 ^ (R.length + 1) := by
  rcases Nat.lt_or_ge s (2 ^ (R.length + 1)) with z | z
  · exact z
  · obtain ⟨i, hi, hb⟩ := Nat.exists_ge_and_testBit_of_ge_two_pow z
    have := h i hb
    omega
end Qb
end PySem
namespace PySem
namespace Qb
open PySem.W PySem.Calls PyProof.Rows L2
theorem lotAt_snoc (T : List Pt) (x : Pt) (q : Nat) : lotAt (T ++ [x]) q = if q < T.length then lotAt T q else if q = T.length then x.isLot else false := by
  unfold lotAt
  by_cases h : q < T.length
  · rw [if_pos h, List.getElem?_append_left h]
  · rw [if_neg h, List.getElem?_append_right (by omega)]
    by_cases e : q = T.length
    · subst e
      rw [if_pos rfl, Nat.sub_self]
      rfl
    · rw [if_neg e, List.getElem?_eq_none (by simp; omega)]
theorem lotAt_big {T : List Pt} {q : Nat} (h : T.length ≤ q) : lotAt T q = false := by
  unfold lotAt
  rw [List.getElem?_eq_none h]
theorem Lots.nil : Lots [] 0 := fun q => by rw [Nat.zero_testBit]; rfl
theorem Lots.snoc {T : List Pt} {l : Nat} (h : Lots T l) (x : Pt) : Lots (T ++ [x]) (if x.isLot = true then l ||| 2 ^ T.length else l) := fun q => by
  rw [lotAt_snoc]
  by_cases hx : x.isLot = true
  · rw [if_pos hx, Nat.testBit_or, Nat.testBit_two_pow, h q]
    by_cases h1 : q < T.length
    · rw [if_pos h1, decide_eq_false (by omega), Bool.or_false]
    · rw [if_neg h1, lotAt_big (by omega), Bool.false_or]
      by_cases h2 : q = T.length
      · rw [if_pos h2, hx, decide_eq_true h2.symm]
      · rw [if_neg h2, decide_eq_false (Ne.symm h2)]
  · rw [if_neg hx, h q]
    by_cases h1 : q < T.length
    · rw [if_pos h1]
    · rw [if_neg h1, lotAt_big (by omega)]
      split
      · simpa using hx
      · rfl
structure RT (ps : List Pt) (i : Nat) (T : List Pt) (b : Bool) : Prop where
  sep : Sep T
  last : ∀ q, lotAt T q = true → q + 1 < T.length
  len : T.length + b.toNat ≤ i
  mem : ∀ p ∈ T, p ∈ ps ∨ p = .lot
  eq : ∀ rest w, M (ps.take i ++ rest) w ↔ M (T ++ ((if b = true then [Pt.lot] else []) ++ rest)) w
theorem RT.zero (ps : List Pt) : RT ps 0 [] false := ⟨fun q h => (by simp [lotAt] at h), fun q h => (by simp [lotAt] at h), Nat.le_refl _, (by simp), fun _ _ => Iff.rfl⟩
theorem take_mid {ps : List Pt} {i : Nat} {p : Pt} (h : ps[i]? = some p) (rest : List Pt) : ps.take (i + 1) ++ rest = ps.take i ++ (p :: rest) := by
  rw [List.take_succ, h]
  simp
theorem RT.lot {ps T : List Pt} {i : Nat} {b : Bool} (h : RT ps i T b) (e : ps[i]? = some .lot) : RT ps (i + 1) T true := by
  refine ⟨h.sep, h.last, ?_, h.mem, fun rest w => ?_⟩
  · have := h.len
    cases b <;> simp at this ⊢ <;> omega
  · rw [take_mid e, h.eq]
    refine M_congr (fun u => ?_) w
    cases b with
    | false => exact Iff.rfl
    | true => exact M_lot_lot u
theorem sep_snoc {T : List Pt} {x : Pt} (hs : Sep T) (hl : ∀ q, lotAt T q = true → q + 1 < T.length) (hx : x.isLot = false) : Sep (T ++ [x]) ∧ ∀ q, lotAt (T ++ [x]) q = true → q + 1 < (T ++ [x]).length := by
  refine ⟨fun q h => ?_, fun q h => ?_⟩
  · rw [lotAt_snoc] at h ⊢
    by_cases c : q < T.length
    · rw [if_pos c] at h
      rw [if_pos (hl q h), hs q h]
    · rw [if_neg c] at h
      split at h
      · rw [hx] at h; cases h
      · cases h
  · rw [lotAt_snoc] at h
    by_cases c : q < T.length
    · rw [if_pos c] at h
      have := hl q h
      rw [List.length_append]
      omega
    · rw [if_neg c] at h
      split at h
      · rw [hx] at h; cases h
      · cases h
theorem sep_lot {T : List Pt} (hs : Sep T) (hl : ∀ q, lotAt T q = true → q + 1 < T.length) : Sep (T ++ [.lot]) := fun q h => by
  rw [lotAt_snoc] at h ⊢
  by_cases c : q < T.length
  · rw [if_pos c] at h
    rw [if_pos (hl q h), hs q h]
  · rw [if_neg c] at h
    rw [if_neg (by omega)]
    split at h
    · rw [if_neg (by omega)]
    · cases h
theorem sep_lot_x {T : List Pt} {x : Pt} (hs : Sep T) (hl : ∀ q, lotAt T q = true → q + 1 < T.length) (hx : x.isLot = false) : Sep (T ++ [Pt.lot] ++ [x]) ∧ ∀ q, lotAt (T ++ [Pt.lot] ++ [x]) q = true → q + 1 < (T ++ [Pt.lot] ++ [x]).length := by
  have s1 := sep_lot hs hl
  have ln : (T ++ [Pt.lot]).length = T.length + 1 := by rw [List.length_append]; rfl
  refine ⟨fun q h => ?_, fun q h => ?_⟩
  · rw [lotAt_snoc] at h ⊢
    by_cases c : q < (T ++ [Pt.lot]).length
    · rw [if_pos c] at h
      by_cases c2 : q + 1 < (T ++ [Pt.lot]).length
      · rw [if_pos c2, s1 q h]
      · rw [if_neg c2, if_pos (by omega), hx]
    · rw [if_neg c] at h
      split at h
      · rw [hx] at h; cases h
      · cases h
  · rw [lotAt_snoc] at h
    by_cases c : q < (T ++ [Pt.lot]).length
    · rw [List.length_append, List.length_singleton]; omega
    · rw [if_neg c] at h
      split at h
      · rw [hx] at h; cases h
      · cases h
theorem RT.any {ps T : List Pt} {i : Nat} {b : Bool} (h : RT ps i T b) (e : ps[i]? = some .any) : RT ps (i + 1) (T ++ [.any]) b := by
  obtain ⟨s1, s2⟩ := sep_snoc (x := .any) h.sep h.last rfl
  refine ⟨s1, s2, ?_, fun p m => ?_, fun rest w => ?_⟩
  · have := h.len
    rw [List.length_append, List.length_singleton]
    omega
  · rcases List.mem_append.mp m with m | m
    · exact h.mem p m
    · rcases List.mem_singleton.mp m with rfl
      exact .inl (List.mem_of_getElem? e)
  · rw [take_mid e, h.eq, List.append_assoc]
    refine M_congr (fun u => ?_) w
    cases b with
    | false => exact Iff.rfl
    | true => exact M_lot_any u
theorem RT.non {ps T : List Pt} {i : Nat} {b : Bool} {p : Pt} (h : RT ps i T b) (e : ps[i]? = some p) (hp : p.isLot = false) : RT ps (i + 1) ((if b = true then T ++ [.lot] else T) ++ [p]) false := by
  have mp : p ∈ ps := List.mem_of_getElem? e
  cases b with
  | false =>
    rw [if_neg (by decide)]
    obtain ⟨s1, s2⟩ := sep_snoc (x := p) h.sep h.last hp
    refine ⟨s1, s2, ?_, fun x m => ?_, fun rest w => ?_⟩
    · have := h.len
      rw [List.length_append, List.length_singleton]
      simp at this ⊢
      omega
    · rcases List.mem_append.mp m with m | m
      · exact h.mem x m
      · rcases List.mem_singleton.mp m with rfl
        exact .inl mp
    · rw [take_mid e, h.eq, List.append_assoc]
      exact Iff.rfl
  | true =>
    rw [if_pos rfl]
    obtain ⟨s1, s2⟩ := sep_lot_x (x := p) h.sep h.last hp
    refine ⟨s1, s2, ?_, fun x m => ?_, fun rest w => ?_⟩
    · have := h.len
      rw [List.length_append, List.length_append, List.length_singleton, List.length_singleton]
      simp at this ⊢
      omega
    · rcases List.mem_append.mp m with m | m
      · rcases List.mem_append.mp m with m | m
        · exact h.mem x m
        · exact .inr (List.mem_singleton.mp m)
      · rcases List.mem_singleton.mp m with rfl
        exact .inl mp
    · rw [take_mid e, h.eq, List.append_assoc, List.append_assoc]
      exact Iff.rfl
/-- a row that a machine reads for a pattern -/
structure Norm (ps R : List Pt) : Prop where
  sep : Sep R
  len : R.length ≤ ps.length
  mem : ∀ p ∈ R, p ∈ ps ∨ p = .lot
  eq : ∀ w, M ps w ↔ M R w
theorem RT.done {ps T : List Pt} {b : Bool} (h : RT ps ps.length T b) : Norm ps (if b = true then T ++ [.lot] else T) := by
  have z := h.eq []
  rw [List.take_length, List.append_nil, List.append_nil] at z
  cases b with
  | false =>
    refine ⟨h.sep, by have := h.len; simp at this; exact this, h.mem, fun w => ?_⟩
    rw [z w, if_neg (by decide), if_neg (by decide), List.append_nil]
  | true =>
    refine ⟨sep_lot h.sep h.last, by have := h.len; rw [if_pos rfl, List.length_append]; simpa using this, fun p m => ?_, fun w => z w⟩
    rcases List.mem_append.mp m with m | m
    · exact h.mem p m
    · exact .inr (List.mem_singleton.mp m)
/-! # rows of places -/
abbrev Asc (E : List Nat) : Prop := E.Pairwise (· < ·)
theorem asc_ext : ∀ {E F : List Nat}, Asc E → Asc F → (∀ x, x ∈ E ↔ x ∈ F) → E = F
  | [], [], _, _, _ => rfl
  | [], f :: F, _, _, h => by have := (h f).mpr (.head _); cases this
  | e :: E, [], _, _, h => by have := (h e).mp (.head _); cases this
  | e :: E, f :: F, hE, hF, h => by
    obtain ⟨hE1, hE2⟩ := List.pairwise_cons.mp hE
    obtain ⟨hF1, hF2⟩ := List.pairwise_cons.mp hF
    have ef : e = f := by
      rcases List.mem_cons.mp ((h e).mp (.head _)) with z | z
      · exact z
      · rcases List.mem_cons.mp ((h f).mpr (.head _)) with y | y
        · exact y.symm
        · have a := hF1 e z
          have b := hE1 f y
          omega
    subst ef
    congr 1
    refine asc_ext hE2 hF2 fun x => ⟨fun m => ?_, fun m => ?_⟩
    · rcases List.mem_cons.mp ((h x).mp (.tail _ m)) with z | z
      · have := hE1 x m
        omega
      · exact z
    · rcases List.mem_cons.mp ((h x).mpr (.tail _ m)) with z | z
      · have := hF1 x m
        omega
      · exact z
def EndsAt (ps : List Pt) (w : List Nat) (E : List Nat) : Prop := Asc E ∧ ∀ a, a ∈ E ↔ a ≤ w.length ∧ M ps (w.take a)
theorem EndsAt.uniq {ps qs : List Pt} {w E F : List Nat} (h1 : EndsAt ps w E) (h2 : EndsAt qs w F) (h : ∀ u, M ps u ↔ M qs u) : E = F :=
  asc_ext h1.1 h2.1 fun a => by rw [h1.2, h2.2, h]
theorem EndsAt.nil (w : List Nat) : EndsAt [] w [0] := ⟨by simp, fun a => by
  rw [List.mem_singleton, M_nil]
  constructor
  · rintro rfl
    exact ⟨Nat.zero_le _, rfl⟩
  · rintro ⟨h1, h2⟩
    rcases List.take_eq_nil_iff.mp h2 with z | z
    · exact z
    · subst z
      simpa using h1⟩
def lotOf (E : List Nat) (a : Nat) : Bool := match E with
  | [] => false
  | e :: _ => decide (e ≤ a)
theorem lotOf_iff {E : List Nat} (hE : Asc E) (a : Nat) : lotOf E a = true ↔ ∃ e ∈ E, e ≤ a := by
  cases E with
  | nil => simp [lotOf]
  | cons e E =>
    show decide (e ≤ a) = true ↔ _
    constructor
    · intro h
      exact ⟨e, .head _, of_decide_eq_true h⟩
    · rintro ⟨x, m, h⟩
      refine decide_eq_true ?_
      rcases List.mem_cons.mp m with rfl | m
      · exact h
      · have := (List.pairwise_cons.mp hE).1 x m
        omega
theorem EndsAt.lot {ps : List Pt} {w E : List Nat} (h : EndsAt ps w E) : EndsAt (ps ++ [.lot]) w ((List.range (w.length + 1)).filter (lotOf E)) := by
  refine ⟨List.Pairwise.filter _ (by simpa using List.pairwise_lt_range), fun a => ?_⟩
  rw [List.mem_filter, List.mem_range, lotOf_iff h.1, M_append]
  constructor
  · rintro ⟨h1, e, m, h2⟩
    obtain ⟨h3, h4⟩ := (h.2 e).mp m
    refine ⟨by omega, e, by rw [List.length_take]; omega, by rw [List.take_take, Nat.min_eq_left h2]; exact h4, M_lot.mpr ⟨((w.take a).drop e).length, Nat.le_refl _, ?_⟩⟩
    rw [List.drop_length]
    rfl
  · rintro ⟨h1, k, hk, h2, _⟩
    rw [List.length_take] at hk
    rw [List.take_take, Nat.min_eq_left (by omega)] at h2
    exact ⟨by omega, k, (h.2 k).mpr ⟨by omega, h2⟩, by omega⟩
def tk (p : Pt) (w : List Nat) (a : Nat) : Bool := match w[a]? with
  | some c => p.takes c
  | none => false
theorem EndsAt.one {ps : List Pt} {w E : List Nat} {p : Pt} (h : EndsAt ps w E) (hp : p.isLot = false) : EndsAt (ps ++ [p]) w ((E.filter (tk p w)).map (· + 1)) := by
  refine ⟨?_, fun a => ?_⟩
  · show (List.map (· + 1) (E.filter (tk p w))).Pairwise (· < ·)
    rw [List.pairwise_map]
    exact (List.Pairwise.filter _ h.1).imp fun z => by omega
  · rw [List.mem_map]
    constructor
    · rintro ⟨b, m, rfl⟩
      obtain ⟨m, ht⟩ := List.mem_filter.mp m
      obtain ⟨h1, h2⟩ := (h.2 b).mp m
      unfold tk at ht
      rcases Nat.lt_or_ge b w.length with z | z
      · rw [List.getElem?_eq_getElem z] at ht
        refine ⟨z, M_append.mpr ⟨b, by rw [List.length_take]; omega, by rw [List.take_take, Nat.min_eq_left (by omega)]; exact h2, (M_one hp).mpr ⟨w[b], [], ?_, ht, rfl⟩⟩⟩
        rw [List.drop_take, List.drop_eq_getElem_cons z, show b + 1 - b = 1 by omega]
        rfl
      · rw [List.getElem?_eq_none z] at ht
        cases ht
    · rintro ⟨h1, h2⟩
      obtain ⟨k, hk, h3, h4⟩ := M_append.mp h2
      obtain ⟨c, v, e, ht, h5⟩ := (M_one hp).mp h4
      obtain rfl : v = [] := h5
      have el := congrArg List.length e
      rw [List.length_drop, List.length_take] at el
      simp at el
      have hk2 : k < w.length := by rw [List.length_take] at hk; omega
      have ea : a = k + 1 := by omega
      subst ea
      rw [List.take_take, Nat.min_eq_left (by omega)] at h3
      refine ⟨k, List.mem_filter.mpr ⟨(h.2 k).mpr ⟨by omega, h3⟩, ?_⟩, rfl⟩
      unfold tk
      rw [List.getElem?_eq_getElem hk2]
      rw [List.drop_take, List.drop_eq_getElem_cons hk2, show k + 1 - k = 1 by omega] at e
      obtain rfl := (List.cons.inj e).1
      exact ht
/-- what is found so far by a machine -/
def Found (ps : List Pt) (w : List Nat) (i : Nat) (E : List Nat) : Prop := Asc E ∧ ∀ a, a ∈ E ↔ a ≤ i ∧ M ps (w.take a)
theorem Found.next {ps : List Pt} {w E : List Nat} {i : Nat} (h : Found ps w i E) (b : Bool) (hb : b = true ↔ M ps (w.take (i + 1))) : Found ps w (i + 1) (if b = true then E ++ [i + 1] else E) := by
  cases b with
  | true =>
    rw [if_pos rfl]
    refine ⟨List.pairwise_append.mpr ⟨h.1, by simp, fun a m c mc => ?_⟩, fun a => ?_⟩
    · have := (h.2 a).mp m
      rcases List.mem_singleton.mp mc with rfl
      omega
    · rw [List.mem_append, List.mem_singleton, h.2]
      constructor
      · rintro (⟨h1, h2⟩ | rfl)
        · exact ⟨by omega, h2⟩
        · exact ⟨Nat.le_refl _, hb.mp rfl⟩
      · rintro ⟨h1, h2⟩
        by_cases e : a = i + 1
        · exact .inr e
        · exact .inl ⟨by omega, h2⟩
  | false =>
    rw [if_neg (by decide)]
    refine ⟨h.1, fun a => ?_⟩
    rw [h.2]
    constructor
    · rintro ⟨h1, h2⟩
      exact ⟨by omega, h2⟩
    · rintro ⟨h1, h2⟩
      by_cases e : a = i + 1
      · subst e
        have := hb.mpr h2
        cases this
      · exact ⟨by omega, h2⟩
end Qb
end PySem
namespace PySem
namespace Qb
open PySem.W PySem.Calls PyProof.Rows L2
def top (i : Nat) : Stmt := PySem.Challenge.pw_quotedback_k24_whole_joined_and_turned_a.main.body.getD i (.Pass ⟨0, 0, 0, 0⟩)
/-- names of the machine that the text's top leaves as they are -/
structure Blt (mg : Str → Option Value) : Prop where
  abs : mg "abs" = none
  int : mg "int" = none
  len : mg "len" = none
  range : mg "range" = none
  isi : mg "isinstance" = none
  all : mg "all" = none
  max : mg "max" = none
  min : mg "min" = none
  list : mg "list" = none
  tuple : mg "tuple" = none
  str : mg "str" = none
  bool : mg "bool" = none
  sum : mg "sum" = none
  enumerate : mg "enumerate" = none
  sorted : mg "sorted" = none
  set : mg "set" = none
/-- what the text's top says of its written things -/
structure Wrt (mg : Str → Option Value) : Prop where
  signs : ∃ t, mg "SIGNS" = some (.str signsS t)
  all : ∃ t, mg "ALL_SIGNS" = some (.int (((2 ^ 95 - 1 : Nat)) : Int) t)
theorem glob_int {X : Cx} {x : Str} {c : Int} {pos : Pos} (hg : Gl X x) (hm : ∃ t, X.mg x = some (.int c t)) (hd : (x == ("__debug__" : Str)) = false := by decide) : PE X (.Name x pos) (tC (.int c)) := by
  obtain ⟨t, e⟩ := hm
  exact pe_glob hg e ⟨t, rfl⟩ hd
theorem eq_sg {c d : Nat} {x : Str} (hx : x = sg d) : decide (V.str (sg c) = V.str x) = (c == d) := by
  subst hx
  by_cases h : c = d
  · subst h; simp
  · rw [decide_eq_false, beq_eq_false_iff_ne.mpr h]
    intro z
    injection z with z
    have := congrArg cs z
    exact h (List.cons.inj this).1
theorem lt_sg (a b : Nat) : decide ((sg a).cps.toList < (sg b).cps.toList) = decide (a < b) := by
  have e : ((sg a).cps.toList < (sg b).cps.toList) ↔ a < b := by
    show ([a] : List Nat) < [b] ↔ a < b
    constructor
    · intro z
      cases z with
      | rel h => exact h
      | cons h => cases h
    · exact fun h => .rel h
  by_cases h : a < b
  · rw [decide_eq_true h, decide_eq_true (e.mpr h)]
  · rw [decide_eq_false h, decide_eq_false (fun z => h (e.mp z))]
theorem sg_len (c : Nat) : (sg c).length = 1 := rfl
theorem ty_lst {K : Frag} {H : Hp} {a : Addr} {xs : List V} (h : SqL K H a xs) : TyX K H (.ref a) (.type "list") := by
  rcases h with (h | ⟨o, h⟩) | ⟨o, its, n, h, c, _⟩
  · exact .base (.lst h)
  · exact .base (.frz h)
  · exact .kList h c
theorem ty_tup {K : Frag} {H : Hp} {a : Addr} {xs : List V} (h : SqT K H a xs) : TyX K H (.ref a) (.type "tuple") := by
  rcases h with (h | ⟨o, h⟩) | ⟨o, its, n, h, c, _⟩
  · exact .base (.tup h)
  · exact .fTuple h
  · exact .kTuple h c
theorem small_line {n : Nat} (h : n ≤ 1000000) : n ≤ sizeLine := by
  rw [sizeLine_eq]
  omega
def spSg : Sp := fun vs H Q _ => ∃ c, vs = [.str (sg c)] ∧ c ∈ cs signsS ∧ ∀ H', Same H H' → Q (.bl true) H'
def spRg (K : Frag) : Sp := fun vs H Q _ => ∃ v r, vs = [v] ∧ Dp K H v (rgD r) ∧ (r.1 ∈ cs signsS ∧ r.2 ∈ cs signsS ∧ r.1 ≤ r.2) ∧ ∀ H', Same H H' → Q (.bl true) H'
def spPp (K : Frag) : Sp := fun vs H Q _ => ∃ v p, vs = [v] ∧ Dp K H v (Pt.d p) ∧ p.good ∧ p.few ∧ ∀ H', Same H H' → Q (.bl true) H'
def spPa (K : Frag) : Sp := fun vs H Q _ => ∃ (v : V) (ps : List Pt), vs = [v] ∧ Dp K H v (.list (ps.map Pt.d)) ∧ ps.length ≤ 1000 ∧ (∀ p ∈ ps, p.good ∧ p.few) ∧ ∀ H', Same H H' → Q (.bl true) H'
def spCp (K : Frag) : Sp := fun vs H Q _ => ∃ (a : Addr) (x : V) (ps : List Pt), vs = [.ref a] ∧ SqL K H a [x] ∧ Dp K H x (.list (ps.map Pt.d)) ∧ ps.length ≤ 1000 ∧ (∀ p ∈ ps, p.good ∧ p.few) ∧ ∀ H', Same H H' → Q .non H'
section
variable {P : Program} {w : World} {K : Frag} {mg : Str → Option Value} {base : Heap}
abbrev sSg : Stmt := top 9
abbrev nSg : List Str := ["text"]
theorem scSg : FnScope nSg ["text"] (defScope sSg) := ⟨rfl, rfl, rfl, by decide +kernel, rfl, by decide +kernel, by decide +kernel⟩
theorem has_Sg {f : Addr} {fd : FuncData} (F : Fun K "is_sign" "is_sign" sSg f fd) (g : mg "is_sign" = some (.ref f)) (B : Blt mg) (W : Wrt mg) :
    Has P w K mg base 1 "is_sign" ["text"] spSg := by
  refine has_of F g (F.binds (ps := ["text"]) fun _ _ _ _ _ _ us hl => match us, hl with | [_], _ => rfl) (F.ok scSg (fun vs H Q E h => ?_) (fun cdv A outer s H vs Q E hr h => ?_))
  · obtain ⟨x, rfl, _⟩ := h
    rfl
  · refine ⟨_, (pss_one (ps_ret (pe_and (pe_callB call_isi (by rfl) B.isi (by decide +kernel) (pa_cons (pv 0) (pa_cons (pe_bltn (v := .ty "str") (by rfl) B.str (by decide +kernel) rfl) pa_nil))) (pe_and (pe_cmpR op_eq (pe_callB call_len (by rfl) B.len PySem.boot_len (pa_cons (pv 0) pa_nil)) pe_int (nomark _)) (pe_one (pe_cmpR op_in_sign (pv 0) (glob_str (by rfl) W.signs) (by rfl))))))), ?_⟩
    obtain ⟨c, rfl, hc, k⟩ := h
    refine ⟨_, rfl, .str (sg c), .ty "str", .type "str", .type "str", true, rfl, .ty _, .base (.str (sg c)), kit_ty (by decide +kernel), _, rfl, if_yes rfl ⟨_, rfl, .str (sg c), 1, rfl, ⟨small_line (by rw [sg_len]; decide), rfl⟩, rfl, _, rfl, if_yes (by simp) ⟨_, rfl, c, signsS, rfl, rfl, ?_⟩⟩⟩
    rw [decide_eq_true hc]
    exact k H (Same.refl H)
abbrev sRg : Stmt := top 18
abbrev nRg : List Str := ["told", "first", "last"]
theorem scRg : FnScope nRg ["told"] (defScope sRg) := ⟨rfl, rfl, rfl, by decide +kernel, rfl, by decide +kernel, by decide +kernel⟩
theorem has_Rg {f : Addr} {fd : FuncData} (F : Fun K "is_range" "is_range" sRg f fd) (g : mg "is_range" = some (.ref f)) (B : Blt mg) (hSg : Has P w K mg base 1 "is_sign" ["text"] spSg) :
    Has P w K mg base 2 "is_range" ["told"] (spRg K) := by
  obtain ⟨fSg, dSg, gSg, kSg, bSg, GSg⟩ := hSg
  refine has_of F g (F.binds (ps := ["told"]) fun _ _ _ _ _ _ us hl => match us, hl with | [_], _ => rfl) (F.ok scRg (fun vs H Q E h => ?_) (fun cdv A outer s H vs Q E hr h => ?_))
  · obtain ⟨v, r, rfl, _⟩ := h
    rfl
  · refine ⟨_, (pss_cons (ps_match (pv 0)
        (pcs_cons (is := [1, 2]) scRg.nd (pp_seq rfl (pps_cons pp_cap (pps_cons pp_cap pps_nil))) (.cons ⟨rfl, .inl rfl, .inr rfl⟩ (.cons ⟨rfl, .inl rfl, .inr rfl⟩ .nil))
          (pss_one (ps_ret (pe_and (pe_call GSg hr rfl gSg kSg bSg .nil pass0 (pa_cons (pv 1) pa_nil)) (pe_and (pe_call GSg hr rfl gSg kSg bSg .nil pass0 (pa_cons (pv 2) pa_nil)) (pe_one (pe_cmpR op_le_str (pv 1) (pv 2) (nomark _))))))) pcs_nil))
        (pss_one (ps_ret pe_bl))), ?_⟩
    obtain ⟨v, r, rfl, hd, ⟨h1, h2, h3⟩, k⟩ := h
    obtain ⟨a, rfl, hq⟩ := dp_two hd
    refine ⟨_, rfl, a, _, rfl, hq, fun z => (z rfl).elim, fun _ => ?_⟩
    refine ⟨_, rfl, r.1, rfl, h1, fun H1 s1 => ⟨_, rfl, if_yes rfl ⟨_, rfl, r.2, rfl, h2, fun H2 s2 => ⟨_, rfl, if_yes rfl ⟨_, rfl, _, rfl, _, _, rfl, rfl, ?_⟩⟩⟩⟩⟩
    rw [lt_sg, decide_eq_false (by omega)]
    exact k _ (s1.trans s2)
theorem str_ok_sg {c : Nat} (h : c ∈ cs signsS) : PyData.strOk (sg c) = true := by
  have : ∀ c ∈ cs signsS, PyData.strOk (sg c) = true := by decide +kernel
  exact this c h
theorem sh_one {x : Str} (h : PyData.strOk x = true) : Sh 1 (.str x) := sh_mono (sh_str h) (by decide)
theorem sh_rg {r : Nat × Nat} (h1 : r.1 ∈ cs signsS) (h2 : r.2 ∈ cs signsS) : Sh 1 (rgD r) := sh_tup fun d m => by
  rcases List.mem_cons.mp m with rfl | m
  · exact sh_str (str_ok_sg h1)
  · rcases List.mem_singleton.mp m with rfl
    exact sh_str (str_ok_sg h2)
theorem sh_rgs {rs : List (Nat × Nat)} (h : ∀ r ∈ rs, r.1 ∈ cs signsS ∧ r.2 ∈ cs signsS ∧ r.1 ≤ r.2) : Sh 2 (.list (rs.map rgD)) := sh_lst fun d m => by
  obtain ⟨r, mr, rfl⟩ := List.mem_map.mp m
  exact sh_rg (h r mr).1 (h r mr).2.1
abbrev sPp : Stmt := top 17
abbrev nPp : List Str := ["piece", "sign", "ranges", "told"]
theorem scPp : FnScope nPp ["piece"] (defScope sPp) := ⟨rfl, rfl, rfl, by decide +kernel, rfl, by decide +kernel, by decide +kernel⟩
theorem has_Pp {f : Addr} {fd : FuncData} (F : Fun K "is_pattern_piece" "is_pattern_piece" sPp f fd) (g : mg "is_pattern_piece" = some (.ref f)) (B : Blt mg) (hSg : Has P w K mg base 1 "is_sign" ["text"] spSg) (hRg : Has P w K mg base 2 "is_range" ["told"] (spRg K)) :
    Has P w K mg base 3 "is_pattern_piece" ["piece"] (spPp K) := by
  obtain ⟨fSg, dSg, gSg, kSg, bSg, GSg⟩ := hSg
  obtain ⟨fRg, dRg, gRg, kRg, bRg, GRg⟩ := hRg
  refine has_of F g (F.binds (ps := ["piece"]) fun _ _ _ _ _ _ us hl => match us, hl with | [_], _ => rfl) (F.ok scPp (fun vs H Q E h => ?_) (fun cdv A outer s H vs Q E hr h => ?_))
  · obtain ⟨v, p, rfl, _⟩ := h
    rfl
  · refine ⟨_, (pss_cons (ps_match (pv 0)
        (pcs_cons (is := []) scPp.nd (pp_or (pf_cons (pp_seq rfl (pps_cons pp_lit pps_nil)) (pf_cons (pp_seq rfl (pps_cons pp_lit pps_nil)) pf_nil))) .nil
          (pss_one (ps_ret pe_bl))
        (pcs_cons (is := [1]) scPp.nd (pp_seq rfl (pps_cons pp_lit (pps_cons pp_cap pps_nil))) (.cons ⟨rfl, .inl rfl, .inr rfl⟩ .nil)
          (pss_one (ps_ret (pe_call GSg (hr.mono (by decide)) rfl gSg kSg bSg .nil pass0 (pa_cons (pv 1) pa_nil))))
        (pcs_cons (is := [2]) scPp.nd (pp_seq rfl (pps_cons pp_lit (pps_cons (pp_or (pf_cons pp_bool (pf_cons pp_bool pf_nil))) (pps_cons pp_cap pps_nil)))) (.cons ⟨rfl, .inl rfl, .inr rfl⟩ .nil)
          (pss_one (ps_ret (pe_and (pe_callB call_isi (by rfl) B.isi (by decide +kernel) (pa_cons (pv 2) (pa_cons (pe_bltn (v := .ty "list") (by rfl) B.list (by decide +kernel) rfl) pa_nil))) (pe_and (pe_cmpR (op_neD hr.units) (pv 2) (pe_lst pa_nil) (nomark _)) (pe_one (pe_callB (cr_all rfl) (by rfl) B.all (by decide +kernel) (pa_cons (pe_lc (own := [("told", 3)]) (g := gName 3) (tt := tYes) rfl scPp.nd (pi_list (pv 2)) (blkOk_by (N := nPp) (sc := defScope sPp) (by decide +kernel)) (fun _ _ _ _ _ => pg_name (i := 3) scPp.nd rfl (.inl rfl)) (fun _ _ _ _ _ => pts_nil) (fun _ _ _ _ _ => (pe_call GRg hr rfl gRg kRg bRg .nil pass0 (pa_cons (pv 3) pa_nil)))) pa_nil))))))) pcs_nil))))
        (pss_one (ps_ret pe_bl))), ?_⟩
    obtain ⟨v, p, rfl, hd, hg, hf, k⟩ := h
    have oth : ∀ {a xs} {n : Nat} {is : List Nat} {t : TS} {D : Ends} {σ : L2.St} {rest : List (List Nat × PatR × TS)}, SqT K H a xs → xs.length ≠ 1 → tCases rest (.ref a) D σ H → tCases ((is, rOr [rSeq K 1 [rLit "any"], rSeq K 1 [rLit "lot"]], t) :: rest) (.ref a) D σ H := fun hq ne q =>
      ⟨_, _, rfl, hq, fun _ => ⟨_, _, rfl, hq, fun _ => q, fun z => (ne z).elim⟩, fun z => (ne z).elim⟩
    cases p with
    | one c =>
      obtain ⟨a, rfl, hq⟩ := dp_two hd
      refine ⟨_, rfl, oth (n := 0) hq (by simp) (case_hit hq hit_lit ⟨_, rfl, c, rfl, hg, k⟩)⟩
    | any =>
      obtain ⟨a, xs, rfl, hq, all⟩ := dp_tup hd
      obtain ⟨rfl⟩ : xs = [.str "any"] := by
        cases all with
        | cons h1 t => cases t; obtain rfl := dp_str h1; rfl
      exact ⟨_, rfl, a, _, rfl, hq, fun z => (z rfl).elim, fun _ => ⟨"any", rfl, k H (Same.refl H)⟩⟩
    | lot =>
      obtain ⟨a, xs, rfl, hq, all⟩ := dp_tup hd
      obtain ⟨rfl⟩ : xs = [.str "lot"] := by
        cases all with
        | cons h1 t => cases t; obtain rfl := dp_str h1; rfl
      exact ⟨_, rfl, a, _, rfl, hq, fun z => (z rfl).elim, fun _ => ⟨"lot", rfl, a, _, rfl, hq, fun z => (z rfl).elim, fun _ => ⟨"lot", rfl, k H (Same.refl H)⟩⟩⟩
    | of no rs =>
      obtain ⟨a, x, y, rfl, hq, hx, hy⟩ := pc_three hd
      obtain ⟨b, ys, rfl, hb, all⟩ := dp_lst hy
      have ly := dpLen all
      rw [List.length_map] at ly
      have hl : rs.length ≤ 300 := hf
      refine ⟨_, rfl, oth (n := 0) hq (by simp) (case_miss hq (.inr (by simp)) ⟨a, _, rfl, hq, fun z => (z rfl).elim, fun _ => ⟨"of", rfl, ?_⟩⟩)⟩
      cases hx
      refine either_bool ?_
      refine ⟨_, rfl, .ref b, .ty "list", .type "list", .type "list", true, rfl, .ty _, ty_lst hb, kit_ty (by decide +kernel), _, rfl, if_yes rfl ?_⟩
      refine ⟨_, rfl, (by decide : 0 ≤ sizeLine), fun e ne => ?_⟩
      have s1 := same_upd (o := .lst []) ne
      refine ⟨.list (rs.map rgD), .list [], dp_same s1 hy, .lst (SqL.of upd_same) .nil, sh_ok (sh_rgs hg.2), by decide, _, rfl, ?_⟩
      rw [eqv_nil]
      refine if_yes (by cases rs with | nil => exact (hg.1 rfl).elim | cons r rs => rfl) ?_
      refine ⟨_, rfl, b, rfl, ⟨_, s1.seq hb⟩, fun D hD => lc_all (bs := rs.map fun _ => true) (s1.seq hb) hD (by rw [List.length_map, ly]) (by rw [ly]; omega) (fun i x b' H' Q' hx hb' s2 q => ?_) (fun H1 s2 q1 => ?_)⟩
      · obtain ⟨d, hdi, dp⟩ := dpAt' all hx
        rw [List.getElem?_map] at hdi hb'
        cases ep : rs[i]? with
        | none => rw [ep] at hdi; cases hdi
        | some r =>
          rw [ep] at hdi hb'
          obtain rfl := Option.some.inj hdi
          obtain rfl := Option.some.inj hb'
          exact ⟨rfl, _, rfl, _, r, rfl, dp_same (s1.trans s2) dp, hg.2 r (List.mem_of_getElem? ep), q⟩
      · refine ⟨D, _, rfl, q1, ?_⟩
        have z := k _ (s1.trans s2)
        rw [show (rs.map fun _ => true).all id = true by rw [List.all_eq_true]; intro x m; obtain ⟨r, _, rfl⟩ := List.mem_map.mp m; rfl]
        exact z
abbrev sPa : Stmt := top 16
abbrev nPa : List Str := ["pattern", "piece"]
theorem scPa : FnScope nPa ["pattern"] (defScope sPa) := ⟨rfl, rfl, rfl, by decide +kernel, rfl, by decide +kernel, by decide +kernel⟩
theorem has_Pa {f : Addr} {fd : FuncData} (F : Fun K "is_pattern" "is_pattern" sPa f fd) (g : mg "is_pattern" = some (.ref f)) (B : Blt mg) (hPp : Has P w K mg base 3 "is_pattern_piece" ["piece"] (spPp K)) :
    FnOk P w K mg base CX0 4 f fd ["pattern"] (spPa K) := by
  obtain ⟨fPp, dPp, gPp, kPp, bPp, GPp⟩ := hPp
  refine (F.ok scPa (fun vs H Q E h => ?_) (fun cdv A outer s H vs Q E hr h => ?_))
  · obtain ⟨v, ps, rfl, _⟩ := h
    rfl
  · refine ⟨_, (pss_one (ps_ret (pe_callB (cr_all rfl) (by rfl) B.all (by decide +kernel) (pa_cons (pe_lc (own := [("piece", 1)]) (g := gName 1) (tt := tYes) rfl scPa.nd (pi_list (pv 0)) (blkOk_by (N := nPa) (sc := defScope sPa) (by decide +kernel)) (fun _ _ _ _ _ => pg_name (i := 1) scPa.nd rfl (.inl rfl)) (fun _ _ _ _ _ => pts_nil) (fun _ _ _ _ _ => (pe_call GPp hr rfl gPp kPp bPp .nil pass0 (pa_cons (pv 1) pa_nil)))) pa_nil)))), ?_⟩
    obtain ⟨v, ps, rfl, hd, hl, hg, k⟩ := h
    obtain ⟨a, xs, rfl, hq, all⟩ := dp_lst hd
    have lx := dpLen all
    rw [List.length_map] at lx
    refine ⟨_, rfl, a, rfl, ⟨_, hq⟩, fun D hD => lc_all (bs := ps.map fun _ => true) hq hD (by rw [List.length_map, lx]) (by rw [lx]; exact hl) (fun i x b H' Q' hx hb s1 q => ?_) (fun H1 s1 q1 => ?_)⟩
    · obtain ⟨d, hdi, dp⟩ := dpAt' all hx
      rw [List.getElem?_map] at hdi hb
      cases ep : ps[i]? with
      | none => rw [ep] at hdi; cases hdi
      | some p =>
        rw [ep] at hdi hb
        obtain rfl := Option.some.inj hdi
        obtain rfl := Option.some.inj hb
        have z := hg p (List.mem_of_getElem? ep)
        exact ⟨rfl, _, rfl, _, p, rfl, dp_same s1 dp, z.1, z.2, q⟩
    · refine ⟨D, _, rfl, q1, ?_⟩
      rw [show (ps.map fun _ => true).all id = true by rw [List.all_eq_true]; intro x m; obtain ⟨r, _, rfl⟩ := List.mem_map.mp m; rfl]
      exact k _ s1
abbrev sCp : Stmt := top 19
abbrev nCp : List Str := ["patterns", "pattern"]
theorem scCp : FnScope nCp ["patterns"] (defScope sCp) := ⟨rfl, rfl, rfl, by decide +kernel, rfl, by decide +kernel, by decide +kernel⟩
theorem has_Cp {f : Addr} {fd : FuncData} (F : Fun K "check_patterns" "check_patterns" sCp f fd) (g : mg "check_patterns" = some (.ref f)) (B : Blt mg) (hPa : Has P w K mg base 4 "is_pattern" ["pattern"] (spPa K)) :
    Has P w K mg base 5 "check_patterns" ["patterns"] (spCp K) := by
  obtain ⟨fPa, dPa, gPa, kPa, bPa, GPa⟩ := hPa
  refine has_of F g (F.binds (ps := ["patterns"]) fun _ _ _ _ _ _ us hl => match us, hl with | [_], _ => rfl) (F.ok scCp (fun vs H Q E h => ?_) (fun cdv A outer s H vs Q E hr h => ?_))
  · obtain ⟨v, x, ps, rfl, _⟩ := h
    rfl
  · refine ⟨_, (pss_one (ps_for PassesOwn.never rfl (pi_list (pv 0)) (pg_name (i := 1) scCp.nd rfl (.inl rfl))
          (pss_one (ps_if (pt_not (pt_val (pe_call GPa hr rfl gPa kPa bPa .nil pass0 (pa_cons (pv 1) pa_nil)))) (pss_one (ps_never)) pss_nil)))), ?_⟩
    obtain ⟨a, x, ps, rfl, hq, hd, hl, hg, k⟩ := h
    refine ⟨_, rfl, a, rfl, ⟨_, hq⟩, for_list (xs := [x]) (fun i σ H' => Same H H' ∧ ∃ y, σ = [some (.ref a), y]) ⟨Same.refl H, _, rfl⟩ (fun i σ H' _ e => e.1.seq hq) (fun i x' σ H' hx e => ?_) (fun σ H' e => k H' e.1)⟩
    obtain ⟨s1, y, rfl⟩ := e
    have ei : i = 0 := by have := (List.getElem?_eq_some_iff.mp hx).1; simp at this; exact this
    subst ei
    obtain rfl := Option.some.inj hx
    exact ⟨_, rfl, x, ps, rfl, dp_same s1 hd, hl, hg, fun H2 s2 => ⟨_, rfl, if_no rfl ⟨s1.trans s2, _, rfl⟩⟩⟩
end
end Qb
end PySem
namespace PySem
namespace Qb
open PySem.W PySem.Calls PyProof.Rows L2
def ixS (c : Nat) : Nat := (cs signsS).findIdx (· == c)
theorem ixS_lt : ∀ c ∈ cs signsS, ixS c < 95 := by decide +kernel
theorem ix_eq : ∀ c ∈ cs signsS, ixS c = (if c = 10 then 0 else if c < 37 then c - 31 else c - 32) ∧ (c = 10 ∨ (32 ≤ c ∧ c < 37) ∨ (38 ≤ c ∧ c ≤ 126)) := by decide +kernel
theorem occ_head : ∀ c ∈ cs signsS, (Builtin.Str.occurrences signsS (sg c) 0 signsS.length 1).head? = some (ixS c) := by decide +kernel
theorem occS {c : Nat} (h : c ∈ cs signsS) : ∃ rest, Builtin.Str.occurrences signsS (sg c) 0 signsS.length 1 = ixS c :: rest := by
  have z := occ_head c h
  cases e : Builtin.Str.occurrences signsS (sg c) 0 signsS.length 1 with
  | nil => rw [e] at z; cases z
  | cons i r => rw [e] at z; obtain rfl := Option.some.inj z; exact ⟨r, rfl⟩
theorem ix_le {a b : Nat} (ha : a ∈ cs signsS) (hb : b ∈ cs signsS) : ixS a ≤ ixS b ↔ a ≤ b := by
  obtain ⟨e1, h1⟩ := ix_eq a ha
  obtain ⟨e2, h2⟩ := ix_eq b hb
  rw [e1, e2]
  (repeat' split) <;> omega
theorem ix_inj {a b : Nat} (ha : a ∈ cs signsS) (hb : b ∈ cs signsS) : ixS a = ixS b ↔ a = b := by
  have h1 := ix_le ha hb
  have h2 := ix_le hb ha
  omega
def rgN (r : Nat × Nat) : Nat := 2 ^ (ixS r.2 + 1) - 2 ^ (ixS r.1)
def orS (rs : List (Nat × Nat)) : Nat := rs.foldl (fun n r => n ||| rgN r) 0
def setN : Pt → Nat
  | .one c => 2 ^ ixS c
  | .of no rs => if no = true then (2 ^ 95 - 1) ^^^ orS rs else orS rs
  | _ => 2 ^ 95 - 1
theorem rg_bit {r : Nat × Nat} (h : ixS r.1 ≤ ixS r.2) (q : Nat) : (rgN r).testBit q = (decide (ixS r.1 ≤ q) && decide (q ≤ ixS r.2)) := by
  have e : rgN r = (2 ^ (ixS r.2 + 1 - ixS r.1) - 1) * 2 ^ ixS r.1 := by
    unfold rgN
    rw [Nat.sub_mul, ← Nat.pow_add, Nat.sub_add_cancel (by omega), Nat.one_mul]
  rw [e, Nat.testBit_mul_two_pow, Nat.testBit_two_pow_sub_one]
  by_cases h1 : ixS r.1 ≤ q
  · rw [decide_eq_true h1, Bool.true_and, Bool.true_and]
    by_cases h2 : q ≤ ixS r.2
    · rw [decide_eq_true h2, decide_eq_true (by omega)]
    · rw [decide_eq_false h2, decide_eq_false (by omega)]
  · rw [decide_eq_false h1]
    rfl
theorem or_bit {q : Nat} : ∀ (rs : List (Nat × Nat)) (n : Nat), (rs.foldl (fun n r => n ||| rgN r) n).testBit q = (n.testBit q || rs.any fun r => (rgN r).testBit q)
  | [], n => by simp
  | r :: rs, n => by
    rw [List.foldl_cons, or_bit rs, Nat.testBit_or, List.any_cons, Bool.or_assoc]
theorem any_congr {α : Type} {p q : α → Bool} : ∀ {l : List α}, (∀ x ∈ l, p x = q x) → l.any p = l.any q
  | [], _ => rfl
  | x :: l, h => by rw [List.any_cons, List.any_cons, h x (.head _), any_congr fun y m => h y (.tail _ m)]
theorem set_bit {p : Pt} {c : Nat} (hg : p.good) (hp : p.isLot = false) (hc : c ∈ cs signsS) : (setN p).testBit (ixS c) = p.takes c := by
  have all : (2 ^ 95 - 1 : Nat).testBit (ixS c) = true := by
    rw [Nat.testBit_two_pow_sub_one]
    exact decide_eq_true (ixS_lt c hc)
  cases p with
  | one d =>
    show (2 ^ ixS d).testBit (ixS c) = (d == c)
    rw [Nat.testBit_two_pow]
    by_cases e : d = c
    · subst e; simp
    · rw [decide_eq_false (fun z => e ((ix_inj hg hc).mp z)), beq_eq_false_iff_ne.mpr e]
  | any => exact all
  | lot => cases hp
  | of no rs =>
    have o : (orS rs).testBit (ixS c) = rs.any fun r => decide (r.1 ≤ c) && decide (c ≤ r.2) := by
      unfold orS
      rw [or_bit, Nat.zero_testBit, Bool.false_or]
      refine any_congr fun r m => ?_
      obtain ⟨h1, h2, h3⟩ := hg.2 r m
      rw [rg_bit ((ix_le h1 h2).mpr h3)]
      congr 1
      · exact decide_eq_decide.mpr (ix_le h1 hc)
      · exact decide_eq_decide.mpr (ix_le hc h2)
    show (if no = true then (2 ^ 95 - 1) ^^^ orS rs else orS rs).testBit (ixS c) = ((rs.any fun r => decide (r.1 ≤ c) && decide (c ≤ r.2)) != no)
    cases no with
    | true => rw [if_pos rfl, Nat.testBit_xor, all, o, Bool.true_xor]; cases (rs.any fun r => decide (r.1 ≤ c) && decide (c ≤ r.2)) <;> rfl
    | false => rw [if_neg (by decide), o]; cases (rs.any fun r => decide (r.1 ≤ c) && decide (c ≤ r.2)) <;> rfl
theorem rg_int {r : Nat × Nat} (h : ixS r.1 ≤ ixS r.2) : (2 : Int) * 2 ^ ((ixS r.2 : Nat) : Int).toNat - 1 * 2 ^ ((ixS r.1 : Nat) : Int).toNat = ((rgN r : Nat) : Int) := by
  unfold rgN
  rw [Int.toNat_natCast, Int.toNat_natCast, Int.one_mul, Int.ofNat_sub (Nat.pow_le_pow_right (by decide) (by omega)), PySem.W.kbt_cast, PySem.W.kbt_cast, Int.pow_succ, Int.mul_comm]
theorem pow_int (k : Nat) : (1 : Int) * 2 ^ ((k : Nat) : Int).toNat = ((2 ^ k : Nat) : Int) := by
  rw [Int.toNat_natCast, Int.one_mul, PySem.W.kbt_cast]
def spSo (K : Frag) : Sp := fun vs H Q _ => ∃ (v : V) (p : Pt), vs = [v] ∧ Dp K H v p.d ∧ p.good ∧ ∀ H', Same H H' → Q (.int ((setN p : Nat) : Int)) H'
section
variable {P : Program} {w : World} {K : Frag} {mg : Str → Option Value} {base : Heap}
abbrev sSo : Stmt := top 10
abbrev nSo : List Str := ["piece", "sign", "no", "ranges", "found", "first", "last"]
theorem scSo : FnScope nSo ["piece"] (defScope sSo) := ⟨rfl, rfl, rfl, by decide +kernel, rfl, by decide +kernel, by decide +kernel⟩
theorem has_So {f : Addr} {fd : FuncData} (F : Fun K "set_of" "set_of" sSo f fd) (g : mg "set_of" = some (.ref f)) (B : Blt mg) (W : Wrt mg) :
    Has P w K mg base 1 "set_of" ["piece"] (spSo K) := by
  refine has_of F g (F.binds (ps := ["piece"]) fun _ _ _ _ _ _ us hl => match us, hl with | [_], _ => rfl) (F.ok scSo (fun vs H Q E h => ?_) (fun cdv A outer s H vs Q E hr h => ?_))
  · obtain ⟨v, p, rfl, _⟩ := h
    rfl
  · refine ⟨_, (pss_cons (ps_match (pv 0)
        (pcs_cons (is := [1]) scSo.nd (pp_seq rfl (pps_cons pp_lit (pps_cons pp_cap pps_nil))) (.cons ⟨rfl, .inl rfl, .inr rfl⟩ .nil)
          (pss_one (ps_ret (pe_op op_shl pe_int (pe_bm PySem.F.plainAttrs_str PySem.F.slot_str_index PySem.F.type_str_index mt_sindex (glob_str (by rfl) W.signs) (pa_cons (pv 1) pa_nil)))))
        (pcs_cons (is := [2, 3]) scSo.nd (pp_seq rfl (pps_cons pp_lit (pps_cons pp_cap (pps_cons pp_cap pps_nil)))) (.cons ⟨rfl, .inl rfl, .inr rfl⟩ (.cons ⟨rfl, .inl rfl, .inr rfl⟩ .nil))
          (pss_cons (ps_set (i := 4) scSo.nd rfl (.inl rfl) pe_int)
          (pss_cons (ps_for PassesOwn.never rfl (pi_list (pv 3)) (pg_tup rfl (pgs_cons (pg_name (i := 5) scSo.nd rfl (.inl rfl)) (pgs_cons (pg_name (i := 6) scSo.nd rfl (.inl rfl)) pgs_nil)))
            (pss_one (ps_aug (i := 4) scSo.nd rfl (.inl rfl) (pe_op op_sub (pe_op op_shl pe_int (pe_bm PySem.F.plainAttrs_str PySem.F.slot_str_index PySem.F.type_str_index mt_sindex (glob_str (by rfl) W.signs) (pa_cons (pv 6) pa_nil))) (pe_op op_shl pe_int (pe_bm PySem.F.plainAttrs_str PySem.F.slot_str_index PySem.F.type_str_index mt_sindex (glob_str (by rfl) W.signs) (pa_cons (pv 5) pa_nil)))) ip_or)))
          (pss_one (ps_ret (pe_ifExp (pt_val (pv 2)) (pe_op op_xor (glob_int (by rfl) W.all) (pv 4)) (pv 4)))))) pcs_nil)))
        (pss_one (ps_ret (glob_int (by rfl) W.all)))), ?_⟩
    obtain ⟨v, p, rfl, hd, hg, k⟩ := h
    cases p with
    | one c =>
      obtain ⟨a, rfl, hq⟩ := dp_two hd
      obtain ⟨rest, ho⟩ := occS hg
      have hl := ixS_lt c hg
      refine ⟨_, rfl, case_hit hq hit_lit ⟨rfl, _, rfl, signsS, sg c, ixS c, rest, rfl, rfl, ho, _, _, rfl, rfl, ⟨by omega, by omega, by decide⟩, ?_⟩⟩
      show Q (.int (1 * 2 ^ ((ixS c : Nat) : Int).toNat)) H
      rw [pow_int]
      exact k H (Same.refl H)
    | any =>
      obtain ⟨a, xs, rfl, hq, all⟩ := dp_tup hd
      obtain ⟨rfl⟩ : xs = [.str "any"] := by
        cases all with
        | cons h1 t => cases t; obtain rfl := dp_str h1; rfl
      exact ⟨_, rfl, case_miss hq (.inr (by simp)) (case_miss hq (.inr (by simp)) (k H (Same.refl H)))⟩
    | lot =>
      obtain ⟨a, xs, rfl, hq, all⟩ := dp_tup hd
      obtain ⟨rfl⟩ : xs = [.str "lot"] := by
        cases all with
        | cons h1 t => cases t; obtain rfl := dp_str h1; rfl
      exact ⟨_, rfl, case_miss hq (.inr (by simp)) (case_miss hq (.inr (by simp)) (k H (Same.refl H)))⟩
    | of no rs =>
      obtain ⟨a, x, y, rfl, hq, hno, hy⟩ := pc_three hd
      obtain ⟨b, ys, rfl, hb, all⟩ := dp_lst hy
      have ly := dpLen all
      rw [List.length_map] at ly
      obtain rfl : x = .bl no := by cases hno; rfl
      clear hno
      refine ⟨_, rfl, case_miss hq (.inr (by simp)) (case_hit hq hit_lit ?_)⟩
      refine ⟨_, rfl, b, rfl, ⟨_, hb⟩, for_list (xs := ys) (fun i σ H' => H' = H ∧ ∃ x1 x5 x6, σ = [some (.ref a), x1, some (.bl no), some (.ref b), some (.int ((orS (rs.take i) : Nat) : Int)), x5, x6]) ⟨rfl, _, _, _, rfl⟩ (fun i σ H' _ e => by rw [e.1]; exact hb) (fun i x σ H' hx e => ?_) (fun σ H' e => ?_)⟩
      · obtain ⟨rfl, x1, x5, x6, rfl⟩ := e
        obtain ⟨d, hdi, dp⟩ := dpAt' all hx
        rw [List.getElem?_map] at hdi
        obtain ⟨r, hr', rfl⟩ : ∃ r, rs[i]? = some r ∧ rgD r = d := by
          cases z : rs[i]? with
          | none => rw [z] at hdi; cases hdi
          | some r => rw [z] at hdi; exact ⟨r, rfl, Option.some.inj hdi⟩
        obtain ⟨h1, h2, h3⟩ := hg.2 r (List.mem_of_getElem? hr')
        obtain ⟨t, rfl, ht⟩ := dp_two dp
        obtain ⟨r1, o1⟩ := occS h1
        obtain ⟨r2, o2⟩ := occS h2
        have l1 := ixS_lt _ h1
        have l2 := ixS_lt _ h2
        refine ⟨t, _, rfl, ht, rfl, _, _, rfl, _, _, rfl, rfl, ?_⟩
        refine ⟨_, rfl, rfl, _, rfl, signsS, sg r.2, ixS r.2, r2, rfl, rfl, o2, _, _, rfl, rfl, ⟨by omega, by omega, by decide⟩, rfl, _, rfl, signsS, sg r.1, ixS r.1, r1, rfl, rfl, o1, _, _, rfl, rfl, ⟨by omega, by omega, by decide⟩, _, _, rfl, rfl, _, _, rfl, rfl, ?_⟩
        dsimp only
        refine ⟨rfl, x1, some (.str (sg r.1)), some (.str (sg r.2)), ?_⟩
        rw [rg_int ((ix_le h1 h2).mpr h3), or_int', show orS (rs.take (i + 1)) = orS (rs.take i) ||| rgN r by unfold orS; rw [take_snoc hr', List.foldl_append]; rfl]
        rfl
      · obtain ⟨rfl, x1, x5, x6, rfl⟩ := e
        rw [ly, List.take_length]
        have z := k H' (Same.refl H')
        cases no with
        | true =>
          refine ⟨_, rfl, _, rfl, if_yes rfl ⟨_, rfl, _, _, rfl, rfl, ?_⟩⟩
          dsimp only
          rw [Bits.bitXor_pp (Int.natCast_nonneg _) (Int.natCast_nonneg _), Int.toNat_natCast, Int.toNat_natCast]
          exact z
        | false => exact ⟨_, rfl, _, rfl, if_no rfl ⟨_, rfl, z⟩⟩
end
end Qb
end PySem
namespace PySem
namespace Qb
open PySem.W PySem.Calls PyProof.Rows L2
/-! # a list that is being made, and its things -/
def Bld (K : Frag) (H H' : Hp) (R : Addr) (ds : List PyData) : Prop := H R = none ∧ Same H (hide H' R) ∧ ∃ ys, H' R = some (.lst ys) ∧ DpAll K (hide H' R) ys ds
theorem hide_none {H : Hp} {R : Addr} : hide H R R = none := by
  unfold hide
  rw [if_pos rfl]
theorem Bld.new {K : Frag} {H : Hp} {R : Addr} (n : H R = none) : Bld K H (L2.upd H R (.lst [])) R [] := ⟨n, hide_of (same_upd n) n, [], upd_same, .nil⟩
theorem Bld.new2 {K : Frag} {H H1 : Hp} {R : Addr} (s : Same H H1) (n : H1 R = none) : Bld K H (L2.upd H1 R (.lst [])) R [] := ⟨s.free n, hide_of (s.trans (same_upd n)) (s.free n), [], upd_same, .nil⟩
theorem Bld.same {K : Frag} {H H1 H2 : Hp} {R : Addr} {ds : List PyData} (b : Bld K H H1 R ds) (s : Same H1 H2) : Bld K H H2 R ds := by
  obtain ⟨n, s0, ys, h, a⟩ := b
  exact ⟨n, s0.trans (hide_mono s), ys, s _ _ h, dpAll_same (hide_mono s) a⟩
theorem Bld.put {K : Frag} {H H1 : Hp} {R : Addr} {ds : List PyData} (b : Bld K H H1 R ds) : ∃ ys, H1 R = some (.lst ys) ∧ ys.length = ds.length ∧ ∀ v d, Dp K (hide H1 R) v d → Bld K H (L2.upd H1 R (.lst (ys ++ [v]))) R (ds ++ [d]) := by
  obtain ⟨n, s0, ys, h, a⟩ := b
  exact ⟨ys, h, dpLen a, fun v d hd => ⟨n, s0.trans hide_upd, _, upd_same, dpApp (dpAll_same hide_upd a) (.cons (dp_same hide_upd hd) .nil)⟩⟩
theorem Bld.base {K : Frag} {H H1 : Hp} {R : Addr} {ds : List PyData} (b : Bld K H H1 R ds) : Same H H1 := b.2.1.trans hide_same
theorem Bld.dp {K : Frag} {H H1 : Hp} {R : Addr} {ds : List PyData} (b : Bld K H H1 R ds) : Dp K H1 (.ref R) (.list ds) := by
  obtain ⟨n, s0, ys, h, a⟩ := b
  exact .lst (SqL.of h) (dpAll_same hide_same a)
theorem Bld.ne {K : Frag} {H H1 : Hp} {R T : Addr} {ds : List PyData} (b : Bld K H H1 R ds) (n : H1 T = none) : T ≠ R := by
  obtain ⟨_, s0, ys, h, a⟩ := b
  intro e
  rw [e, h] at n
  cases n
theorem sh_bool (b : Bool) : Sh 0 (.bool b) := ⟨by rw [PyData.canLay0.eq_2], Nat.le_of_eq rfl⟩
theorem sh_pt {p : Pt} (hg : p.good) : Sh 3 p.d := by
  have one : ∀ x : Str, PyData.strOk x = true → Sh 2 (.str x) := fun x h => sh_mono (sh_str h) (by decide)
  cases p with
  | one c =>
    refine sh_tup fun d m => ?_
    rcases List.mem_cons.mp m with rfl | m
    · exact one _ (by decide +kernel)
    · rcases List.mem_singleton.mp m with rfl
      exact one _ (str_ok_sg hg)
  | any =>
    refine sh_tup fun d m => ?_
    rcases List.mem_singleton.mp m with rfl
    exact one _ (by decide +kernel)
  | lot =>
    refine sh_tup fun d m => ?_
    rcases List.mem_singleton.mp m with rfl
    exact one _ (by decide +kernel)
  | of no rs =>
    refine sh_tup fun d m => ?_
    rcases List.mem_cons.mp m with rfl | m
    · exact one _ (by decide +kernel)
    · rcases List.mem_cons.mp m with rfl | m
      · exact sh_mono (sh_bool no) (by decide)
      · rcases List.mem_singleton.mp m with rfl
        exact sh_rgs hg.2
def Pt.isAny : Pt → Bool
  | .any => true
  | _ => false
theorem eqv_lot (p : Pt) : PyData.eqv p.d (.tuple [.str "lot"]) = p.isLot := by cases p <;> rfl
theorem eqv_any (p : Pt) : PyData.eqv p.d (.tuple [.str "any"]) = p.isAny := by cases p <;> rfl
theorem isAny_eq {p : Pt} (h : p.isAny = true) : p = .any := by
  cases p <;> first | rfl | cases h
def spRt (K : Frag) : Sp := fun vs H Q _ => ∃ (v : V) (ps : List Pt), vs = [v] ∧ Dp K H v (.list (ps.map Pt.d)) ∧ ps.length ≤ 300 ∧ (∀ p ∈ ps, p.good) ∧ ∀ H' L R, Bld K H H' L (R.map Pt.d) → Norm ps R → Q (.ref L) H'
section
variable {P : Program} {w : World} {K : Frag} {mg : Str → Option Value} {base : Heap}
theorem pt_at {H : Hp} {xs : List V} {ps : List Pt} {i : Nat} {x : V} (all : DpAll K H xs (ps.map Pt.d)) (hx : xs[i]? = some x) : ∃ p, ps[i]? = some p ∧ Dp K H x p.d := by
  obtain ⟨d, hdi, dp⟩ := dpAt' all hx
  rw [List.getElem?_map] at hdi
  cases z : ps[i]? with
  | none => rw [z] at hdi; cases hdi
  | some p =>
    rw [z] at hdi
    obtain rfl := Option.some.inj hdi
    exact ⟨p, rfl, dp⟩
abbrev sRt : Stmt := top 14
abbrev nRt : List Str := ["pieces", "told", "has_lot", "piece"]
theorem scRt : FnScope nRt ["pieces"] (defScope sRt) := ⟨rfl, rfl, rfl, by decide +kernel, rfl, by decide +kernel, by decide +kernel⟩
theorem has_Rt {f : Addr} {fd : FuncData} (F : Fun K "rows_told" "rows_told" sRt f fd) (g : mg "rows_told" = some (.ref f)) (B : Blt mg)  :
    Has P w K mg base 1 "rows_told" ["pieces"] (spRt K) := by
  refine has_of F g (F.binds (ps := ["pieces"]) fun _ _ _ _ _ _ us hl => match us, hl with | [_], _ => rfl) (F.ok scRt (fun vs H Q E h => ?_) (fun cdv A outer s H vs Q E hr h => ?_))
  · obtain ⟨v, ps, rfl, _⟩ := h
    rfl
  · refine ⟨_, (pss_cons (ps_set (i := 1) scRt.nd rfl (.inl rfl) (pe_lst pa_nil))
        (pss_cons (ps_set (i := 2) scRt.nd rfl (.inl rfl) pe_bl)
        (pss_cons (ps_for PassesOwn.never rfl (pi_list (pv 0)) (pg_name (i := 3) scRt.nd rfl (.inl rfl))
          (pss_one (ps_if (pt_cmpR (op_eqD hr.units) (pv 3) (pe_tup (pa_cons pe_str pa_nil)) (nomark _)) (pss_one (ps_set (i := 2) scRt.nd rfl (.inl rfl) pe_bl)) (pss_one (ps_if (pt_cmpR (op_eqD hr.units) (pv 3) (pe_tup (pa_cons pe_str pa_nil)) (nomark _)) (pss_one (ps_expr (pe_bm PySem.F.plainAttrs_list PySem.F.slot_list_append PySem.F.type_list_append mt_append (pv 1) (pa_cons (pv 3) pa_nil)))) (pss_cons (ps_if (pt_val (pv 2)) (pss_one (ps_expr (pe_bm PySem.F.plainAttrs_list PySem.F.slot_list_append PySem.F.type_list_append mt_append (pv 1) (pa_cons (pe_tup (pa_cons pe_str pa_nil)) pa_nil)))) pss_nil)
              (pss_cons (ps_set (i := 2) scRt.nd rfl (.inl rfl) pe_bl)
              (pss_one (ps_expr (pe_bm PySem.F.plainAttrs_list PySem.F.slot_list_append PySem.F.type_list_append mt_append (pv 1) (pa_cons (pv 3) pa_nil)))))))))))
        (pss_cons (ps_if (pt_val (pv 2)) (pss_one (ps_expr (pe_bm PySem.F.plainAttrs_list PySem.F.slot_list_append PySem.F.type_list_append mt_append (pv 1) (pa_cons (pe_tup (pa_cons pe_str pa_nil)) pa_nil)))) pss_nil)
        (pss_one (ps_ret (pv 1))))))), ?_⟩
    obtain ⟨v, ps, rfl, hd, hl, hg, k⟩ := h
    obtain ⟨a, xs, rfl, hq, all⟩ := dp_lst hd
    have lx := dpLen all
    rw [List.length_map] at lx
    refine ⟨(by decide : 0 ≤ sizeLine), fun L nL => ?_⟩
    have low : ∀ {H1 : Hp} {T : List Pt} (b : Bld K H H1 L (T.map Pt.d)) {t : Addr}, H1 t = none → Dp K (hide (L2.upd H1 t (.tup [.str "lot"])) L) (.ref t) Pt.lot.d := by
      intro H1 T b t nt
      exact .tup (SqT.of (hide_ne upd_same (b.ne nt))) (.cons (.str _) .nil)
    refine ⟨_, rfl, a, rfl, ⟨_, (same_upd nL).seq hq⟩, for_list (xs := xs) (fun i σ H' => ∃ T b, (∃ x3, σ = [some (.ref a), some (.ref L), some (.bl b), x3]) ∧ Bld K H H' L (T.map Pt.d) ∧ RT ps i T b) ⟨[], false, ⟨_, rfl⟩, Bld.new nL, RT.zero ps⟩ (fun i σ H' _ e => ?_) (fun i x σ H' hx e => ?_) (fun σ H' e => ?_)⟩
    · obtain ⟨T, b, _, bl, _⟩ := e
      exact bl.base.seq hq
    · obtain ⟨T, b, ⟨x3, rfl⟩, bl, rt⟩ := e
      obtain ⟨p, hp, dp⟩ := pt_at all hx
      have gp := hg p (List.mem_of_getElem? hp)
      have lT : T.length ≤ 300 := by
        have h1 := rt.len
        have h2 := (List.getElem?_eq_some_iff.mp hp).1
        omega
      refine ⟨_, rfl, (by decide : 1 ≤ sizeLine), fun t1 n1 => ?_⟩
      have b1 := bl.same (same_upd (o := .tup [.str "lot"]) n1)
      refine ⟨_, _, dp_same b1.base dp, .tup (SqT.of upd_same) (.cons (.str _) .nil), sh_ok (sh_pt gp), by decide +kernel, _, rfl, ?_⟩
      rw [eqv_lot]
      refine if_by (fun e1 => ?_) (fun e1 => ?_)
      · rw [isLot_eq e1] at hp
        exact ⟨T, true, ⟨_, rfl⟩, b1, rt.lot hp⟩
      refine ⟨_, rfl, (by decide : 1 ≤ sizeLine), fun t2 n2 => ?_⟩
      have b2 := b1.same (same_upd (o := .tup [.str "any"]) n2)
      refine ⟨_, _, dp_same b2.base dp, .tup (SqT.of upd_same) (.cons (.str _) .nil), sh_ok (sh_pt gp), by decide +kernel, _, rfl, ?_⟩
      rw [eqv_any]
      have pin : ∀ {H1 : Hp} {T : List Pt}, Bld K H H1 L (T.map Pt.d) → Dp K (hide H1 L) x p.d := fun b => dp_same b.2.1 dp
      refine if_by (fun e2 => ?_) (fun e2 => ?_)
      · have ep := isAny_eq e2
        subst ep
        obtain ⟨ys, hy, ly, put⟩ := b2.put
        rw [List.length_map] at ly
        refine ⟨_, rfl, .inl ⟨rfl, _, SqL.of hy⟩, _, rfl, L, ys, _, rfl, rfl, hy, by rw [ly, sizeLine_eq]; omega, T ++ [.any], b, ⟨_, rfl⟩, ?_, rt.any hp⟩
        rw [List.map_append]
        exact put _ _ (pin b2)
      · refine ⟨_, rfl, _, rfl, ?_⟩
        have fin : ∀ {H1 : Hp} {T' : List Pt}, Bld K H H1 L (T'.map Pt.d) → T'.length ≤ 400 → T' = (if b = true then T ++ [.lot] else T) → ∃ ys, H1 L = some (.lst ys) ∧ ys.length < sizeLine ∧ ∃ T b', (∃ y3, [some (V.ref a), some (.ref L), some (.bl false), some x] = [some (.ref a), some (.ref L), some (.bl b'), y3]) ∧ Bld K H (L2.upd H1 L (.lst (ys ++ [x]))) L (T.map Pt.d) ∧ RT ps (i + 1) T b' := by
          intro H1 T' b3 l3 e3
          obtain ⟨ys, hy, ly, put⟩ := b3.put
          rw [List.length_map] at ly
          refine ⟨ys, hy, by rw [ly, sizeLine_eq]; omega, T' ++ [p], false, ⟨_, rfl⟩, ?_, by rw [e3]; exact rt.non hp e1⟩
          rw [List.map_append]
          exact put _ _ (pin b3)
        refine if_by (fun e3 => ?_) (fun e3 => ?_)
        · obtain ⟨ys0, hy0, ly0, put0⟩ := b2.put
          refine ⟨_, rfl, .inl ⟨rfl, _, SqL.of hy0⟩, (by decide : 1 ≤ sizeLine), fun t3 n3 => ?_⟩
          obtain ⟨ys, hy, ly, put⟩ := (b2.same (same_upd (o := .tup [.str "lot"]) n3)).put
          rw [List.length_map] at ly
          refine ⟨L, ys, _, rfl, rfl, hy, by rw [ly, sizeLine_eq]; omega, ?_⟩
          have b4 := put (.ref t3) Pt.lot.d (low b2 n3)
          rw [show T.map Pt.d ++ [Pt.lot.d] = (T ++ [Pt.lot]).map Pt.d by rw [List.map_append]; rfl] at b4
          obtain ⟨zs, hz, lz, fn⟩ := fin b4 (by rw [List.length_append, List.length_singleton]; omega) (by rw [e3, if_pos rfl])
          exact ⟨_, rfl, .inl ⟨rfl, _, SqL.of hz⟩, _, rfl, L, zs, _, rfl, rfl, hz, lz, fn⟩
        · obtain ⟨zs, hz, lz, fn⟩ := fin b2 (by omega) (by rw [e3, if_neg (by decide)])
          exact ⟨_, rfl, .inl ⟨rfl, _, SqL.of hz⟩, _, rfl, L, zs, _, rfl, rfl, hz, lz, fn⟩
    · obtain ⟨T, b, ⟨x3, rfl⟩, bl, rt⟩ := e
      rw [lx] at rt
      have dn := rt.done
      have h1 := rt.len
      refine ⟨_, rfl, _, rfl, if_by (fun e3 => ?_) (fun e3 => ?_)⟩
      · obtain ⟨ys0, hy0, ly0, put0⟩ := bl.put
        refine ⟨_, rfl, .inl ⟨rfl, _, SqL.of hy0⟩, (by decide : 1 ≤ sizeLine), fun t3 n3 => ?_⟩
        obtain ⟨ys, hy, ly, put⟩ := (bl.same (same_upd (o := .tup [.str "lot"]) n3)).put
        rw [List.length_map] at ly
        refine ⟨L, ys, _, rfl, rfl, hy, by rw [ly, sizeLine_eq]; omega, _, rfl, k _ _ (T ++ [.lot]) ?_ ?_⟩
        · rw [List.map_append]
          exact put _ _ (low bl n3)
        · rw [e3, if_pos rfl] at dn
          exact dn
      · refine ⟨_, rfl, k _ _ T bl ?_⟩
        rw [e3, if_neg (by decide)] at dn
        exact dn
end
end Qb
end PySem
namespace PySem
namespace Qb
open PySem.W PySem.Calls PyProof.Rows L2
/-! # the machine -/
structure Txt (K : PySem.W.Frag) (mg : Str → Option Value) (C : Addr) : Prop where
  cl : Cls K C
  nS : NoAttr K C "sets"
  nL : NoAttr K C "lots"
  nE : NoAttr K C "ends"
  nB : NoAttr K C "below"
  nT : NoAttr K C "start"
  nM : NoAttr K C "masks"
  mgC : mg "Machine" = some (.ref C)
def HasM (P : Program) (w : World) (K : Frag) (mg : Str → Option Value) (base : Heap) (C : Addr) (k : Nat) (x : Str) (ps : List Str) (sp : Sp) : Prop :=
  ∃ (f : Addr) (fd : FuncData), Meth K C x f ∧ Binds K fd ps [] ∧ FnOk P w K mg base CX0 k f fd ps sp
def belD (k : Nat) : HO := .tup [.int ((2 ^ k : Nat) : Int), .int ((2 : Int) ^ k - 1)]
def Bel (H : Hp) (R : List Pt) (bs : List V) : Prop := ∀ x ∈ bs, ∃ t k, x = V.ref t ∧ H t = some (belD k) ∧ lotAt R k = true
theorem Bel.same {H H' : Hp} {R : List Pt} {bs : List V} (b : Bel H R bs) (s : Same H H') : Bel H' R bs := fun x m => by
  obtain ⟨t, k, e, h, l⟩ := b x m
  exact ⟨t, k, e, s _ _ h, l⟩
/-- what is read of a machine while it moves -/
structure MA (C : Addr) (H : Hp) (p B : Addr) (l : Nat) (R : List Pt) : Prop where
  ob : ∃ dx fs, H p = some (.ins C dx fs) ∧ fs.lookup ("lots" : Str) = some (V.int (l : Nat)) ∧ fs.lookup ("below" : Str) = some (V.ref B) ∧ fs.lookup ("closed" : Str) = none
  bel : ∃ bs, H B = some (.lst bs) ∧ Bel H R bs
  lots : Lots R l
  sep : Sep R
  len : R.length ≤ 60
theorem MA.same {C : Addr} {H H' : Hp} {p B : Addr} {l : Nat} {R : List Pt} (m : MA C H p B l R) (s : Same H H') : MA C H' p B l R := by
  obtain ⟨⟨dx, fs, h1, r⟩, ⟨bs, h2, h3⟩, a, b, c⟩ := m
  exact ⟨⟨dx, fs, s _ _ h1, r⟩, ⟨bs, s _ _ h2, h3.same s⟩, a, b, c⟩
def spCl (C : Addr) : Sp := fun vs H Q _ => ∃ (p B : Addr) (l s : Nat) (R : List Pt), vs = [.ref p, .int (s : Nat)] ∧ MA C H p B l R ∧ In R s ∧
  ∀ (t : Nat), In R t → Cl R t → (∀ w, Acc R t w ↔ Acc R s w) → Q (.int (t : Nat)) H
def spSd (C : Addr) : Sp := fun vs H Q _ => ∃ (p B : Addr) (l s k c : Nat) (R : List Pt), vs = [.ref p, .int (s : Nat), .int (k : Nat)] ∧ MA C H p B l R ∧ In R s ∧ Cl R s ∧ Mask R c k ∧
  ∀ (t : Nat), In R t → Cl R t → (∀ w, Acc R t w ↔ Acc R s (c :: w)) → Q (.int (t : Nat)) H
theorem small_in {R : List Pt} {s : Nat} (h : In R s) (l : R.length ≤ 60) : ((s : Nat) : Int).natAbs < 2 ^ 64 := by
  have h1 := in_lt h
  have h2 : 2 ^ (R.length + 1) ≤ 2 ^ 61 := Nat.pow_le_pow_right (by decide) (by omega)
  have h3 : (2 : Nat) ^ 61 < 2 ^ 64 := by decide
  rw [Int.natAbs_natCast]
  omega
theorem and_in {R : List Pt} {s l : Nat} (h : In R s) : In R (s &&& l) := fun q b => by
  rw [Nat.testBit_and, Bool.and_eq_true] at b
  exact h q b.1
theorem dbl_int (a : Nat) : ((a : Nat) : Int) * 2 ^ ((1 : Int)).toNat = ((a * 2 : Nat) : Int) := by
  rw [show (1 : Int).toNat = 1 from rfl, Int.pow_one]
  rfl
theorem and_pow (t q : Nat) : ((t &&& 2 ^ q : Nat) : Int) ≠ 0 ↔ t.testBit q = true := by
  have e : (t &&& 2 ^ q) ≠ 0 ↔ t.testBit q = true := by
    constructor
    · intro h
      cases b : t.testBit q with
      | true => rfl
      | false =>
        refine (h (Nat.eq_of_testBit_eq fun i => ?_)).elim
        rw [Nat.testBit_and, Nat.testBit_two_pow, Nat.zero_testBit]
        by_cases z : q = i
        · subst z; rw [b]; rfl
        · rw [decide_eq_false z, Bool.and_false]
    · intro b h
      have z := congrArg (fun n => n.testBit q) h
      simp only [Nat.testBit_and, Nat.testBit_two_pow, Nat.zero_testBit, b, decide_true, Bool.and_true] at z
      cases z
  rw [← e]
  exact ⟨fun h z => h (by rw [z]; rfl), fun h z => h (by exact_mod_cast z)⟩
section
variable {P : Program} {w : World} {K : Frag} {mg : Str → Option Value} {base : Heap}
abbrev sCl : Stmt := inClass (top 13) 2
abbrev nCl : List Str := ["self", "standing", "found", "bit", "needless"]
theorem scCl : FnScope nCl ["self", "standing"] (defScope sCl) := ⟨rfl, rfl, rfl, by decide +kernel, rfl, by decide +kernel, by decide +kernel⟩
theorem has_Cl {f C : Addr} {fd : FuncData} (F : Fun K "closed" "Machine.closed" sCl f fd) (m : Meth K C "closed" f) (B : Blt mg) (T : Txt K mg C) :
    HasM P w K mg base C 1 "closed" ["self", "standing"] (spCl C) := by
  refine ⟨f, fd, m, F.binds (ps := ["self", "standing"]) (fun _ _ _ _ _ _ us hl => match us, hl with | [_, _], _ => rfl), F.ok scCl (fun vs H Q E h => ?_) (fun cdv A outer s H vs Q E hr h => ?_)⟩
  · obtain ⟨p, b, l, s, R, rfl, _⟩ := h
    rfl
  · refine ⟨_, (pss_cons (ps_set (i := 2) scCl.nd rfl (.inl rfl) (pe_op op_or (pv 1) (pe_op op_shl (pe_op op_and (pv 1) (pe_fld (pv 0) rfl)) pe_int)))
        (pss_cons (ps_for PassesOwn.never rfl (pi_list (pe_fld (pv 0) rfl)) (pg_tup rfl (pgs_cons (pg_name (i := 3) scCl.nd rfl (.inl rfl)) (pgs_cons (pg_name (i := 4) scCl.nd rfl (.inl rfl)) pgs_nil)))
          (pss_one (ps_if (pt_truth (pe_op op_and (pv 2) (pv 3)) (by intro _; rfl)) (pss_one (ps_aug (i := 2) scCl.nd rfl (.inl rfl) (pe_un un_inv (pv 4)) ip_and)) pss_nil)))
        (pss_one (ps_ret (pv 2))))), ?_⟩
    obtain ⟨p, b, l, s, R, rfl, ma, hi, k⟩ := h
    obtain ⟨⟨dx, fs, hp, fl, fb, fc⟩, ⟨bs, hb, bel⟩, hL, hS, hl⟩ := id ma
    refine ⟨_, rfl, _, rfl, _, rfl, p, C, dx, _, _, rfl, hp, T.cl, T.nL, fl, _, _, rfl, rfl, _, _, rfl, rfl, ⟨by decide, by decide, ?_⟩, _, _, rfl, rfl, ?_⟩
    · rw [and_int]
      exact small_in (and_in hi) hl
    dsimp only
    rw [and_int, dbl_int, or_int']
    obtain ⟨i1, c1, a1⟩ := cl1_ok hS hL hi
    refine ⟨_, rfl, p, C, dx, _, _, rfl, hp, T.cl, T.nB, fb, b, rfl, ⟨_, SqL.of hb⟩, for_list (xs := bs) (fun i σ H' => H' = H ∧ ∃ (t : Nat) (x3 x4 : Option V), σ = [some (.ref p), some (.int (s : Nat)), some (.int (t : Nat)), x3, x4] ∧ In R t ∧ Cl R t ∧ ∀ w, Acc R t w ↔ Acc R s w) ⟨rfl, _, _, _, rfl, i1, c1, a1⟩ (fun i σ H' _ e => by rw [e.1]; exact SqL.of hb) (fun i x σ H' hx e => ?_) (fun σ H' e => ?_)⟩
    · obtain ⟨rfl, t, x3, x4, rfl, i2, c2, a2⟩ := e
      obtain ⟨u, q, rfl, hu, hq⟩ := bel x (List.mem_of_getElem? hx)
      refine ⟨u, _, rfl, SqT.of hu, rfl, _, _, rfl, _, _, rfl, rfl, ?_⟩
      refine ⟨_, rfl, _, rfl, _, _, rfl, rfl, ?_⟩
      dsimp only
      rw [and_int]
      refine ⟨_, rfl, ?_⟩
      refine if_by (fun e => ?_) (fun e => ?_)
      · have tb : t.testBit q = true := (and_pow t q).mp (by simpa using e)
        obtain ⟨i3, c3, a3⟩ := clr_ok hS i2 c2 hq tb
        refine ⟨_, rfl, _, rfl, _, rfl, _, _, rfl, rfl, ?_⟩
        refine ⟨rfl, clr t q, some (.int ((2 ^ q : Nat) : Int)), some (.int ((2 : Int) ^ q - 1)), ?_, i3, c3, fun w => (a3 w).trans (a2 w)⟩
        have z := clr_int t q
        dsimp only
        rw [z]
        rfl
      · exact ⟨rfl, t, _, _, rfl, i2, c2, a2⟩
    · obtain ⟨rfl, t, x3, x4, rfl, i2, c2, a2⟩ := e
      exact ⟨_, rfl, k t i2 c2 a2⟩
abbrev sSd : Stmt := inClass (top 13) 3
abbrev nSd : List Str := ["self", "standing", "mask"]
theorem scSd : FnScope nSd ["self", "standing", "mask"] (defScope sSd) := ⟨rfl, rfl, rfl, by decide +kernel, rfl, by decide +kernel, by decide +kernel⟩
theorem has_Sd {f C : Addr} {fd : FuncData} (F : Fun K "stepped" "Machine.stepped" sSd f fd) (m : Meth K C "stepped" f) (B : Blt mg) (T : Txt K mg C) (hCl : HasM P w K mg base C 1 "closed" ["self", "standing"] (spCl C)) :
    HasM P w K mg base C 2 "stepped" ["self", "standing", "mask"] (spSd C) := by
  obtain ⟨fCl, dCl, mCl, bCl, GCl⟩ := hCl
  refine ⟨f, fd, m, F.binds (ps := ["self", "standing", "mask"]) (fun _ _ _ _ _ _ us hl => match us, hl with | [_, _, _], _ => rfl), F.ok scSd (fun vs H Q E h => ?_) (fun cdv A outer s H vs Q E hr h => ?_)⟩
  · obtain ⟨p, b, l, s, k, c, R, rfl, _⟩ := h
    rfl
  · refine ⟨_, (pss_one (ps_ret (pe_meth (pv 0) T.cl mCl GCl hr bCl .nil pass0 (pa_cons (pe_op op_or (pe_op op_shl (pe_op op_and (pv 1) (pv 2)) pe_int) (pe_op op_and (pv 1) (pe_fld (pv 0) rfl))) pa_nil)))), ?_⟩
    obtain ⟨p, b, l, s, m, c, R, rfl, ma, hi, hc, hM, k⟩ := h
    obtain ⟨⟨dx, fs, hp, fl, fb, fc⟩, ⟨bs, hb, bel⟩, hL, hS, hl⟩ := id ma
    refine ⟨_, rfl, p, dx, _, rfl, hp, fc, _, rfl, _, rfl, _, _, rfl, rfl, _, _, rfl, rfl, ⟨by decide, by decide, ?_⟩, _, rfl, _, rfl, p, C, dx, _, _, rfl, hp, T.cl, T.nL, fl, _, _, rfl, rfl, _, _, rfl, rfl, ?_⟩
    · rw [and_int]
      exact small_in (and_in hi) hl
    dsimp only
    rw [and_int, and_int, dbl_int, or_int']
    obtain ⟨i1, a1⟩ := stp_ok hS hL hM hi hc
    exact ⟨p, b, l, stp s m l, R, rfl, ma, i1, fun t i2 c2 a2 => k t i2 c2 fun w => (a2 w).trans (a1 w)⟩
end
end Qb
end PySem
namespace PySem
namespace Qb
open PySem.W PySem.Calls PyProof.Rows L2
def fl (S E B D : Addr) (l st : Nat) : List (Str × V) := [("sets", .ref S), ("lots", .int (l : Nat)), ("ends", .ref E), ("below", .ref B), ("start", .int (st : Nat)), ("masks", .ref D)]
theorem lk_ne {f g : Str} {v : V} {fs : List (Str × V)} (h : ¬ g = f) : List.lookup g ((f, v) :: fs) = List.lookup g fs := by
  rw [List.lookup_cons]
  rw [show (g == f) = false from beq_eq_false_iff_ne.mpr h]
theorem lk_eq {g : Str} {v : V} {fs : List (Str × V)} : List.lookup g ((g, v) :: fs) = some v := by
  rw [List.lookup_cons]
  rw [show (g == g) = true from beq_self_eq_true g]
section
variable {S E B D : Addr} {l st : Nat}
theorem fl_S : (fl S E B D l st).lookup ("sets" : Str) = some (.ref S) := by unfold fl; ((repeat (first | exact lk_eq | refine Eq.trans (lk_ne (by decide +kernel)) ?_)) <;> rfl)
theorem fl_L : (fl S E B D l st).lookup ("lots" : Str) = some (.int (l : Nat)) := by unfold fl; ((repeat (first | exact lk_eq | refine Eq.trans (lk_ne (by decide +kernel)) ?_)) <;> rfl)
theorem fl_E : (fl S E B D l st).lookup ("ends" : Str) = some (.ref E) := by unfold fl; ((repeat (first | exact lk_eq | refine Eq.trans (lk_ne (by decide +kernel)) ?_)) <;> rfl)
theorem fl_B : (fl S E B D l st).lookup ("below" : Str) = some (.ref B) := by unfold fl; ((repeat (first | exact lk_eq | refine Eq.trans (lk_ne (by decide +kernel)) ?_)) <;> rfl)
theorem fl_T : (fl S E B D l st).lookup ("start" : Str) = some (.int (st : Nat)) := by unfold fl; ((repeat (first | exact lk_eq | refine Eq.trans (lk_ne (by decide +kernel)) ?_)) <;> rfl)
theorem fl_M : (fl S E B D l st).lookup ("masks" : Str) = some (.ref D) := by unfold fl; ((repeat (first | exact lk_eq | refine Eq.trans (lk_ne (by decide +kernel)) ?_)) <;> rfl)
theorem fl_closed : (fl S E B D l st).lookup ("closed" : Str) = none := by unfold fl; ((repeat (first | exact lk_eq | refine Eq.trans (lk_ne (by decide +kernel)) ?_)) <;> rfl)
theorem fl_stepped : (fl S E B D l st).lookup ("stepped" : Str) = none := by unfold fl; ((repeat (first | exact lk_eq | refine Eq.trans (lk_ne (by decide +kernel)) ?_)) <;> rfl)
theorem fl_mask_of : (fl S E B D l st).lookup ("mask_of" : Str) = none := by unfold fl; ((repeat (first | exact lk_eq | refine Eq.trans (lk_ne (by decide +kernel)) ?_)) <;> rfl)
theorem fl_lets : (fl S E B D l st).lookup ("lets" : Str) = none := by unfold fl; ((repeat (first | exact lk_eq | refine Eq.trans (lk_ne (by decide +kernel)) ?_)) <;> rfl)
theorem fl_lets_by : (fl S E B D l st).lookup ("lets_by" : Str) = none := by unfold fl; ((repeat (first | exact lk_eq | refine Eq.trans (lk_ne (by decide +kernel)) ?_)) <;> rfl)
end
def tTruK (K : PySem.W.Frag) (ta : TE) : TT := fun σ H Q => ta σ H fun x H' => ∃ k, TruV K x H' k ∧ Q k H'
def setAt (p : Pt) : Nat := if p.isLot = true then 0 else setN p
def setL (R : List Pt) : List Nat := R.map setAt ++ [0]
def intV (ns : List Nat) : List V := ns.map fun n => V.int ((n : Nat) : Int)
structure Mach (C : Addr) (H : Hp) (p S E B D : Addr) (l st : Nat) (R : List Pt) (n : Nat) : Prop where
  ob : ∃ dx, H p = some (.ins C dx (fl S E B D l st))
  hs : H S = some (.lst (intV (setL R)))
  he : H E = some (.lst [.int ((2 ^ R.length : Nat) : Int)])
  bel : ∃ bs, H B = some (.lst bs) ∧ Bel H R bs
  hd : ∃ kvs : List (Key × V), H D = some (.dK kvs) ∧ kvs.length ≤ n ∧ ∀ c ∈ cs signsS, ∀ v, valV kvs (Sum.inr (sg c)) = some v → ∃ k : Nat, v = .int (k : Nat) ∧ Mask R c k
  lots : Lots R l
  sep : Sep R
  len : R.length ≤ 60
  good : ∀ p ∈ R, p.good
theorem Mach.ma {C : Addr} {H : Hp} {p S E B D : Addr} {l st : Nat} {R : List Pt} {n : Nat} (m : Mach C H p S E B D l st R n) : MA C H p B l R := by
  obtain ⟨dx, h⟩ := m.ob
  exact ⟨⟨dx, _, h, fl_L, fl_B, fl_closed⟩, m.bel, m.lots, m.sep, m.len⟩
/-- other things come or change -/
theorem Mach.keep {C : Addr} {H H' : Hp} {p S E B D : Addr} {l st : Nat} {R : List Pt} {n : Nat} (m : Mach C H p S E B D l st R n) {F : Addr} (h : ∀ b o, H b = some o → b ≠ F → H' b = some o) (hF : (∃ xs, H F = some (.lst xs)) ∨ H F = none) (h1 : F ≠ S) (h2 : F ≠ E) (h3 : F ≠ B) : Mach C H' p S E B D l st R n := by
  obtain ⟨⟨dx, ob⟩, hs, he, ⟨bs, hb, bel⟩, ⟨kvs, hd, r⟩, a1, a2, a3, a4⟩ := m
  have ne : ∀ {b : Addr} {o : HO}, H b = some o → (∀ xs, o ≠ .lst xs) → b ≠ F := by
    intro b o e no z
    subst z
    rcases hF with ⟨xs, hF⟩ | hF
    · rw [e] at hF; exact no xs (Option.some.inj hF)
    · rw [e] at hF; cases hF
  refine ⟨⟨dx, h _ _ ob (ne ob fun _ z => by cases z)⟩, h _ _ hs (Ne.symm h1), h _ _ he (Ne.symm h2), ⟨bs, h _ _ hb (Ne.symm h3), fun x mx => ?_⟩, ⟨kvs, h _ _ hd (ne hd fun _ z => by cases z), r⟩, a1, a2, a3, a4⟩
  obtain ⟨t, k, e, ht, hl⟩ := bel x mx
  exact ⟨t, k, e, h _ _ ht (ne ht fun _ z => by cases z), hl⟩
theorem Mach.up {C : Addr} {H : Hp} {p S E B D : Addr} {l st : Nat} {R : List Pt} {n n' : Nat} (m : Mach C H p S E B D l st R n) (h : n ≤ n') : Mach C H p S E B D l st R n' := by
  obtain ⟨ob, hs, he, hb, ⟨kvs, hd, r1, r2⟩, a1, a2, a3, a4⟩ := m
  exact ⟨ob, hs, he, hb, ⟨kvs, hd, by omega, r2⟩, a1, a2, a3, a4⟩
theorem Mach.same {C : Addr} {H H' : Hp} {p S E B D : Addr} {l st : Nat} {R : List Pt} {n : Nat} (m : Mach C H p S E B D l st R n) (s : Same H H') : Mach C H' p S E B D l st R n := by
  obtain ⟨⟨dx, ob⟩, hs, he, ⟨bs, hb, bel⟩, ⟨kvs, hd, r⟩, a1, a2, a3, a4⟩ := m
  exact ⟨⟨dx, s _ _ ob⟩, s _ _ hs, s _ _ he, ⟨bs, s _ _ hb, bel.same s⟩, ⟨kvs, s _ _ hd, r⟩, a1, a2, a3, a4⟩
def spMo (C : Addr) : Sp := fun vs H Q _ => ∃ (p S E B D : Addr) (l st : Nat) (R : List Pt) (n c : Nat), vs = [.ref p, .str (sg c)] ∧ c ∈ cs signsS ∧ n ≤ 10000 ∧ Mach C H p S E B D l st R n ∧
  ∀ (k : Nat) (H' : Hp), Mask R c k → Mach C H' p S E B D l st R (n + 1) → (∀ b o, H b = some o → b ≠ D → H' b = some o) → Q (.int (k : Nat)) H'
def spLe (C : Addr) : Sp := fun vs H Q _ => ∃ (p S E B D : Addr) (l st : Nat) (R : List Pt) (n s : Nat), vs = [.ref p, .int (s : Nat), .int 0] ∧ Mach C H p S E B D l st R n ∧ Q (.bl (s.testBit R.length)) H
def bitAt (R : List Pt) (c q : Nat) : Bool := match R[q]? with
  | some p => !p.isLot && p.takes c
  | none => false
theorem bitAt_iff {R : List Pt} {c q : Nat} : bitAt R c q = true ↔ ∃ p, R[q]? = some p ∧ p.isLot = false ∧ p.takes c = true := by
  unfold bitAt
  cases e : R[q]? with
  | none => simp
  | some p => simp
theorem setL_at {R : List Pt} (hg : ∀ p ∈ R, p.good) {c q n : Nat} (hc : c ∈ cs signsS) (h : (setL R)[q]? = some n) : n.testBit (ixS c) = bitAt R c q := by
  unfold setL at h
  unfold bitAt
  rcases Nat.lt_or_ge q R.length with z | z
  · rw [List.getElem?_append_left (by rw [List.length_map]; exact z), List.getElem?_map, List.getElem?_eq_getElem z] at h
    obtain rfl := Option.some.inj h
    rw [List.getElem?_eq_getElem z]
    show (setAt R[q]).testBit (ixS c) = (!R[q].isLot && R[q].takes c)
    unfold setAt
    cases hl : R[q].isLot with
    | true => rw [if_pos rfl, Nat.zero_testBit]; rfl
    | false => rw [if_neg (by decide), set_bit (hg _ (List.getElem_mem z)) hl hc]; rfl
  · rw [List.getElem?_append_right (by rw [List.length_map]; exact z)] at h
    rw [List.getElem?_eq_none z]
    have : n = 0 := by
      rw [List.length_map] at h
      cases hq : q - R.length with
      | zero => rw [hq] at h; exact (Option.some.inj h).symm
      | succ j => rw [hq] at h; cases h
    rw [this, Nat.zero_testBit]
theorem add_bit {m i q : Nat} (h : m < 2 ^ i) : (m + 2 ^ i).testBit q = (decide (i = q) || m.testBit q) := by
  have e := Nat.two_pow_add_eq_or_of_lt h 1
  rw [Nat.mul_one] at e
  rw [Nat.add_comm, e, Nat.testBit_or, Nat.testBit_two_pow]
/-- what is summed so far -/
def Sm (R : List Pt) (c i : Nat) (L : List Int) : Prop := ∃ m : Nat, L.length ≤ i ∧ L.sum = ((m : Nat) : Int) ∧ m < 2 ^ i ∧ ∀ q, m.testBit q = true ↔ q < i ∧ bitAt R c q = true
theorem Sm.zero (R : List Pt) (c : Nat) : Sm R c 0 [] := ⟨0, Nat.le_refl _, rfl, by decide, fun q => by rw [Nat.zero_testBit]; simp⟩
theorem Sm.yes {R : List Pt} {c i : Nat} {L : List Int} (h : Sm R c i L) (hb : bitAt R c i = true) : Sm R c (i + 1) (L ++ [((2 ^ i : Nat) : Int)]) := by
  obtain ⟨m, h1, h2, h3, h4⟩ := h
  refine ⟨m + 2 ^ i, by rw [List.length_append]; simp; omega, ?_, by rw [Nat.pow_succ]; omega, fun q => ?_⟩
  · rw [List.sum_append, h2]
    simp
  · rw [add_bit h3, Bool.or_eq_true, h4]
    constructor
    · rintro (z | ⟨z1, z2⟩)
      · have := of_decide_eq_true z
        subst this
        exact ⟨by omega, hb⟩
      · exact ⟨by omega, z2⟩
    · rintro ⟨z1, z2⟩
      by_cases e : i = q
      · exact .inl (decide_eq_true e)
      · exact .inr ⟨by omega, z2⟩
theorem Sm.no {R : List Pt} {c i : Nat} {L : List Int} (h : Sm R c i L) (hb : bitAt R c i = false) : Sm R c (i + 1) L := by
  obtain ⟨m, h1, h2, h3, h4⟩ := h
  refine ⟨m, by omega, h2, by rw [Nat.pow_succ]; omega, fun q => ?_⟩
  rw [h4]
  constructor
  · rintro ⟨z1, z2⟩
    exact ⟨by omega, z2⟩
  · rintro ⟨z1, z2⟩
    by_cases e : q = i
    · subst e; rw [hb] at z2; cases z2
    · exact ⟨by omega, z2⟩
section
variable {P : Program} {w : World} {K : Frag} {mg : Str → Option Value} {base : Heap}
abbrev sLe : Stmt := inClass (top 13) 5
abbrev nLe : List Str := ["self", "standing", "index"]
theorem scLe : FnScope nLe ["self", "standing", "index"] (defScope sLe) := ⟨rfl, rfl, rfl, by decide +kernel, rfl, by decide +kernel, by decide +kernel⟩
theorem has_Le {f C : Addr} {fd : FuncData} (F : Fun K "lets" "Machine.lets" sLe f fd) (m : Meth K C "lets" f) (B : Blt mg) (T : Txt K mg C) :
    HasM P w K mg base C 1 "lets" ["self", "standing", "index"] (spLe C) := by
  refine ⟨f, fd, m, F.binds (ps := ["self", "standing", "index"]) (fun _ _ _ _ _ _ us hl => match us, hl with | [_, _, _], _ => rfl), F.ok scLe (fun vs H Q E h => ?_) (fun cdv A outer s H vs Q E hr h => ?_)⟩
  · obtain ⟨p, S, E1, B1, D, l, st, R, n, s, rfl, _⟩ := h
    rfl
  · refine ⟨_, (pss_one (ps_ret (pe_cmpR op_ne (pe_op op_and (pv 1) (pe_ix ix_list (pe_fld (pv 0) rfl) (pv 2) (fun _ _ => rfl))) pe_int (nomark _)))), ?_⟩
    obtain ⟨p, S, E1, B1, D, l, st, R, n, s, rfl, ma, k⟩ := h
    obtain ⟨dx, hp⟩ := ma.ob
    refine ⟨_, rfl, _, rfl, p, C, dx, _, _, rfl, hp, T.cl, T.nE, fl_E, _, rfl, E1, [V.int ((2 ^ R.length : Nat) : Int)], 0, .int ((2 ^ R.length : Nat) : Int), rfl, rfl, SqL.of ma.he, rfl, _, _, rfl, rfl, rfl, ?_⟩
    have z : (!decide (V.int (Builtin.bitAnd ((s : Nat) : Int) ((2 ^ R.length : Nat) : Int)) = V.int 0)) = s.testBit R.length := by
      have e := and_pow s R.length
      rw [← and_int] at e
      cases b : s.testBit R.length with
      | true =>
        have := e.mpr b
        rw [decide_eq_false (fun z => this (by injection z))]
        rfl
      | false =>
        rw [decide_eq_true]
        · rfl
        · congr 1
          rcases Decidable.em (Builtin.bitAnd ((s : Nat) : Int) ((2 ^ R.length : Nat) : Int) = 0) with h | h
          · exact h
          · rw [e.mp h] at b; cases b
    rw [← z] at k
    exact k
abbrev sMo : Stmt := inClass (top 13) 4
abbrev nMo : List Str := ["self", "sign", "bit", "at", "signs"]
theorem scMo : FnScope nMo ["self", "sign"] (defScope sMo) := ⟨rfl, rfl, rfl, by decide +kernel, rfl, by decide +kernel, by decide +kernel⟩
theorem has_Mo {f C : Addr} {fd : FuncData} (F : Fun K "mask_of" "Machine.mask_of" sMo f fd) (m : Meth K C "mask_of" f) (B : Blt mg) (W : Wrt mg) (T : Txt K mg C) :
    HasM P w K mg base C 1 "mask_of" ["self", "sign"] (spMo C) := by
  refine ⟨f, fd, m, F.binds (ps := ["self", "sign"]) (fun _ _ _ _ _ _ us hl => match us, hl with | [_, _], _ => rfl), F.ok scMo (fun vs H Q E h => ?_) (fun cdv A outer s H vs Q E hr h => ?_)⟩
  · obtain ⟨p, S, E1, B1, D, l, st, R, n, c, rfl, _⟩ := h
    rfl
  · have hu := hu_of hr
    refine ⟨_, (pss_cons (ps_if (pt_cmp (pc_dnotin hu (pv 1) (pe_fld (pv 0) rfl))) (pss_cons (ps_set (i := 2) scMo.nd rfl (.inr rfl) (pe_op op_shl pe_int (pe_bm PySem.F.plainAttrs_str PySem.F.slot_str_index PySem.F.type_str_index mt_sindex (glob_str (by rfl) W.signs) (pa_cons (pv 1) pa_nil))))
          (pss_one (ps_dput hu (pe_fld (pv 0) rfl) (pv 1) (pe_callB (cr_sum rfl) (by rfl) B.sum (by decide +kernel) (pa_cons (pe_lc (own := [("at", 3), ("signs", 4)]) (te := tOp (rI CPow fun i j => .int (i * 2 ^ j.toNat)) (tC (.int 1)) (tVar 3)) (tt := tTruK K (tOp (rI0 fun i j => .int (Builtin.bitAnd i j)) (tVar 4) (tVar 2))) (g := gTup K 2 (gCons (gName 3) (gCons (gName 4) gNil))) rfl scMo.nd (pi_enum (by rfl) B.enumerate (pa_cons (pe_fld (pv 0) rfl) pa_nil)) (blkOk_by (N := nMo) (sc := defScope sMo) (by decide +kernel)) (fun _ _ _ _ _ => pg_tup rfl (pgs_cons (pg_name (i := 3) scMo.nd rfl (.inl rfl)) (pgs_cons (pg_name (i := 4) scMo.nd rfl (.inl rfl)) pgs_nil))) (fun _ _ _ _ _ => pts_one (pt_truth (pe_op op_and (pv 4) (pv 2)) (by intro _; rfl))) (fun _ _ _ _ _ => (pe_op op_shl pe_int (pv 3)))) pa_nil)) rfl))) pss_nil)
        (pss_one (ps_ret (pe_dget hu (pe_fld (pv 0) rfl) (pv 1) (fun _ _ => rfl))))), ?_⟩
    obtain ⟨p, S, E1, B1, D, l, st, R, n, c, rfl, hc, hn, ma, k⟩ := h
    obtain ⟨dx, hp⟩ := ma.ob
    obtain ⟨kvs, hd, hk, hv⟩ := ma.hd
    obtain ⟨rest, ho⟩ := occS hc
    have hx := ixS_lt c hc
    refine ⟨_, rfl, _, rfl, p, C, dx, _, _, rfl, hp, T.cl, T.nM, fl_M, D, _, rfl, DGet.k (k := Sum.inr (sg c)) hd, _, rfl, ?_⟩
    cases e : valV kvs (Sum.inr (sg c) : Key) with
    | some v =>
      obtain ⟨k', rfl, hM⟩ := hv c hc v e
      refine if_no rfl ⟨_, rfl, p, C, dx, _, _, rfl, hp, T.cl, T.nM, fl_M, _, rfl, D, _, rfl, ?_, k k' H hM (ma.up (by omega)) (fun b o h _ => h)⟩
      rw [← e]
      exact DGet.k (k := Sum.inr (sg c)) hd
    | none =>
      refine if_yes rfl ⟨rfl, _, rfl, signsS, sg c, ixS c, rest, rfl, rfl, ho, _, _, rfl, rfl, ⟨by omega, by omega, by decide⟩, ?_⟩
      dsimp only
      rw [pow_int]
      have hS : SqL K H S (intV (setL R)) := SqL.of ma.hs
      refine ⟨_, rfl, p, C, dx, _, _, rfl, hp, T.cl, T.nS, fl_S, S, _, rfl, hS, fun D2 hD2 => lc_it (walk_enum (xs := intV (setL R))) (fun i H' => Same H H' ∧ ∃ L : List Int, H' D2 = some (.lst (L.map V.int)) ∧ Sm R c i L) ⟨same_upd hD2, [], upd_same, Sm.zero R c⟩ (fun i H' _ e => e.1.seq hS) (fun i x H' H2 hi e y => ?_) (fun H' e => ?_)⟩
      · obtain ⟨s1, L, hL, sm⟩ := e
        obtain ⟨T1, x1, x2, rfl, nT, rfl, e1, e2⟩ := y
        obtain rfl := Option.some.inj e1
        obtain ⟨z, hz, rfl⟩ : ∃ z, (setL R)[i]? = some z ∧ V.int ((z : Nat) : Int) = x2 := by
          unfold intV at e2
          dsimp only at e2
          rw [List.getElem?_map] at e2
          cases hz : (setL R)[i]? with
          | none => rw [hz] at e2; cases e2
          | some z => rw [hz] at e2; exact ⟨z, rfl, Option.some.inj e2⟩
        have hi2 : i < 61 := by
          have h1 := (List.getElem?_eq_some_iff.mp hz).1
          have h2 := ma.len
          unfold setL at h1
          rw [List.length_append, List.length_map, List.length_singleton] at h1
          omega
        have bt := setL_at ma.good hc hz
        have s2 := s1.trans (same_upd (o := .tup [.int (i : Nat), .int ((z : Nat) : Int)]) nT)
        have hL2 : (L2.upd H' T1 (.tup [.int (i : Nat), .int ((z : Nat) : Int)])) D2 = some (.lst (L.map V.int)) := by rw [upd_ne (ne_of_none hL nT)]; exact hL
        refine ⟨T1, _, rfl, SqT.of upd_same, rfl, _, _, rfl, _, _, rfl, rfl, rfl, ?_⟩
        refine ⟨_, rfl, _, rfl, _, _, rfl, rfl, _, rfl, ?_⟩
        rw [and_int]
        have lL : L.length ≤ i := by obtain ⟨_, h1, _⟩ := sm; exact h1
        refine if_by (fun e => ?_) (fun e => ?_)
        · have tb := (and_pow z (ixS c)).mp (by simpa using e)
          refine ⟨_, rfl, _, _, rfl, rfl, ⟨by omega, by omega, by decide⟩, _, hL2, by rw [List.length_map, sizeLine_eq]; omega, same_upd2 s2 hD2, L ++ [((2 ^ i : Nat) : Int)], ?_, sm.yes (by rw [← bt]; exact tb)⟩
          rw [upd_same, List.map_append]
          dsimp only
          rw [pow_int]
          rfl
        · refine ⟨s2, L, hL2, sm.no ?_⟩
          rw [← bt]
          cases b : z.testBit (ixS c) with
          | false => rfl
          | true => exact absurd ((and_pow z (ixS c)).mpr b) (by simpa using e)
      · obtain ⟨s1, L, hL, m', _, hsum, _, hbit⟩ := e
        have lx : (intV (setL R)).length = R.length + 1 := by
          unfold intV setL
          rw [List.length_map, List.length_append, List.length_map]
          rfl
        rw [lx] at hbit
        have hM : Mask R c m' := fun q => by
          rw [hbit, bitAt_iff]
          constructor
          · exact fun h => h.2
          · rintro ⟨x, h1, h2⟩
            exact ⟨by have := (List.getElem?_eq_some_iff.mp h1).1; omega, x, h1, h2⟩
        have hd1 := s1 _ _ hd
        have hp1 := s1 _ _ hp
        refine ⟨D2, L, rfl, SqL.of hL, _, rfl, p, C, dx, _, _, rfl, hp1, T.cl, T.nM, fl_M, _, rfl, D, _, rfl, DPut.k (k := Sum.inr (sg c)) hd1 (by rw [sizeLine_eq]; omega), ?_⟩
        rw [hsum]
        have npd : p ≠ D := ne_of hp1 hd1 (by intro z; cases z)
        have hp2 : (L2.upd H' D (.dK (putK kvs (Sum.inr (sg c)) (.int ((m' : Nat) : Int))))) p = some (.ins C dx (fl S E1 B1 D l st)) := by rw [upd_ne npd]; exact hp1
        refine ⟨_, rfl, p, C, dx, _, _, rfl, hp2, T.cl, T.nM, fl_M, _, rfl, D, .int ((m' : Nat) : Int), rfl, ?_, k m' _ hM ?_ (fun b o h ne => by rw [upd_ne ne]; exact s1 _ _ h)⟩
        · have z := DGet.k (k := Sum.inr (sg c)) (kvs := putK kvs (Sum.inr (sg c)) (.int ((m' : Nat) : Int))) (a := D) (H := L2.upd H' D (.dK (putK kvs (Sum.inr (sg c)) (.int ((m' : Nat) : Int))))) upd_same
          rw [valV_put, if_pos rfl] at z
          exact z
        · have keep : ∀ {b : Addr} {o : HO}, H b = some o → (∀ kv, o ≠ .dK kv) → (L2.upd H' D (.dK (putK kvs (Sum.inr (sg c)) (.int ((m' : Nat) : Int))))) b = some o := fun {b o} h no => by
            rw [upd_ne (fun z => by subst z; rw [hd] at h; exact no _ (Option.some.inj h).symm)]
            exact s1 _ _ h
          obtain ⟨bs, hb, bel⟩ := ma.bel
          refine ⟨⟨dx, hp2⟩, keep ma.hs (fun _ z => by cases z), keep ma.he (fun _ z => by cases z), ⟨bs, keep hb (fun _ z => by cases z), fun x mx => ?_⟩, ⟨_, upd_same, ?_, fun c' hc' v h => ?_⟩, ma.lots, ma.sep, ma.len, ma.good⟩
          · obtain ⟨t, q, ex, ht, hq⟩ := bel x mx
            exact ⟨t, q, ex, keep ht (fun _ z => by cases z), hq⟩
          · have := length_putK kvs (Sum.inr (sg c) : Key) (.int ((m' : Nat) : Int))
            omega
          · rw [valV_put] at h
            by_cases ec : (Sum.inr (sg c') : Key) = Sum.inr (sg c)
            · rw [if_pos ec] at h
              obtain rfl := Option.some.inj h
              have : c' = c := by
                have := congrArg cs (Sum.inr.inj ec)
                exact (List.cons.inj this).1
              subst this
              exact ⟨m', rfl, hM⟩
            · rw [if_neg ec] at h
              exact hv c' hc' v h
end
end Qb
end PySem
namespace PySem
namespace Qb
open PySem.W PySem.Calls PyProof.Rows L2
theorem pf_ne {f g : Str} {v x : V} {fs : List (Str × V)} (h : ¬ g = f) : putF f v ((g, x) :: fs) = (g, x) :: putF f v fs := by
  show (if g = f then _ else _) = _
  rw [if_neg h]
theorem pf_eq {f : Str} {v x : V} {fs : List (Str × V)} : putF f v ((f, x) :: fs) = (f, v) :: fs := by
  show (if f = f then _ else _) = _
  rw [if_pos rfl]
theorem putF_nil {f : Str} {v : V} : putF f v [] = [(f, v)] := rfl
def fl5 (S E B : Addr) (l st : Nat) : List (Str × V) := [("sets", .ref S), ("lots", .int (l : Nat)), ("ends", .ref E), ("below", .ref B), ("start", .int (st : Nat))]
section
variable {S E B D : Addr} {l l' st st' : Nat}
theorem f5_S : (fl5 S E B l st).lookup ("sets" : Str) = some (.ref S) := by unfold fl5; ((repeat (first | exact lk_eq | refine Eq.trans (lk_ne (by decide +kernel)) ?_)) <;> rfl)
theorem f5_L : (fl5 S E B l st).lookup ("lots" : Str) = some (.int (l : Nat)) := by unfold fl5; ((repeat (first | exact lk_eq | refine Eq.trans (lk_ne (by decide +kernel)) ?_)) <;> rfl)
theorem f5_E : (fl5 S E B l st).lookup ("ends" : Str) = some (.ref E) := by unfold fl5; ((repeat (first | exact lk_eq | refine Eq.trans (lk_ne (by decide +kernel)) ?_)) <;> rfl)
theorem f5_B : (fl5 S E B l st).lookup ("below" : Str) = some (.ref B) := by unfold fl5; ((repeat (first | exact lk_eq | refine Eq.trans (lk_ne (by decide +kernel)) ?_)) <;> rfl)
theorem f5_T : (fl5 S E B l st).lookup ("start" : Str) = some (.int (st : Nat)) := by unfold fl5; ((repeat (first | exact lk_eq | refine Eq.trans (lk_ne (by decide +kernel)) ?_)) <;> rfl)
theorem f5_add : (fl5 S E B l st).lookup ("add_row" : Str) = none := by unfold fl5; ((repeat (first | exact lk_eq | refine Eq.trans (lk_ne (by decide +kernel)) ?_)) <;> rfl)
theorem f5_closed : (fl5 S E B l st).lookup ("closed" : Str) = none := by unfold fl5; ((repeat (first | exact lk_eq | refine Eq.trans (lk_ne (by decide +kernel)) ?_)) <;> rfl)
theorem f5_pL : putF ("lots" : Str) (.int (l' : Nat)) (fl5 S E B l st) = fl5 S E B l' st := by
  unfold fl5
  rw [pf_ne (by decide +kernel), pf_eq]
theorem f5_pT : putF ("start" : Str) (.int (st' : Nat)) (fl5 S E B l st) = fl5 S E B l st' := by
  unfold fl5
  rw [pf_ne (by decide +kernel), pf_ne (by decide +kernel), pf_ne (by decide +kernel), pf_ne (by decide +kernel), pf_eq]
theorem f5_pM : putF ("masks" : Str) (.ref D) (fl5 S E B l st) = fl S E B D l st := by
  unfold fl5 fl
  rw [pf_ne (by decide +kernel), pf_ne (by decide +kernel), pf_ne (by decide +kernel), pf_ne (by decide +kernel), pf_ne (by decide +kernel), putF_nil]
theorem f5_mk : putF ("start" : Str) (.int 0) (putF "below" (.ref B) (putF "ends" (.ref E) (putF "lots" (.int 0) (putF "sets" (.ref S) [])))) = fl5 S E B 0 0 := by
  have e1 : putF ("lots" : Str) (.int 0) [(("sets" : Str), V.ref S)] = [(("sets" : Str), V.ref S), ("lots", .int 0)] := by rw [pf_ne (by decide +kernel), putF_nil]
  have e2 : putF ("ends" : Str) (.ref E) [(("sets" : Str), V.ref S), ("lots", .int 0)] = [(("sets" : Str), V.ref S), ("lots", .int 0), ("ends", .ref E)] := by rw [pf_ne (by decide +kernel), pf_ne (by decide +kernel), putF_nil]
  have e3 : putF ("below" : Str) (.ref B) [(("sets" : Str), V.ref S), ("lots", .int 0), ("ends", .ref E)] = [(("sets" : Str), V.ref S), ("lots", .int 0), ("ends", .ref E), ("below", .ref B)] := by rw [pf_ne (by decide +kernel), pf_ne (by decide +kernel), pf_ne (by decide +kernel), putF_nil]
  have e4 : putF ("start" : Str) (.int 0) [(("sets" : Str), V.ref S), ("lots", .int 0), ("ends", .ref E), ("below", .ref B)] = [(("sets" : Str), V.ref S), ("lots", .int 0), ("ends", .ref E), ("below", .ref B), ("start", .int 0)] := by rw [pf_ne (by decide +kernel), pf_ne (by decide +kernel), pf_ne (by decide +kernel), pf_ne (by decide +kernel), putF_nil]
  rw [putF_nil, e1, e2, e3, e4]
  rfl
end
/-! ## pieces do not stand on what is empty, or an instance -/
def Off (o : HO) : Prop := o = .lst [] ∨ ∃ C dx fs, o = .ins C dx fs
theorem sqT_hide {K : Frag} {H : Hp} {F a : Addr} {o : HO} {xs : List V} (e : H F = some o) (ho : Off o) (h : SqT K H a xs) : SqT K (hide H F) a xs := by
  have ne : ∀ {u : HO}, H a = some u → (∀ p, u ≠ .lst p) → (∀ C dx fs, u ≠ .ins C dx fs) → hide H F a = some u := fun {u} h1 h2 h3 => hide_ne h1 (fun z => by
    subst z
    rw [e] at h1
    obtain rfl := Option.some.inj h1
    rcases ho with z | ⟨C, dx, fs, z⟩
    · exact h2 _ z
    · exact h3 _ _ _ z)
  rcases h with (h | ⟨o, h⟩) | h
  · exact .inl (.inl (ne h (fun _ z => by cases z) (fun _ _ _ z => by cases z)))
  · exact .inl (.inr ⟨o, ne h (fun _ z => by cases z) (fun _ _ _ z => by cases z)⟩)
  · exact .inr h
theorem sqL_hide {K : Frag} {H : Hp} {F a : Addr} {o : HO} {xs : List V} (e : H F = some o) (ho : Off o) (hx : xs ≠ []) (h : SqL K H a xs) : SqL K (hide H F) a xs := by
  have ne : ∀ {u : HO}, H a = some u → u ≠ .lst [] → (∀ C dx fs, u ≠ .ins C dx fs) → hide H F a = some u := fun {u} h1 h2 h3 => hide_ne h1 (fun z => by
    subst z
    rw [e] at h1
    obtain rfl := Option.some.inj h1
    rcases ho with z | ⟨C, dx, fs, z⟩
    · exact h2 z
    · exact h3 _ _ _ z)
  rcases h with (h | ⟨o, h⟩) | h
  · exact .inl (.inl (ne h (fun z => by injection z with z; exact hx z) (fun _ _ _ z => by cases z)))
  · exact .inl (.inr ⟨o, ne h (fun z => by cases z) (fun _ _ _ z => by cases z)⟩)
  · exact .inr h
theorem dp_hide {K : Frag} {H : Hp} {F : Addr} {o : HO} (e : H F = some o) (ho : ∃ C dx fs, o = .ins C dx fs) : ∀ {d : PyData} {v : V}, Dp K H v d → Dp K (hide H F) v d := by
  intro d v h
  have ne : ∀ {a : Addr} {u : HO}, H a = some u → (∀ C dx fs, u ≠ .ins C dx fs) → hide H F a = some u := fun {a u} h1 h3 => hide_ne h1 (fun z => by
    subst z
    rw [e] at h1
    obtain rfl := Option.some.inj h1
    obtain ⟨C, dx, fs, z⟩ := ho
    exact h3 _ _ _ z)
  refine Dp.rec (motive_1 := fun v d _ => Dp K (hide H F) v d) (motive_2 := fun vs ds _ => DpAll K (hide H F) vs ds) .non .bl .int .str (fun h1 _ ih => .lst ?_ ih) (fun h1 _ ih => .tup (sqT_hide e (.inr ho) h1) ih) .nil (fun _ _ a b => .cons a b) h
  rcases h1 with (h | ⟨o, h⟩) | h
  · exact .inl (.inl (ne h (fun _ _ _ z => by cases z)))
  · exact .inl (.inr ⟨o, ne h (fun _ _ _ z => by cases z)⟩)
  · exact .inr h
theorem strs_hide {K : Frag} {H : Hp} {F : Addr} {xs : List V} : ∀ {ds : List PyData}, (∀ d ∈ ds, ∃ x, d = .str x) → DpAll K H xs ds → DpAll K (hide H F) xs ds := by
  intro ds h all
  induction ds generalizing xs with
  | nil => cases all; exact .nil
  | cons d ds ih =>
    cases all with
    | cons h1 h2 =>
      obtain ⟨x, rfl⟩ := h d (.head _)
      cases h1
      exact .cons (.str _) (ih (fun e m => h e (.tail _ m)) h2)
theorem rg_hide {K : Frag} {H : Hp} {F : Addr} {o : HO} (e : H F = some o) (ho : Off o) {xs : List V} : ∀ {rs : List (Nat × Nat)}, DpAll K H xs (rs.map rgD) → DpAll K (hide H F) xs (rs.map rgD) := by
  intro rs all
  induction rs generalizing xs with
  | nil => cases all; exact .nil
  | cons r rs ih =>
    cases all with
    | cons h1 h2 =>
      obtain ⟨a, ys, rfl, q, al⟩ := dp_tup h1
      refine .cons (.tup (sqT_hide e ho q) (strs_hide (fun d m => ?_) al)) (ih h2)
      rcases List.mem_cons.mp m with rfl | m
      · exact ⟨_, rfl⟩
      · rcases List.mem_singleton.mp m with rfl
        exact ⟨_, rfl⟩
theorem pt_hide {K : Frag} {H : Hp} {F : Addr} {o : HO} (e : H F = some o) (ho : Off o) {p : Pt} {x : V} (hg : p.good) (h : Dp K H x p.d) : Dp K (hide H F) x p.d := by
  obtain ⟨a, ys, rfl, q, all⟩ := dp_tup (ds := match p with | .one c => [.str "one", .str (sg c)] | .any => [.str "any"] | .lot => [.str "lot"] | .of no rs => [.str "of", .bool no, .list (rs.map rgD)]) (by cases p <;> exact h)
  have q' := sqT_hide e ho q
  cases p with
  | one c =>
    refine .tup q' (strs_hide (fun d m => ?_) all)
    rcases List.mem_cons.mp m with rfl | m
    · exact ⟨_, rfl⟩
    · rcases List.mem_singleton.mp m with rfl
      exact ⟨_, rfl⟩
  | any => exact .tup q' (strs_hide (fun d m => by rcases List.mem_singleton.mp m with rfl; exact ⟨_, rfl⟩) all)
  | lot => exact .tup q' (strs_hide (fun d m => by rcases List.mem_singleton.mp m with rfl; exact ⟨_, rfl⟩) all)
  | of no rs =>
    cases all with
    | cons h1 t1 =>
      cases t1 with
      | cons h2 t2 =>
        cases t2 with
        | cons h3 t3 =>
          cases t3
          obtain ⟨b, zs, rfl, qb, al⟩ := dp_lst h3
          have lz := dpLen al
          rw [List.length_map] at lz
          have nz : zs ≠ [] := fun z => by
            rw [z] at lz
            exact hg.1 (List.eq_nil_of_length_eq_zero lz.symm)
          refine .tup q' (.cons ?_ (.cons ?_ (.cons (.lst (sqL_hide e ho nz qb) (rg_hide e ho al)) .nil)))
          · cases h1; exact .str _
          · cases h2; exact .bl _
theorem pts_hide {K : Frag} {H : Hp} {F : Addr} {o : HO} (e : H F = some o) (ho : Off o) {xs : List V} : ∀ {R : List Pt}, (∀ p ∈ R, p.good) → DpAll K H xs (R.map Pt.d) → DpAll K (hide H F) xs (R.map Pt.d) := by
  intro R hg all
  induction R generalizing xs with
  | nil => cases all; exact .nil
  | cons p R ih =>
    cases all with
    | cons h1 h2 => exact .cons (pt_hide e ho (hg p (.head _)) h1) (ih (fun q m => hg q (.tail _ m)) h2)
end Qb
end PySem
namespace PySem
namespace Qb
open PySem.W PySem.Calls PyProof.Rows L2
def hid4 (H : Hp) (p S E B : Addr) : Hp := hide (hide (hide (hide H p) S) E) B
theorem hid4_at {H : Hp} {p S E B b : Addr} {o : HO} (h : H b = some o) (h1 : b ≠ p) (h2 : b ≠ S) (h3 : b ≠ E) (h4 : b ≠ B) : hid4 H p S E B b = some o :=
  hide_ne (hide_ne (hide_ne (hide_ne h h1) h2) h3) h4
theorem hid4_back {H : Hp} {p S E B b : Addr} {o : HO} (h : hid4 H p S E B b = some o) : H b = some o ∧ b ≠ p ∧ b ≠ S ∧ b ≠ E ∧ b ≠ B := by
  unfold hid4 hide at h
  split at h
  · cases h
  · rename_i h4
    split at h
    · cases h
    · rename_i h3
      split at h
      · cases h
      · rename_i h2
        split at h
        · cases h
        · rename_i h1
          exact ⟨h, h1, h2, h3, h4⟩
theorem hid4_upd {H H' : Hp} {p S E B F : Addr} {o : HO} (s : Same (hid4 H p S E B) H') (hF : F = p ∨ F = S ∨ F = E ∨ F = B) : Same (hid4 H p S E B) (L2.upd H' F o) := fun b u h => by
  obtain ⟨_, h1, h2, h3, h4⟩ := hid4_back h
  rw [upd_ne (fun z => by
    rcases hF with e | e | e | e
    · exact h1 (z.trans e)
    · exact h2 (z.trans e)
    · exact h3 (z.trans e)
    · exact h4 (z.trans e))]
  exact s _ _ h
def spAr (C : Addr) (K : Frag) : Sp := fun vs H Q _ => ∃ (p L S E B dx : Addr) (R : List Pt) (xs : List V), vs = [.ref p, .ref L] ∧ H p = some (.ins C dx (fl5 S E B 0 0)) ∧ H S = some (.lst []) ∧ H E = some (.lst []) ∧ H B = some (.lst []) ∧ S ≠ E ∧ S ≠ B ∧ E ≠ B ∧
  H L = some (.lst xs) ∧ L ≠ S ∧ L ≠ E ∧ L ≠ B ∧ DpAll K H xs (R.map Pt.d) ∧ (∀ q ∈ R, q.good) ∧ R.length ≤ 60 ∧
  ∀ (H' : Hp) (l : Nat), Same (hid4 H p S E B) H' → (∃ dx', H' p = some (.ins C dx' (fl5 S E B l 1))) → H' S = some (.lst (intV (setL R))) → H' E = some (.lst [.int ((2 ^ R.length : Nat) : Int)]) → (∃ bs, H' B = some (.lst bs) ∧ Bel H' R bs) → Lots R l → Q .non H'
theorem intV_snoc (ns : List Nat) (n : Nat) : intV (ns ++ [n]) = intV ns ++ [V.int ((n : Nat) : Int)] := by
  unfold intV
  rw [List.map_append]
  rfl
theorem or_pow (a k : Nat) : Builtin.bitOr ((a : Nat) : Int) (1 * 2 ^ ((k : Nat) : Int).toNat) = ((a ||| 2 ^ k : Nat) : Int) := by
  rw [pow_int, or_int']
theorem lotAt_at {R : List Pt} {i : Nat} {p : Pt} (h : R[i]? = some p) : lotAt R i = p.isLot := by
  unfold lotAt
  rw [h]
section
variable {P : Program} {w : World} {K : Frag} {mg : Str → Option Value} {base : Heap}
abbrev sAr : Stmt := inClass (top 13) 1
abbrev nAr : List Str := ["self", "pattern", "first", "piece", "bit"]
theorem scAr : FnScope nAr ["self", "pattern"] (defScope sAr) := ⟨rfl, rfl, rfl, by decide +kernel, rfl, by decide +kernel, by decide +kernel⟩
theorem has_Ar {f C : Addr} {fd : FuncData} (F : Fun K "add_row" "Machine.add_row" sAr f fd) (m : Meth K C "add_row" f) (B : Blt mg) (T : Txt K mg C) (hSo : Has P w K mg base 1 "set_of" ["piece"] (spSo K)) :
    HasM P w K mg base C 2 "add_row" ["self", "pattern"] (spAr C K) := by
  obtain ⟨fSo, dSo, gSo, kSo, bSo, GSo⟩ := hSo
  refine ⟨f, fd, m, F.binds (ps := ["self", "pattern"]) (fun _ _ _ _ _ _ us hl => match us, hl with | [_, _], _ => rfl), F.ok scAr (fun vs H Q E h => ?_) (fun cdv A outer s H vs Q E hr h => ?_)⟩
  · obtain ⟨p, L, S, E1, B1, dx, R, xs, rfl, _⟩ := h
    rfl
  · refine ⟨_, (pss_cons (ps_set (i := 2) scAr.nd rfl (.inl rfl) (pe_callB call_len_seq (by rfl) B.len PySem.boot_len (pa_cons (pe_fld (pv 0) rfl) pa_nil)))
        (pss_cons (ps_fldaug (pv 0) (pe_op op_shl pe_int (pv 2)) in_or)
        (pss_cons (ps_for PassesOwn.never rfl (pi_list (pv 1)) (pg_name (i := 3) scAr.nd rfl (.inl rfl))
          (pss_cons (ps_set (i := 4) scAr.nd rfl (.inl rfl) (pe_op op_shl pe_int (pe_callB call_len_seq (by rfl) B.len PySem.boot_len (pa_cons (pe_fld (pv 0) rfl) pa_nil))))
          (pss_cons (ps_if (pt_cmpR (op_eqD hr.units) (pv 3) (pe_tup (pa_cons pe_str pa_nil)) (nomark _)) (pss_cons (ps_fldaug (pv 0) (pv 4) in_or)
            (pss_one (ps_expr (pe_bm PySem.F.plainAttrs_list PySem.F.slot_list_append PySem.F.type_list_append mt_append (pe_fld (pv 0) rfl) (pa_cons (pe_tup (pa_cons (pv 4) (pa_cons (pe_op op_sub (pv 4) (pe_op op_shl pe_int (pv 2))) pa_nil))) pa_nil))))) pss_nil)
          (pss_one (ps_expr (pe_bm PySem.F.plainAttrs_list PySem.F.slot_list_append PySem.F.type_list_append mt_append (pe_fld (pv 0) rfl) (pa_cons (pe_ifExp (pt_cmpR (op_eqD hr.units) (pv 3) (pe_tup (pa_cons pe_str pa_nil)) (nomark _)) pe_int (pe_call GSo hr rfl gSo kSo bSo .nil pass0 (pa_cons (pv 3) pa_nil))) pa_nil)))))))
        (pss_cons (ps_expr (pe_bm PySem.F.plainAttrs_list PySem.F.slot_list_append PySem.F.type_list_append mt_append (pe_fld (pv 0) rfl) (pa_cons (pe_op op_shl pe_int (pe_callB call_len_seq (by rfl) B.len PySem.boot_len (pa_cons (pe_fld (pv 0) rfl) pa_nil))) pa_nil)))
        (pss_one (ps_expr (pe_bm PySem.F.plainAttrs_list PySem.F.slot_list_append PySem.F.type_list_append mt_append (pe_fld (pv 0) rfl) (pa_cons pe_int pa_nil)))))))), ?_⟩
    obtain ⟨p, L, S, E1, B1, dx, R, xs, rfl, hp, hS, hE, hB, nSE, nSB, nEB, hL, nLS, nLE, nLB, all, hg, hl, k⟩ := h
    have npS : p ≠ S := ne_of hp hS (by intro z; cases z)
    have npE : p ≠ E1 := ne_of hp hE (by intro z; cases z)
    have npB : p ≠ B1 := ne_of hp hB (by intro z; cases z)
    have npL : p ≠ L := ne_of hp hL (by intro z; cases z)
    have lx := dpLen all
    rw [List.length_map] at lx
    -- what is hidden
    have all4 : DpAll K (hid4 H p S E1 B1) xs (R.map Pt.d) := by
      have a1 := pts_hide hp (.inr ⟨_, _, _, rfl⟩) hg all
      have a2 := pts_hide (hide_ne hS (Ne.symm npS)) (.inl rfl) hg a1
      have a3 := pts_hide (hide_ne (hide_ne hE (Ne.symm npE)) (Ne.symm nSE)) (.inl rfl) hg a2
      exact pts_hide (hide_ne (hide_ne (hide_ne hB (Ne.symm npB)) (Ne.symm nSB)) (Ne.symm nEB)) (.inl rfl) hg a3
    have hL4 : hid4 H p S E1 B1 L = some (.lst xs) := hid4_at hL (Ne.symm npL) nLS nLE nLB
    have s0 : Same (hid4 H p S E1 B1) H := fun b o h => (hid4_back h).1
    refine ⟨_, rfl, p, C, dx, _, _, rfl, hp, T.cl, T.nS, f5_S, S, _, rfl, .inl (SqL.of hS), _, rfl, p, C, dx, _, _, rfl, hp, T.cl, T.nT, f5_T, _, rfl, _, _, rfl, rfl, ⟨by decide, by decide, by decide⟩, _, _, rfl, rfl, dx, _, hp, (by show 5 < 1000; decide), ?_⟩
    have e0 : putF ("start" : Str) (.int (Builtin.bitOr ((0 : Nat) : Int) (1 * 2 ^ (((0 : Nat)) : Int).toNat))) (fl5 S E1 B1 0 0) = fl5 S E1 B1 0 1 := by
      rw [or_pow]
      exact f5_pT
    refine ⟨_, rfl, L, rfl, ⟨xs, ?_⟩, for_list (xs := xs) (fun i σ H' => (∃ x3 x4, σ = [some (.ref p), some (.ref L), some (.int 0), x3, x4]) ∧ Same (hid4 H p S E1 B1) H' ∧ ∃ (dx' : Addr) (l : Nat) (bs : List V), H' p = some (.ins C dx' (fl5 S E1 B1 l 1)) ∧ H' S = some (.lst (intV ((R.take i).map setAt))) ∧ H' E1 = some (.lst []) ∧ H' B1 = some (.lst bs) ∧ bs.length ≤ i ∧ Bel H' R bs ∧ Lots (R.take i) l) ?_ (fun i σ H' _ e => SqL.of (e.2.1 _ _ hL4)) (fun i x σ H' hx e => ?_) (fun σ H' e => ?_)⟩
    · exact SqL.of (by rw [upd_ne (Ne.symm npL)]; exact hL)
    · refine ⟨⟨none, none, rfl⟩, hid4_upd s0 (.inl rfl), dx, 0, [], ?_, ?_, ?_, ?_, Nat.le_refl _, (fun x mx => by cases mx), Lots.nil⟩
      · rw [upd_same]
        exact congrArg (fun f => some (HO.ins C dx f)) e0
      · rw [upd_ne (Ne.symm npS)]; exact hS
      · rw [upd_ne (Ne.symm npE)]; exact hE
      · rw [upd_ne (Ne.symm npB)]; exact hB
    · obtain ⟨⟨x3, x4, rfl⟩, s1, dx', l, bs, hp1, hS1, hE1, hB1, lb, bel, lo⟩ := e
      obtain ⟨q, hq, dq⟩ := pt_at all4 hx
      have gq := hg q (List.mem_of_getElem? hq)
      have hi : i < R.length := (List.getElem?_eq_some_iff.mp hq).1
      have lS : (intV ((R.take i).map setAt)).length = i := by
        unfold intV
        rw [List.length_map, List.length_map, List.length_take]
        omega
      have tk := take_snoc hq
      refine ⟨_, rfl, p, C, dx', _, _, rfl, hp1, T.cl, T.nS, f5_S, S, _, rfl, .inl (SqL.of hS1), _, _, rfl, rfl, ⟨by omega, by rw [lS]; omega, by decide⟩, ?_⟩
      have dsimp_bit : (fun i j : Int => V.int (i * 2 ^ j.toNat)) 1 (((intV ((R.take i).map setAt)).length : Nat) : Int) = .int ((2 ^ i : Nat) : Int) := by
        rw [lS]
        exact congrArg V.int (pow_int i)
      rw [dsimp_bit]
      have last : ∀ (H6 : Hp) (l' : Nat) (bs' : List V), Same (hid4 H p S E1 B1) H6 → H6 p = some (.ins C dx' (fl5 S E1 B1 l' 1)) → H6 S = some (.lst (intV ((R.take i).map setAt))) → H6 E1 = some (.lst []) → H6 B1 = some (.lst bs') → bs'.length ≤ i + 1 → Bel H6 R bs' → Lots (R.take (i + 1)) l' →
          Same (hid4 H p S E1 B1) (L2.upd H6 S (.lst (intV ((R.take i).map setAt) ++ [V.int ((setAt q : Nat) : Int)]))) ∧ ∃ (dx' : Addr) (l : Nat) (bs : List V), (L2.upd H6 S (.lst (intV ((R.take i).map setAt) ++ [V.int ((setAt q : Nat) : Int)]))) p = some (.ins C dx' (fl5 S E1 B1 l 1)) ∧ (L2.upd H6 S (.lst (intV ((R.take i).map setAt) ++ [V.int ((setAt q : Nat) : Int)]))) S = some (.lst (intV ((R.take (i + 1)).map setAt))) ∧ (L2.upd H6 S (.lst (intV ((R.take i).map setAt) ++ [V.int ((setAt q : Nat) : Int)]))) E1 = some (.lst []) ∧ (L2.upd H6 S (.lst (intV ((R.take i).map setAt) ++ [V.int ((setAt q : Nat) : Int)]))) B1 = some (.lst bs) ∧ bs.length ≤ i + 1 ∧ Bel (L2.upd H6 S (.lst (intV ((R.take i).map setAt) ++ [V.int ((setAt q : Nat) : Int)]))) R bs ∧ Lots (R.take (i + 1)) l := by
        intro H6 l' bs' s6 p6 S6 E6 B6 lb6 be6 lo6
        refine ⟨hid4_upd s6 (.inr (.inl rfl)), dx', l', bs', by rw [upd_ne npS]; exact p6, ?_, by rw [upd_ne (Ne.symm nSE)]; exact E6, by rw [upd_ne (Ne.symm nSB)]; exact B6, lb6, fun y my => ?_, lo6⟩
        · rw [upd_same, tk, List.map_append, show [q].map setAt = [setAt q] from rfl, intV_snoc]
        · obtain ⟨t, k', e, ht, hk⟩ := be6 y my
          refine ⟨t, k', e, ?_, hk⟩
          rw [upd_ne (ne_of ht S6 (by intro z; cases z))]
          exact ht
      refine ⟨_, rfl, (by decide : 1 ≤ sizeLine), fun t1 n1 => ?_⟩
      have s2 := s1.trans (same_upd (o := .tup [.str "lot"]) n1)
      have u2 : Same H' (L2.upd H' t1 (.tup [.str "lot"])) := same_upd n1
      refine ⟨_, _, dp_same s2 dq, .tup (SqT.of upd_same) (.cons (.str _) .nil), sh_ok (sh_pt gq), by decide +kernel, _, rfl, ?_⟩
      rw [eqv_lot]
      have lo' := lo.snoc q
      rw [← tk, List.length_take, Nat.min_eq_left (by omega)] at lo'
      refine if_by (fun e1 => ?_) (fun e1 => ?_)
      · have hp2 := u2 _ _ hp1
        refine ⟨_, rfl, p, C, dx', _, _, rfl, hp2, T.cl, T.nL, f5_L, _, rfl, _, _, rfl, rfl, dx', _, hp2, (by show 5 < 1000; decide), ?_⟩
        have e5 : putF ("lots" : Str) (.int (Builtin.bitOr ((l : Nat) : Int) ((2 ^ i : Nat) : Int))) (fl5 S E1 B1 l 1) = fl5 S E1 B1 (l ||| 2 ^ i) 1 := by
          rw [or_int']
          exact f5_pL
        rw [e5]
        rw [if_pos e1] at lo'
        have s3 := hid4_upd (F := p) (o := .ins C dx' (fl5 S E1 B1 (l ||| 2 ^ i) 1)) s2 (.inl rfl)
        have hp3 : (L2.upd (L2.upd H' t1 (.tup [.str "lot"])) p (.ins C dx' (fl5 S E1 B1 (l ||| 2 ^ i) 1))) p = some (.ins C dx' (fl5 S E1 B1 (l ||| 2 ^ i) 1)) := upd_same
        have hS3 : (L2.upd (L2.upd H' t1 (.tup [.str "lot"])) p (.ins C dx' (fl5 S E1 B1 (l ||| 2 ^ i) 1))) S = some (.lst (intV ((R.take i).map setAt))) := by rw [upd_ne (Ne.symm npS)]; exact u2 _ _ hS1
        have hE3 : (L2.upd (L2.upd H' t1 (.tup [.str "lot"])) p (.ins C dx' (fl5 S E1 B1 (l ||| 2 ^ i) 1))) E1 = some (.lst []) := by rw [upd_ne (Ne.symm npE)]; exact u2 _ _ hE1
        have hB3 : (L2.upd (L2.upd H' t1 (.tup [.str "lot"])) p (.ins C dx' (fl5 S E1 B1 (l ||| 2 ^ i) 1))) B1 = some (.lst bs) := by rw [upd_ne (Ne.symm npB)]; exact u2 _ _ hB1
        have be3 : Bel (L2.upd (L2.upd H' t1 (.tup [.str "lot"])) p (.ins C dx' (fl5 S E1 B1 (l ||| 2 ^ i) 1))) R bs := fun y my => by
          obtain ⟨t, k', e, ht, hk⟩ := bel y my
          refine ⟨t, k', e, ?_, hk⟩
          have ht2 := u2 _ _ ht
          rw [upd_ne (ne_of ht2 hp2 (by intro z; cases z))]
          exact ht2
        generalize L2.upd (L2.upd H' t1 (.tup [.str "lot"])) p (.ins C dx' (fl5 S E1 B1 (l ||| 2 ^ i) 1)) = H3 at s3 hp3 hS3 hE3 hB3 be3 ⊢
        refine ⟨_, rfl, p, C, dx', _, _, rfl, hp3, T.cl, T.nB, f5_B, .inl ⟨rfl, _, SqL.of hB3⟩, _, rfl, _, rfl, _, rfl, _, _, rfl, rfl, ⟨by decide, by decide, by decide⟩, _, _, rfl, rfl, (by decide : 2 ≤ sizeLine), fun t2 n2 => ?_⟩
        have u4 : Same H3 (L2.upd H3 t2 (belD i)) := same_upd n2
        have eb : (HO.tup [V.int ((2 ^ i : Nat) : Int), V.int (((2 ^ i : Nat) : Int) - 1 * 2 ^ ((0 : Int)).toNat)]) = belD i := by
          unfold belD
          rw [show (1 : Int) * 2 ^ ((0 : Int)).toNat = 1 from rfl, PySem.W.kbt_cast]
        dsimp only
        rw [eb]
        have n2B : t2 ≠ B1 := fun z => by rw [z, hB3] at n2; cases n2
        refine ⟨B1, bs, _, rfl, rfl, u4 _ _ hB3, by rw [sizeLine_eq]; omega, ?_⟩
        have s4 := hid4_upd (F := B1) (o := .lst (bs ++ [V.ref t2])) (s3.trans u4) (.inr (.inr (.inr rfl)))
        have hp4 : (L2.upd (L2.upd H3 t2 (belD i)) B1 (.lst (bs ++ [V.ref t2]))) p = some (.ins C dx' (fl5 S E1 B1 (l ||| 2 ^ i) 1)) := by rw [upd_ne npB]; exact u4 _ _ hp3
        have hS4 : (L2.upd (L2.upd H3 t2 (belD i)) B1 (.lst (bs ++ [V.ref t2]))) S = some (.lst (intV ((R.take i).map setAt))) := by rw [upd_ne nSB]; exact u4 _ _ hS3
        have hE4 : (L2.upd (L2.upd H3 t2 (belD i)) B1 (.lst (bs ++ [V.ref t2]))) E1 = some (.lst []) := by rw [upd_ne nEB]; exact u4 _ _ hE3
        have hB4 : (L2.upd (L2.upd H3 t2 (belD i)) B1 (.lst (bs ++ [V.ref t2]))) B1 = some (.lst (bs ++ [V.ref t2])) := upd_same
        have lb4 : (bs ++ [V.ref t2]).length ≤ i + 1 := by rw [List.length_append, List.length_singleton]; omega
        have be4 : Bel (L2.upd (L2.upd H3 t2 (belD i)) B1 (.lst (bs ++ [V.ref t2]))) R (bs ++ [V.ref t2]) := fun y my => by
          rcases List.mem_append.mp my with my | my
          · obtain ⟨t, k', e, ht, hk⟩ := be3 y my
            refine ⟨t, k', e, ?_, hk⟩
            rw [upd_ne (ne_of ht hB3 (by intro z; cases z))]
            exact u4 _ _ ht
          · rcases List.mem_singleton.mp my with rfl
            exact ⟨t2, i, rfl, by rw [upd_ne n2B, upd_same], by rw [lotAt_at hq]; exact e1⟩
        generalize L2.upd (L2.upd H3 t2 (belD i)) B1 (.lst (bs ++ [V.ref t2])) = H4 at s4 hp4 hS4 hE4 hB4 be4 ⊢
        refine ⟨_, rfl, p, C, dx', _, _, rfl, hp4, T.cl, T.nS, f5_S, .inl ⟨rfl, _, SqL.of hS4⟩, _, rfl, (by decide : 1 ≤ sizeLine), fun t3 n3 => ?_⟩
        have u5 : Same H4 (L2.upd H4 t3 (.tup [.str "lot"])) := same_upd n3
        refine ⟨_, _, dp_same (s4.trans u5) dq, .tup (SqT.of upd_same) (.cons (.str _) .nil), sh_ok (sh_pt gq), by decide +kernel, _, rfl, ?_⟩
        rw [eqv_lot]
        refine if_yes e1 ⟨S, _, _, rfl, rfl, u5 _ _ hS4, by rw [lS, sizeLine_eq]; omega, ⟨_, _, rfl⟩, ?_⟩
        have z := last _ _ _ (s4.trans u5) (u5 _ _ hp4) (u5 _ _ hS4) (u5 _ _ hE4) (u5 _ _ hB4) lb4 (be4.same u5) lo'
        rw [show setAt q = 0 by unfold setAt; rw [if_pos e1]] at z
        exact z
      · rw [e1, if_neg (by decide)] at lo'
        refine ⟨_, rfl, p, C, dx', _, _, rfl, u2 _ _ hp1, T.cl, T.nS, f5_S, .inl ⟨rfl, _, SqL.of (u2 _ _ hS1)⟩, _, rfl, (by decide : 1 ≤ sizeLine), fun t3 n3 => ?_⟩
        have u5 := u2.trans (same_upd (o := .tup [.str "lot"]) n3)
        refine ⟨_, _, dp_same (s1.trans u5) dq, .tup (SqT.of upd_same) (.cons (.str _) .nil), sh_ok (sh_pt gq), by decide +kernel, _, rfl, ?_⟩
        rw [eqv_lot]
        refine if_no e1 ⟨_, rfl, x, q, rfl, dp_same (s1.trans u5) dq, gq, fun H6 s6 => ?_⟩
        have u6 := u5.trans s6
        refine ⟨S, _, _, rfl, rfl, u6 _ _ hS1, by rw [lS, sizeLine_eq]; omega, ⟨_, _, rfl⟩, ?_⟩
        have z := last _ _ _ (s1.trans u6) (u6 _ _ hp1) (u6 _ _ hS1) (u6 _ _ hE1) (u6 _ _ hB1) (by omega) (bel.same u6) lo'
        rw [show setAt q = setN q by unfold setAt; rw [e1, if_neg (by decide)]] at z
        exact z
    · obtain ⟨⟨x3, x4, rfl⟩, s1, dx', l, bs, hp1, hS1, hE1, hB1, lb, bel, lo⟩ := e
      rw [lx, List.take_length] at hS1 lo
      have lS : (intV (R.map setAt)).length = R.length := by
        unfold intV
        rw [List.length_map, List.length_map]
      refine ⟨_, rfl, p, C, dx', _, _, rfl, hp1, T.cl, T.nE, f5_E, .inl ⟨rfl, _, SqL.of hE1⟩, _, rfl, p, C, dx', _, _, rfl, hp1, T.cl, T.nS, f5_S, S, _, rfl, .inl (SqL.of hS1), _, _, rfl, rfl, ⟨by omega, by rw [lS]; omega, by decide⟩, E1, [], _, rfl, rfl, hE1, by decide, ?_⟩
      have dsimp_bit : (fun i j : Int => V.int (i * 2 ^ j.toNat)) 1 (((intV (R.map setAt)).length : Nat) : Int) = .int ((2 ^ R.length : Nat) : Int) := by
        rw [lS]
        exact congrArg V.int (pow_int R.length)
      rw [dsimp_bit]
      have hp2 : (L2.upd H' E1 (.lst ([] ++ [V.int ((2 ^ R.length : Nat) : Int)]))) p = some (.ins C dx' (fl5 S E1 B1 l 1)) := by rw [upd_ne npE]; exact hp1
      have hS2 : (L2.upd H' E1 (.lst ([] ++ [V.int ((2 ^ R.length : Nat) : Int)]))) S = some (.lst (intV (R.map setAt))) := by rw [upd_ne nSE]; exact hS1
      refine ⟨_, rfl, p, C, dx', _, _, rfl, hp2, T.cl, T.nS, f5_S, .inl ⟨rfl, _, SqL.of hS2⟩, S, _, _, rfl, rfl, hS2, by rw [lS, sizeLine_eq]; omega, ?_⟩
      refine k _ l (hid4_upd (hid4_upd s1 (.inr (.inr (.inl rfl)))) (.inr (.inl rfl))) ⟨dx', by rw [upd_ne npS]; exact hp2⟩ ?_ (by rw [upd_ne (Ne.symm nSE), upd_same]; rfl) ⟨bs, by rw [upd_ne (Ne.symm nSB), upd_ne (Ne.symm nEB)]; exact hB1, fun y my => ?_⟩ lo
      · rw [upd_same]
        unfold setL
        rw [intV_snoc]
        rfl
      · obtain ⟨t, k', e, ht, hk⟩ := bel y my
        refine ⟨t, k', e, ?_, hk⟩
        rw [upd_ne (ne_of ht hS1 (by intro z; cases z)), upd_ne (ne_of ht hE1 (by intro z; cases z))]
        exact ht
end
end Qb
end PySem
namespace PySem
namespace Qb
open PySem.W PySem.Calls PyProof.Rows L2
theorem few1 {f : Str} {v : V} : ∀ {fs : List (Str × V)} {n : Nat}, fs.length ≤ n → (putF f v fs).length ≤ n + 1
  | [], n, h => by show 1 ≤ n + 1; omega
  | (g, x) :: r, n, h => by
    show (if g = f then (g, v) :: r else (g, x) :: putF f v r).length ≤ n + 1
    split
    · simp at h ⊢; omega
    · cases n with
      | zero => simp at h
      | succ n =>
        have := few1 (f := f) (v := v) (fs := r) (n := n) (by simpa using h)
        simp
        exact this
theorem hid1_upd {H H' : Hp} {p : Addr} {o : HO} (s : Same (hide H p) H') : Same (hide H p) (L2.upd H' p o) := fun b u h => by
  have ne : b ≠ p := fun z => by
    unfold hide at h
    rw [if_pos z] at h
    cases h
  rw [upd_ne ne]
  exact s _ _ h
theorem hid1_new {H H' : Hp} {p : Addr} (s : Same (hide H p) H') {o : HO} (hp : H' p = some o) {b : Addr} (n : H' b = none) : H b = none ∧ b ≠ p := by
  have ne : b ≠ p := fun z => by rw [z, hp] at n; cases n
  refine ⟨?_, ne⟩
  cases e : H b with
  | none => rfl
  | some o =>
    rw [s b o (hide_ne e ne)] at n
    cases n
def spIn (C : Addr) (K : Frag) : Sp := fun vs H Q _ => ∃ (p a dx : Addr) (x : V) (ps : List Pt), vs = [.ref p, .ref a] ∧ H p = some (.ins C dx []) ∧ SqL K H a [x] ∧ Dp K H x (.list (ps.map Pt.d)) ∧ ps.length ≤ 60 ∧ (∀ q ∈ ps, q.good) ∧
  ∀ (H' : Hp) (S E B D : Addr) (l st : Nat) (R : List Pt), Mach C H' p S E B D l st R 0 → In R st → Cl R st → (∀ w, Acc R st w ↔ M ps w) → Same (hide H p) H' → H S = none → H E = none → H B = none → H D = none → Q .non H'
section
variable {P : Program} {w : World} {K : Frag} {mg : Str → Option Value} {base : Heap}
abbrev sIn : Stmt := inClass (top 13) 0
abbrev nIn : List Str := ["self", "patterns", "pattern"]
theorem scIn : FnScope nIn ["self", "patterns"] (defScope sIn) := ⟨rfl, rfl, rfl, by decide +kernel, rfl, by decide +kernel, by decide +kernel⟩
theorem ok_In {f C : Addr} {fd : FuncData} (F : Fun K "__init__" "Machine.__init__" sIn f fd) (B : Blt mg) (T : Txt K mg C) (hAr : HasM P w K mg base C 2 "add_row" ["self", "pattern"] (spAr C K)) (hRt : Has P w K mg base 1 "rows_told" ["pieces"] (spRt K)) (hCl : HasM P w K mg base C 1 "closed" ["self", "standing"] (spCl C)) :
    FnOk P w K mg base CX0 3 f fd ["self", "patterns"] (spIn C K) := by
  obtain ⟨fAr, dAr, mAr, bAr, GAr⟩ := hAr
  obtain ⟨fRt, dRt, gRt, kRt, bRt, GRt⟩ := hRt
  obtain ⟨fCl, dCl, mCl, bCl, GCl⟩ := hCl
  refine F.ok scIn (fun vs H Q E h => ?_) (fun cdv A outer s H vs Q E hr h => ?_)
  · obtain ⟨p, a, dx, x, ps, rfl, _⟩ := h
    rfl
  · refine ⟨_, (pss_cons (ps_fld (pv 0) (pe_lst pa_nil) rfl)
        (pss_cons (ps_fld (pv 0) pe_int rfl)
        (pss_cons (ps_fld (pv 0) (pe_lst pa_nil) rfl)
        (pss_cons (ps_fld (pv 0) (pe_lst pa_nil) rfl)
        (pss_cons (ps_fld (pv 0) pe_int rfl)
        (pss_cons (ps_for PassesOwn.never rfl (pi_list (pv 1)) (pg_name (i := 2) scIn.nd rfl (.inl rfl))
          (pss_one (ps_expr (pe_meth (pv 0) T.cl mAr GAr hr bAr .nil pass0 (pa_cons (pe_call GRt (hr.mono (by decide)) rfl gRt kRt bRt .nil pass0 (pa_cons (pv 2) pa_nil)) pa_nil)))))
        (pss_cons (ps_fld (pv 0) (pe_meth (pv 0) T.cl mCl GCl (hr.mono (by decide)) bCl .nil pass0 (pa_cons (pe_fld (pv 0) rfl) pa_nil)) rfl)
        (pss_one (ps_fld (pv 0) pe_dnewK rfl))))))))), ?_⟩
    obtain ⟨p, a, dx, x, ps, rfl, hp, hq, hd, hl, hg, k⟩ := h
    have hd0 : Dp K (hide H p) x (.list (ps.map Pt.d)) := dp_hide hp ⟨_, _, _, rfl⟩ hd
    have hq0 : SqL K (hide H p) a [x] := sqL_hide hp (.inr ⟨_, _, _, rfl⟩) (by simp) hq
    have l0 : ([] : List (Str × V)).length ≤ 0 := Nat.le_refl _
    have t0 : Same (hide H p) H := hide_same
    -- self.sets = []
    refine ⟨(by decide : 0 ≤ sizeLine), fun S nS => ?_⟩
    have nSp : S ≠ p := fun z => by rw [z, hp] at nS; cases nS
    refine ⟨_, rfl, p, C, dx, [], rfl, (by rw [upd_ne (Ne.symm nSp)]; exact hp), T.cl, T.nS, (by show 0 < 1000; decide), ?_⟩
    have t1 : Same (hide H p) (L2.upd (L2.upd H S (.lst [])) p (.ins C dx (putF "sets" (.ref S) []))) := hid1_upd (t0.trans (same_upd nS))
    have p1 : (L2.upd (L2.upd H S (.lst [])) p (.ins C dx (putF "sets" (.ref S) []))) p = some (.ins C dx (putF "sets" (.ref S) [])) := upd_same
    have S1 : (L2.upd (L2.upd H S (.lst [])) p (.ins C dx (putF "sets" (.ref S) []))) S = some (.lst []) := by rw [upd_ne nSp, upd_same]
    have l1 := few1 (f := "sets") (v := .ref S) l0
    generalize L2.upd (L2.upd H S (.lst [])) p (.ins C dx (putF "sets" (.ref S) [])) = H1 at t1 p1 S1 ⊢
    -- self.lots = 0
    refine ⟨_, rfl, p, C, dx, _, rfl, p1, T.cl, T.nL, Nat.lt_of_le_of_lt l1 (by decide), ?_⟩
    have l2 := few1 (f := "lots") (v := .int 0) l1
    have t2 : Same (hide H p) (L2.upd H1 p (.ins C dx (putF "lots" (.int 0) (putF "sets" (.ref S) [])))) := hid1_upd t1
    have p2 : (L2.upd H1 p (.ins C dx (putF "lots" (.int 0) (putF "sets" (.ref S) [])))) p = some (.ins C dx (putF "lots" (.int 0) (putF "sets" (.ref S) []))) := upd_same
    have S2 : (L2.upd H1 p (.ins C dx (putF "lots" (.int 0) (putF "sets" (.ref S) [])))) S = some (.lst []) := by rw [upd_ne nSp]; exact S1
    generalize L2.upd H1 p (.ins C dx (putF "lots" (.int 0) (putF "sets" (.ref S) []))) = H2 at t2 p2 S2 ⊢
    -- self.ends = []
    refine ⟨(by decide : 0 ≤ sizeLine), fun E1 nE => ?_⟩
    obtain ⟨zE, nEp⟩ := hid1_new t2 p2 nE
    have nES : E1 ≠ S := fun z => by rw [z, S2] at nE; cases nE
    refine ⟨_, rfl, p, C, dx, _, rfl, (by rw [upd_ne (Ne.symm nEp)]; exact p2), T.cl, T.nE, Nat.lt_of_le_of_lt l2 (by decide), ?_⟩
    have l3 := few1 (f := "ends") (v := .ref E1) l2
    have t3 : Same (hide H p) (L2.upd (L2.upd H2 E1 (.lst [])) p (.ins C dx (putF "ends" (.ref E1) (putF "lots" (.int 0) (putF "sets" (.ref S) []))))) := hid1_upd (t2.trans (same_upd nE))
    have p3 : (L2.upd (L2.upd H2 E1 (.lst [])) p (.ins C dx (putF "ends" (.ref E1) (putF "lots" (.int 0) (putF "sets" (.ref S) []))))) p = some (.ins C dx (putF "ends" (.ref E1) (putF "lots" (.int 0) (putF "sets" (.ref S) [])))) := upd_same
    have S3 : (L2.upd (L2.upd H2 E1 (.lst [])) p (.ins C dx (putF "ends" (.ref E1) (putF "lots" (.int 0) (putF "sets" (.ref S) []))))) S = some (.lst []) := by rw [upd_ne nSp, upd_ne (Ne.symm nES)]; exact S2
    have E3 : (L2.upd (L2.upd H2 E1 (.lst [])) p (.ins C dx (putF "ends" (.ref E1) (putF "lots" (.int 0) (putF "sets" (.ref S) []))))) E1 = some (.lst []) := by rw [upd_ne nEp, upd_same]
    generalize L2.upd (L2.upd H2 E1 (.lst [])) p (.ins C dx (putF "ends" (.ref E1) (putF "lots" (.int 0) (putF "sets" (.ref S) [])))) = H3 at t3 p3 S3 E3 ⊢
    -- self.below = []
    refine ⟨(by decide : 0 ≤ sizeLine), fun B1 nB => ?_⟩
    obtain ⟨zB, nBp⟩ := hid1_new t3 p3 nB
    have nBS : B1 ≠ S := fun z => by rw [z, S3] at nB; cases nB
    have nBE : B1 ≠ E1 := fun z => by rw [z, E3] at nB; cases nB
    refine ⟨_, rfl, p, C, dx, _, rfl, (by rw [upd_ne (Ne.symm nBp)]; exact p3), T.cl, T.nB, Nat.lt_of_le_of_lt l3 (by decide), ?_⟩
    have l4 := few1 (f := "below") (v := .ref B1) l3
    have t4 : Same (hide H p) (L2.upd (L2.upd H3 B1 (.lst [])) p (.ins C dx (putF "below" (.ref B1) (putF "ends" (.ref E1) (putF "lots" (.int 0) (putF "sets" (.ref S) [])))))) := hid1_upd (t3.trans (same_upd nB))
    have p4 : (L2.upd (L2.upd H3 B1 (.lst [])) p (.ins C dx (putF "below" (.ref B1) (putF "ends" (.ref E1) (putF "lots" (.int 0) (putF "sets" (.ref S) [])))))) p = some (.ins C dx (putF "below" (.ref B1) (putF "ends" (.ref E1) (putF "lots" (.int 0) (putF "sets" (.ref S) []))))) := upd_same
    have S4 : (L2.upd (L2.upd H3 B1 (.lst [])) p (.ins C dx (putF "below" (.ref B1) (putF "ends" (.ref E1) (putF "lots" (.int 0) (putF "sets" (.ref S) [])))))) S = some (.lst []) := by rw [upd_ne nSp, upd_ne (Ne.symm nBS)]; exact S3
    have E4 : (L2.upd (L2.upd H3 B1 (.lst [])) p (.ins C dx (putF "below" (.ref B1) (putF "ends" (.ref E1) (putF "lots" (.int 0) (putF "sets" (.ref S) [])))))) E1 = some (.lst []) := by rw [upd_ne nEp, upd_ne (Ne.symm nBE)]; exact E3
    have B4 : (L2.upd (L2.upd H3 B1 (.lst [])) p (.ins C dx (putF "below" (.ref B1) (putF "ends" (.ref E1) (putF "lots" (.int 0) (putF "sets" (.ref S) [])))))) B1 = some (.lst []) := by rw [upd_ne nBp, upd_same]
    generalize L2.upd (L2.upd H3 B1 (.lst [])) p (.ins C dx (putF "below" (.ref B1) (putF "ends" (.ref E1) (putF "lots" (.int 0) (putF "sets" (.ref S) []))))) = H4 at t4 p4 S4 E4 B4 ⊢
    -- self.start = 0
    refine ⟨_, rfl, p, C, dx, _, rfl, p4, T.cl, T.nT, Nat.lt_of_le_of_lt l4 (by decide), ?_⟩
    rw [f5_mk]
    have t5 : Same (hide H p) (L2.upd H4 p (.ins C dx (fl5 S E1 B1 0 0))) := hid1_upd t4
    have p5 : (L2.upd H4 p (.ins C dx (fl5 S E1 B1 0 0))) p = some (.ins C dx (fl5 S E1 B1 0 0)) := upd_same
    have S5 : (L2.upd H4 p (.ins C dx (fl5 S E1 B1 0 0))) S = some (.lst []) := by rw [upd_ne nSp]; exact S4
    have E5 : (L2.upd H4 p (.ins C dx (fl5 S E1 B1 0 0))) E1 = some (.lst []) := by rw [upd_ne nEp]; exact E4
    have B5 : (L2.upd H4 p (.ins C dx (fl5 S E1 B1 0 0))) B1 = some (.lst []) := by rw [upd_ne nBp]; exact B4
    generalize L2.upd H4 p (.ins C dx (fl5 S E1 B1 0 0)) = H5 at t5 p5 S5 E5 B5 ⊢
    -- the one pattern
    refine ⟨_, rfl, a, rfl, ⟨_, t5.seq hq0⟩, for_list (xs := [x]) (fun i σ H' => (∃ y, σ = [some (.ref p), some (.ref a), y]) ∧ Same (hide H p) H' ∧ (i = 0 → H' = H5) ∧ (i = 1 → ∃ (R : List Pt) (l : Nat), Norm ps R ∧ (∃ dx', H' p = some (.ins C dx' (fl5 S E1 B1 l 1))) ∧ H' S = some (.lst (intV (setL R))) ∧ H' E1 = some (.lst [.int ((2 ^ R.length : Nat) : Int)]) ∧ (∃ bs, H' B1 = some (.lst bs) ∧ Bel H' R bs) ∧ Lots R l)) ⟨⟨_, rfl⟩, t5, fun _ => rfl, fun z => by cases z⟩ (fun i σ H' _ e => e.2.1.seq hq0) (fun i x' σ H' hx e => ?_) (fun σ H' e => ?_)⟩
    · obtain ⟨⟨y, rfl⟩, s6, e6, _⟩ := e
      have ei : i = 0 := by have := (List.getElem?_eq_some_iff.mp hx).1; simp at this; exact this
      subst ei
      obtain rfl := Option.some.inj hx
      obtain rfl := e6 rfl
      refine ⟨_, rfl, p, dx, _, rfl, p5, f5_add, _, rfl, x, ps, rfl, dp_same t5 hd0, by omega, hg, fun H7 L R b7 nm => ?_⟩
      obtain ⟨nL, sL, ys, hL, aL⟩ := b7
      have s7 : Same H' H7 := sL.trans hide_same
      have gR : ∀ q ∈ R, q.good := fun q m => by
        rcases nm.mem q m with z | z
        · exact hg q z
        · subst z; trivial
      have nLx : ∀ {b : Addr} {o : HO}, H' b = some o → L ≠ b := fun h z => by rw [z, h] at nL; cases nL
      refine ⟨p, L, S, E1, B1, dx, R, ys, rfl, s7 _ _ p5, s7 _ _ S5, s7 _ _ E5, s7 _ _ B5, Ne.symm nES, Ne.symm nBS, Ne.symm nBE, hL, nLx S5, nLx E5, nLx B5, dpAll_same hide_same aL, gR, by have := nm.len; omega, fun H8 l s8 p8 S8 E8 B8 lo => ?_⟩
      refine ⟨⟨_, rfl⟩, fun b o h => ?_, (fun z => by cases z), fun _ => ⟨R, l, nm, p8, S8, E8, B8, lo⟩⟩
      have gone : ∀ {c : Addr}, H c = none → b ≠ c := fun {c} e z => by
        subst z
        have h' := hide_same _ _ h
        rw [e] at h'
        cases h'
      have nbp : b ≠ p := fun z => by
        unfold hide at h
        rw [if_pos z] at h
        cases h
      exact s8 _ _ (hid4_at (s7 _ _ (s6 _ _ h)) nbp (gone nS) (gone zE) (gone zB))
    · obtain ⟨⟨y, rfl⟩, s6, _, e6⟩ := e
      obtain ⟨R, l, nm, ⟨dx', p8⟩, S8, E8, B8, lo⟩ := e6 rfl
      have ma : MA C H' p B1 l R := ⟨⟨dx', _, p8, f5_L, f5_B, f5_closed⟩, B8, lo, nm.sep, by have := nm.len; omega⟩
      have i0 : In R 1 := fun q h => by
        have : q = 0 := by
          cases q with
          | zero => rfl
          | succ q => rw [Nat.testBit_succ] at h; simp at h
        omega
      have a0 : ∀ w, Acc R 1 w ↔ M R w := fun w => by
        constructor
        · rintro ⟨q, h, m⟩
          have : q = 0 := by
            cases q with
            | zero => rfl
            | succ q => rw [Nat.testBit_succ] at h; simp at h
          subst this
          exact m
        · intro m
          exact ⟨0, by decide, m⟩
      refine ⟨_, rfl, p, dx', _, rfl, p8, f5_closed, _, rfl, p, C, dx', _, _, rfl, p8, T.cl, T.nT, f5_T, p, B1, l, 1, R, rfl, ma, i0, fun t i1 c1 a1 => ?_⟩
      refine ⟨_, rfl, p, C, dx', _, rfl, p8, T.cl, T.nT, by show 5 < 1000; decide, ?_⟩
      rw [f5_pT]
      have t9 := hid1_upd (o := .ins C dx' (fl5 S E1 B1 l t)) s6
      have p9 : (L2.upd H' p (.ins C dx' (fl5 S E1 B1 l t))) p = some (.ins C dx' (fl5 S E1 B1 l t)) := upd_same
      have S9 : (L2.upd H' p (.ins C dx' (fl5 S E1 B1 l t))) S = some (.lst (intV (setL R))) := by rw [upd_ne nSp]; exact S8
      have E9 : (L2.upd H' p (.ins C dx' (fl5 S E1 B1 l t))) E1 = some (.lst [.int ((2 ^ R.length : Nat) : Int)]) := by rw [upd_ne nEp]; exact E8
      obtain ⟨bs, B8, bel⟩ := B8
      have B9 : (L2.upd H' p (.ins C dx' (fl5 S E1 B1 l t))) B1 = some (.lst bs) := by rw [upd_ne nBp]; exact B8
      have bel9 : Bel (L2.upd H' p (.ins C dx' (fl5 S E1 B1 l t))) R bs := fun y my => by
        obtain ⟨u, k', e, hu, hk⟩ := bel y my
        refine ⟨u, k', e, ?_, hk⟩
        rw [upd_ne (ne_of hu p8 (by intro z; cases z))]
        exact hu
      generalize L2.upd H' p (.ins C dx' (fl5 S E1 B1 l t)) = H9 at t9 p9 S9 E9 B9 bel9 ⊢
      intro D nD
      obtain ⟨zD, nDp⟩ := hid1_new t9 p9 nD
      have u9 : Same H9 (L2.upd H9 D (.dK [])) := same_upd nD
      refine ⟨_, rfl, p, C, dx', _, rfl, u9 _ _ p9, T.cl, T.nM, by show 5 < 1000; decide, ?_⟩
      rw [f5_pM]
      refine k _ S E1 B1 D l t R ⟨⟨dx', upd_same⟩, by rw [upd_ne nSp]; exact u9 _ _ S9, by rw [upd_ne nEp]; exact u9 _ _ E9, ⟨bs, by rw [upd_ne nBp]; exact u9 _ _ B9, fun y my => ?_⟩, ⟨[], by rw [upd_ne nDp, upd_same], Nat.le_refl _, fun c _ v h => by cases h⟩, lo, nm.sep, by have := nm.len; omega, fun q m => ?_⟩ i1 c1 (fun w => ((a1 w).trans (a0 w)).trans (nm.eq w).symm) (hid1_upd (t9.trans u9)) nS zE zB zD
      · obtain ⟨u, k', e, hu, hk⟩ := bel9 y my
        refine ⟨u, k', e, ?_, hk⟩
        rw [upd_ne (ne_of (u9 _ _ hu) (u9 _ _ p9) (by intro z; cases z))]
        exact u9 _ _ hu
      · rcases nm.mem q m with z | z
        · exact hg q z
        · subst z; trivial
end
end Qb
end PySem
namespace PySem
namespace Qb
open PySem.W PySem.Calls PyProof.Rows L2
theorem cps_at {z : Str} {i c : Nat} : z.cps[i]? = some c ↔ (cs z)[i]? = some c := by
  show _ ↔ z.cps.toList[i]? = some c
  rw [Array.getElem?_toList]
theorem cps_len (z : Str) : z.cps.size = (cs z).length := by
  show _ = z.cps.toList.length
  rw [Array.length_toList]
theorem take_app {w : List Nat} {i c : Nat} (h : w[i]? = some c) (v : List Nat) : w.take i ++ c :: v = w.take (i + 1) ++ v := by
  rw [take_snoc h]
  simp
/-- a machine's standing behind some signs -/
structure At (R ps : List Pt) (w : List Nat) (i s : Nat) : Prop where
  ins : In R s
  cl : Cl R s
  acc : ∀ v, Acc R s v ↔ M ps (w.take i ++ v)
theorem At.step {R ps : List Pt} {w : List Nat} {i s t c : Nat} (a : At R ps w i s) (h : w[i]? = some c) (i1 : In R t) (c1 : Cl R t) (e : ∀ v, Acc R t v ↔ Acc R s (c :: v)) : At R ps w (i + 1) t :=
  ⟨i1, c1, fun v => by rw [e, a.acc, take_app h]⟩
theorem At.lets {R ps : List Pt} {w : List Nat} {i s : Nat} (a : At R ps w i s) (hs : Sep R) : s.testBit R.length = true ↔ M ps (w.take i) := by
  rw [acc_end hs a.ins a.cl, a.acc, List.append_nil]
def spLb (C : Addr) : Sp := fun vs H Q _ => ∃ (p S E B D : Addr) (l st : Nat) (R ps : List Pt) (z : Str), vs = [.ref p, .str z] ∧ Mach C H p S E B D l st R 0 ∧ In R st ∧ Cl R st ∧ (∀ w, Acc R st w ↔ M ps w) ∧ (∀ c ∈ cs z, c ∈ cs signsS) ∧ (cs z).length ≤ 1000 ∧
  ∀ (H' : Hp) (b : Bool), (∀ a o, H a = some o → a ≠ D → H' a = some o) → (b = true ↔ M ps (cs z)) → Q (.bl b) H'
structure Inp (K : Frag) (H : Hp) (v : V) (ps : List Pt) (z : Str) : Prop where
  dp : Dp K H v (.list (ps.map Pt.d))
  len : ps.length ≤ 60
  good : ∀ q ∈ ps, q.good
  few : ∀ q ∈ ps, q.few
  signs : ∀ c ∈ cs z, c ∈ cs signsS
  line : (cs z).length ≤ 1000
def spLg (K : Frag) : Sp := fun vs H Q _ => ∃ (v : V) (ps : List Pt) (z : Str), vs = [v, .str z] ∧ Inp K H v ps z ∧ ∀ (H' : Hp) (F : Addr) (E : List Nat), Same H H' → H F = none → H' F = some (.lst (intV E)) → E.length ≤ 1001 → EndsAt ps (cs z) E → Q (.ref F) H'
def spTa (K : Frag) : Sp := fun vs H Q _ => ∃ (v : V) (ps : List Pt) (z : Str), vs = [v, .str z] ∧ Inp K H v ps z ∧ ∀ (H' : Hp) (F : Addr) (E : List Nat), Same H H' → H F = none → H' F = some (.lst (intV E)) → E.length ≤ 1001 → EndsAt ps.reverse (cs z).reverse E → Q (.ref F) H'
def spMe (K : Frag) : Sp := fun vs H Q _ => ∃ (v : V) (ps : List Pt) (z : Str), vs = [v, .str z] ∧ Inp K H v ps z ∧ ∀ (H' : Hp) (b : Bool), Same H H' → (b = true ↔ M ps (cs z)) → Q (.bl b) H'
theorem dpRev {K : Frag} {H : Hp} : ∀ {ds : List PyData} {vs : List V}, DpAll K H vs ds → DpAll K H vs.reverse ds.reverse
  | [], _, .nil => .nil
  | d :: ds, _, .cons h t => by
    rw [List.reverse_cons, List.reverse_cons]
    exact dpApp (dpRev t) (.cons h .nil)
theorem same_new {H : Hp} {a dx x : Addr} {C : Addr} {o : HO} (na : H a = none) (nx : (L2.upd H a o) x = none) (ndx : (L2.upd H a o) dx = none) : Same H (hide (L2.upd (L2.upd (L2.upd H a o) dx (.own x)) x (.ins C dx [])) x) := fun b u h => by
  have h1 := same_upd (o := o) na _ _ h
  have bx : b ≠ x := ne_of_none h1 nx
  refine hide_ne ?_ bx
  rw [upd_ne bx, upd_ne (ne_of_none h1 ndx)]
  exact h1
section
variable {P : Program} {w : World} {K : Frag} {mg : Str → Option Value} {base : Heap}
abbrev sLb : Stmt := inClass (top 13) 6
abbrev nLb : List Str := ["self", "text", "standing", "sign"]
theorem scLb : FnScope nLb ["self", "text"] (defScope sLb) := ⟨rfl, rfl, rfl, by decide +kernel, rfl, by decide +kernel, by decide +kernel⟩
theorem has_Lb {f C : Addr} {fd : FuncData} (F : Fun K "lets_by" "Machine.lets_by" sLb f fd) (m : Meth K C "lets_by" f) (B : Blt mg) (T : Txt K mg C) (hSd : HasM P w K mg base C 2 "stepped" ["self", "standing", "mask"] (spSd C)) (hMo : HasM P w K mg base C 1 "mask_of" ["self", "sign"] (spMo C)) (hLe : HasM P w K mg base C 1 "lets" ["self", "standing", "index"] (spLe C)) :
    HasM P w K mg base C 3 "lets_by" ["self", "text"] (spLb C) := by
  obtain ⟨fSd, dSd, mSd, bSd, GSd⟩ := hSd
  obtain ⟨fMo, dMo, mMo, bMo, GMo⟩ := hMo
  obtain ⟨fLe, dLe, mLe, bLe, GLe⟩ := hLe
  refine ⟨f, fd, m, F.binds (ps := ["self", "text"]) (fun _ _ _ _ _ _ us hl => match us, hl with | [_, _], _ => rfl), F.ok scLb (fun vs H Q E h => ?_) (fun cdv A outer s H vs Q E hr h => ?_)⟩
  · obtain ⟨p, S, E1, B1, D, l, st, R, ps, z, rfl, _⟩ := h
    rfl
  · refine ⟨_, (pss_cons (ps_set (i := 2) scLb.nd rfl (.inl rfl) (pe_fld (pv 0) rfl))
        (pss_cons (ps_for PassesOwn.never rfl (pi_str (pv 1)) (pg_name (i := 3) scLb.nd rfl (.inl rfl))
          (pss_one (ps_set (i := 2) scLb.nd rfl (.inl rfl) (pe_meth (pv 0) T.cl mSd GSd hr bSd .nil pass0 (pa_cons (pv 2) (pa_cons (pe_meth (pv 0) T.cl mMo GMo (hr.mono (by decide)) bMo .nil pass0 (pa_cons (pv 3) pa_nil)) pa_nil))))))
        (pss_one (ps_ret (pe_meth (pv 0) T.cl mLe GLe (hr.mono (by decide)) bLe .nil pass0 (pa_cons (pv 2) (pa_cons pe_int pa_nil))))))), ?_⟩
    obtain ⟨p, S, E1, B1, D, l, st, R, ps, z, rfl, ma, hi, hc, ha, hz, hl, k⟩ := h
    obtain ⟨dx, hp⟩ := ma.ob
    refine ⟨_, rfl, p, C, dx, _, _, rfl, hp, T.cl, T.nT, fl_T, _, rfl, z, rfl, for_it walk_str (fun i σ H' => (∃ (s : Nat) (x3 : Option V), σ = [some (.ref p), some (.str z), some (.int (s : Nat)), x3] ∧ At R ps (cs z) i s) ∧ Mach C H' p S E1 B1 D l st R i ∧ ∀ a o, H a = some o → a ≠ D → H' a = some o) ⟨⟨st, _, rfl, hi, hc, ha⟩, ma, fun a o h _ => h⟩ (fun _ _ _ _ _ => trivial) (fun i x σ H' H2 hi' e y => ?_) (fun σ H' e => ?_)⟩
    · obtain ⟨⟨s, x3, rfl, at_⟩, ma1, fr⟩ := e
      obtain ⟨rfl, c, hcx, rfl⟩ := y
      have hcx' := cps_at.mp hcx
      obtain ⟨dx', hp'⟩ := ma1.ob
      rw [cps_len] at hi'
      refine ⟨_, rfl, p, dx', _, rfl, hp', fl_stepped, _, rfl, _, rfl, p, dx', _, rfl, hp', fl_mask_of, _, rfl, p, S, E1, B1, D, l, st, R, i, c, rfl, hz c (List.mem_of_getElem? hcx'), by omega, ma1, fun k2 H3 hM ma2 fr2 => ?_⟩
      exact ⟨p, B1, l, s, k2, c, R, rfl, ma2.ma, at_.ins, at_.cl, hM, fun t i1 c1 a1 => ⟨⟨t, _, rfl, at_.step hcx' i1 c1 a1⟩, ma2, fun a o h ne => fr2 a o (fr a o h ne) ne⟩⟩
    · obtain ⟨⟨s, x3, rfl, at_⟩, ma1, fr⟩ := e
      obtain ⟨dx', hp'⟩ := ma1.ob
      have e1 := at_.lets ma1.sep
      rw [cps_len, List.take_length] at e1
      exact ⟨_, rfl, p, dx', _, rfl, hp', fl_lets, _, rfl, p, S, E1, B1, D, l, st, R, _, s, rfl, ma1, k _ _ fr e1⟩
abbrev sLg : Stmt := top 23
abbrev nLg : List Str := ["pattern", "text", "machine", "standing", "found", "at", "sign"]
theorem scLg : FnScope nLg ["pattern", "text"] (defScope sLg) := ⟨rfl, rfl, rfl, by decide +kernel, rfl, by decide +kernel, by decide +kernel⟩
theorem has_Lg {f C fIn : Addr} {fd dIn : FuncData} (F : Fun K "lengths_of" "lengths_of" sLg f fd) (g : mg "lengths_of" = some (.ref f)) (B : Blt mg) (T : Txt K mg C) (MIn : Mk K C fIn) (bIn : Binds K dIn ["self", "patterns"] []) (GIn : FnOk P w K mg base CX0 3 fIn dIn ["self", "patterns"] (spIn C K))
    (hSd : HasM P w K mg base C 2 "stepped" ["self", "standing", "mask"] (spSd C)) (hMo : HasM P w K mg base C 1 "mask_of" ["self", "sign"] (spMo C)) (hLe : HasM P w K mg base C 1 "lets" ["self", "standing", "index"] (spLe C)) :
    Has P w K mg base 5 "lengths_of" ["pattern", "text"] (spLg K) := by
  obtain ⟨fSd, dSd, mSd, bSd, GSd⟩ := hSd
  obtain ⟨fMo, dMo, mMo, bMo, GMo⟩ := hMo
  obtain ⟨fLe, dLe, mLe, bLe, GLe⟩ := hLe
  refine has_of F g (F.binds (ps := ["pattern", "text"]) fun _ _ _ _ _ _ us hl => match us, hl with | [_, _], _ => rfl) (F.ok scLg (fun vs H Q E h => ?_) (fun cdv A outer s H vs Q E hr h => ?_))
  · obtain ⟨v, ps, z, rfl, _⟩ := h
    rfl
  · refine ⟨_, (pss_cons (ps_set (i := 2) scLg.nd rfl (.inl rfl) (pe_make MIn GIn hr (by rfl) T.mgC bIn .nil pass0 (pa_cons (pe_lst (pa_cons (pv 0) pa_nil)) pa_nil)))
        (pss_cons (ps_set (i := 3) scLg.nd rfl (.inl rfl) (pe_fld (pv 2) rfl))
        (pss_cons (ps_set (i := 4) scLg.nd rfl (.inl rfl) (pe_ifExp (pt_val (pe_meth (pv 2) T.cl mLe GLe (hr.mono (by decide)) bLe .nil pass0 (pa_cons (pv 3) (pa_cons pe_int pa_nil)))) (pe_lst (pa_cons pe_int pa_nil)) (pe_lst pa_nil)))
        (pss_cons (ps_for PassesOwn.never rfl (pi_enumS (by rfl) B.enumerate (pa_cons (pv 1) pa_nil)) (pg_tup rfl (pgs_cons (pg_name (i := 5) scLg.nd rfl (.inl rfl)) (pgs_cons (pg_name (i := 6) scLg.nd rfl (.inl rfl)) pgs_nil)))
          (pss_cons (ps_set (i := 3) scLg.nd rfl (.inl rfl) (pe_meth (pv 2) T.cl mSd GSd (hr.mono (by decide)) bSd .nil pass0 (pa_cons (pv 3) (pa_cons (pe_meth (pv 2) T.cl mMo GMo (hr.mono (by decide)) bMo .nil pass0 (pa_cons (pv 6) pa_nil)) pa_nil))))
          (pss_one (ps_if (pt_val (pe_meth (pv 2) T.cl mLe GLe (hr.mono (by decide)) bLe .nil pass0 (pa_cons (pv 3) (pa_cons pe_int pa_nil)))) (pss_one (ps_expr (pe_bm PySem.F.plainAttrs_list PySem.F.slot_list_append PySem.F.type_list_append mt_append (pv 4) (pa_cons (pe_op op_add (pv 5) pe_int) pa_nil)))) pss_nil))))
        (pss_one (ps_ret (pv 4))))))), ?_⟩
    obtain ⟨v, ps, z, rfl, I, k⟩ := h
    refine ⟨_, rfl, (by decide : 1 ≤ sizeLine), fun a na x dx nx ndx ne => ?_⟩
    have s1 := same_upd (o := .lst [v]) na
    have sm := same_new (C := C) na nx ndx
    have ax : a ≠ x := fun e => by subst e; rw [upd_same] at nx; cases nx
    have adx : a ≠ dx := fun e => by subst e; rw [upd_same] at ndx; cases ndx
    refine ⟨x, a, dx, v, ps, rfl, upd_same, SqL.of (by rw [upd_ne ax, upd_ne adx, upd_same]), dp_same (sm.trans hide_same) I.dp, I.len, I.good, fun H1 S E1 B1 D l st R ma hi hc ha sf nS nE nB nD => ⟨rfl, ?_⟩⟩
    have s2 := sm.trans sf
    have fr : ∀ {b : Addr}, (L2.upd (L2.upd (L2.upd H a (.lst [v])) dx (.own x)) x (.ins C dx [])) b = none → H b = none := fun h => (sm.trans hide_same).free h
    obtain ⟨dx', hp⟩ := ma.ob
    refine ⟨_, rfl, x, C, dx', _, _, rfl, hp, T.cl, T.nT, fl_T, _, rfl, x, dx', _, rfl, hp, fl_lets, _, rfl, x, S, E1, B1, D, l, st, R, 0, st, rfl, ma, _, rfl, ?_⟩
    have at0 : At R ps (cs z) 0 st := ⟨hi, hc, ha⟩
    have e0 := at0.lets ma.sep
    have hE0 : ∀ b : Bool, st.testBit R.length = b → ∃ E0 : List Nat, Found ps (cs z) 0 E0 ∧ E0.length ≤ 1 ∧ (if b = true then E0 = [0] else E0 = []) := fun b e => by
      cases b with
      | true =>
        refine ⟨[0], ⟨by simp, fun q => ?_⟩, Nat.le_refl _, rfl⟩
        rw [List.mem_singleton]
        constructor
        · rintro rfl
          exact ⟨Nat.le_refl _, e0.mp e⟩
        · exact fun h => by omega
      | false =>
        refine ⟨[], ⟨.nil, fun q => ?_⟩, Nat.zero_le _, rfl⟩
        constructor
        · intro m; cases m
        · rintro ⟨h1, h2⟩
          obtain rfl : q = 0 := by omega
          rw [e0.mpr h2] at e
          cases e
    refine if_by (fun e => ?_) (fun e => ?_)
    case' refine_2.refine_1 =>
      obtain ⟨E0, fo, lE, eE⟩ := hE0 true e
      rw [if_pos rfl] at eE
      refine ⟨(by decide : 1 ≤ sizeLine), fun F nF => ?_⟩
      have uF := same_upd (o := .lst [V.int 0]) nF
      have hF : (L2.upd H1 F (.lst [V.int 0])) F = some (.lst (intV E0)) := by rw [eE, upd_same]; rfl
      generalize L2.upd H1 F (.lst [V.int 0]) = HF at uF hF ⊢
    case' refine_2.refine_2 =>
      obtain ⟨E0, fo, lE, eE⟩ := hE0 false e
      rw [if_neg (by decide)] at eE
      refine ⟨(by decide : 0 ≤ sizeLine), fun F nF => ?_⟩
      have uF := same_upd (o := .lst []) nF
      have hF : (L2.upd H1 F (.lst [])) F = some (.lst (intV E0)) := by rw [eE, upd_same]; rfl
      generalize L2.upd H1 F (.lst []) = HF at uF hF ⊢
    all_goals
      have nFS : F ≠ S := fun z => by rw [z, ma.hs] at nF; cases nF
      have nFE : F ≠ E1 := fun z => by rw [z, ma.he] at nF; cases nF
      have nFB : F ≠ B1 := fun z => by obtain ⟨bs, hb, _⟩ := ma.bel; rw [z, hb] at nF; cases nF
      have nFD : F ≠ D := fun z => by obtain ⟨kvs, hd, _⟩ := ma.hd; rw [z, hd] at nF; cases nF
      refine ⟨_, rfl, z, rfl, for_it walk_enumS (fun i σ H' => (∃ (s : Nat) (y5 y6 : Option V), σ = [some v, some (.str z), some (.ref x), some (.int (s : Nat)), some (.ref F), y5, y6] ∧ At R ps (cs z) i s) ∧ Mach C H' x S E1 B1 D l st R i ∧ Same H H' ∧ ∃ E : List Nat, H' F = some (.lst (intV E)) ∧ Found ps (cs z) i E ∧ E.length ≤ i + 1) ⟨⟨st, none, none, rfl, at0⟩, ma.same uF, s2.trans uF, E0, hF, fo, lE⟩ (fun _ _ _ _ _ => trivial) (fun i y σ H' H2 hi' e y => ?_) (fun σ H' e => ?_)⟩
      · obtain ⟨⟨s, y5, y6, rfl, at_⟩, ma1, sH, E, hFE, fo, lE⟩ := e
        obtain ⟨t, c, rfl, nt, hcx, rfl⟩ := y
        have hcx' := cps_at.mp hcx
        rw [cps_len] at hi'
        have ll := I.line
        have ut := same_upd (o := .tup [.int (i : Nat), .str ⟨#[c]⟩]) nt
        have ma1 := ma1.same ut
        obtain ⟨dx', hp'⟩ := ma1.ob
        refine ⟨t, _, rfl, SqT.of upd_same, rfl, _, _, rfl, _, _, rfl, rfl, ?_⟩
        refine ⟨_, rfl, x, dx', _, rfl, hp', fl_stepped, _, rfl, _, rfl, x, dx', _, rfl, hp', fl_mask_of, _, rfl, x, S, E1, B1, D, l, st, R, i, c, rfl, I.signs c (List.mem_of_getElem? hcx'), by omega, ma1, fun k2 H3 hM ma2 fr2 => ?_⟩
        refine ⟨x, B1, l, s, k2, c, R, rfl, ma2.ma, at_.ins, at_.cl, hM, fun t i1 c1 a1 => ?_⟩
        have at2 := at_.step hcx' i1 c1 a1
        obtain ⟨dx2, hp2⟩ := ma2.ob
        have sH3 : Same H H3 := fun b o h => fr2 _ _ (ut _ _ (sH _ _ h)) (ne_of_none h (fr nD))
        have hF3 := fr2 _ _ (ut _ _ hFE) nFD
        have e2 := at2.lets ma2.sep
        have fo2 := fo.next _ e2
        refine ⟨_, rfl, x, dx2, _, rfl, hp2, fl_lets, _, rfl, x, S, E1, B1, D, l, st, R, _, t, rfl, ma2, _, rfl, if_by (fun e3 => ?_) (fun e3 => ?_)⟩
        · rw [if_pos e3] at fo2
          refine ⟨_, rfl, .inl ⟨rfl, _, SqL.of hF3⟩, _, rfl, _, _, rfl, rfl, F, _, _, rfl, rfl, hF3, by unfold intV; rw [List.length_map, sizeLine_eq]; omega, ⟨t, _, _, rfl, at2⟩, ma2.keep (F := F) (fun b o h ne => by rw [upd_ne ne]; exact h) (.inl ⟨_, hF3⟩) nFS nFE nFB, fun b o h => ?_, E ++ [i + 1], ?_, fo2, by rw [List.length_append, List.length_singleton]; omega⟩
          · rw [upd_ne (ne_of_none h (s2.free nF))]
            exact sH3 _ _ h
          · rw [upd_same, intV_snoc]
            rfl
        · rw [e3, if_neg (by decide)] at fo2
          exact ⟨⟨t, _, _, rfl, at2⟩, ma2, sH3, E, hF3, fo2, by omega⟩
      · obtain ⟨⟨s, y5, y6, rfl, at_⟩, ma1, sH, E, hFE, fo, lE⟩ := e
        rw [cps_len] at fo lE
        have ll := I.line
        exact ⟨_, rfl, k H' F E sH (s2.free nF) hFE (by omega) fo⟩
end
end Qb
end PySem
namespace PySem
namespace Qb
open PySem.W PySem.Calls PyProof.Rows L2
theorem Inp.same {K : Frag} {H H' : Hp} {v : V} {ps : List Pt} {z : Str} (i : Inp K H v ps z) (s : Same H H') : Inp K H' v ps z :=
  ⟨dp_same s i.dp, i.len, i.good, i.few, i.signs, i.line⟩
theorem cs_rev (z : Str) : cs (revS z) = (cs z).reverse := by
  show z.cps.reverse.toList = z.cps.toList.reverse
  rw [Array.toList_reverse]
section
variable {P : Program} {w : World} {K : Frag} {mg : Str → Option Value} {base : Heap}
abbrev sMe : Stmt := top 20
abbrev nMe : List Str := ["pattern", "text"]
theorem scMe : FnScope nMe ["pattern", "text"] (defScope sMe) := ⟨rfl, rfl, rfl, by decide +kernel, rfl, by decide +kernel, by decide +kernel⟩
theorem ok_Me {f C fIn : Addr} {fd dIn : FuncData} (F : Fun K "meets" "meets" sMe f fd) (g : mg "meets" = some (.ref f)) (B : Blt mg) (T : Txt K mg C) (MIn : Mk K C fIn) (bIn : Binds K dIn ["self", "patterns"] []) (GIn : FnOk P w K mg base CX0 3 fIn dIn ["self", "patterns"] (spIn C K))
    (hCp : Has P w K mg base 5 "check_patterns" ["patterns"] (spCp K)) (hLb : HasM P w K mg base C 3 "lets_by" ["self", "text"] (spLb C)) :
    FnOk P w K mg base CX0 6 f fd ["pattern", "text"] (spMe K) := by
  obtain ⟨fCp, dCp, gCp, kCp, bCp, GCp⟩ := hCp
  obtain ⟨fLb, dLb, mLb, bLb, GLb⟩ := hLb
  refine (F.ok scMe (fun vs H Q E h => ?_) (fun cdv A outer s H vs Q E hr h => ?_))
  · obtain ⟨v, ps, z, rfl, _⟩ := h
    rfl
  · refine ⟨_, (pss_cons (ps_expr (pe_call GCp hr rfl gCp kCp bCp .nil pass0 (pa_cons (pe_lst (pa_cons (pv 0) pa_nil)) pa_nil)))
        (pss_one (ps_ret (pe_meth (pe_make MIn GIn (hr.mono (by decide)) (by rfl) T.mgC bIn .nil pass0 (pa_cons (pe_lst (pa_cons (pv 0) pa_nil)) pa_nil)) T.cl mLb GLb (hr.mono (by decide)) bLb .nil pass0 (pa_cons (pv 1) pa_nil))))), ?_⟩
    obtain ⟨v, ps, z, rfl, I, k⟩ := h
    refine ⟨_, rfl, (by decide : 1 ≤ sizeLine), fun L nL => ?_⟩
    have s1 := same_upd (o := .lst [v]) nL
    refine ⟨L, v, ps, rfl, SqL.of upd_same, dp_same s1 I.dp, by have := I.len; omega, fun p m => ⟨I.good p m, I.few p m⟩, fun H2 s2 => ?_⟩
    have s3 := s1.trans s2
    refine ⟨_, rfl, (by decide : 1 ≤ sizeLine), fun a na x dx nx ndx ne => ?_⟩
    have sm := same_new (C := C) na nx ndx
    have ax : a ≠ x := fun e => by subst e; rw [upd_same] at nx; cases nx
    have adx : a ≠ dx := fun e => by subst e; rw [upd_same] at ndx; cases ndx
    refine ⟨x, a, dx, v, ps, rfl, upd_same, SqL.of (by rw [upd_ne ax, upd_ne adx, upd_same]), dp_same (s3.trans (sm.trans hide_same)) I.dp, I.len, I.good, fun H1 S E1 B1 D l st R ma hi hc ha sf nS nE nB nD => ⟨rfl, ?_⟩⟩
    have s4 := s3.trans (sm.trans sf)
    obtain ⟨dx', hp⟩ := ma.ob
    refine ⟨x, dx', _, rfl, hp, fl_lets_by, _, rfl, x, S, E1, B1, D, l, st, R, ps, z, rfl, ma, hi, hc, ha, I.signs, I.line, fun H' b fr e => k H' b (fun c o h => fr _ _ (s4 _ _ h) (ne_of_none h ((s3.trans (sm.trans hide_same)).free nD))) e⟩
abbrev sHe : Stmt := top 21
abbrev nHe : List Str := ["pattern", "text"]
theorem scHe : FnScope nHe ["pattern", "text"] (defScope sHe) := ⟨rfl, rfl, rfl, by decide +kernel, rfl, by decide +kernel, by decide +kernel⟩
theorem ok_He {f : Addr} {fd : FuncData} (F : Fun K "heads" "heads" sHe f fd) (g : mg "heads" = some (.ref f)) (B : Blt mg) (hCp : Has P w K mg base 5 "check_patterns" ["patterns"] (spCp K)) (hLg : Has P w K mg base 5 "lengths_of" ["pattern", "text"] (spLg K)) :
    FnOk P w K mg base CX0 6 f fd ["pattern", "text"] (spLg K) := by
  obtain ⟨fCp, dCp, gCp, kCp, bCp, GCp⟩ := hCp
  obtain ⟨fLg, dLg, gLg, kLg, bLg, GLg⟩ := hLg
  refine (F.ok scHe (fun vs H Q E h => ?_) (fun cdv A outer s H vs Q E hr h => ?_))
  · obtain ⟨v, ps, z, rfl, _⟩ := h
    rfl
  · refine ⟨_, (pss_cons (ps_expr (pe_call GCp hr rfl gCp kCp bCp .nil pass0 (pa_cons (pe_lst (pa_cons (pv 0) pa_nil)) pa_nil)))
        (pss_one (ps_ret (pe_call GLg hr rfl gLg kLg bLg .nil pass0 (pa_cons (pv 0) (pa_cons (pv 1) pa_nil)))))), ?_⟩
    obtain ⟨v, ps, z, rfl, I, k⟩ := h
    refine ⟨_, rfl, (by decide : 1 ≤ sizeLine), fun L nL => ?_⟩
    have s1 := same_upd (o := .lst [v]) nL
    refine ⟨L, v, ps, rfl, SqL.of upd_same, dp_same s1 I.dp, by have := I.len; omega, fun p m => ⟨I.good p m, I.few p m⟩, fun H2 s2 => ?_⟩
    have s3 := s1.trans s2
    exact ⟨_, rfl, _, rfl, v, ps, z, rfl, I.same s3, fun H' F E s4 nF hF lE e => k H' F E (s3.trans s4) (s3.free nF) hF lE e⟩
abbrev sTa : Stmt := top 22
abbrev nTa : List Str := ["pattern", "text"]
theorem scTa : FnScope nTa ["pattern", "text"] (defScope sTa) := ⟨rfl, rfl, rfl, by decide +kernel, rfl, by decide +kernel, by decide +kernel⟩
theorem ok_Ta {f : Addr} {fd : FuncData} (F : Fun K "tails" "tails" sTa f fd) (g : mg "tails" = some (.ref f)) (B : Blt mg) (hCp : Has P w K mg base 5 "check_patterns" ["patterns"] (spCp K)) (hLg : Has P w K mg base 5 "lengths_of" ["pattern", "text"] (spLg K)) :
    FnOk P w K mg base CX0 6 f fd ["pattern", "text"] (spTa K) := by
  obtain ⟨fCp, dCp, gCp, kCp, bCp, GCp⟩ := hCp
  obtain ⟨fLg, dLg, gLg, kLg, bLg, GLg⟩ := hLg
  refine (F.ok scTa (fun vs H Q E h => ?_) (fun cdv A outer s H vs Q E hr h => ?_))
  · obtain ⟨v, ps, z, rfl, _⟩ := h
    rfl
  · refine ⟨_, (pss_cons (ps_expr (pe_call GCp hr rfl gCp kCp bCp .nil pass0 (pa_cons (pe_lst (pa_cons (pv 0) pa_nil)) pa_nil)))
        (pss_one (ps_ret (pe_call GLg hr rfl gLg kLg bLg .nil pass0 (pa_cons (pe_revL (pv 0)) (pa_cons (pe_revS (pv 1)) pa_nil)))))), ?_⟩
    obtain ⟨v, ps, z, rfl, I, k⟩ := h
    refine ⟨_, rfl, (by decide : 1 ≤ sizeLine), fun L nL => ?_⟩
    have s1 := same_upd (o := .lst [v]) nL
    refine ⟨L, v, ps, rfl, SqL.of upd_same, dp_same s1 I.dp, by have := I.len; omega, fun p m => ⟨I.good p m, I.few p m⟩, fun H2 s2 => ?_⟩
    have s3 := s1.trans s2
    obtain ⟨a, xs, rfl, hq, all⟩ := dp_lst (dp_same s3 I.dp)
    have ll := I.line
    refine ⟨_, rfl, a, xs, rfl, hq, fun r nr => ?_⟩
    have s4 := same_upd (o := .lst xs.reverse) nr
    have s5 := s3.trans s4
    refine ⟨_, rfl, z, rfl, small_line (by rw [len_cs]; omega), .ref r, ps.reverse, revS z, rfl, ⟨?_, by rw [List.length_reverse]; exact I.len, fun q m => I.good q (List.mem_reverse.mp m), fun q m => I.few q (List.mem_reverse.mp m), fun c m => I.signs c (by rw [cs_rev] at m; exact List.mem_reverse.mp m), by rw [cs_rev, List.length_reverse]; exact ll⟩, fun H' F E s6 nF hF lE e => ?_⟩
    · refine .lst (SqL.of upd_same) ?_
      rw [List.map_reverse]
      exact dpRev (dpAll_same s4 all)
    · rw [cs_rev] at e
      exact k H' F E (s5.trans s6) (s5.free nF) hF lE e
end
end Qb
end PySem
namespace PySem
namespace Qb
open PySem.W PySem.Calls PyProof.Rows L2
/-! # equal data, by the law's own comparison -/
def Pl0 (d : PyData) : Prop := (∃ x, d = .str x) ∨ (∃ b, d = .bool b) ∨ (∃ i, d = .int i) ∨ d = .none
def Pl : Nat → PyData → Prop
  | 0, d => Pl0 d
  | n + 1, d => Pl0 d ∨ ∃ ds : List PyData, (d = .list ds ∨ d = .tuple ds) ∧ ds.length ≤ 1000 ∧ ∀ e ∈ ds, Pl n e
def spSm (K : Frag) : Nat → Sp
  | 0 => fun _ _ _ _ => False
  | n + 1 => fun vs H Q _ => ∃ (v u : V) (d : PyData), vs = [v, u] ∧ Dp K H v d ∧ Dp K H u d ∧ Pl n d ∧ ∀ H', Same H H' → Q (.bl true) H'
def kindOf : PyData → String
  | .str _ => "str"
  | .bool _ => "bool"
  | .int _ => "int"
  | .none => "NoneType"
  | .list _ => "list"
  | .tuple _ => "tuple"
  | .dict _ => "dict"
theorem kan {K : PySem.W.Frag} {t c : Value} {cs : List Value} {r : Bool} (h : PySem.W.kitOne K t c = some false) (hr : PySem.W.kitAny K t cs = some r) : PySem.W.kitAny K t (c :: cs) = some r := kitAny_cons h (fun _ => hr) (fun z => by cases z)
theorem kay {K : PySem.W.Frag} {t c : Value} {cs : List Value} (h : PySem.W.kitOne K t c = some true) : PySem.W.kitAny K t (c :: cs) = some true := kitAny_cons h (fun z => by cases z) (fun _ => rfl)
theorem sq_same {K : Frag} {H H' : Hp} {a : Addr} {xs : List V} (s : Same H H') (h : SqL K H a xs ∨ SqT K H a xs) : SqL K H' a xs ∨ SqT K H' a xs := by
  rcases h with h | h
  · exact .inl (s.seq h)
  · exact .inr (sqT_same s h)
section
variable {P : Program} {w : World} {K : Frag} {mg : Str → Option Value} {base : Heap}
abbrev sSm : Stmt := top 28
abbrev nSm : List Str := ["_law_found", "_law_due", "_law_k"]
theorem scSm : FnScope nSm ["_law_found", "_law_due"] (defScope sSm) := ⟨rfl, rfl, rfl, by decide +kernel, rfl, by decide +kernel, by decide +kernel⟩
theorem ok_Sm {f : Addr} {fd : FuncData} (F : Fun K "_law_same" "_law_same" sSm f fd) (g : mg "_law_same" = some (.ref f)) (b : Binds K fd ["_law_found", "_law_due"] []) (B : Blt mg) : ∀ n, FnOk P w K mg base CX0 (n + 1) f fd ["_law_found", "_law_due"] (spSm K n)
  | 0 => F.ok scSm (fun vs H Q E h => h.elim) (fun cdv A outer s H vs Q E hr h => h.elim)
  | n + 1 => by
    have GSm := ok_Sm F g b B n
    refine F.ok scSm (fun vs H Q E h => ?_) (fun cdv A outer s H vs Q E hr h => ?_)
    · obtain ⟨v, u, d, rfl, _⟩ := h
      rfl
    · refine ⟨_, (pss_cons (ps_if (pt_val (pe_callB call_isiT (by rfl) B.isi (by decide +kernel) (pa_cons (pv 1) (pa_cons (pe_tup (pa_cons (pe_bltn (v := .ty "list") (by rfl) B.list (by decide +kernel) rfl) (pa_cons (pe_bltn (v := .ty "tuple") (by rfl) B.tuple (by decide +kernel) rfl) pa_nil))) pa_nil)))) (pss_cons (ps_if (PW.pt (pw_or (pt_cmpR op_ne (pe_callB call_isi (by rfl) B.isi (by decide +kernel) (pa_cons (pv 1) (pa_cons (pe_bltn (v := .ty "list") (by rfl) B.list (by decide +kernel) rfl) pa_nil))) (pe_callB call_isi (by rfl) B.isi (by decide +kernel) (pa_cons (pv 0) (pa_cons (pe_bltn (v := .ty "list") (by rfl) B.list (by decide +kernel) rfl) pa_nil))) (nomark _)) (pw_or1 (pt_cmpR op_ne (pe_callB call_isi (by rfl) B.isi (by decide +kernel) (pa_cons (pv 1) (pa_cons (pe_bltn (v := .ty "tuple") (by rfl) B.tuple (by decide +kernel) rfl) pa_nil))) (pe_callB call_isi (by rfl) B.isi (by decide +kernel) (pa_cons (pv 0) (pa_cons (pe_bltn (v := .ty "tuple") (by rfl) B.tuple (by decide +kernel) rfl) pa_nil))) (nomark _))))) (pss_one (ps_ret pe_bl)) pss_nil)
          (pss_one (ps_ret (pe_and (pe_cmpR op_eq (pe_callB call_len_seq (by rfl) B.len PySem.boot_len (pa_cons (pv 0) pa_nil)) (pe_callB call_len_seq (by rfl) B.len PySem.boot_len (pa_cons (pv 1) pa_nil)) (nomark _)) (pe_one (pe_callB (cr_all rfl) (by rfl) B.all (by decide +kernel) (pa_cons (pe_lc (te := tCall (spSm K n) [] E0 (tCons (tOp (rIx K) (tVar 0) (tVar 2)) (tCons (tOp (rIx K) (tVar 1) (tVar 2)) tNil))) (own := [("_law_k", 2)]) (g := gName 2) (tt := tYes) rfl scSm.nd (pi_range1 (by rfl) B.range (pa_cons (pe_callB call_len_seq (by rfl) B.len PySem.boot_len (pa_cons (pv 1) pa_nil)) pa_nil)) (blkOk_by (N := nSm) (sc := defScope sSm) (by decide +kernel)) (fun _ _ _ _ _ => pg_name (i := 2) scSm.nd rfl (.inl rfl)) (fun _ _ _ _ _ => pts_nil) (fun _ _ _ _ _ => (pe_call GSm hr rfl g F.kp b .nil pass0 (pa_cons (pe_ix ix_seq (pv 0) (pv 2) (fun _ _ => rfl)) (pa_cons (pe_ix ix_seq (pv 1) (pv 2) (fun _ _ => rfl)) pa_nil))))) pa_nil))))))) pss_nil)
        (pss_cons (ps_if (pt_cmpR op_isN (pv 1) pe_non (nomark _)) (pss_one (ps_ret (pe_cmpR op_isN (pv 0) pe_non (nomark _)))) pss_nil)
        (pss_cons (ps_if (pt_val (pe_callB call_isi (by rfl) B.isi (by decide +kernel) (pa_cons (pv 1) (pa_cons (pe_bltn (v := .ty "int") (by rfl) B.int (by decide +kernel) rfl) pa_nil)))) (pss_one (ps_ret (pe_and (pe_callB call_isi (by rfl) B.isi (by decide +kernel) (pa_cons (pv 0) (pa_cons (pe_bltn (v := .ty "int") (by rfl) B.int (by decide +kernel) rfl) pa_nil))) (pe_and (pe_cmpR op_eq (pe_callB call_isi (by rfl) B.isi (by decide +kernel) (pa_cons (pv 0) (pa_cons (pe_bltn (v := .ty "bool") (by rfl) B.bool (by decide +kernel) rfl) pa_nil))) (pe_callB call_isi (by rfl) B.isi (by decide +kernel) (pa_cons (pv 1) (pa_cons (pe_bltn (v := .ty "bool") (by rfl) B.bool (by decide +kernel) rfl) pa_nil))) (nomark _)) (pe_one (pe_cmpR op_eq (pv 0) (pv 1) (nomark _))))))) pss_nil)
        (pss_one (ps_ret (pe_and (pe_callB call_isi (by rfl) B.isi (by decide +kernel) (pa_cons (pv 0) (pa_cons (pe_bltn (v := .ty "str") (by rfl) B.str (by decide +kernel) rfl) pa_nil))) (pe_one (pe_cmpR op_eq (pv 0) (pv 1) (nomark _))))))))), ?_⟩
      obtain ⟨v, u, d, rfl, hv, hu, hp, k⟩ := h
      rcases (show Pl0 d ∨ ∃ m ds, n = m + 1 ∧ (d = .list ds ∨ d = .tuple ds) ∧ ds.length ≤ 1000 ∧ ∀ e ∈ ds, Pl m e from by
        cases n with
        | zero => exact .inl hp
        | succ m => rcases hp with h | ⟨ds, h⟩
                    · exact .inl h
                    · exact .inr ⟨m, ds, rfl, h⟩) with h0 | ⟨m, ds, rfl, h1, h2, h3⟩
      · rcases h0 with ⟨x, rfl⟩ | ⟨x, rfl⟩ | ⟨x, rfl⟩ | rfl
        · cases hv
          cases hu
          refine ⟨_, rfl, (by decide : 2 ≤ sizeLine), fun T nT => ⟨.str x, T, _, .type "str", [.type "list", .type "tuple"], false, rfl, upd_same, .cons (.ty _) (.cons (.ty _) .nil), .base (.str x), kan (kit_ty (by decide +kernel)) (kan (kit_ty (by decide +kernel)) kitAny_nil), _, rfl, if_no rfl ?_⟩⟩
          refine ⟨_, rfl, rfl, _, rfl, if_no (by simp) ?_⟩
          refine ⟨_, rfl, .str x, .ty "int", .type "str", .type "int", false, rfl, .ty _, .base (.str x), kit_ty (by decide +kernel), _, rfl, if_no rfl ?_⟩
          refine ⟨_, rfl, .str x, .ty "str", .type "str", .type "str", true, rfl, .ty _, .base (.str x), kit_ty (by decide +kernel), _, rfl, if_yes rfl ⟨_, rfl, _, rfl, rfl, ?_⟩⟩
          rw [decide_eq_true rfl]
          exact k _ (same_upd nT)
        · cases hv
          cases hu
          refine ⟨_, rfl, (by decide : 2 ≤ sizeLine), fun T nT => ⟨.bl x, T, _, .type "bool", [.type "list", .type "tuple"], false, rfl, upd_same, .cons (.ty _) (.cons (.ty _) .nil), .base (.bl x), kan (kit_ty (by decide +kernel)) (kan (kit_ty (by decide +kernel)) kitAny_nil), _, rfl, if_no rfl ?_⟩⟩
          refine ⟨_, rfl, rfl, _, rfl, if_no (by simp) ?_⟩
          refine ⟨_, rfl, .bl x, .ty "int", .type "bool", .type "int", true, rfl, .ty _, .base (.bl x), kit_ty (by decide +kernel), _, rfl, if_yes rfl ?_⟩
          refine ⟨_, rfl, .bl x, .ty "int", .type "bool", .type "int", true, rfl, .ty _, .base (.bl x), kit_ty (by decide +kernel), _, rfl, if_yes rfl ?_⟩
          refine ⟨_, rfl, .bl x, .ty "bool", .type "bool", .type "bool", true, rfl, .ty _, .base (.bl x), kit_ty (by decide +kernel), _, rfl, .bl x, .ty "bool", .type "bool", .type "bool", true, rfl, .ty _, .base (.bl x), kit_ty (by decide +kernel), rfl, _, rfl, if_yes rfl ⟨_, rfl, _, rfl, rfl, ?_⟩⟩
          rw [decide_eq_true rfl]
          exact k _ (same_upd nT)
        · cases hv
          cases hu
          refine ⟨_, rfl, (by decide : 2 ≤ sizeLine), fun T nT => ⟨.int x, T, _, .type "int", [.type "list", .type "tuple"], false, rfl, upd_same, .cons (.ty _) (.cons (.ty _) .nil), .base (.int x), kan (kit_ty (by decide +kernel)) (kan (kit_ty (by decide +kernel)) kitAny_nil), _, rfl, if_no rfl ?_⟩⟩
          refine ⟨_, rfl, rfl, _, rfl, if_no (by simp) ?_⟩
          refine ⟨_, rfl, .int x, .ty "int", .type "int", .type "int", true, rfl, .ty _, .base (.int x), kit_ty (by decide +kernel), _, rfl, if_yes rfl ?_⟩
          refine ⟨_, rfl, .int x, .ty "int", .type "int", .type "int", true, rfl, .ty _, .base (.int x), kit_ty (by decide +kernel), _, rfl, if_yes rfl ?_⟩
          refine ⟨_, rfl, .int x, .ty "bool", .type "int", .type "bool", false, rfl, .ty _, .base (.int x), kit_ty (by decide +kernel), _, rfl, .int x, .ty "bool", .type "int", .type "bool", false, rfl, .ty _, .base (.int x), kit_ty (by decide +kernel), rfl, _, rfl, if_yes rfl ⟨_, rfl, _, rfl, rfl, ?_⟩⟩
          rw [decide_eq_true rfl]
          exact k _ (same_upd nT)
        · cases hv
          cases hu
          refine ⟨_, rfl, (by decide : 2 ≤ sizeLine), fun T nT => ⟨.non, T, _, .type "NoneType", [.type "list", .type "tuple"], false, rfl, upd_same, .cons (.ty _) (.cons (.ty _) .nil), .base .non, kan (kit_ty (by decide +kernel)) (kan (kit_ty (by decide +kernel)) kitAny_nil), _, rfl, if_no rfl ?_⟩⟩
          refine ⟨_, rfl, rfl, _, rfl, if_yes (by simp) ⟨_, rfl, rfl, ?_⟩⟩
          rw [decide_eq_true rfl]
          exact k _ (same_upd nT)
      · rcases h1 with rfl | rfl
        · obtain ⟨a, xs, rfl, hqa, alla⟩ := dp_lst hv
          obtain ⟨c, ys, rfl, hqc, allc⟩ := dp_lst hu
          have lx := dpLen alla
          have ly := dpLen allc
          refine ⟨_, rfl, (by decide : 2 ≤ sizeLine), fun T nT => ?_⟩
          have s1 := same_upd (o := .tup [.ty "list", .ty "tuple"]) nT
          have hqa := s1.seq hqa
          have hqc := s1.seq hqc
          refine ⟨.ref c, T, _, .type "list", [.type "list", .type "tuple"], true, rfl, upd_same, .cons (.ty _) (.cons (.ty _) .nil), ty_lst hqc, kay (kit_ty (by decide +kernel)), _, rfl, if_yes rfl ?_⟩
          refine ⟨_, rfl, .ref c, .ty "list", .type "list", .type "list", true, rfl, .ty _, ty_lst hqc, kit_ty (by decide +kernel), _, rfl, .ref a, .ty "list", .type "list", .type "list", true, rfl, .ty _, ty_lst hqa, kit_ty (by decide +kernel), rfl, _, rfl, if_no (by simp) ?_⟩
          refine ⟨_, rfl, .ref c, .ty "tuple", .type "list", .type "tuple", false, rfl, .ty _, ty_lst hqc, kit_ty (by decide +kernel), _, rfl, .ref a, .ty "tuple", .type "list", .type "tuple", false, rfl, .ty _, ty_lst hqa, kit_ty (by decide +kernel), rfl, _, rfl, if_no (by simp) ?_⟩
          refine ⟨_, rfl, a, xs, rfl, .inl hqa, _, rfl, c, ys, rfl, .inl hqc, rfl, _, rfl, if_yes (by rw [lx, ly]; simp) ?_⟩
          refine ⟨_, rfl, c, ys, rfl, .inl hqc, _, rfl, by omega, by omega, fun D hD => ?_⟩
          refine lc_it (walk_range (lo := 0) (n := ys.length)) (fun i H' => Same (L2.upd H T (.tup [.ty "list", .ty "tuple"])) H' ∧ H' D = some (.lst ((List.replicate i true).map V.bl))) ⟨same_upd hD, upd_same⟩ (fun _ _ _ _ => trivial) (fun i x H' H2 hi e y => ?_) (fun H' e => ?_)
          · obtain ⟨s2, hDt⟩ := e
            obtain ⟨rfl, rfl⟩ := y
            obtain ⟨d, hdi⟩ : ∃ d, ds[i]? = some d := ⟨_, List.getElem?_eq_getElem (by omega)⟩
            obtain ⟨x1, hx1, dx1⟩ := dpAt alla hdi
            obtain ⟨x2, hx2, dx2⟩ := dpAt allc hdi
            refine ⟨rfl, _, rfl, _, rfl, .inl ⟨a, xs, _, x1, rfl, rfl, s2.seq hqa, by rw [Int.zero_add]; exact atI_nat hx1, _, rfl, _, rfl, .inl ⟨c, ys, _, x2, rfl, rfl, s2.seq hqc, by rw [Int.zero_add]; exact atI_nat hx2, x1, x2, d, rfl, dp_same (s1.trans s2) dx1, dp_same (s1.trans s2) dx2, h3 d (List.mem_of_getElem? hdi), fun H3 s3 => ⟨_, s3 _ _ hDt, ?_, same_upd2 (s2.trans s3) hD, ?_⟩⟩⟩⟩
            · rw [List.length_map, List.length_replicate, sizeLine_eq]
              omega
            · rw [upd_same, List.replicate_succ', List.map_append]
              rfl
          · obtain ⟨s2, hDt⟩ := e
            refine ⟨D, _, rfl, SqL.of hDt, ?_⟩
            rw [show (List.replicate ys.length true).all id = true by rw [List.all_eq_true]; intro x m; exact List.eq_of_mem_replicate m]
            exact k _ (s1.trans s2)
        · obtain ⟨a, xs, rfl, hqa, alla⟩ := dp_tup hv
          obtain ⟨c, ys, rfl, hqc, allc⟩ := dp_tup hu
          have lx := dpLen alla
          have ly := dpLen allc
          refine ⟨_, rfl, (by decide : 2 ≤ sizeLine), fun T nT => ?_⟩
          have s1 := same_upd (o := .tup [.ty "list", .ty "tuple"]) nT
          have hqa := sqT_same s1 hqa
          have hqc := sqT_same s1 hqc
          refine ⟨.ref c, T, _, .type "tuple", [.type "list", .type "tuple"], true, rfl, upd_same, .cons (.ty _) (.cons (.ty _) .nil), ty_tup hqc, kan (kit_ty (by decide +kernel)) (kay (kit_ty (by decide +kernel))), _, rfl, if_yes rfl ?_⟩
          refine ⟨_, rfl, .ref c, .ty "list", .type "tuple", .type "list", false, rfl, .ty _, ty_tup hqc, kit_ty (by decide +kernel), _, rfl, .ref a, .ty "list", .type "tuple", .type "list", false, rfl, .ty _, ty_tup hqa, kit_ty (by decide +kernel), rfl, _, rfl, if_no (by simp) ?_⟩
          refine ⟨_, rfl, .ref c, .ty "tuple", .type "tuple", .type "tuple", true, rfl, .ty _, ty_tup hqc, kit_ty (by decide +kernel), _, rfl, .ref a, .ty "tuple", .type "tuple", .type "tuple", true, rfl, .ty _, ty_tup hqa, kit_ty (by decide +kernel), rfl, _, rfl, if_no (by simp) ?_⟩
          refine ⟨_, rfl, a, xs, rfl, .inr hqa, _, rfl, c, ys, rfl, .inr hqc, rfl, _, rfl, if_yes (by rw [lx, ly]; simp) ?_⟩
          refine ⟨_, rfl, c, ys, rfl, .inr hqc, _, rfl, by omega, by omega, fun D hD => ?_⟩
          refine lc_it (walk_range (lo := 0) (n := ys.length)) (fun i H' => Same (L2.upd H T (.tup [.ty "list", .ty "tuple"])) H' ∧ H' D = some (.lst ((List.replicate i true).map V.bl))) ⟨same_upd hD, upd_same⟩ (fun _ _ _ _ => trivial) (fun i x H' H2 hi e y => ?_) (fun H' e => ?_)
          · obtain ⟨s2, hDt⟩ := e
            obtain ⟨rfl, rfl⟩ := y
            obtain ⟨d, hdi⟩ : ∃ d, ds[i]? = some d := ⟨_, List.getElem?_eq_getElem (by omega)⟩
            obtain ⟨x1, hx1, dx1⟩ := dpAt alla hdi
            obtain ⟨x2, hx2, dx2⟩ := dpAt allc hdi
            refine ⟨rfl, _, rfl, _, rfl, .inr (.inl ⟨a, xs, _, x1, rfl, rfl, sqT_same s2 hqa, by rw [Int.zero_add]; exact atI_nat hx1, _, rfl, _, rfl, .inr (.inl ⟨c, ys, _, x2, rfl, rfl, sqT_same s2 hqc, by rw [Int.zero_add]; exact atI_nat hx2, x1, x2, d, rfl, dp_same (s1.trans s2) dx1, dp_same (s1.trans s2) dx2, h3 d (List.mem_of_getElem? hdi), fun H3 s3 => ⟨_, s3 _ _ hDt, ?_, same_upd2 (s2.trans s3) hD, ?_⟩⟩)⟩)⟩
            · rw [List.length_map, List.length_replicate, sizeLine_eq]
              omega
            · rw [upd_same, List.replicate_succ', List.map_append]
              rfl
          · obtain ⟨s2, hDt⟩ := e
            refine ⟨D, _, rfl, SqL.of hDt, ?_⟩
            rw [show (List.replicate ys.length true).all id = true by rw [List.all_eq_true]; intro x m; exact List.eq_of_mem_replicate m]
            exact k _ (s1.trans s2)
end
/-! # what the law draws -/
def Pu (H : Hp) (p : Addr) (n : Nat) : Prop := ∃ a b c : Int, H p = some (.lst [.int a, .int b, .int c]) ∧ 0 ≤ a ∧ 0 ≤ b ∧ b < 10 ^ 24 + 7 ∧ 0 ≤ c ∧ c ≤ n
theorem Pu.same {H H' : Hp} {p : Addr} {n : Nat} (h : Pu H p n) (s : Same H H') : Pu H' p n := by
  obtain ⟨a, b, c, e, r⟩ := h
  exact ⟨a, b, c, s _ _ e, r⟩
theorem Pu.le {H : Hp} {p : Addr} {n m : Nat} (h : Pu H p n) (l : n ≤ m) : Pu H p m := by
  obtain ⟨a, b, c, e, r1, r2, r3, r4, r5⟩ := h
  exact ⟨a, b, c, e, r1, r2, r3, r4, by omega⟩
def spPu (K : Frag) : Sp := fun vs H Q _ => ∃ (a : Addr) (ns : List Int) (i : Nat), vs = [.ref a, .int (i : Nat)] ∧ SqL K H a (ns.map V.int) ∧ ns.length ≤ 63 ∧ ∀ H' p, Same H H' → H p = none → Pu H' p 0 → Q (.ref p) H'
def spCo : Sp := fun vs H Q _ => ∃ (p : Addr) (m n : Nat), vs = [.ref p, .int (m : Nat)] ∧ 0 < m ∧ m ≤ 1000 ∧ n ≤ 10000 ∧ Pu H p n ∧ ∀ (H' : Hp) (r : Nat), r < m → Pu H' p (n + 1) → (∀ b, b ≠ p → H' b = H b) → Q (.int (r : Nat)) H'
def spAl : Sp := fun vs H Q _ => vs = [] ∧ Q (.str signsS) H
section
variable {P : Program} {w : World} {K : Frag} {mg : Str → Option Value} {base : Heap}
abbrev sPu : Stmt := top 26
abbrev nPu : List Str := ["_law_script", "_law_at", "_law_cell"]
theorem scPu : FnScope nPu ["_law_script", "_law_at"] (defScope sPu) := ⟨rfl, rfl, rfl, by decide +kernel, rfl, by decide +kernel, by decide +kernel⟩
theorem has_Pu {f : Addr} {fd : FuncData} (F : Fun K "_law_purse" "_law_purse" sPu f fd) (g : mg "_law_purse" = some (.ref f)) (B : Blt mg)  :
    Has P w K mg base 1 "_law_purse" ["_law_script", "_law_at"] (spPu K) := by
  refine has_of F g (F.binds (ps := ["_law_script", "_law_at"]) fun _ _ _ _ _ _ us hl => match us, hl with | [_, _], _ => rfl) (F.ok scPu (fun vs H Q E h => ?_) (fun cdv A outer s H vs Q E hr h => ?_))
  · obtain ⟨a, ns, i, rfl, _⟩ := h
    rfl
  · refine ⟨_, (pss_cons (ps_set (i := 2) scPu.nd rfl (.inl rfl) (pe_ifExp (pt_cmpR op_lt (pv 1) (pe_callB call_len_seq (by rfl) B.len PySem.boot_len (pa_cons (pv 0) pa_nil)) (nomark _)) (pe_ix ix_list (pv 0) (pv 1) (fun _ _ => rfl)) pe_int))
        (pss_one (ps_ret (pe_lst (pa_cons (pe_callB (call_max2 rfl) (by rfl) B.max (by decide +kernel) (pa_cons pe_int (pa_cons (pe_op op_sub (pe_callB call_abs (by rfl) B.abs (by decide +kernel) (pa_cons (pv 2) pa_nil)) (pe_op op_pow pe_int pe_int)) pa_nil))) (pa_cons (pe_op op_modN (pe_callTy call_int1 (by rfl) B.int (by decide +kernel) (pa_cons (pe_op op_add (pe_op op_add (pe_op op_mul (pv 2) pe_int) (pe_op op_mul (pv 1) pe_int)) pe_int) pa_nil)) (pe_op op_add (pe_op op_pow pe_int pe_int) pe_int)) (pa_cons pe_int pa_nil))))))), ?_⟩
    obtain ⟨a, ns, i, rfl, hq, hl, k⟩ := h
    have m24 : (10 : Int) ^ (24 : Int).toNat + 7 = 10 ^ 24 + 7 := rfl
    refine ⟨_, rfl, _, rfl, a, _, rfl, .inl hq, _, _, rfl, rfl, _, rfl, if_by (fun e => ⟨_, rfl, _, rfl, a, _, _, .int (ns[i]'(by have := of_decide_eq_true e; rw [List.length_map] at this; omega)), rfl, rfl, hq, atI_nat (by rw [List.getElem?_map, List.getElem?_eq_getElem (by have := of_decide_eq_true e; rw [List.length_map] at this; omega)]; rfl), ?_⟩) (fun e => ?_)⟩
    all_goals
      refine ⟨_, rfl, _, rfl, _, _, rfl, rfl, ⟨by decide, by decide, by decide⟩, _, _, rfl, rfl, _, _, rfl, ?_⟩
      refine ⟨_, rfl, _, _, rfl, rfl, .inr ⟨by decide, by decide⟩, _, rfl, _, _, rfl, rfl, .inr ⟨by decide, by decide⟩, _, _, rfl, rfl, _, _, rfl, rfl, .inl ⟨_, rfl, _, _, rfl, rfl, ⟨by decide, by decide, by decide⟩, _, _, rfl, rfl, _, _, rfl, rfl, by show (_ : Int) ≠ 0; decide, (by decide : 3 ≤ sizeLine), fun p np => ?_⟩⟩
      refine k _ p (same_upd np) np ⟨_, _, _, upd_same, ?_, fm0 (by decide) _, fm1 (by decide) _, by decide, by decide⟩
      split <;> omega
abbrev sCo : Stmt := top 27
abbrev nCo : List Str := ["_law_purse_here", "_law_many", "_law_coin_here", "_law_stirred"]
theorem scCo : FnScope nCo ["_law_purse_here", "_law_many"] (defScope sCo) := ⟨rfl, rfl, rfl, by decide +kernel, rfl, by decide +kernel, by decide +kernel⟩
theorem has_Co {f : Addr} {fd : FuncData} (F : Fun K "_law_coin" "_law_coin" sCo f fd) (g : mg "_law_coin" = some (.ref f)) (B : Blt mg)  :
    Has P w K mg base 1 "_law_coin" ["_law_purse_here", "_law_many"] spCo := by
  refine has_of F g (F.binds (ps := ["_law_purse_here", "_law_many"]) fun _ _ _ _ _ _ us hl => match us, hl with | [_, _], _ => rfl) (F.ok scCo (fun vs H Q E h => ?_) (fun cdv A outer s H vs Q E hr h => ?_))
  · obtain ⟨p, m, n, rfl, _⟩ := h
    rfl
  · refine ⟨_, (pss_cons (ps_if (pt_cmpR op_gt (pe_ix ix_list (pv 0) pe_int (fun _ _ => rfl)) pe_int (nomark _)) (pss_cons (ps_set (i := 2) scCo.nd rfl (.inl rfl) (pe_op op_modN (pe_callTy call_int1 (by rfl) B.int (by decide +kernel) (pa_cons (pe_ix ix_list (pv 0) pe_int (fun _ _ => rfl)) pa_nil)) (pv 1)))
          (pss_cons (ps_asg (pe_op op_fdivW (pe_ix ix_list (pv 0) pe_int (fun _ _ => rfl)) (pv 1)) (pg_sub (pv 0) pe_int set_list))
          (pss_one (ps_ret (pv 2))))) pss_nil)
        (pss_cons (ps_asg (pe_op op_add (pe_ix ix_list (pv 0) pe_int (fun _ _ => rfl)) pe_int) (pg_sub (pv 0) pe_int set_list))
        (pss_cons (ps_set (i := 3) scCo.nd rfl (.inl rfl) (pe_op op_add (pe_ix ix_list (pv 0) pe_int (fun _ _ => rfl)) (pe_op op_mul pe_int (pe_ix ix_list (pv 0) pe_int (fun _ _ => rfl)))))
        (pss_cons (ps_set (i := 3) scCo.nd rfl (.inl rfl) (pe_op op_modN (pe_callTy call_int1 (by rfl) B.int (by decide +kernel) (pa_cons (pe_op op_add (pe_op op_mulW (pv 3) (pv 3)) (pe_ix ix_list (pv 0) pe_int (fun _ _ => rfl))) pa_nil)) (pe_op op_add (pe_op op_pow pe_int pe_int) pe_int)))
        (pss_cons (ps_set (i := 3) scCo.nd rfl (.inl rfl) (pe_op op_modN (pe_callTy call_int1 (by rfl) B.int (by decide +kernel) (pa_cons (pe_op op_add (pe_op op_mul (pe_op op_mulW (pv 3) (pv 3)) pe_int) (pv 3)) pa_nil)) (pe_op op_add (pe_op op_pow pe_int pe_int) pe_int)))
        (pss_one (ps_ret (pe_op op_modN (pe_callTy call_int1 (by rfl) B.int (by decide +kernel) (pa_cons (pe_op op_fdivW (pv 3) pe_int) pa_nil)) (pv 1))))))))), ?_⟩
    obtain ⟨p, m, n, rfl, m0, m1, hn, ⟨x, y, z, hp, x0, y0, y1, z0, z1⟩, k⟩ := h
    have hpL : SqL K H p [V.int x, V.int y, V.int z] := SqL.of hp
    have mi : (0 : Int) < (m : Nat) := by omega
    have fin : ∀ (H' : Hp) (r : Int), 0 ≤ r → r < (m : Nat) → Pu H' p (n + 1) → (∀ b, b ≠ p → H' b = H b) → Q (.int r) H' := fun H' r r0 r1 u off => by
      have z := k H' r.toNat (by omega) u off
      rw [show ((r.toNat : Nat) : Int) = r by omega] at z
      exact z
    refine ⟨_, rfl, p, _, _, _, rfl, rfl, hpL, rfl, _, _, rfl, rfl, _, rfl, if_by (fun e => ?_) (fun e => ?_)⟩
    · refine ⟨_, rfl, p, _, _, _, rfl, rfl, hpL, rfl, .inl ⟨_, rfl, _, rfl, _, _, rfl, rfl, Int.ne_of_gt mi, ?_⟩⟩
      refine ⟨_, rfl, p, _, _, _, rfl, rfl, hpL, rfl, _, rfl, _, _, rfl, rfl, wide_div (b := 200) mi (by omega) (by decide) (by decide), _, rfl, p, _, _, 0, rfl, rfl, hp, rfl, ?_⟩
      refine ⟨_, rfl, fin _ _ (fm0 mi _) (fm1 mi _) ⟨_, _, _, upd_same, Int.ediv_nonneg x0 (by omega), y0, y1, z0, by omega⟩ fun b h => upd_ne h⟩
    · refine ⟨_, rfl, p, _, _, _, rfl, rfl, hpL, rfl, _, _, rfl, rfl, _, rfl, p, _, _, 2, rfl, rfl, hp, rfl, ?_⟩
      have hp1 : (L2.upd H p (.lst [.int x, .int y, .int (z + 1)])) p = some (.lst [.int x, .int y, .int (z + 1)]) := upd_same
      have hp1L : SqL K (L2.upd H p (.lst [.int x, .int y, .int (z + 1)])) p [V.int x, V.int y, V.int (z + 1)] := SqL.of hp1
      refine ⟨_, rfl, p, _, _, _, rfl, rfl, hp1L, rfl, _, rfl, p, _, _, _, rfl, rfl, hp1L, rfl, _, _, rfl, rfl, .inl ⟨by decide, by decide⟩, _, _, rfl, rfl, ?_⟩
      have b1 : 0 ≤ y + 362437 * (z + 1) ∧ y + 362437 * (z + 1) < 2 ^ 90 := by
        have e1 : (10 : Int) ^ 24 + 7 < 2 ^ 89 := by decide
        have e2 : (2 : Int) ^ 90 = 2 ^ 89 + 2 ^ 89 := by decide
        have e3 : (362437 * 20000 : Int) < 2 ^ 89 := by decide
        omega
      refine ⟨_, rfl, _, rfl, _, _, rfl, rfl, wide_mul (a := 100) (b := 100) (by omega) (by omega) (by decide) (by decide) (by decide), _, rfl, p, _, _, _, rfl, rfl, hp1L, rfl, _, _, rfl, rfl, .inl ⟨_, rfl, _, _, rfl, rfl, ⟨by decide, by decide, by decide⟩, _, _, rfl, rfl, _, _, rfl, rfl, by show (_ : Int) ≠ 0; decide, ?_⟩⟩
      have t0 : 0 ≤ ((y + 362437 * (z + 1)) * (y + 362437 * (z + 1)) + (z + 1)).fmod (10 ^ Int.toNat 25 + 13) := fm0 (by decide) _
      have t2 : ((y + 362437 * (z + 1)) * (y + 362437 * (z + 1)) + (z + 1)).fmod (10 ^ Int.toNat 25 + 13) < 2 ^ 90 := Int.lt_trans (fm1 (by decide) _) (by decide)
      refine ⟨_, rfl, _, rfl, _, _, rfl, rfl, wide_mul (a := 100) (b := 100) (by omega) (by omega) (by decide) (by decide) (by decide), _, _, rfl, rfl, .inr ⟨by decide, by decide⟩, _, rfl, _, _, rfl, rfl, .inl ⟨_, rfl, _, _, rfl, rfl, ⟨by decide, by decide, by decide⟩, _, _, rfl, rfl, _, _, rfl, rfl, by show (_ : Int) ≠ 0; decide, ?_⟩⟩
      refine ⟨_, rfl, _, _, rfl, rfl, wide_div (j := 1000) (b := 200) (by decide) (by decide) (by decide) (by decide), .inl ⟨_, rfl, _, rfl, _, _, rfl, rfl, Int.ne_of_gt mi, ?_⟩⟩
      exact fin _ _ (fm0 mi _) (fm1 mi _) ⟨_, _, _, upd_same, x0, y0, y1, by omega, by omega⟩ fun b h => upd_ne h
abbrev sAl : Stmt := top 29
abbrev nAl : List Str := ["_law_early"]
theorem scAl : FnScope nAl [] (defScope sAl) := ⟨rfl, rfl, rfl, by decide +kernel, rfl, by decide +kernel, by decide +kernel⟩
theorem has_Al {f : Addr} {fd : FuncData} (F : Fun K "_law_signs" "_law_signs" sAl f fd) (g : mg "_law_signs" = some (.ref f)) (B : Blt mg)  :
    Has P w K mg base 1 "_law_signs" [] spAl := by
  refine has_of F g (F.binds (ps := []) fun _ _ _ _ _ _ us hl => match us, hl with | [], _ => rfl) (F.ok scAl (fun vs H Q E h => ?_) (fun cdv A outer s H vs Q E hr h => ?_))
  · obtain ⟨rfl, _⟩ := h
    rfl
  · refine ⟨_, (pss_cons (ps_set (i := 0) scAl.nd rfl (.inl rfl) pe_str)
        (pss_one (ps_ret (pe_op op_add_str (pv 0) pe_str)))), ?_⟩
    obtain ⟨rfl, k⟩ := h
    refine ⟨_, rfl, _, _, rfl, rfl, small_line (by decide +kernel), ?_⟩
    exact k
end
theorem offs {p : Addr} {H H' : Hp} (off : ∀ b, b ≠ p → H' b = H b) : Same (hide H p) (hide H' p) := fun b o h => by
  unfold hide at h ⊢
  by_cases e : b = p
  · rw [if_pos e] at h; cases h
  · rw [if_neg e] at h ⊢
    rw [off b e]
    exact h
def BldP (K : Frag) (p : Addr) (H H' : Hp) (R : Addr) (ds : List PyData) : Prop := H R = none ∧ R ≠ p ∧ Same (hide H p) (hide (hide H' R) p) ∧ ∃ ys, H' R = some (.lst ys) ∧ DpAll K (hide (hide H' R) p) ys ds
theorem hide_comm {H : Hp} {a b : Addr} : hide (hide H a) b = hide (hide H b) a := by
  funext c
  unfold hide
  by_cases e : c = b
  · rw [if_pos e]
    by_cases e2 : c = a
    · rw [if_pos e2]
    · rw [if_neg e2, if_pos e]
  · rw [if_neg e]
    by_cases e2 : c = a
    · rw [if_pos e2, if_pos e2]
    · rw [if_neg e2, if_neg e2, if_neg e]
theorem BldP.new {K : Frag} {p R : Addr} {H : Hp} (n : H R = none) (ne : R ≠ p) : BldP K p H (L2.upd H R (.lst [])) R [] :=
  ⟨n, ne, hide_mono (hide_of (same_upd n) n), [], upd_same, .nil⟩
theorem BldP.same {K : Frag} {p R : Addr} {H H1 H2 : Hp} {ds : List PyData} (b : BldP K p H H1 R ds) (s : Same H1 H2) : BldP K p H H2 R ds := by
  obtain ⟨n, ne, s0, ys, h, a⟩ := b
  exact ⟨n, ne, s0.trans (hide_mono (hide_mono s)), ys, s _ _ h, dpAll_same (hide_mono (hide_mono s)) a⟩
theorem BldP.draw {K : Frag} {p R : Addr} {H H1 H2 : Hp} {ds : List PyData} (b : BldP K p H H1 R ds) (off : ∀ b, b ≠ p → H2 b = H1 b) : BldP K p H H2 R ds := by
  obtain ⟨n, ne, s0, ys, h, a⟩ := b
  have s : Same (hide (hide H1 R) p) (hide (hide H2 R) p) := by
    rw [hide_comm (a := R), hide_comm (a := R)]
    exact hide_mono (offs off)
  exact ⟨n, ne, s0.trans s, ys, by rw [off R ne]; exact h, dpAll_same s a⟩
theorem BldP.put {K : Frag} {p R : Addr} {H H1 : Hp} {ds : List PyData} (b : BldP K p H H1 R ds) : ∃ ys, H1 R = some (.lst ys) ∧ ys.length = ds.length ∧ ∀ v d, Dp K (hide (hide H1 R) p) v d → BldP K p H (L2.upd H1 R (.lst (ys ++ [v]))) R (ds ++ [d]) := by
  obtain ⟨n, ne, s0, ys, h, a⟩ := b
  exact ⟨ys, h, dpLen a, fun v d hd => ⟨n, ne, s0.trans (hide_mono hide_upd), _, upd_same, dpApp (dpAll_same (hide_mono hide_upd) a) (.cons (dp_same (hide_mono hide_upd) hd) .nil)⟩⟩
theorem BldP.two {K : Frag} {p R T : Addr} {H H1 : Hp} {ds : List PyData} (b : BldP K p H H1 R ds) {o : HO} (hp : H1 p = some o) (n : H1 T = none) (x y : Str) : Dp K (hide (hide (L2.upd H1 T (.tup [.str x, .str y])) R) p) (.ref T) (.tuple [.str x, .str y]) := by
  obtain ⟨_, ne, s0, ys, h, a⟩ := b
  exact .tup (SqT.of (hide_ne (hide_ne upd_same (fun e => by rw [e, h] at n; cases n)) (fun e => by rw [e, hp] at n; cases n))) (.cons (.str _) (.cons (.str _) .nil))
theorem pick_of (ws : List Str) {r : Nat} (h : r < ws.length) : ∃ x ∈ ws, (ws.map V.str)[r]? = some (V.str x) := ⟨ws[r], List.getElem_mem h, by rw [List.getElem?_map, List.getElem?_eq_getElem h]; rfl⟩
theorem pick_cs (z : Str) {r : Nat} (h : r < z.length) : ∃ c ∈ cs z, (cs z)[r]? = some c := by
  rw [len_cs] at h
  exact ⟨(cs z)[r], List.getElem_mem h, List.getElem?_eq_getElem h⟩
theorem Pu.put {H : Hp} {p a : Addr} {n : Nat} {o : HO} (h : Pu H p n) (ne : a ≠ p) : Pu (L2.upd H a o) p n := by
  obtain ⟨x, y, z, e, r⟩ := h
  exact ⟨x, y, z, by rw [upd_ne (Ne.symm ne)]; exact e, r⟩
theorem Pu.some {H : Hp} {p : Addr} {n : Nat} (h : Pu H p n) : ∃ o, H p = some o := by
  obtain ⟨x, y, z, e, r⟩ := h
  exact ⟨_, e⟩
theorem Pu.ne {H : Hp} {p a : Addr} {n : Nat} (h : Pu H p n) (e : H a = none) : a ≠ p := fun z => by
  obtain ⟨o, h⟩ := h.some
  rw [z, h] at e
  cases e
end Qb
end PySem
namespace PySem
namespace Qb
open PySem.W PySem.Calls PyProof.Rows L2
theorem dp_ints {K : Frag} {H : Hp} : ∀ ns : List Int, DpAll K H (ns.map V.int) (ns.map PyData.int)
  | [] => .nil
  | n :: ns => .cons (.int n) (dp_ints ns)
theorem sh_int (n : Int) : Sh 0 (.int n) := ⟨by rw [PyData.canLay0.eq_3], Nat.le_of_eq rfl⟩
theorem sh_ints (ns : List Int) : Sh 1 (.list (ns.map PyData.int)) := sh_lst fun d m => by
  obtain ⟨n, _, rfl⟩ := List.mem_map.mp m
  exact sh_int n
theorem dp_intV {K : Frag} {H : Hp} (ns : List Nat) : DpAll K H (intV ns) (ns.map fun n => PyData.int ((n : Nat) : Int)) := by
  have z := dp_ints (K := K) (H := H) (ns.map fun n : Nat => ((n : Nat) : Int))
  rw [List.map_map, List.map_map] at z
  exact z
theorem sh_nats (ns : List Nat) : Sh 1 (.list (ns.map fun n => PyData.int ((n : Nat) : Int))) := sh_lst fun d m => by
  obtain ⟨n, _, rfl⟩ := List.mem_map.mp m
  exact sh_int n
def spTk (K : Frag) : Sp := fun vs H Q _ => ∃ (v : V) (p : Pt) (c : Nat), vs = [v, .str (sg c)] ∧ Dp K H v p.d ∧ p.good ∧ p.few ∧ ∀ H', Same H H' → Q (.bl (p.takes c)) H'
theorem le_sg (a b : Nat) : (!decide ((sg b).cps.toList < (sg a).cps.toList)) = decide (a ≤ b) := by
  rw [lt_sg]
  by_cases h : a ≤ b
  · rw [decide_eq_true h, decide_eq_false (by omega)]; rfl
  · rw [decide_eq_false h, decide_eq_true (by omega)]; rfl
section
variable {P : Program} {w : World} {K : Frag} {mg : Str → Option Value} {base : Heap}
abbrev sTk : Stmt := top 33
abbrev nTk : List Str := ["_law_part", "_law_sign_here", "_law_low", "_law_high"]
theorem scTk : FnScope nTk ["_law_part", "_law_sign_here"] (defScope sTk) := ⟨rfl, rfl, rfl, by decide +kernel, rfl, by decide +kernel, by decide +kernel⟩
theorem has_Tk {f : Addr} {fd : FuncData} (F : Fun K "_law_takes" "_law_takes" sTk f fd) (g : mg "_law_takes" = some (.ref f)) (B : Blt mg)  :
    Has P w K mg base 1 "_law_takes" ["_law_part", "_law_sign_here"] (spTk K) := by
  refine has_of F g (F.binds (ps := ["_law_part", "_law_sign_here"]) fun _ _ _ _ _ _ us hl => match us, hl with | [_, _], _ => rfl) (F.ok scTk (fun vs H Q E h => ?_) (fun cdv A outer s H vs Q E hr h => ?_))
  · obtain ⟨v, p, c, rfl, _⟩ := h
    rfl
  · refine ⟨_, (pss_cons (ps_if (pt_cmpR op_eq (pe_ix ix_tup (pv 0) pe_int (fun _ _ => rfl)) pe_str (nomark _)) (pss_one (ps_ret (pe_cmpR op_eq (pe_ix ix_tup (pv 0) pe_int (fun _ _ => rfl)) (pv 1) (nomark _)))) pss_nil)
        (pss_cons (ps_if (pt_cmpR op_eq (pe_ix ix_tup (pv 0) pe_int (fun _ _ => rfl)) pe_str (nomark _)) (pss_one (ps_ret (pe_cmpR op_ne (pe_cmpR (op_neD hr.units) (pe_lc (own := [("_law_low", 2), ("_law_high", 3)]) (g := gTup K 2 (gCons (gName 2) (gCons (gName 3) gNil))) rfl scTk.nd (pi_list (pe_ix ix_tup (pv 0) pe_int (fun _ _ => rfl))) (blkOk_by (N := nTk) (sc := defScope sTk) (by decide +kernel)) (fun _ _ _ _ _ => pg_tup rfl (pgs_cons (pg_name (i := 2) scTk.nd rfl (.inl rfl)) (pgs_cons (pg_name (i := 3) scTk.nd rfl (.inl rfl)) pgs_nil))) (fun _ _ _ _ _ => pts_one (PW.pt (pw_and (pt_cmpR op_le_str (pv 2) (pv 1) (nomark _)) (pw_and1 (pt_cmpR op_le_str (pv 1) (pv 3) (nomark _)))))) (fun _ _ _ _ _ => pe_int)) (pe_lst pa_nil) (nomark _)) (pe_ix ix_tup (pv 0) pe_int (fun _ _ => rfl)) (nomark _)))) pss_nil)
        (pss_one (ps_ret pe_bl)))), ?_⟩
    obtain ⟨v, p, c, rfl, hd, hg, hf, k⟩ := h
    cases p with
    | one d =>
      obtain ⟨a, rfl, hq⟩ := dp_two hd
      refine ⟨_, rfl, a, _, 0, .str "one", rfl, rfl, hq, rfl, rfl, _, rfl, if_yes (by simp) ⟨_, rfl, a, _, 1, .str (sg d), rfl, rfl, hq, rfl, _, rfl, rfl, ?_⟩⟩
      rw [show decide (V.str (sg d) = V.str (sg c)) = (d == c) from eq_sg rfl]
      exact k H (Same.refl H)
    | any =>
      obtain ⟨a, xs, rfl, hq, all⟩ := dp_tup hd
      obtain ⟨rfl⟩ : xs = [.str "any"] := by
        cases all with
        | cons h1 t => cases t; obtain rfl := dp_str h1; rfl
      exact ⟨_, rfl, a, _, 0, .str "any", rfl, rfl, hq, rfl, rfl, _, rfl, if_no (by decide +kernel) ⟨_, rfl, a, _, 0, .str "any", rfl, rfl, hq, rfl, rfl, _, rfl, if_no (by decide +kernel) (k H (Same.refl H))⟩⟩
    | lot =>
      obtain ⟨a, xs, rfl, hq, all⟩ := dp_tup hd
      obtain ⟨rfl⟩ : xs = [.str "lot"] := by
        cases all with
        | cons h1 t => cases t; obtain rfl := dp_str h1; rfl
      exact ⟨_, rfl, a, _, 0, .str "lot", rfl, rfl, hq, rfl, rfl, _, rfl, if_no (by decide +kernel) ⟨_, rfl, a, _, 0, .str "lot", rfl, rfl, hq, rfl, rfl, _, rfl, if_no (by decide +kernel) (k H (Same.refl H))⟩⟩
    | of no rs =>
      obtain ⟨a, x, y, rfl, hq, hno, hy⟩ := pc_three hd
      obtain ⟨b, ys, rfl, hb, all⟩ := dp_lst hy
      have ly := dpLen all
      rw [List.length_map] at ly
      have hl : rs.length ≤ 300 := hf
      obtain rfl : x = .bl no := by cases hno; rfl
      clear hno
      refine ⟨_, rfl, a, _, 0, .str "of", rfl, rfl, hq, rfl, rfl, _, rfl, if_no (by decide +kernel) ⟨_, rfl, a, _, 0, .str "of", rfl, rfl, hq, rfl, rfl, _, rfl, if_yes (by simp) ?_⟩⟩
      refine ⟨_, rfl, a, _, 2, .ref b, rfl, rfl, hq, rfl, b, rfl, ⟨_, hb⟩, fun D hD => lc_it (walk_list (xs := ys)) (fun i H' => Same H H' ∧ H' D = some (.lst ((((rs.take i).filter fun r => decide (r.1 ≤ c) && decide (c ≤ r.2)).map fun _ => (1 : Int)).map V.int))) ⟨same_upd hD, upd_same⟩ (fun i H' _ e => e.1.seq hb) (fun i x H' H2 hi e y => ?_) (fun H' e => ?_)⟩
      · obtain ⟨s1, hDt⟩ := e
        obtain ⟨rfl, hx⟩ := y
        obtain ⟨d, hdi, dp⟩ := dpAt' all hx
        rw [List.getElem?_map] at hdi
        obtain ⟨r, hr', rfl⟩ : ∃ r, rs[i]? = some r ∧ rgD r = d := by
          cases z : rs[i]? with
          | none => rw [z] at hdi; cases hdi
          | some r => rw [z] at hdi; exact ⟨r, rfl, Option.some.inj hdi⟩
        obtain ⟨t, rfl, ht⟩ := dp_two (dp_same s1 dp)
        have tk := take_snoc hr'
        refine ⟨t, _, rfl, ht, rfl, _, _, rfl, _, _, rfl, rfl, rfl, ?_⟩
        refine ⟨_, rfl, _, rfl, _, _, rfl, rfl, _, rfl, ?_⟩
        rw [le_sg]
        refine if_by (fun e1 => ⟨_, rfl, _, rfl, _, _, rfl, rfl, _, rfl, ?_⟩) (fun e1 => if_no rfl ⟨s1, ?_⟩)
        · rw [le_sg]
          refine if_by (fun e2 => ⟨_, hDt, ?_, same_upd2 s1 hD, ?_⟩) (fun e2 => ⟨s1, ?_⟩)
          · rw [List.length_map, List.length_map, sizeLine_eq]
            have := List.length_filter_le (fun r : Nat × Nat => decide (r.1 ≤ c) && decide (c ≤ r.2)) (rs.take i)
            rw [List.length_take] at this
            omega
          · rw [upd_same, tk, List.filter_append, List.filter_cons, e1, e2, if_pos (show (true && true) = true from rfl), List.filter_nil, List.map_append, List.map_append]
            rfl
          · rw [hDt, tk, List.filter_append, List.filter_cons, e1, e2, if_neg (by decide), List.filter_nil, List.append_nil]
        · rw [hDt, tk, List.filter_append, List.filter_cons, e1, if_neg (by simp), List.filter_nil, List.append_nil]
      · obtain ⟨s1, hDt⟩ := e
        rw [ly, List.take_length] at hDt
        refine ⟨(by decide : 0 ≤ sizeLine), fun e ne => ?_⟩
        have s2 := same_upd (o := .lst []) ne
        refine ⟨.list _, .list [], .lst (SqL.of (s2 _ _ hDt)) (dp_ints _), .lst (SqL.of upd_same) .nil, sh_ok (sh_ints _), by decide, _, rfl, a, _, 1, .bl no, rfl, rfl, sqT_same (s1.trans s2) hq, rfl, rfl, ?_⟩
        rw [eqv_nil]
        have z := k _ (s1.trans s2)
        have e2 : ((((rs.filter fun r => decide (r.1 ≤ c) && decide (c ≤ r.2)).map fun _ => (1 : Int)).map PyData.int).isEmpty) = !(rs.any fun r => decide (r.1 ≤ c) && decide (c ≤ r.2)) := by
          cases b : (rs.any fun r => decide (r.1 ≤ c) && decide (c ≤ r.2)) with
          | true =>
            obtain ⟨r, m, h⟩ := List.any_eq_true.mp b
            have : r ∈ rs.filter fun r => decide (r.1 ≤ c) && decide (c ≤ r.2) := List.mem_filter.mpr ⟨m, h⟩
            cases e : rs.filter fun r => decide (r.1 ≤ c) && decide (c ≤ r.2) with
            | nil => rw [e] at this; cases this
            | cons _ _ => rfl
          | false =>
            have : rs.filter (fun r => decide (r.1 ≤ c) && decide (c ≤ r.2)) = [] := List.filter_eq_nil_iff.mpr fun r m h => by
              rw [List.any_eq_false] at b
              exact b r m h
            rw [this]
            rfl
        rw [e2]
        have e3 : (!decide (V.bl (!!(rs.any fun r => decide (r.1 ≤ c) && decide (c ≤ r.2))) = V.bl no)) = (Pt.of no rs).takes c := by
          show _ = ((rs.any fun r => decide (r.1 ≤ c) && decide (c ≤ r.2)) != no)
          cases (rs.any fun r => decide (r.1 ≤ c) && decide (c ≤ r.2)) <;> cases no <;> rfl
        rw [e3]
        exact z
end
end Qb
end PySem
namespace PySem
namespace Qb
open PySem.W PySem.Calls PyProof.Rows L2
section
variable {P : Program} {w : World} {A : Around} {E : Value → Shared → Prop} {s : Shared}
/-- a new set's object -/
abbrev newSet (w : World) : Obj := ⟨.type "set", none, .set #[] 0 (.fresh 0 0 (!w.params.followText "set-order")), #[]⟩
/-- a new set takes the numbers of a list -/
theorem init_list {S l : Addr} {us : Array Value} (ns : List Int) {Q : Fin → Shared → Prop} (hh : A.handled = none) (hS : s.heap.get? S = some (newSet w)) (hl : s.heap.IsList l us) (hn : IntsAre us.toList ns) (hb : ns.length + 1 < scanBound)
    (fin : ∀ (h1 : Heap) (tk c : Nat), SetR w h1 S (fun j => decide (j ∈ ns)) c → c ≤ ns.length → (∀ b o, b ≠ S → s.heap.get? b = some o → h1.get? b = some o) → Q (.done (.ret .none)) { s with heap := h1, toks := tk }) :
    wpAny (model P w) A (Builtin.«set.__init__» ⟨[.ref S, .ref l], []⟩) Q E s := by
  have hT : Shared.TypeIs s (.ref S) "set" := ⟨_, hS, rfl⟩
  obtain ⟨ob, e1, e2, k, e3⟩ := id hl
  obtain ⟨cl, dd, da, sl⟩ := ob
  dsimp only at e2 e3
  subst e2 e3
  have hs1 := F.sub_list_set
  have hs2 := F.sub_list_frozenset
  have nd : (Value.type "list" == Value.type "dict") = false := by decide
  unfold Builtin.«set.__init__» noKeywords Builtin.Frozenset.updateFrom
  generalize hPI : pyIter = PI
  wp_walk
  subst hPI
  have lt : ∀ {b : Addr} {o : Obj}, s.heap.get? b = some o → b < s.heap.objs.size := fun h => Heap.lt_size h
  have many : us.size = ns.length := by rw [← Array.length_toList]; exact hn.length
  refine wpAny_pyIter_list hl (wpAny_bind (wpAny_runValue ?_))
  obtain ⟨h0, eh⟩ : ∃ h0 : Heap, h0 = s.heap.push { cls := .type "list_iterator", data := .fields #[.ref l, .int 0 0] } := ⟨_, rfl⟩
  rw [← eh]
  have up : ∀ b o, s.heap.get? b = some o → h0.get? b = some o := fun b o h => by rw [eh]; exact Heap.get?_push_of_some _ h
  have nI : S ∉ [s.heap.objs.size, l] := fun m => by
    rcases List.mem_cons.mp m with z | m
    · exact Nat.lt_irrefl _ (z ▸ lt hS)
    · rw [List.mem_singleton.mp m, e1] at hS
      have z := congrArg Obj.cls (Option.some.inj hS)
      injection z with z
      exact absurd z (by decide)
  have it : h0.IsListIter s.heap.objs.size l 0 := by rw [eh]; exact ⟨_, Heap.get?_push_size _ rfl, rfl, rfl⟩
  refine set_update_ints ((Walks.list (A := A.in1) (by simp [hh]) s.heap.objs.size l (Nat.ne_of_lt (lt e1)) us).toS) S nI ns many hb (fun i v hv => ?_) us.size 0 _ (Nat.sub_zero _) (Nat.zero_le _) ⟨it, hl.imp fun o z => ⟨up _ _ z.1, z.2⟩⟩ ⟨0, Nat.le_refl _, setR_new_at (up _ _ hS)⟩ fun s1 c mv hc hR => ?_
  · have hi : i < ns.length := many ▸ (Array.getElem?_eq_some_iff.mp hv).1
    obtain ⟨t, z⟩ := hn.int_at i v (by rw [Array.getElem?_toList]; exact hv)
    exact ⟨ns[i], t, List.getElem?_eq_getElem hi, by rw [z, List.getD_eq_getElem?_getD, List.getElem?_eq_getElem hi]; rfl⟩
  · obtain ⟨h1, g1, d1, tk1, o1⟩ := s1
    obtain rfl : g1 = s.gens := mv.gens
    obtain rfl : d1 = s.drawn := mv.drawn
    obtain rfl : o1 = s.os := mv.os
    refine wpAny_pure (wpAny_pure (fin h1 tk1 c hR (many ▸ hc) fun b o nb hb => mv.heap b o (fun m => ?_) (up b o hb)))
    rcases List.mem_cons.mp m with z | m
    · exact nb z
    · exact Nat.lt_irrefl _ (List.mem_singleton.mp m ▸ lt hb)
theorem call_set_ints {l : Addr} {us : Array Value} (ns : List Int) {Q : Value → Shared → Prop} (hh : A.handled = none) (hl : s.heap.IsList l us) (hn : IntsAre us.toList ns) (hb : ns.length + 1 < scanBound)
    (fin : ∀ (h1 : Heap) (tk c : Nat), SetR w h1 s.heap.objs.size (fun j => decide (j ∈ ns)) c → c ≤ ns.length → (∀ b o, s.heap.get? b = some o → h1.get? b = some o) → Q (.ref s.heap.objs.size) { s with heap := h1, toks := tk }) :
    wpAny (model P w) A (call (.type "set") [.ref l]) Q E s := by
  obtain ⟨c, tl, hmro⟩ := F.called_set.mro
  have h1 := F.called_set.made
  have h2 := F.called_set.sub
  have h3 := F.called_set.notType
  have h4 := F.called_set.canCreate
  have h5 := F.typeCall_set_1 (.ref l)
  refine wpAny_call (codeAny_of_tree (wpAny_pure ⟨Code.quiet_builtin _ (by decide +kernel), codeAny_builtin F.entry_type_call ?_⟩))
  rw [Around.under_plain (weight_type_call_type "set" [.ref l] []) rfl]
  repeat (any_goals (first | assumption | wp_step))
  refine codeAny_mono (code_set_led1 (.ref l) (E := E) (Q₁ := fun u s1 => u = .ref s.heap.objs.size ∧ s1 = { s with heap := s.heap.push (newSet w) }) ⟨rfl, rfl⟩) fun r s1 hr => ?_
  match r, hr with
  | .error e, hr => exact hr
  | .ok .next, hr => exact hr.elim
  | .ok .brk, hr => exact hr.elim
  | .ok .cont, hr => exact hr.elim
  | .ok (.ret u), hr =>
    obtain ⟨rfl, rfl⟩ := hr
    have hS : (s.heap.push (newSet w)).get? s.heap.objs.size = some (newSet w) := Heap.get?_push_size _ rfl
    have hT : Shared.TypeIs { s with heap := s.heap.push (newSet w) } (.ref s.heap.objs.size) "set" := ⟨_, hS, rfl⟩
    have h6 := F.called_set.init.lookup
    have h7 := F.called_set.init.bind (.ref s.heap.objs.size)
    repeat (any_goals (first | assumption | wp_step))
    refine codeAny_call_builtin F.called_set.init.plain F.entry_set_init (check_set_init_1 hT (init_list ns (by simp [hh]) hS (hl.push _) hn hb fun h1 tk c hR hc kp => ?_))
    exact wpAny_pure (wpAny_pure (fin h1 tk c hR hc fun b o hb => kp b o (Nat.ne_of_lt (Heap.lt_size hb)) (Heap.get?_push_of_some _ hb)))
end
/-- set(xs) of a list of numbers -/
def rSetI (K : PySem.W.Frag) (w : World) : List V → Hp → VK → Prop := fun xs H Q => ∃ (l : Addr) (ns : List Int), xs = [V.ref l] ∧ SqL K H l (ns.map V.int) ∧ ns.length ≤ 1000 ∧
  ∀ (a : Addr) (out : List Int), H a = none → out.Nodup → (∀ k, k ∈ out ↔ k ∈ ns) → Q (.ref a) (L2.upd H a (SetO w a (fun j => decide (j ∈ ns)) out.length))
theorem cr_setI {X : Cx} (hc : X.calm = true) : CallR X (.type "set") (rSetI X.K X.w) := by
  intro pins s σ H xs us Q I r h
  obtain ⟨l, ns, rfl, hq, hl, q⟩ := h
  rw [Vals.ref1 r]
  obtain ⟨its, rv, pl, hz⟩ := I.list hq
  refine call_set_ints ns (I.ok.hd hc) pl.isList (by simpa using ints_of_vals rv) (by unfold scanBound; omega) fun h1 tk c hR hle hk => ?_
  obtain ⟨out, o1, o2, rfl⟩ : ∃ out : List Int, out.Nodup ∧ (∀ k, k ∈ out ↔ k ∈ ns) ∧ out.length = c := by
    obtain ⟨o, es, ep, t, _, _, _, _, nd, mem, _, _, e, _⟩ := id hR
    refine ⟨_, nd, fun k => ?_, by rw [List.length_map, Array.length_toList]; exact e⟩
    rw [← mem k, decide_eq_true_iff]
  exact ⟨.ref _, L2.upd H s.heap.objs.size _, I.laid (t' := tk) hk (Nat.le_refl _) (setO_new hR), rfl, q _ out (I.hok.fresh (Nat.le_refl _)) o1 o2⟩
theorem nodup_len : ∀ (n : Nat) (l : List Nat), l.Nodup → (∀ x ∈ l, x < n) → l.length ≤ n
  | 0, [], _, _ => Nat.le_refl _
  | 0, x :: _, _, h => absurd (h x (.head _)) (Nat.not_lt_zero _)
  | n + 1, l, nd, h => by
    by_cases m : n ∈ l
    · have z := nodup_len n (l.erase n) (nd.erase n) fun x mx => by
        obtain ⟨ne, mx⟩ := nd.mem_erase_iff.mp mx
        have := h x mx
        omega
      rw [List.length_erase_of_mem m] at z
      omega
    · have z := nodup_len n l nd fun x mx => by
        have := h x mx
        have : x ≠ n := fun e => m (e ▸ mx)
        omega
      omega
theorem int_len {n : Nat} {l : List Int} (nd : l.Nodup) (h : ∀ k ∈ l, 0 ≤ k ∧ k < n) : l.length ≤ n := by
  have z := nodup_len n (l.map Int.toNat) ?_ fun x m => ?_
  · rw [List.length_map] at z
    exact z
  · have q : ∀ a ∈ l, ∀ b ∈ l, a ≠ b → a.toNat ≠ b.toNat := fun a ma b mb ne e => by
      have := h a ma
      have := h b mb
      omega
    clear h
    induction nd with
    | nil => exact List.nodup_nil
    | @cons a l na _ ih =>
      rw [List.map_cons, List.nodup_cons]
      refine ⟨fun m => ?_, ih fun x mx y my => q x (.tail _ mx) y (.tail _ my)⟩
      obtain ⟨b, mb, e⟩ := List.mem_map.mp m
      exact q a (.head _) b (.tail _ mb) (na b mb) e.symm
  · obtain ⟨k, mk, rfl⟩ := List.mem_map.mp m
    have := h k mk
    omega
end Qb
end PySem
namespace PySem
namespace Qb
open PySem.W PySem.Calls PyProof.Rows L2
/-! # signs, ranges and pieces that are drawn -/
theorem sgn_at {i : Nat} (h : i < 95) : ∃ c, c ∈ cs signsS ∧ (cs signsS)[i]? = some c := by
  obtain ⟨c, m, e⟩ := pick_cs signsS (r := i) (by rw [show signsS.length = 95 by decide +kernel]; exact h)
  exact ⟨c, m, e⟩
theorem sgn_asc : (cs signsS).Pairwise (· < ·) := by decide +kernel
theorem sgn_le {i j a b : Nat} (h : i ≤ j) (ha : (cs signsS)[i]? = some a) (hb : (cs signsS)[j]? = some b) : a ≤ b := by
  obtain ⟨l1, rfl⟩ := List.getElem?_eq_some_iff.mp ha
  obtain ⟨l2, rfl⟩ := List.getElem?_eq_some_iff.mp hb
  rcases Nat.lt_or_ge i j with z | z
  · exact Nat.le_of_lt (List.pairwise_iff_getElem.mp sgn_asc i j l1 l2 z)
  · obtain rfl : i = j := by omega
    exact Nat.le_refl _
theorem pick_n (ws : List Nat) {r : Nat} (h : r < ws.length) : ∃ x ∈ ws, (ws.map fun n : Nat => V.int ((n : Nat) : Int))[r]? = some (V.int ((x : Nat) : Int)) := ⟨ws[r], List.getElem_mem h, by rw [List.getElem?_map, List.getElem?_eq_getElem h]; rfl⟩
/-- a pair of texts goes into a list that is being made -/
theorem BldP.add2 {K : Frag} {p R T : Addr} {H H1 : Hp} {ds : List PyData} {n : Nat} (b : BldP K p H H1 R ds) (hp : Pu H1 p n) (nT : H1 T = none) (x y : Str) :
    ∃ ys, (L2.upd H1 T (.tup [.str x, .str y])) R = some (.lst ys) ∧ ys.length = ds.length ∧ BldP K p H (L2.upd (L2.upd H1 T (.tup [.str x, .str y])) R (.lst (ys ++ [.ref T]))) R (ds ++ [.tuple [.str x, .str y]]) ∧ Pu (L2.upd (L2.upd H1 T (.tup [.str x, .str y])) R (.lst (ys ++ [.ref T]))) p n := by
  obtain ⟨oo, hoo⟩ := hp.some
  have ne := b.2.1
  obtain ⟨ys, hy, ly, put⟩ := (b.same (same_upd (o := .tup [.str x, .str y]) nT)).put
  exact ⟨ys, hy, ly, put _ _ (b.two hoo nT x y), (hp.put (hp.ne nT)).put ne⟩
def spSi : Sp := fun vs H Q _ => ∃ (p : Addr) (n : Nat), vs = [.ref p] ∧ n ≤ 9000 ∧ Pu H p n ∧ ∀ (H' : Hp) (c : Nat), c ∈ cs signsS → Pu H' p (n + 2) → Same (hide H p) (hide H' p) → Q (.str (sg c)) H'
def okRg (r : Nat × Nat) : Prop := r.1 ∈ cs signsS ∧ r.2 ∈ cs signsS ∧ r.1 ≤ r.2
def spRa (K : Frag) : Sp := fun vs H Q _ => ∃ (p : Addr) (n : Nat), vs = [.ref p] ∧ n ≤ 9000 ∧ Pu H p n ∧ ∀ (H' : Hp) (R : Addr) (rs : List (Nat × Nat)), BldP K p H H' R (rs.map rgD) → rs ≠ [] → rs.length ≤ 8 → (∀ r ∈ rs, okRg r) → Pu H' p (n + 40) → Q (.ref R) H'
def spEn (K : Frag) : Sp := fun vs H Q _ => ∃ (p : Addr) (n : Nat), vs = [.ref p] ∧ n ≤ 8000 ∧ Pu H p n ∧ ∀ (H' : Hp) (v : V) (q : Pt), (∀ D xs, H D = some (.lst xs) → D ≠ p → Dp K (hide (hide H' D) p) v q.d) → q.good → q.few → Pu H' p (n + 50) → Same (hide H p) (hide H' p) → Q v H'
theorem sqT_hideL {K : Frag} {H : Hp} {F a : Addr} {zs xs : List V} (e : H F = some (.lst zs)) (h : SqT K H a xs) : SqT K (hide H F) a xs := by
  rcases h with (h | ⟨o, h⟩) | h
  · exact .inl (.inl (hide_ne h (ne_of h e (by intro z; cases z))))
  · exact .inl (.inr ⟨o, hide_ne h (ne_of h e (by intro z; cases z))⟩)
  · exact .inr h
theorem rg_hideL {K : Frag} {H : Hp} {F : Addr} {zs : List V} (e : H F = some (.lst zs)) {xs : List V} : ∀ {rs : List (Nat × Nat)}, DpAll K H xs (rs.map rgD) → DpAll K (hide H F) xs (rs.map rgD) := by
  intro rs all
  induction rs generalizing xs with
  | nil => cases all; exact .nil
  | cons r rs ih =>
    cases all with
    | cons h1 h2 =>
      obtain ⟨a, ys, rfl, q, al⟩ := dp_tup h1
      refine .cons (.tup (sqT_hideL e q) (strs_hide (fun d m => ?_) al)) (ih h2)
      rcases List.mem_cons.mp m with rfl | m
      · exact ⟨_, rfl⟩
      · rcases List.mem_singleton.mp m with rfl
        exact ⟨_, rfl⟩
abbrev wAb : List Str := ["abc", "ab-"]
theorem wAb_ok : ∀ m ∈ wAb, m.length = 3 ∧ ∀ c ∈ cs m, c ∈ cs signsS := by decide +kernel
section
variable {P : Program} {w : World} {K : Frag} {mg : Str → Option Value} {base : Heap}
abbrev sSi : Stmt := top 30
abbrev nSi : List Str := ["_law_purse_here", "_law_way"]
theorem scSi : FnScope nSi ["_law_purse_here"] (defScope sSi) := ⟨rfl, rfl, rfl, by decide +kernel, rfl, by decide +kernel, by decide +kernel⟩
theorem has_Si {f : Addr} {fd : FuncData} (F : Fun K "_law_sign" "_law_sign" sSi f fd) (g : mg "_law_sign" = some (.ref f)) (B : Blt mg) (hCo : Has P w K mg base 1 "_law_coin" ["_law_purse_here", "_law_many"] spCo) (hAl : Has P w K mg base 1 "_law_signs" [] spAl) :
    Has P w K mg base 2 "_law_sign" ["_law_purse_here"] spSi := by
  obtain ⟨fCo, dCo, gCo, kCo, bCo, GCo⟩ := hCo
  obtain ⟨fAl, dAl, gAl, kAl, bAl, GAl⟩ := hAl
  refine has_of F g (F.binds (ps := ["_law_purse_here"]) fun _ _ _ _ _ _ us hl => match us, hl with | [_], _ => rfl) (F.ok scSi (fun vs H Q E h => ?_) (fun cdv A outer s H vs Q E hr h => ?_))
  · obtain ⟨p, n, rfl, _⟩ := h
    rfl
  · refine ⟨_, (pss_cons (ps_set (i := 1) scSi.nd rfl (.inl rfl) (pe_call GCo hr rfl gCo kCo bCo .nil pass0 (pa_cons (pv 0) (pa_cons pe_int pa_nil))))
        (pss_cons (ps_if (pt_cmpR op_lt (pv 1) pe_int (nomark _)) (pss_one (ps_ret (pe_ix ix_str (pe_ix ix_list (pe_lst (pa_cons pe_str (pa_cons pe_str pa_nil))) (pv 1) (fun _ _ => rfl)) (pe_call GCo hr rfl gCo kCo bCo .nil pass0 (pa_cons (pv 0) (pa_cons pe_int pa_nil))) (fun _ _ => rfl)))) pss_nil)
        (pss_one (ps_ret (pe_ix ix_str (pe_call0 GAl hr rfl gAl kAl bAl .nil pass0) (pe_call GCo hr rfl gCo kCo bCo .nil pass0 (pa_cons (pv 0) (pa_cons pe_int pa_nil))) (fun _ _ => rfl)))))), ?_⟩
    obtain ⟨p, n, rfl, hn, hp, k⟩ := h
    refine ⟨_, rfl, p, 3, n, rfl, by decide, by decide, by omega, hp, fun H1 r hr3 hp1 off1 => ?_⟩
    have s1 := offs off1
    refine ⟨_, rfl, _, _, rfl, rfl, _, rfl, if_by (fun e => ?_) (fun e => ?_)⟩
    · have hr2 : r < 2 := by have := of_decide_eq_true e; omega
      refine ⟨(by decide : 2 ≤ sizeLine), fun L nL => ?_⟩
      have neL := hp1.ne nL
      obtain ⟨m, mm, hm⟩ := pick_of wAb (r := r) hr2
      obtain ⟨lm, om⟩ := wAb_ok m mm
      refine ⟨_, rfl, L, _, _, _, rfl, rfl, SqL.of upd_same, atI_nat hm, ?_⟩
      refine ⟨_, rfl, p, 3, _, rfl, by decide, by decide, by omega, hp1.put neL, fun H2 q hq3 hp2 off2 => ?_⟩
      obtain ⟨c, mc, hc⟩ := pick_cs m (r := q) (by rw [lm]; exact hq3)
      exact ⟨_, _, c, rfl, rfl, small_line (by rw [lm]; decide), atI_nat hc, k H2 c (om c mc) (hp2.le (by omega)) ((s1.trans (hide_mono (same_upd nL))).trans (offs off2))⟩
    · refine ⟨rfl, _, rfl, p, 95, _, rfl, by decide, by decide, by omega, hp1, fun H2 q hq3 hp2 off2 => ?_⟩
      obtain ⟨c, mc, hc⟩ := sgn_at hq3
      exact ⟨_, _, c, rfl, rfl, small_line (by decide +kernel), atI_nat hc, k H2 c mc (hp2.le (by omega)) (s1.trans (offs off2))⟩
abbrev sEn : Stmt := top 32
abbrev nEn : List Str := ["_law_purse_here", "_law_way"]
theorem scEn : FnScope nEn ["_law_purse_here"] (defScope sEn) := ⟨rfl, rfl, rfl, by decide +kernel, rfl, by decide +kernel, by decide +kernel⟩
theorem has_En {f : Addr} {fd : FuncData} (F : Fun K "_law_entry" "_law_entry" sEn f fd) (g : mg "_law_entry" = some (.ref f)) (B : Blt mg) (hCo : Has P w K mg base 1 "_law_coin" ["_law_purse_here", "_law_many"] spCo) (hSi : Has P w K mg base 2 "_law_sign" ["_law_purse_here"] spSi) (hRa : Has P w K mg base 2 "_law_ranges" ["_law_purse_here"] (spRa K)) :
    Has P w K mg base 3 "_law_entry" ["_law_purse_here"] (spEn K) := by
  obtain ⟨fCo, dCo, gCo, kCo, bCo, GCo⟩ := hCo
  obtain ⟨fSi, dSi, gSi, kSi, bSi, GSi⟩ := hSi
  obtain ⟨fRa, dRa, gRa, kRa, bRa, GRa⟩ := hRa
  refine has_of F g (F.binds (ps := ["_law_purse_here"]) fun _ _ _ _ _ _ us hl => match us, hl with | [_], _ => rfl) (F.ok scEn (fun vs H Q E h => ?_) (fun cdv A outer s H vs Q E hr h => ?_))
  · obtain ⟨p, n, rfl, _⟩ := h
    rfl
  · refine ⟨_, (pss_cons (ps_set (i := 1) scEn.nd rfl (.inl rfl) (pe_call GCo (hr.mono (by decide)) rfl gCo kCo bCo .nil pass0 (pa_cons (pv 0) (pa_cons pe_int pa_nil))))
        (pss_cons (ps_if (pt_cmpR op_lt (pv 1) pe_int (nomark _)) (pss_one (ps_ret (pe_tup (pa_cons pe_str pa_nil)))) pss_nil)
        (pss_cons (ps_if (pt_cmpR op_eq (pv 1) pe_int (nomark _)) (pss_one (ps_ret (pe_tup (pa_cons pe_str pa_nil)))) pss_nil)
        (pss_cons (ps_if (pt_cmpR op_lt (pv 1) pe_int (nomark _)) (pss_one (ps_ret (pe_tup (pa_cons pe_str (pa_cons (pe_call GSi hr rfl gSi kSi bSi .nil pass0 (pa_cons (pv 0) pa_nil)) pa_nil))))) pss_nil)
        (pss_one (ps_ret (pe_tup (pa_cons pe_str (pa_cons (pe_cmpR op_eq (pv 1) pe_int (nomark _)) (pa_cons (pe_call GRa hr rfl gRa kRa bRa .nil pass0 (pa_cons (pv 0) pa_nil)) pa_nil)))))))))), ?_⟩
    obtain ⟨p, n, rfl, hn, hp, k⟩ := h
    refine ⟨_, rfl, p, 7, n, rfl, by decide, by decide, by omega, hp, fun H1 r hr7 hp1 off1 => ?_⟩
    have s1 := offs off1
    have old1 : ∀ D xs, H D = some (.lst xs) → D ≠ p → H1 D = some (.lst xs) := fun D xs h ne => by rw [off1 D ne]; exact h
    have neT : ∀ {H2 : Hp} {T D : Addr} {xs : List V}, H2 T = none → H2 D = some (.lst xs) → T ≠ D := fun h1 h2 z => by rw [z, h2] at h1; cases h1
    refine ⟨_, rfl, _, _, rfl, rfl, _, rfl, if_by (fun _ => ?_) (fun _ => ?_)⟩
    · refine ⟨(by decide : 1 ≤ sizeLine), fun T nT => k _ _ .lot (fun D xs h ne => .tup (SqT.of (hide_ne (hide_ne upd_same (neT nT (old1 D xs h ne))) (hp1.ne nT))) (.cons (.str _) .nil)) trivial trivial ((hp1.put (hp1.ne nT)).le (by omega)) (s1.trans (hide_mono (same_upd nT)))⟩
    refine ⟨_, rfl, rfl, _, rfl, if_by (fun _ => ?_) (fun _ => ?_)⟩
    · refine ⟨(by decide : 1 ≤ sizeLine), fun T nT => k _ _ .any (fun D xs h ne => .tup (SqT.of (hide_ne (hide_ne upd_same (neT nT (old1 D xs h ne))) (hp1.ne nT))) (.cons (.str _) .nil)) trivial trivial ((hp1.put (hp1.ne nT)).le (by omega)) (s1.trans (hide_mono (same_upd nT)))⟩
    refine ⟨_, rfl, _, _, rfl, rfl, _, rfl, if_by (fun _ => ?_) (fun _ => ?_)⟩
    · refine ⟨_, rfl, p, _, rfl, by omega, hp1, fun H2 c mc hp2 s2 => ⟨(by decide : 2 ≤ sizeLine), fun T nT => ?_⟩⟩
      exact k _ _ (.one c) (fun D xs h ne => .tup (SqT.of (hide_ne (hide_ne upd_same (neT nT (hide_same _ _ (s2 _ _ (hide_ne (old1 D xs h ne) ne))))) (hp2.ne nT))) (.cons (.str _) (.cons (.str _) .nil))) mc trivial ((hp2.put (hp2.ne nT)).le (by omega)) ((s1.trans s2).trans (hide_mono (same_upd nT)))
    · refine ⟨_, rfl, rfl, _, rfl, p, _, rfl, by omega, hp1, fun H2 R rs b2 nn l8 okr hp2 => ⟨(by decide : 3 ≤ sizeLine), fun T nT => ?_⟩⟩
      obtain ⟨nR, neR, s2, ys, hR, al⟩ := b2
      have s3 := same_upd (o := .tup [.str "of", .bl (decide (V.int ((r : Nat) : Int) = V.int 5)), .ref R]) nT
      refine k _ _ (.of (decide (V.int ((r : Nat) : Int) = V.int 5)) rs) (fun D xs h ne => ?_) ⟨nn, okr⟩ (by show rs.length ≤ 300; omega) ((hp2.put (hp2.ne nT)).le (by omega)) ((s1.trans (s2.trans (hide_mono hide_same))).trans (hide_mono s3))
      have hD1 := old1 D xs h ne
      have hD2 : H2 D = some (.lst xs) := hide_same _ _ (hide_same _ _ (s2 _ _ (hide_ne hD1 ne)))
      have neR2 : R ≠ D := neT nR hD1
      have al2 : DpAll K (hide (hide H2 R) p) ys (rs.map rgD) := al
      have hD3 : (hide (hide H2 R) p) D = some (.lst xs) := hide_ne (hide_ne hD2 (Ne.symm neR2)) ne
      have al3 := rg_hideL hD3 al2
      refine .tup (SqT.of (hide_ne (hide_ne upd_same (neT nT hD2)) (hp2.ne nT))) (.cons (.str _) (.cons (.bl _) (.cons (.lst (SqL.of (hide_ne (hide_ne (s3 _ _ hR) neR2) neR)) ?_) .nil)))
      refine dpAll_same (H := hide (hide (hide H2 R) p) D) (fun b o hb => ?_) al3
      unfold hide at hb
      split at hb
      · cases hb
      · rename_i nb1
        split at hb
        · cases hb
        · rename_i nb2
          split at hb
          · cases hb
          · exact hide_ne (hide_ne (s3 _ _ hb) nb1) nb2
end
end Qb
end PySem
namespace PySem
namespace Qb
open PySem.W PySem.Calls PyProof.Rows L2
/-! # the lengths by the law's own walk -/
theorem asc_len {n : Nat} : ∀ {E : List Nat} (lo : Nat), Asc E → (∀ a ∈ E, lo ≤ a ∧ a ≤ n) → E.length ≤ n + 1 - lo
  | [], _, _, _ => Nat.zero_le _
  | e :: E, lo, h, b => by
    obtain ⟨h1, h2⟩ := List.pairwise_cons.mp h
    have be := b e (.head _)
    have z := asc_len (n := n) (E := E) (e + 1) h2 fun a m => ⟨h1 a m, (b a (.tail _ m)).2⟩
    rw [List.length_cons]
    omega
theorem EndsAt.lens {ps : List Pt} {w E : List Nat} (h : EndsAt ps w E) : E.length ≤ w.length + 1 := by
  have := asc_len (n := w.length) 0 h.1 fun a m => ⟨Nat.zero_le _, ((h.2 a).mp m).1⟩
  omega
def knd : Pt → Str
  | .one _ => "one"
  | .any => "any"
  | .lot => "lot"
  | .of _ _ => "of"
theorem knd_lot (p : Pt) : decide (V.str (knd p) = V.str "lot") = p.isLot := by
  cases p <;> rfl
def isOne : Pt → Bool
  | .one _ => true
  | _ => false
theorem knd_one (p : Pt) : decide (V.str (knd p) = V.str "one") = isOne p := by
  cases p <;> rfl
theorem pt_kind {K : Frag} {H : Hp} {v : V} {p : Pt} (h : Dp K H v p.d) : ∃ t ys, v = .ref t ∧ SqT K H t (.str (knd p) :: ys) := by
  cases p with
  | one c => obtain ⟨t, rfl, q⟩ := dp_two h; exact ⟨t, _, rfl, q⟩
  | any =>
    obtain ⟨t, ys, rfl, q, al⟩ := dp_tup h
    cases al with
    | cons h1 h2 => obtain rfl := dp_str h1; exact ⟨t, _, rfl, q⟩
  | lot =>
    obtain ⟨t, ys, rfl, q, al⟩ := dp_tup h
    cases al with
    | cons h1 h2 => obtain rfl := dp_str h1; exact ⟨t, _, rfl, q⟩
  | of _ _ =>
    obtain ⟨t, ys, rfl, q, al⟩ := dp_tup h
    cases al with
    | cons h1 h2 => obtain rfl := dp_str h1; exact ⟨t, _, rfl, q⟩
theorem intV_at {E : List Nat} {i : Nat} {x : V} (h : (intV E)[i]? = some x) : ∃ c, E[i]? = some c ∧ x = .int ((c : Nat) : Int) := by
  unfold intV at h
  rw [List.getElem?_map] at h
  cases e : E[i]? with
  | none => rw [e] at h; cases h
  | some c => rw [e] at h; exact ⟨c, rfl, (Option.some.inj h).symm⟩
theorem intV_len (E : List Nat) : (intV E).length = E.length := by
  unfold intV
  rw [List.length_map]
theorem filter_snoc {α : Type} {p : α → Bool} {l : List α} {i : Nat} {x : α} (h : l[i]? = some x) : (l.take (i + 1)).filter p = (l.take i).filter p ++ (if p x = true then [x] else []) := by
  rw [take_snoc h, List.filter_append, List.filter_cons, List.filter_nil]
theorem range_snoc {p : Nat → Bool} (i : Nat) : (List.range (i + 1)).filter p = (List.range i).filter p ++ (if p i = true then [i] else []) := by
  rw [List.range_succ, List.filter_append, List.filter_cons, List.filter_nil]
abbrev rLenX (K : PySem.W.Frag) : List V → Hp → VK → Prop := fun xs H Q => ∃ x n, xs = [x] ∧ LenV K x H n ∧ Q (.int n) H
end Qb
end PySem
namespace PySem
namespace Qb
open PySem.W PySem.Calls PyProof.Rows L2
/-! # a text that is drawn -/
theorem str_ext {x y : Str} (h : cs x = cs y) : x = y := by
  cases x with | mk a =>
  cases y with | mk b =>
  have : a = b := Array.toList_inj.mp h
  rw [this]
theorem joinL_sg : ∀ l : List Nat, TL.joinL [] ((l.map sg).map TL.tl) = l
  | [] => rfl
  | [c] => rfl
  | c :: d :: r => by
    have ih := joinL_sg (d :: r)
    show [c] ++ ([] ++ TL.joinL [] (((d :: r).map sg).map TL.tl)) = _
    rw [ih]
    rfl
theorem join_sg (l : List Nat) : Txt.join "" (l.map sg) = (⟨l.toArray⟩ : Str) := by
  refine str_ext ?_
  rw [TL.join_eq]
  have e : cs (Str.join "" (l.map sg)) = TL.joinL [] ((l.map sg).map TL.tl) := TL.tl_join "" (l.map sg)
  rw [e, joinL_sg]
theorem sum_sg : ∀ l : List Nat, ((l.map sg).map (·.length)).sum = l.length
  | [] => rfl
  | c :: l => by
    rw [List.map_cons, List.map_cons, List.sum_cons, sum_sg l, List.length_cons]
    show 1 + l.length = _
    omega
theorem cs_app (x y : Str) : cs (x ++ y) = cs x ++ cs y := TL.tl_append x y
theorem BldP.draws {K : Frag} {p R : Addr} {H H1 H2 : Hp} {ds : List PyData} (b : BldP K p H H1 R ds) (s : Same (hide H1 p) (hide H2 p)) : BldP K p H H2 R ds := by
  obtain ⟨n, ne, s0, ys, h, a⟩ := b
  have s2 : Same (hide (hide H1 R) p) (hide (hide H2 R) p) := by
    rw [hide_comm (a := R), hide_comm (a := R)]
    exact hide_mono s
  exact ⟨n, ne, s0.trans s2, ys, hide_same _ _ (s _ _ (hide_ne h ne)), dpAll_same s2 a⟩
theorem dp_sgs {K : Frag} {H : Hp} : ∀ {cl : List Nat} {ys : List V}, DpAll K H ys (cl.map fun c => PyData.str (sg c)) → ys = (cl.map sg).map V.str
  | [], _, .nil => rfl
  | c :: cl, _, .cons h t => by
    obtain rfl := dp_str h
    rw [dp_sgs t]
    rfl
def okZ (z : Str) : Prop := ∀ c ∈ cs z, c ∈ cs signsS
theorem okZ.app {x y : Str} (hx : okZ x) (hy : okZ y) : okZ (x ++ y) := fun c m => by
  rw [cs_app] at m
  rcases List.mem_append.mp m with m | m
  · exact hx c m
  · exact hy c m
theorem okZ_nil : okZ "" := fun c m => by cases m
def spLi (K : Frag) : Sp := fun vs H Q _ => ∃ (p : Addr) (v : V) (ps : List Pt) (n : Nat), vs = [.ref p, v] ∧ n ≤ 7000 ∧ Pu H p n ∧ Dp K (hide H p) v (.list (ps.map Pt.d)) ∧ ps.length ≤ 60 ∧ (∀ q ∈ ps, q.good ∧ q.few) ∧
  ∀ (H' : Hp) (z : Str), okZ z → (cs z).length ≤ 180 → Pu H' p (n + 600) → Same (hide H p) (hide H' p) → Q (.str z) H'
section
variable {P : Program} {w : World} {K : Frag} {mg : Str → Option Value} {base : Heap}
abbrev sLi : Stmt := top 35
abbrev nLi : List Str := ["_law_purse_here", "_law_row", "_law_line_here", "_law_part", "_law_turn", "_law_some", "_law_sign_here"]
theorem scLi : FnScope nLi ["_law_purse_here", "_law_row"] (defScope sLi) := ⟨rfl, rfl, rfl, by decide +kernel, rfl, by decide +kernel, by decide +kernel⟩
theorem has_Li {f : Addr} {fd : FuncData} (F : Fun K "_law_line" "_law_line" sLi f fd) (g : mg "_law_line" = some (.ref f)) (B : Blt mg) (hCo : Has P w K mg base 1 "_law_coin" ["_law_purse_here", "_law_many"] spCo) (hSi : Has P w K mg base 2 "_law_sign" ["_law_purse_here"] spSi) (hTk : Has P w K mg base 1 "_law_takes" ["_law_part", "_law_sign_here"] (spTk K)) (hAl : Has P w K mg base 1 "_law_signs" [] spAl) :
    Has P w K mg base 3 "_law_line" ["_law_purse_here", "_law_row"] (spLi K) := by
  obtain ⟨fCo, dCo, gCo, kCo, bCo, GCo⟩ := hCo
  obtain ⟨fSi, dSi, gSi, kSi, bSi, GSi⟩ := hSi
  obtain ⟨fTk, dTk, gTk, kTk, bTk, GTk⟩ := hTk
  obtain ⟨fAl, dAl, gAl, kAl, bAl, GAl⟩ := hAl
  refine has_of F g (F.binds (ps := ["_law_purse_here", "_law_row"]) fun _ _ _ _ _ _ us hl => match us, hl with | [_, _], _ => rfl) (F.ok scLi (fun vs H Q E h => ?_) (fun cdv A outer s H vs Q E hr h => ?_))
  · obtain ⟨p, v, ps, n, rfl, _⟩ := h
    rfl
  · refine ⟨_, (pss_cons (ps_set (i := 2) scLi.nd rfl (.inl rfl) pe_str)
        (pss_cons (ps_for PassesOwn.never rfl (pi_list (pv 1)) (pg_name (i := 3) scLi.nd rfl (.inr rfl))
          (pss_one (ps_if (pt_cmpR op_eq (pe_ix ix_tup (pv 3) pe_int (fun _ _ => rfl)) pe_str (nomark _)) (pss_one (ps_set (i := 2) scLi.nd rfl (.inl rfl) (pe_op op_add_str (pv 2) (pe_join pe_str (pe_lc (own := [("_law_turn", 4)]) (g := gName 4) (tt := tYes) rfl scLi.nd (pi_range1 (by rfl) B.range (pa_cons (pe_call GCo (hr.mono (by decide)) rfl gCo kCo bCo .nil pass0 (pa_cons (pv 0) (pa_cons pe_int pa_nil))) pa_nil)) (blkOk_by (N := nLi) (sc := defScope sLi) (by decide +kernel)) (fun _ _ _ _ _ => pg_name (i := 4) scLi.nd rfl (.inl rfl)) (fun _ _ _ _ _ => pts_nil) (fun _ _ _ _ _ => (pe_call GSi hr rfl gSi kSi bSi .nil pass0 (pa_cons (pv 0) pa_nil)))))))) (pss_one (ps_if (pt_cmpR op_eq (pe_ix ix_tup (pv 3) pe_int (fun _ _ => rfl)) pe_str (nomark _)) (pss_one (ps_set (i := 2) scLi.nd rfl (.inl rfl) (pe_op op_add_str (pv 2) (pe_ix ix_tup (pv 3) pe_int (fun _ _ => rfl))))) (pss_cons (ps_setLc (i := 5) (own := [("_law_sign_here", 6)]) (g := gName 6) (tt := tB (tCall (spTk K) [] E0 (tCons (tVar 3) (tCons (tVar 6) tNil)))) rfl scLi.nd rfl rfl (sw_true rfl rfl rfl (by decide +kernel)) (pi_str (pe_call0 GAl (hr.mono (by decide)) rfl gAl kAl bAl .nil pass0)) (blkOk_by (N := nLi) (sc := defScope sLi) (by decide +kernel)) (fun _ _ _ _ _ => pg_name (i := 6) scLi.nd rfl (.inl rfl)) (fun _ _ _ _ _ => pts_one (pt_val (pe_call GTk (hr.mono (by decide)) rfl gTk kTk bTk .nil pass0 (pa_cons (pv 3) (pa_cons (pv 6) pa_nil))))) (fun _ _ _ _ _ => (pv 6)))
              (pss_one (ps_if (pt_cmpR (op_neD hr.units) (pv 5) (pe_lst pa_nil) (nomark _)) (pss_one (ps_set (i := 2) scLi.nd rfl (.inl rfl) (pe_op op_add_str (pv 2) (pe_ix ix_list (pv 5) (pe_call GCo (hr.mono (by decide)) rfl gCo kCo bCo .nil pass0 (pa_cons (pv 0) (pa_cons (pe_callB call_len_seq (by rfl) B.len PySem.boot_len (pa_cons (pv 5) pa_nil)) pa_nil))) (fun _ _ => rfl))))) pss_nil))))))))
        (pss_one (ps_ret (pv 2))))), ?_⟩
    obtain ⟨p, v, ps, n, rfl, hn, hp, hd, lp, hg, k⟩ := h
    obtain ⟨a, xs, rfl, hq, all⟩ := dp_lst hd
    have lx := dpLen all
    rw [List.length_map] at lx
    refine ⟨_, rfl, a, rfl, ⟨_, hide_same.seq hq⟩, for_list (xs := xs) (fun i σ H' => ∃ (z : Str) (x3 x4 x5 x6 : Option V), σ = [some (.ref p), some (.ref a), some (.str z), x3, x4, x5, x6] ∧ Pu H' p (n + 10 * i) ∧ Same (hide H p) (hide H' p) ∧ okZ z ∧ (cs z).length ≤ 3 * i) ⟨"", _, _, _, _, rfl, hp, Same.refl _, okZ_nil, Nat.le_refl _⟩ (fun i σ H' _ e => ?_) (fun i x σ H' hx e => ?_) (fun σ H' e => ?_)⟩
    · obtain ⟨z, x3, x4, x5, x6, _, _, s1, _⟩ := e
      exact (s1.trans hide_same).seq hq
    · obtain ⟨z, x3, x4, x5, x6, rfl, hp1, s1, oz, lz⟩ := e
      obtain ⟨q, hq2, dq⟩ := pt_at all hx
      have gq := hg q (List.mem_of_getElem? hq2)
      have hi : i < ps.length := (List.getElem?_eq_some_iff.mp hq2).1
      have dq1 := dp_same (s1.trans hide_same) dq
      obtain ⟨t, ys, rfl, ht⟩ := pt_kind dq1
      have sz : z.length ≤ 200 := by rw [len_cs]; omega
      refine ⟨_, rfl, t, _, 0, .str (knd q), rfl, rfl, ht, atI_nat (j := 0) rfl, rfl, _, rfl, ?_⟩
      rw [knd_lot]
      refine if_by (fun e1 => ?_) (fun e1 => ?_)
      · refine ⟨_, rfl, ⟨_, rfl⟩, _, rfl, p, 3, _, rfl, by decide, by decide, by omega, hp1, fun H2 r hr3 hp2 off2 => ⟨_, rfl, by omega, by omega, fun D hD => ?_⟩⟩
        have neD := hp2.ne hD
        refine lc_it (walk_range (lo := 0) (n := r)) (fun j H3 => Pu H3 p (n + 10 * i + 1 + 2 * j) ∧ ∃ cl : List Nat, BldP K p H2 H3 D (cl.map fun c => PyData.str (sg c)) ∧ cl.length = j ∧ ∀ c ∈ cl, c ∈ cs signsS) ⟨hp2.put neD, [], BldP.new hD neD, rfl, by simp⟩ (fun _ _ _ _ => trivial) (fun j x H3 H4 hj e y => ?_) (fun H3 e => ?_)
        · obtain ⟨hp3, cl, b3, lcl, ocl⟩ := e
          obtain ⟨rfl, rfl⟩ := y
          refine ⟨rfl, _, rfl, p, _, rfl, by omega, hp3, fun H5 c mc hp5 s5 => ?_⟩
          obtain ⟨zs, hz, lzs, put⟩ := (b3.draws s5).put
          refine ⟨zs, hz, by rw [lzs, List.length_map, lcl, sizeLine_eq]; omega, (hp5.put neD).le (by omega), cl ++ [c], ?_, by rw [List.length_append, lcl]; rfl, fun d md => ?_⟩
          · rw [List.map_append]
            exact put _ _ (.str _)
          · rcases List.mem_append.mp md with md | md
            · exact ocl d md
            · rcases List.mem_singleton.mp md with rfl
              exact mc
        · obtain ⟨hp3, cl, b3, lcl, ocl⟩ := e
          obtain ⟨nD, _, s3, zs, hz, dz⟩ := b3
          obtain rfl := dp_sgs dz
          refine ⟨"", D, cl.map sg, rfl, rfl, .inl (SqL.of hz), ?_, ?_⟩
          · rw [sum_sg, List.length_map, lcl]
            show _ + _ * 0 ≤ _
            omega
          rw [join_sg]
          have lw : (cs (⟨cl.toArray⟩ : Str)).length = r := by
            show cl.toArray.toList.length = r
            simpa using lcl
          refine ⟨_, _, rfl, rfl, by rw [sizeLine_eq, len_cs, len_cs, lw]; omega, _, _, _, _, _, rfl, hp3.le (by omega), (s1.trans (offs off2)).trans (s3.trans (hide_mono hide_same)), oz.app fun c m => ocl c (by simpa using m), ?_⟩
          rw [cs_app, List.length_append, lw]
          omega
      · refine ⟨_, rfl, t, _, 0, .str (knd q), rfl, rfl, ht, atI_nat (j := 0) rfl, rfl, _, rfl, ?_⟩
        rw [knd_one]
        refine if_by (fun e2 => ?_) (fun e2 => ?_)
        · cases q with
          | one c =>
            obtain ⟨t', e', ht'⟩ := dp_two dq1
            cases e'
            refine ⟨_, rfl, _, rfl, t, _, 1, .str (sg c), rfl, rfl, ht', rfl, _, _, rfl, rfl, by rw [sizeLine_eq]; show _ + 1 ≤ _; omega, _, _, _, _, _, rfl, hp1.le (by omega), s1, oz.app fun d md => ?_, ?_⟩
            · rcases List.mem_singleton.mp (show d ∈ [c] from md) with rfl
              exact gq.1
            · rw [cs_app, List.length_append]
              show _ + 1 ≤ _
              omega
          | any => cases e2
          | lot => cases e2
          | of _ _ => cases e2
        · refine ⟨rfl, signsS, rfl, fun D hD => ?_⟩
          have neD := hp1.ne hD
          refine lc_it walk_str (fun j H3 => Same H' H3 ∧ H3 D = some (.lst (((((cs signsS).take j).filter q.takes).map sg).map V.str))) ⟨same_upd hD, upd_same⟩ (fun _ _ _ _ => trivial) (fun j x H3 H4 hj e y => ?_) (fun H3 e => ?_)
          · obtain ⟨s3, hD3⟩ := e
            obtain ⟨rfl, c, hc, rfl⟩ := y
            have hc' := cps_at.mp hc
            refine ⟨rfl, _, rfl, _, rfl, .ref t, q, c, rfl, dp_same s3 dq1, gq.1, gq.2, fun H5 s5 => ⟨_, rfl, ?_⟩⟩
            refine if_by (fun e3 => ?_) (fun e3 => ⟨s3.trans s5, ?_⟩)
            · refine ⟨_, rfl, _, s5 _ _ hD3, ?_, same_upd2 (s3.trans s5) hD, ?_⟩
              · rw [List.length_map, List.length_map, sizeLine_eq]
                have h1 := List.length_filter_le q.takes ((cs signsS).take j)
                have h2 : ((cs signsS).take j).length ≤ (cs signsS).length := by rw [List.length_take]; omega
                have h3 : (cs signsS).length = 95 := by decide +kernel
                omega
              · rw [upd_same, filter_snoc hc', e3, if_pos rfl, List.map_append, List.map_append]
                rfl
            · rw [s5 _ _ hD3, filter_snoc hc', e3, if_neg (by decide), List.append_nil]
          · obtain ⟨s3, hD3⟩ := e
            rw [cps_len, List.take_length] at hD3
            have hw : ∀ c ∈ (cs signsS).filter q.takes, c ∈ cs signsS := fun c m => (List.mem_filter.mp m).1
            have lw : ((cs signsS).filter q.takes).length ≤ 95 := by
              have h1 := List.length_filter_le q.takes (cs signsS)
              have h3 : (cs signsS).length = 95 := by decide +kernel
              omega
            generalize (cs signsS).filter q.takes = so at hD3 hw lw
            have dso : DpAll K H3 ((so.map sg).map V.str) (so.map fun c => PyData.str (sg c)) := by
              clear hD3 hw lw
              induction so with
              | nil => exact .nil
              | cons c so ih => exact .cons (.str _) ih
            refine ⟨_, rfl, (by decide : 0 ≤ sizeLine), fun e ne => ?_⟩
            have s4 := same_upd (o := .lst []) ne
            refine ⟨.list _, .list [], .lst (SqL.of (s4 _ _ hD3)) (dpAll_same s4 dso), .lst (SqL.of upd_same) .nil, sh_ok (n := 1) (sh_lst (n := 0) fun d md => ?_), by decide, _, rfl, ?_⟩
            · obtain ⟨c, mc, rfl⟩ := List.mem_map.mp md
              exact sh_str (str_ok_sg (hw c mc))
            rw [eqv_nil]
            have hp4 := (hp1.same s3).same s4
            have s14 := s1.trans (hide_mono (s3.trans s4))
            refine if_by (fun e5 => ?_) (fun e5 => ⟨_, _, _, _, _, rfl, hp4.le (by omega), s14, oz, by omega⟩)
            have l0 : 0 < so.length := by
              cases so with
              | nil => cases e5
              | cons _ _ => simp
            refine ⟨_, rfl, _, rfl, _, rfl, _, rfl, D, _, rfl, .inl (SqL.of (s4 _ _ hD3)), p, so.length, _, ?_, l0, by omega, by omega, hp4, fun H6 r hr6 hp6 off6 => ?_⟩
            · rw [List.length_map, List.length_map]
              rfl
            have hD6 : H6 D = some (.lst ((so.map sg).map V.str)) := by rw [off6 D neD]; exact s4 _ _ hD3
            refine ⟨D, _, _, .str (sg so[r]), rfl, rfl, SqL.of hD6, atI_nat (by rw [List.getElem?_map, List.getElem?_map, List.getElem?_eq_getElem hr6]; rfl), _, _, rfl, rfl, by rw [sizeLine_eq]; show _ + 1 ≤ _; omega, _, _, _, _, _, rfl, hp6.le (by omega), s14.trans (offs off6), oz.app fun d md => ?_, ?_⟩
            · rcases List.mem_singleton.mp (show d ∈ [so[r]] from md) with rfl
              exact hw _ (List.getElem_mem hr6)
            · rw [cs_app, List.length_append]
              show _ + 1 ≤ _
              omega
    · obtain ⟨z, x3, x4, x5, x6, rfl, hp1, s1, oz, lz⟩ := e
      exact ⟨_, rfl, k H' z oz (by omega) (hp1.le (by omega)) s1⟩
end
end Qb
end PySem
namespace PySem
namespace Qb
open PySem.W PySem.Calls PyProof.Rows L2
/-! # a text that is bent -/
theorem cut_sub {z : Str} {lo hi : Option Int} : ∀ c ∈ cs (cutS z lo hi), c ∈ cs z := fun c m => by
  have m : c ∈ ((z.cps.toList.drop (HT.sIx z.length 0 lo)).take (HT.sIx z.length z.length hi - HT.sIx z.length 0 lo)) := by simpa [cutS] using m
  exact List.mem_of_mem_drop (List.mem_of_mem_take m)
def spBe : Sp := fun vs H Q _ => ∃ (p : Addr) (z : Str) (n : Nat), vs = [.ref p, .str z] ∧ n ≤ 8000 ∧ Pu H p n ∧ okZ z ∧ (cs z).length ≤ 200 ∧
  ∀ (H' : Hp) (y : Str), okZ y → (cs y).length ≤ 401 → Pu H' p (n + 10) → Same (hide H p) (hide H' p) → Q (.str y) H'
section
variable {P : Program} {w : World} {K : Frag} {mg : Str → Option Value} {base : Heap}
abbrev sBe : Stmt := top 36
abbrev nBe : List Str := ["_law_purse_here", "_law_line_here", "_law_way", "_law_place"]
theorem scBe : FnScope nBe ["_law_purse_here", "_law_line_here"] (defScope sBe) := ⟨rfl, rfl, rfl, by decide +kernel, rfl, by decide +kernel, by decide +kernel⟩
theorem has_Be {f : Addr} {fd : FuncData} (F : Fun K "_law_bent" "_law_bent" sBe f fd) (g : mg "_law_bent" = some (.ref f)) (B : Blt mg) (hCo : Has P w K mg base 1 "_law_coin" ["_law_purse_here", "_law_many"] spCo) (hSi : Has P w K mg base 2 "_law_sign" ["_law_purse_here"] spSi) :
    Has P w K mg base 3 "_law_bent" ["_law_purse_here", "_law_line_here"] spBe := by
  obtain ⟨fCo, dCo, gCo, kCo, bCo, GCo⟩ := hCo
  obtain ⟨fSi, dSi, gSi, kSi, bSi, GSi⟩ := hSi
  refine has_of F g (F.binds (ps := ["_law_purse_here", "_law_line_here"]) fun _ _ _ _ _ _ us hl => match us, hl with | [_, _], _ => rfl) (F.ok scBe (fun vs H Q E h => ?_) (fun cdv A outer s H vs Q E hr h => ?_))
  · obtain ⟨p, z, n, rfl, _⟩ := h
    rfl
  · refine ⟨_, (pss_cons (ps_set (i := 2) scBe.nd rfl (.inl rfl) (pe_call GCo (hr.mono (by decide)) rfl gCo kCo bCo .nil pass0 (pa_cons (pv 0) (pa_cons pe_int pa_nil))))
        (pss_cons (ps_set (i := 3) scBe.nd rfl (.inl rfl) (pe_call GCo (hr.mono (by decide)) rfl gCo kCo bCo .nil pass0 (pa_cons (pv 0) (pa_cons (pe_op op_add (pe_callB call_len (by rfl) B.len PySem.boot_len (pa_cons (pv 1) pa_nil)) pe_int) pa_nil))))
        (pss_cons (ps_if (pt_cmpR op_lt (pv 2) pe_int (nomark _)) (pss_one (ps_ret (pv 1))) pss_nil)
        (pss_one (ps_ret (pe_op op_add_str (pe_op op_add_str (pe_slice sl_str (pv 1) po_none (po_some (pv 3))) (pe_ix ix_list (pe_lst (pa_cons pe_str (pa_cons (pe_call GSi hr rfl gSi kSi bSi .nil pass0 (pa_cons (pv 0) pa_nil)) (pa_cons (pe_call GSi hr rfl gSi kSi bSi .nil pass0 (pa_cons (pv 0) pa_nil)) pa_nil)))) (pe_op op_sub (pv 2) pe_int) (fun _ _ => rfl))) (pe_slice sl_str (pv 1) (po_some (pe_op op_add (pv 3) (pe_ix ix_list (pe_lst (pa_cons pe_int (pa_cons pe_int (pa_cons pe_int pa_nil)))) (pe_op op_sub (pv 2) pe_int) (fun _ _ => rfl)))) po_none))))))), ?_⟩
    obtain ⟨p, z, n, rfl, hn, hp, oz, lz, k⟩ := h
    have sz : z.length ≤ 200 := by rw [len_cs]; exact lz
    have szl : z.length ≤ sizeLine := small_line (by omega)
    refine ⟨_, rfl, p, 5, n, rfl, by decide, by decide, by omega, hp, fun H1 wy hw hp1 off1 => ?_⟩
    refine ⟨_, rfl, _, rfl, .str z, z.length, rfl, ⟨szl, rfl⟩, _, _, rfl, rfl, p, z.length + 1, _, rfl, by omega, by omega, by omega, hp1, fun H2 pl hpl hp2 off2 => ?_⟩
    have s2 := (offs off1).trans (offs off2)
    refine ⟨_, rfl, _, _, rfl, rfl, _, rfl, if_by (fun e => ?_) (fun e => ?_)⟩
    · exact ⟨_, rfl, k H2 z oz (by omega) (hp2.le (by omega)) s2⟩
    · have hw3 : wy = 2 ∨ wy = 3 ∨ wy = 4 := by have := of_decide_eq_false e; omega
      refine ⟨_, rfl, _, rfl, _, rfl, z, rfl, szl, ?_⟩
      refine ⟨_, rfl, p, _, rfl, by omega, hp2, fun H3 c mc hp3 s3 => ?_⟩
      refine ⟨_, rfl, p, _, rfl, by omega, hp3, fun H4 d md hp4 s4 => ⟨(by decide : 3 ≤ sizeLine), fun L nL => ?_⟩⟩
      have hp5 := hp4.put (o := .lst [.str "", .str (sg c), .str (sg d)]) (hp4.ne nL)
      have s5 := ((s2.trans s3).trans s4).trans (hide_mono (same_upd (o := .lst [.str "", .str (sg c), .str (sg d)]) nL))
      have fin : ∀ (x : Str) (m : Int), x ∈ [("" : Str), sg c, sg d] →
          (cutS z none (some ((pl : Nat) : Int))).length + x.length ≤ sizeLine ∧ (cutS z none (some ((pl : Nat) : Int)) ++ x).length + (cutS z (some m) none).length ≤ sizeLine ∧
          (cs (cutS z none (some ((pl : Nat) : Int)) ++ x ++ cutS z (some m) none)).length ≤ 401 ∧ okZ (cutS z none (some ((pl : Nat) : Int)) ++ x ++ cutS z (some m) none) := by
        intro x m mx
        have l1 := cutS_length z none (some ((pl : Nat) : Int))
        have l2 := cutS_length z (some m) none
        have ox : okZ x ∧ x.length ≤ 1 := by
          rcases List.mem_cons.mp mx with rfl | mx
          · exact ⟨okZ_nil, Nat.zero_le _⟩
          rcases List.mem_cons.mp mx with rfl | mx
          · exact ⟨fun b mb => by rcases List.mem_singleton.mp (show b ∈ [c] from mb) with rfl; exact mc, Nat.le_refl _⟩
          · rcases List.mem_singleton.mp mx with rfl
            exact ⟨fun b mb => by rcases List.mem_singleton.mp (show b ∈ [d] from mb) with rfl; exact md, Nat.le_refl _⟩
        have oc1 : okZ (cutS z none (some ((pl : Nat) : Int))) := fun b mb => oz b (cut_sub b mb)
        have oc2 : okZ (cutS z (some m) none) := fun b mb => oz b (cut_sub b mb)
        have la : (cutS z none (some ((pl : Nat) : Int)) ++ x).length = (cutS z none (some ((pl : Nat) : Int))).length + x.length := by
          rw [len_cs, cs_app, List.length_append, ← len_cs, ← len_cs]
        have ox2 := ox.2
        refine ⟨by rw [sizeLine_eq]; omega, by rw [la, sizeLine_eq]; omega, ?_, (oc1.app ox.1).app oc2⟩
        rw [cs_app, List.length_append, ← len_cs, ← len_cs, la]
        omega
      have m1 : ("" : Str) ∈ [("" : Str), sg c, sg d] := .head _
      have m2 : sg c ∈ [("" : Str), sg c, sg d] := .tail _ (.head _)
      have m3 : sg d ∈ [("" : Str), sg c, sg d] := .tail _ (.tail _ (.head _))
      rcases hw3 with rfl | rfl | rfl
      · refine ⟨_, rfl, _, _, rfl, rfl, L, _, _, .str "", rfl, rfl, SqL.of upd_same, rfl, _, _, rfl, rfl, (fin _ 0 m1).1, _, rfl, _, rfl, (by decide : 3 ≤ sizeLine), fun L2 nL2 => ⟨_, rfl, _, _, rfl, rfl, L2, _, _, .int 1, rfl, rfl, SqL.of upd_same, rfl, _, _, rfl, rfl, _, rfl, z, rfl, szl, _, _, rfl, rfl, (fin _ _ m1).2.1, k _ _ (fin _ _ m1).2.2.2 (fin _ _ m1).2.2.1 ((hp5.put (hp5.ne nL2)).le (by omega)) (s5.trans (hide_mono (same_upd nL2)))⟩⟩
      · refine ⟨_, rfl, _, _, rfl, rfl, L, _, _, .str (sg c), rfl, rfl, SqL.of upd_same, rfl, _, _, rfl, rfl, (fin _ 0 m2).1, _, rfl, _, rfl, (by decide : 3 ≤ sizeLine), fun L2 nL2 => ⟨_, rfl, _, _, rfl, rfl, L2, _, _, .int 0, rfl, rfl, SqL.of upd_same, rfl, _, _, rfl, rfl, _, rfl, z, rfl, szl, _, _, rfl, rfl, (fin _ _ m2).2.1, k _ _ (fin _ _ m2).2.2.2 (fin _ _ m2).2.2.1 ((hp5.put (hp5.ne nL2)).le (by omega)) (s5.trans (hide_mono (same_upd nL2)))⟩⟩
      · refine ⟨_, rfl, _, _, rfl, rfl, L, _, _, .str (sg d), rfl, rfl, SqL.of upd_same, rfl, _, _, rfl, rfl, (fin _ 0 m3).1, _, rfl, _, rfl, (by decide : 3 ≤ sizeLine), fun L2 nL2 => ⟨_, rfl, _, _, rfl, rfl, L2, _, _, .int 1, rfl, rfl, SqL.of upd_same, rfl, _, _, rfl, rfl, _, rfl, z, rfl, szl, _, _, rfl, rfl, (fin _ _ m3).2.1, k _ _ (fin _ _ m3).2.2.2 (fin _ _ m3).2.2.1 ((hp5.put (hp5.ne nL2)).le (by omega)) (s5.trans (hide_mono (same_upd nL2)))⟩⟩
end
end Qb
end PySem
namespace PySem
namespace Qb
open PySem.W PySem.Calls PyProof.Rows L2
/-! # one text and one pattern -/
theorem pl_str (n : Nat) (x : Str) : Pl n (.str x) := by
  cases n with
  | zero => exact .inl ⟨x, rfl⟩
  | succ n => exact .inl (.inl ⟨x, rfl⟩)
theorem pl_pt {p : Pt} (h : p.few) : Pl 3 p.d := by
  cases p with
  | one c => exact .inr ⟨_, .inr rfl, by show 2 ≤ 1000; decide, fun e m => by
      rcases List.mem_cons.mp m with rfl | m
      · exact pl_str 2 _
      · rcases List.mem_singleton.mp m with rfl
        exact pl_str 2 _⟩
  | any => exact .inr ⟨_, .inr rfl, by show 1 ≤ 1000; decide, fun e m => by
      rcases List.mem_singleton.mp m with rfl
      exact pl_str 2 _⟩
  | lot => exact .inr ⟨_, .inr rfl, by show 1 ≤ 1000; decide, fun e m => by
      rcases List.mem_singleton.mp m with rfl
      exact pl_str 2 _⟩
  | of no rs => exact .inr ⟨_, .inr rfl, by show 3 ≤ 1000; decide, fun e m => by
      rcases List.mem_cons.mp m with rfl | m
      · exact pl_str 2 _
      rcases List.mem_cons.mp m with rfl | m
      · exact .inl (.inr (.inl ⟨no, rfl⟩))
      · rcases List.mem_singleton.mp m with rfl
        have hf : rs.length ≤ 300 := h
        refine .inr ⟨_, .inl rfl, by rw [List.length_map]; omega, fun e m => ?_⟩
        obtain ⟨r, mr, rfl⟩ := List.mem_map.mp m
        exact .inr ⟨_, .inr rfl, by show 2 ≤ 1000; decide, fun e m => by
          rcases List.mem_cons.mp m with rfl | m
          · exact pl_str 0 _
          · rcases List.mem_singleton.mp m with rfl
            exact pl_str 0 _⟩⟩
theorem pl_pts {ps : List Pt} (h : ∀ p ∈ ps, p.few) (hl : ps.length ≤ 1000) : Pl 4 (.list (ps.map Pt.d)) :=
  .inr ⟨_, .inl rfl, by rw [List.length_map]; exact hl, fun e m => by
    obtain ⟨p, mp, rfl⟩ := List.mem_map.mp m
    exact pl_pt (h p mp)⟩
def natsD (ns : List Nat) : PyData := .list (ns.map fun n => PyData.int ((n : Nat) : Int))
theorem pl_nats {ns : List Nat} (h : ns.length ≤ 1001 - 1) : Pl 4 (natsD ns) :=
  .inr ⟨_, .inl rfl, by rw [List.length_map]; omega, fun e m => by
    obtain ⟨n, _, rfl⟩ := List.mem_map.mp m
    exact .inl (.inr (.inr (.inl ⟨_, rfl⟩)))⟩
theorem dp_nats {K : Frag} {H : Hp} {F : Addr} {ns : List Nat} (h : H F = some (.lst (intV ns))) : Dp K H (.ref F) (natsD ns) := .lst (SqL.of h) (dp_intV _)
theorem vals_rev {zs : List V} {ws : List Value} (r : Vals zs ws) : Vals zs.reverse ws.reverse := by
  induction r with
  | nil => exact .nil
  | cons h t ih =>
    rw [List.reverse_cons, List.reverse_cons]
    exact ih.append (.cons h .nil)
/-- a def of a pattern and a text, called also with its arguments' names the other way round -/
def HasR (P : Program) (w : World) (K : Frag) (mg : Str → Option Value) (base : Heap) (k : Nat) (x : Str) (ps ks : List Str) (sp : Sp) : Prop :=
  ∃ (f : Addr) (fd : FuncData), mg x = some (.ref f) ∧ PySem.W.keepIn K (.ref f) = true ∧ Binds K fd ps [] ∧ KBinds K fd ps ks (fun us ws => us ++ ws.reverse) (fun vs zs => vs ++ zs.reverse) ∧ FnOk P w K mg base CX0 k f fd ps sp
theorem in_nats {n : Nat} {E : List Nat} : inV (.int ((n : Nat) : Int)) (intV E) = true ↔ n ∈ E := by
  unfold inV intV
  rw [List.any_map, List.any_eq_true]
  constructor
  · rintro ⟨m, mm, h⟩
    have h : eqV (V.int ((m : Nat) : Int)) (.int ((n : Nat) : Int)) = true := h
    have e : ((m : Nat) : Int) = ((n : Nat) : Int) := by simpa [eqV] using h
    rw [show n = m by omega]
    exact mm
  · intro m
    exact ⟨n, m, by show (((n : Nat) : Int) == ((n : Nat) : Int)) = true; simp⟩
theorem flat_nats (E : List Nat) : (intV E).all flatV = true := by
  unfold intV
  rw [List.all_map, List.all_eq_true]
  intro n _
  rfl
def spHo (K : Frag) : Sp := fun vs H Q _ => ∃ (v : V) (ps : List Pt) (z : Str), vs = [v, .str z] ∧ Inp K H v ps z ∧ (cs z).length ≤ 900 ∧ ∀ H', Same H H' → Q (.bl true) H'
end Qb
end PySem
namespace PySem
namespace Qb
open PySem.W PySem.Calls PyProof.Rows L2
theorem cut_from (xs : List V) (i : Nat) : cutV xs (some (i : Nat)) none = xs.drop i := by
  unfold cutV
  rw [show HT.sIx xs.length 0 (some ((i : Nat) : Int)) = min i xs.length by
    unfold HT.sIx
    simp
    omega]
  rw [show HT.sIx xs.length xs.length none = xs.length by rfl]
  rcases Nat.lt_or_ge i xs.length with h | h
  · rw [Nat.min_eq_left (Nat.le_of_lt h), List.take_of_length_le (by rw [List.length_drop]; omega)]
  · rw [Nat.min_eq_right h, List.drop_eq_nil_of_le h, List.drop_eq_nil_of_le (Nat.le_refl _)]
    simp
theorem cut_to (xs : List V) (i : Nat) : cutV xs none (some (i : Nat)) = xs.take i := by
  unfold cutV
  rw [show HT.sIx xs.length xs.length (some ((i : Nat) : Int)) = min i xs.length by
    unfold HT.sIx
    simp
    omega]
  rw [show HT.sIx xs.length 0 none = 0 by rfl, List.drop_zero, Nat.sub_zero]
  rcases Nat.lt_or_ge i xs.length with h | h
  · rw [Nat.min_eq_left (Nat.le_of_lt h)]
  · rw [Nat.min_eq_right h, List.take_of_length_le (Nat.le_refl _), List.take_of_length_le h]
end Qb
end PySem
namespace PySem
namespace Qb
open PySem.W PySem.Calls PyProof.Rows L2
/-! # the least sign of a set -/
theorem odd_part : ∀ {n : Nat}, n ≠ 0 → ∃ j m, n = 2 ^ j * (2 * m + 1) := by
  intro n
  induction n using Nat.strongRecOn with
  | _ n ih =>
    intro h
    rcases Nat.mod_two_eq_zero_or_one n with e | e
    · obtain ⟨j, m, z⟩ := ih (n / 2) (by omega) (by omega)
      refine ⟨j + 1, m, ?_⟩
      rw [Nat.pow_succ, Nat.mul_right_comm, ← z]
      omega
    · exact ⟨0, n / 2, by omega⟩
theorem and_pred (j m : Nat) : (2 ^ j * (2 * m + 1)) &&& (2 ^ j * (2 * m + 1) - 1) = 2 ^ (j + 1) * m := by
  have h1 : 2 ^ j * (2 * m + 1) = 2 ^ (j + 1) * m + 2 ^ j := by rw [Nat.pow_succ, Nat.mul_add, Nat.mul_one, Nat.mul_assoc]
  have p0 : 0 < 2 ^ j := Nat.pow_pos (by decide)
  have h2 : 2 ^ j * (2 * m + 1) - 1 = 2 ^ (j + 1) * m + (2 ^ j - 1) := by rw [h1]; omega
  have p1 : 2 ^ j < 2 ^ (j + 1) := Nat.pow_lt_pow_right (by decide) (by omega)
  rw [h2, h1]
  refine Nat.eq_of_testBit_eq fun q => ?_
  have h3 := Nat.testBit_two_pow_mul_add m (b := 0) (i := j + 1) (Nat.pow_pos (by decide)) q
  rw [Nat.add_zero] at h3
  rw [Nat.testBit_and, h3, Nat.testBit_two_pow_mul_add m p1, Nat.testBit_two_pow_mul_add m (b := 2 ^ j - 1) (by omega)]
  by_cases c : q < j + 1
  · rw [if_pos c, if_pos c, if_pos c, Nat.zero_testBit, Nat.testBit_two_pow, Nat.testBit_two_pow_sub_one]
    by_cases e : j = q
    · subst e
      rw [decide_eq_false (Nat.lt_irrefl _), Bool.and_false]
    · rw [decide_eq_false e, Bool.false_and]
  · rw [if_neg c, if_neg c, if_neg c, Bool.and_self]
def low (n : Nat) : Nat := Nat.log2 (n - (n &&& (n - 1)))
theorem low_of {n : Nat} (h : n ≠ 0) : n - (n &&& (n - 1)) = 2 ^ low n ∧ n.testBit (low n) = true := by
  obtain ⟨j, m, rfl⟩ := odd_part h
  have e : 2 ^ j * (2 * m + 1) - ((2 ^ j * (2 * m + 1)) &&& (2 ^ j * (2 * m + 1) - 1)) = 2 ^ j := by
    have h1 : 2 ^ j * (2 * m + 1) = 2 ^ (j + 1) * m + 2 ^ j := by rw [Nat.pow_succ, Nat.mul_add, Nat.mul_one, Nat.mul_assoc]
    rw [and_pred, h1, Nat.add_sub_cancel_left]
  have z : low (2 ^ j * (2 * m + 1)) = j := by
    unfold low
    rw [e, Nat.log2_two_pow]
  rw [z]
  refine ⟨e, ?_⟩
  have h1 : 2 ^ j * (2 * m + 1) = 2 ^ (j + 1) * m + 2 ^ j := by rw [Nat.pow_succ, Nat.mul_add, Nat.mul_one, Nat.mul_assoc]
  rw [h1, Nat.testBit_two_pow_mul_add m (Nat.pow_lt_pow_right (by decide) (by omega)), if_pos (by omega), Nat.testBit_two_pow, decide_eq_true rfl]
theorem low_int {n : Nat} (h : n ≠ 0) : ((Builtin.Int.intBits (Builtin.bitAnd ((n : Nat) : Int) (-((n : Nat) : Int))) : Nat) : Int) - 1 = ((low n : Nat) : Int) := by
  have e : Builtin.bitAnd ((n : Nat) : Int) (-((n : Nat) : Int)) = ((2 ^ low n : Nat) : Int) := by
    rw [bitAnd_pn (Int.natCast_nonneg _) (by omega), ← (low_of h).1]
    have z : (Builtin.bitNot (-((n : Nat) : Int))).toNat = n - 1 := by
      unfold Builtin.bitNot
      omega
    have y : (n &&& (n - 1)) ≤ n := Nat.and_le_left
    rw [z, Int.toNat_natCast]
    omega
  rw [e]
  unfold Builtin.Int.intBits
  have p0 : (2 ^ low n) ≠ 0 := Nat.ne_of_gt (Nat.pow_pos (by decide))
  rw [if_neg (fun z => p0 (by have := eq_of_beq z; omega)), Int.natAbs_natCast, Nat.log2_two_pow]
  omega
def leastC (n : Nat) : Nat := (cs signsS).getD (low n) 0
theorem ix_back : ∀ j < 95, (cs signsS).getD j 0 ∈ cs signsS ∧ ixS ((cs signsS).getD j 0) = j := by decide +kernel
theorem or_lt {rs : List (Nat × Nat)} (h : ∀ r ∈ rs, r.1 ∈ cs signsS ∧ r.2 ∈ cs signsS ∧ r.1 ≤ r.2) {q : Nat} (hq : (orS rs).testBit q = true) : q < 95 := by
  unfold orS at hq
  rw [or_bit, Nat.zero_testBit, Bool.false_or] at hq
  obtain ⟨r, m, hr⟩ := List.any_eq_true.mp hq
  obtain ⟨h1, h2, h3⟩ := h r m
  rw [rg_bit ((ix_le h1 h2).mpr h3), Bool.and_eq_true] at hr
  have := of_decide_eq_true hr.2
  have := ixS_lt _ h2
  omega
theorem set_lt {p : Pt} (hg : p.good) {q : Nat} (h : (setN p).testBit q = true) : q < 95 := by
  have all : (2 ^ 95 - 1).testBit q = true → q < 95 := fun z => by
    rw [Nat.testBit_two_pow_sub_one] at z
    exact of_decide_eq_true z
  cases p with
  | one c =>
    have z : (2 ^ ixS c).testBit q = true := h
    rw [Nat.testBit_two_pow] at z
    have := of_decide_eq_true z
    have := ixS_lt c hg
    omega
  | any => exact all h
  | lot => exact all h
  | of no rs =>
    have z : (if no = true then (2 ^ 95 - 1) ^^^ orS rs else orS rs).testBit q = true := h
    cases no with
    | false => exact or_lt hg.2 z
    | true =>
      rw [if_pos rfl, Nat.testBit_xor] at z
      cases e : (orS rs).testBit q with
      | true => exact or_lt hg.2 e
      | false => rw [e, Bool.xor_false] at z; exact all z
/-- a piece's least sign -/
theorem least_ok {p : Pt} (hg : p.good) (hl : p.isLot = false) (h : setN p ≠ 0) : low (setN p) < 95 ∧ leastC (setN p) ∈ cs signsS ∧ p.takes (leastC (setN p)) = true := by
  have hb := (low_of h).2
  have l := set_lt hg hb
  obtain ⟨h1, h2⟩ := ix_back _ l
  refine ⟨l, h1, ?_⟩
  show p.takes ((cs signsS).getD (low (setN p)) 0) = true
  rw [← set_bit hg hl h1, h2]
  exact hb
def isN (p : Pt) : Bool := !p.isLot
/-- the signs of the least text, where there is one -/
def lstOf (ps : List Pt) : Option (List Nat) := if (ps.filter isN).any (fun p => setN p == 0) = true then none else some ((ps.filter isN).map fun p => leastC (setN p))
theorem lst_app (ps qs : List Pt) : lstOf (ps ++ qs) = match lstOf ps, lstOf qs with
    | some a, some b => some (a ++ b)
    | _, _ => none := by
  unfold lstOf
  rw [List.filter_append, List.any_append, List.map_append]
  cases (ps.filter isN).any (fun p => setN p == 0) <;> cases (qs.filter isN).any (fun p => setN p == 0) <;> rfl
theorem lst_signs {ps : List Pt} (hg : ∀ p ∈ ps, p.good) {l : List Nat} (h : lstOf ps = some l) : ∀ c ∈ l, c ∈ cs signsS := by
  unfold lstOf at h
  split at h
  · cases h
  · rename_i no
    obtain rfl := Option.some.inj h
    intro c m
    obtain ⟨p, mp, rfl⟩ := List.mem_map.mp m
    obtain ⟨mp, np⟩ := List.mem_filter.mp mp
    refine (least_ok (hg p mp) ?_ fun z => ?_).2.1
    · unfold isN at np
      cases e : p.isLot with
      | true => rw [e] at np; cases np
      | false => rfl
    · exact no (List.any_eq_true.mpr ⟨p, List.mem_filter.mpr ⟨mp, np⟩, by rw [z]; rfl⟩)
theorem lst_len {ps : List Pt} {l : List Nat} (h : lstOf ps = some l) : l.length ≤ ps.length := by
  unfold lstOf at h
  split at h
  · cases h
  · obtain rfl := Option.some.inj h
    rw [List.length_map]
    exact List.length_filter_le _ _
theorem lst_cons (p : Pt) (ps : List Pt) : lstOf (p :: ps) = if p.isLot = true then lstOf ps else if setN p = 0 then none else (lstOf ps).map (leastC (setN p) :: ·) := by
  have e : (p :: ps).filter isN = if p.isLot = true then ps.filter isN else p :: ps.filter isN := by
    rw [List.filter_cons]
    unfold isN
    cases p.isLot <;> rfl
  unfold lstOf
  rw [e]
  cases hp : p.isLot with
  | true => rw [if_pos rfl, if_pos rfl]
  | false =>
    rw [if_neg Bool.false_ne_true, if_neg Bool.false_ne_true, List.any_cons, List.map_cons]
    by_cases z : setN p = 0
    · rw [if_pos z, z]
      rfl
    · rw [if_neg z, beq_eq_false_iff_ne.mpr z, Bool.false_or]
      split <;> rfl
theorem lst_met : ∀ {ps : List Pt} {l : List Nat}, (∀ p ∈ ps, p.good) → lstOf ps = some l → M ps l
  | [], l, _, h => by
    obtain rfl := Option.some.inj h
    rfl
  | p :: ps, l, hg, h => by
    rw [lst_cons] at h
    cases hp : p.isLot with
    | true =>
      rw [hp, if_pos rfl] at h
      obtain rfl := isLot_eq hp
      exact M_lot.mpr ⟨0, Nat.zero_le _, lst_met (fun q m => hg q (.tail _ m)) h⟩
    | false =>
      rw [hp, if_neg (by decide)] at h
      by_cases z : setN p = 0
      · rw [if_pos z] at h
        cases h
      · rw [if_neg z] at h
        cases e : lstOf ps with
        | none => rw [e] at h; cases h
        | some k =>
          rw [e] at h
          obtain rfl := Option.some.inj h
          exact (M_one hp).mpr ⟨_, _, rfl, (least_ok (hg p (.head _)) hp z).2.2, lst_met (fun q m => hg q (.tail _ m)) e⟩
/-- turned about -/
theorem M_rev : ∀ {ps : List Pt} {w : List Nat}, M ps w → M ps.reverse w.reverse
  | [], w, h => by
    obtain rfl : w = [] := h
    rfl
  | p :: ps, w, h => by
    rw [List.reverse_cons]
    cases hp : p.isLot with
    | true =>
      obtain rfl := isLot_eq hp
      obtain ⟨k, hk, h⟩ := M_lot.mp h
      have z := M_rev h
      refine M_append.mpr ⟨w.length - k, by rw [List.length_reverse]; omega, ?_, M_lot.mpr ⟨(w.reverse.drop (w.length - k)).length, Nat.le_refl _, by rw [List.drop_length]; rfl⟩⟩
      rw [List.reverse_drop] at z
      exact z
    | false =>
      obtain ⟨c, v, rfl, ht, h⟩ := (M_one hp).mp h
      have z := M_rev h
      rw [List.reverse_cons]
      refine M_append.mpr ⟨v.length, by simp, ?_, (M_one hp).mpr ⟨c, [], ?_, ht, rfl⟩⟩
      · rw [List.take_append_of_le_length (by simp), List.take_of_length_le (by simp)]
        exact z
      · rw [List.drop_append_of_le_length (by simp), List.drop_of_length_le (by simp)]
        rfl
theorem M_turn {ps : List Pt} {w : List Nat} : M ps.reverse w.reverse ↔ M ps w :=
  ⟨fun h => by have z := M_rev h; rwa [List.reverse_reverse, List.reverse_reverse] at z, M_rev⟩
end Qb
end PySem
namespace PySem
namespace Qb
open PySem.W PySem.Calls PyProof.Rows L2
def spLs : Sp := fun vs H Q _ => ∃ n : Nat, vs = [.int ((n : Nat) : Int)] ∧ n ≠ 0 ∧ low n < 95 ∧ Q (.str (sg (leastC n))) H
def lstV : Option (List Nat) → V
  | none => .non
  | some l => .str ⟨l.toArray⟩
def spLt (K : Frag) : Sp := fun vs H Q _ => ∃ (v : V) (ps : List Pt), vs = [v] ∧ Dp K H v (.list (ps.map Pt.d)) ∧ ps.length ≤ 60 ∧ (∀ p ∈ ps, p.good ∧ p.few) ∧ ∀ H', Same H H' → Q (lstV (lstOf ps)) H'
section
variable {P : Program} {w : World} {K : Frag} {mg : Str → Option Value} {base : Heap}
abbrev sRa : Stmt := top 31
abbrev nRa : List Str := ["_law_purse_here", "_law_ranges_here", "_law_turn", "_law_low"]
theorem scRa : FnScope nRa ["_law_purse_here"] (defScope sRa) := ⟨rfl, rfl, rfl, by decide +kernel, rfl, by decide +kernel, by decide +kernel⟩
theorem has_Ra {f : Addr} {fd : FuncData} (F : Fun K "_law_ranges" "_law_ranges" sRa f fd) (g : mg "_law_ranges" = some (.ref f)) (B : Blt mg) (hCo : Has P w K mg base 1 "_law_coin" ["_law_purse_here", "_law_many"] spCo) (hAl : Has P w K mg base 1 "_law_signs" [] spAl) :
    Has P w K mg base 2 "_law_ranges" ["_law_purse_here"] (spRa K) := by
  obtain ⟨fCo, dCo, gCo, kCo, bCo, GCo⟩ := hCo
  obtain ⟨fAl, dAl, gAl, kAl, bAl, GAl⟩ := hAl
  refine has_of F g (F.binds (ps := ["_law_purse_here"]) fun _ _ _ _ _ _ us hl => match us, hl with | [_], _ => rfl) (F.ok scRa (fun vs H Q E h => ?_) (fun cdv A outer s H vs Q E hr h => ?_))
  · obtain ⟨p, n, rfl, _⟩ := h
    rfl
  · refine ⟨_, (pss_cons (ps_set (i := 1) scRa.nd rfl (.inl rfl) (pe_lst pa_nil))
        (pss_cons (ps_for PassesOwn.never rfl (pi_range1 (by rfl) B.range (pa_cons (pe_op op_add pe_int (pe_call GCo hr rfl gCo kCo bCo .nil pass0 (pa_cons (pv 0) (pa_cons pe_int pa_nil)))) pa_nil)) (pg_name (i := 2) scRa.nd rfl (.inl rfl))
          (pss_one (ps_if (pt_cmpR op_eq (pe_call GCo hr rfl gCo kCo bCo .nil pass0 (pa_cons (pv 0) (pa_cons pe_int pa_nil))) pe_int (nomark _)) (pss_cons (ps_set (i := 3) scRa.nd rfl (.inl rfl) (pe_op op_add pe_int (pe_call GCo hr rfl gCo kCo bCo .nil pass0 (pa_cons (pv 0) (pa_cons pe_int pa_nil)))))
            (pss_one (ps_expr (pe_bm PySem.F.plainAttrs_list PySem.F.slot_list_append PySem.F.type_list_append mt_append (pv 1) (pa_cons (pe_tup (pa_cons (pe_ix ix_str (pe_call0 GAl hr rfl gAl kAl bAl .nil pass0) (pv 3) (fun _ _ => rfl)) (pa_cons (pe_ix ix_str (pe_call0 GAl hr rfl gAl kAl bAl .nil pass0) (pe_op op_add (pv 3) (pe_call GCo hr rfl gCo kCo bCo .nil pass0 (pa_cons (pv 0) (pa_cons pe_int pa_nil)))) (fun _ _ => rfl)) pa_nil))) pa_nil))))) (pss_cons (ps_set (i := 3) scRa.nd rfl (.inl rfl) (pe_call GCo hr rfl gCo kCo bCo .nil pass0 (pa_cons (pv 0) (pa_cons pe_int pa_nil))))
            (pss_one (ps_expr (pe_bm PySem.F.plainAttrs_list PySem.F.slot_list_append PySem.F.type_list_append mt_append (pv 1) (pa_cons (pe_tup (pa_cons (pe_ix ix_str (pe_call0 GAl hr rfl gAl kAl bAl .nil pass0) (pv 3) (fun _ _ => rfl)) (pa_cons (pe_ix ix_str (pe_call0 GAl hr rfl gAl kAl bAl .nil pass0) (pe_op op_add (pv 3) (pe_call GCo hr rfl gCo kCo bCo .nil pass0 (pa_cons (pv 0) (pa_cons (pe_op op_sub pe_int (pv 3)) pa_nil)))) (fun _ _ => rfl)) pa_nil))) pa_nil))))))))
        (pss_one (ps_ret (pv 1))))), ?_⟩
    obtain ⟨p, n, rfl, hn, hp, k⟩ := h
    refine ⟨(by decide : 0 ≤ sizeLine), fun R nR => ?_⟩
    have ne := hp.ne nR
    have b0 : BldP K p H (L2.upd H R (.lst [])) R [] := BldP.new nR ne
    refine ⟨_, rfl, p, 3, n, rfl, by decide, by decide, by omega, hp.put ne, fun H2 t ht hp2 off2 => ?_⟩
    have b3 := b0.draw off2
    refine ⟨_, _, rfl, rfl, ((t + 1 : Nat) : Int), congrArg (fun z : Int => [V.int z]) (show 1 + ((t : Nat) : Int) = ((t + 1 : Nat) : Int) by omega), by omega, by omega, ?_⟩
    refine for_range (lo := 0) (n := t + 1) (fun i σ H' => (∃ x2 x3, σ = [some (.ref p), some (.ref R), x2, x3]) ∧ Pu H' p (n + 2 + 4 * i) ∧ ∃ rs : List (Nat × Nat), BldP K p H H' R (rs.map rgD) ∧ rs.length = i ∧ ∀ r ∈ rs, okRg r) ⟨⟨_, _, rfl⟩, hp2.le (by omega), [], b3, rfl, by simp⟩ (fun i σ H' hi e => ?_) (fun σ H' e => ?_)
    · obtain ⟨⟨x2, x3, rfl⟩, hp3, rs, b4, lrs, okr⟩ := e
      refine ⟨_, rfl, p, 2, _, rfl, by decide, by decide, by omega, hp3, fun H4 wy hw hp4 off4 => ?_⟩
      have b5 := b4.draw off4
      have fin : ∀ (H6 : Hp) (T : Addr) (a b : Nat), H6 T = none → Pu H6 p (n + 2 + 4 * i + 1 + 1 + 1) → BldP K p H H6 R (rs.map rgD) → okRg (a, b) → ∃ ys, (L2.upd H6 T (.tup [.str (sg a), .str (sg b)])) R = some (.lst ys) ∧ ys.length < sizeLine ∧ ∀ x2 x3, (∃ y2 y3, [some (V.ref p), some (.ref R), x2, x3] = [some (.ref p), some (.ref R), y2, y3]) ∧ Pu (L2.upd (L2.upd H6 T (.tup [.str (sg a), .str (sg b)])) R (.lst (ys ++ [.ref T]))) p (n + 2 + 4 * (i + 1)) ∧ ∃ rs : List (Nat × Nat), BldP K p H (L2.upd (L2.upd H6 T (.tup [.str (sg a), .str (sg b)])) R (.lst (ys ++ [.ref T]))) R (rs.map rgD) ∧ rs.length = i + 1 ∧ ∀ q ∈ rs, okRg q := by
        intro H6 T a b nT hp6 b6 ok6
        obtain ⟨ys, hy, ly, b7, hp7⟩ := b6.add2 hp6 nT (sg a) (sg b)
        refine ⟨ys, hy, by rw [ly, List.length_map, sizeLine_eq]; omega, fun x2 x3 => ⟨⟨_, _, rfl⟩, hp7.le (by omega), rs ++ [(a, b)], ?_, by rw [List.length_append, lrs]; rfl, fun q mq => ?_⟩⟩
        · rw [List.map_append]
          exact b7
        · rcases List.mem_append.mp mq with mq | mq
          · exact okr q mq
          · rcases List.mem_singleton.mp mq with rfl
            exact ok6
      refine ⟨rfl, _, rfl, if_by (fun _ => ?_) (fun _ => ?_)⟩
      · refine ⟨_, rfl, p, 3, _, rfl, by decide, by decide, by omega, hp4, fun H6 a ha hp6 off6 => ?_⟩
        have b7 := b5.draw off6
        obtain ⟨c, mc, hc⟩ := sgn_at (i := 65 + a) (by omega)
        obtain ⟨ys0, hy0, ly0, _⟩ := b7.put
        refine ⟨_, _, rfl, rfl, _, rfl, .inl ⟨rfl, _, SqL.of hy0⟩, rfl, _, rfl, _, _, c, rfl, congrArg V.int (show (65 : Int) + ((a : Nat) : Int) = ((65 + a : Nat) : Int) by omega), small_line (by decide +kernel), atI_nat hc, ?_⟩
        refine ⟨rfl, _, rfl, _, rfl, p, 3, _, rfl, by decide, by decide, by omega, hp6, fun H7 b hb hp7 off7 => ?_⟩
        have b8 := b7.draw off7
        obtain ⟨d, md, hd⟩ := sgn_at (i := 65 + a + b) (by omega)
        refine ⟨_, _, rfl, rfl, _, _, d, rfl, congrArg V.int (show (65 : Int) + ((a : Nat) : Int) + ((b : Nat) : Int) = ((65 + a + b : Nat) : Int) by omega), small_line (by decide +kernel), atI_nat hd, (by decide : 2 ≤ sizeLine), fun T nT => ?_⟩
        obtain ⟨ys, hy, hz, fn⟩ := fin H7 T c d nT hp7 b8 ⟨mc, md, sgn_le (by omega) hc hd⟩
        exact ⟨R, ys, _, rfl, rfl, hy, hz, fn _ _⟩
      · refine ⟨_, rfl, p, 95, _, rfl, by decide, by decide, by omega, hp4, fun H6 lw hlw hp6 off6 => ?_⟩
        have b7 := b5.draw off6
        obtain ⟨c, mc, hc⟩ := sgn_at hlw
        obtain ⟨ys0, hy0, ly0, _⟩ := b7.put
        refine ⟨_, rfl, .inl ⟨rfl, _, SqL.of hy0⟩, rfl, _, rfl, _, _, c, rfl, rfl, small_line (by decide +kernel), atI_nat hc, ?_⟩
        refine ⟨rfl, _, rfl, _, rfl, _, rfl, _, _, rfl, rfl, p, 95 - lw, _, congrArg (fun z : Int => [V.ref p, V.int z]) (show 95 - ((lw : Nat) : Int) = ((95 - lw : Nat) : Int) by omega), by omega, by omega, by omega, hp6, fun H7 b hb hp7 off7 => ?_⟩
        have b8 := b7.draw off7
        obtain ⟨d, md, hd⟩ := sgn_at (i := lw + b) (by omega)
        refine ⟨_, _, rfl, rfl, _, _, d, rfl, congrArg V.int (show ((lw : Nat) : Int) + ((b : Nat) : Int) = ((lw + b : Nat) : Int) by omega), small_line (by decide +kernel), atI_nat hd, (by decide : 2 ≤ sizeLine), fun T nT => ?_⟩
        obtain ⟨ys, hy, hz, fn⟩ := fin H7 T c d nT hp7 b8 ⟨mc, md, sgn_le (by omega) hc hd⟩
        exact ⟨R, ys, _, rfl, rfl, hy, hz, fn _ _⟩
    · obtain ⟨⟨x2, x3, rfl⟩, hp3, rs, b4, lrs, okr⟩ := e
      exact ⟨_, rfl, k H' R rs b4 (fun z => by rw [z] at lrs; simp at lrs) (by omega) okr (hp3.le (by omega))⟩
abbrev sLs : Stmt := top 11
abbrev nLs : List Str := ["signs"]
theorem scLs : FnScope nLs ["signs"] (defScope sLs) := ⟨rfl, rfl, rfl, by decide +kernel, rfl, by decide +kernel, by decide +kernel⟩
theorem has_Ls {f : Addr} {fd : FuncData} (F : Fun K "least_sign" "least_sign" sLs f fd) (g : mg "least_sign" = some (.ref f)) (B : Blt mg) (W : Wrt mg) :
    Has P w K mg base 1 "least_sign" ["signs"] spLs := by
  refine has_of F g (F.binds (ps := ["signs"]) fun _ _ _ _ _ _ us hl => match us, hl with | [_], _ => rfl) (F.ok scLs (fun vs H Q E h => ?_) (fun cdv A outer s H vs Q E hr h => ?_))
  · obtain ⟨n, rfl, _⟩ := h
    rfl
  · refine ⟨_, (pss_one (ps_ret (pe_ix ix_str (glob_str (by rfl) W.signs) (pe_op op_sub (pe_bits (pe_op op_and (pv 0) (pe_un un_neg (pv 0)))) pe_int) (fun _ _ => rfl)))), ?_⟩
    obtain ⟨n, rfl, hn, hl, k⟩ := h
    obtain ⟨c, mc, hc⟩ := sgn_at hl
    obtain rfl : leastC n = c := by
      unfold leastC
      rw [List.getD_eq_getElem?_getD, hc]
      rfl
    refine ⟨_, rfl, _, rfl, _, rfl, _, _, rfl, rfl, _, rfl, _, _, rfl, rfl, signsS, _, leastC n, rfl, rfl, small_line (by decide +kernel), ?_, k⟩
    have z := low_int hn
    rw [z]
    exact atI_nat hc
abbrev sLt : Stmt := top 24
abbrev nLt : List Str := ["pattern", "sets", "piece", "signs"]
theorem scLt : FnScope nLt ["pattern"] (defScope sLt) := ⟨rfl, rfl, rfl, by decide +kernel, rfl, by decide +kernel, by decide +kernel⟩
theorem has_Lt {f : Addr} {fd : FuncData} (F : Fun K "least_text" "least_text" sLt f fd) (g : mg "least_text" = some (.ref f)) (B : Blt mg) (hCp : Has P w K mg base 5 "check_patterns" ["patterns"] (spCp K)) (hSo : Has P w K mg base 1 "set_of" ["piece"] (spSo K)) (hLs : Has P w K mg base 1 "least_sign" ["signs"] spLs) :
    Has P w K mg base 6 "least_text" ["pattern"] (spLt K) := by
  obtain ⟨fCp, dCp, gCp, kCp, bCp, GCp⟩ := hCp
  obtain ⟨fSo, dSo, gSo, kSo, bSo, GSo⟩ := hSo
  obtain ⟨fLs, dLs, gLs, kLs, bLs, GLs⟩ := hLs
  refine has_of F g (F.binds (ps := ["pattern"]) fun _ _ _ _ _ _ us hl => match us, hl with | [_], _ => rfl) (F.ok scLt (fun vs H Q E h => ?_) (fun cdv A outer s H vs Q E hr h => ?_))
  · obtain ⟨v, ps, rfl, _⟩ := h
    rfl
  · refine ⟨_, (pss_cons (ps_expr (pe_call GCp hr rfl gCp kCp bCp .nil pass0 (pa_cons (pe_lst (pa_cons (pv 0) pa_nil)) pa_nil)))
        (pss_cons (ps_setLc (tt := tTest (tOp (rNeD K) (tVar 2) (tTup (tCons (tC (V.str "lot")) tNil)))) (i := 1) (own := [("piece", 2)]) (g := gName 2) rfl scLt.nd rfl rfl (sw_true rfl rfl rfl (by decide +kernel)) (pi_list (pv 0)) (blkOk_by (N := nLt) (sc := defScope sLt) (by decide +kernel)) (fun _ _ _ _ _ => pg_name (i := 2) scLt.nd rfl (.inl rfl)) (fun _ _ _ _ _ => pts_one (pt_cmpR (op_neD hr.units) (pv 2) (pe_tup (pa_cons pe_str pa_nil)) (nomark _))) (fun _ _ _ _ _ => (pe_call GSo (hr.mono (by decide)) rfl gSo kSo bSo .nil pass0 (pa_cons (pv 2) pa_nil))))
        (pss_cons (ps_if (pt_cmpR op_in_seq pe_int (pv 1) (by rfl)) (pss_one (ps_ret pe_non)) pss_nil)
        (pss_one (ps_ret (pe_join pe_str (pe_lc (own := [("signs", 3)]) (g := gName 3) (tt := tYes) rfl scLt.nd (pi_list (pv 1)) (blkOk_by (N := nLt) (sc := defScope sLt) (by decide +kernel)) (fun _ _ _ _ _ => pg_name (i := 3) scLt.nd rfl (.inl rfl)) (fun _ _ _ _ _ => pts_nil) (fun _ _ _ _ _ => (pe_call GLs (hr.mono (by decide)) rfl gLs kLs bLs .nil pass0 (pa_cons (pv 3) pa_nil)))))))))), ?_⟩
    obtain ⟨v, ps, rfl, hd, hl, hg, k⟩ := h
    obtain ⟨a, xs, rfl, hq, all⟩ := dp_lst hd
    have lx := dpLen all
    rw [List.length_map] at lx
    refine ⟨_, rfl, (by decide : 1 ≤ sizeLine), fun L nL => ?_⟩
    have s1 := same_upd (o := .lst [V.ref a]) nL
    refine ⟨L, .ref a, ps, rfl, SqL.of upd_same, dp_same s1 hd, by omega, hg, fun H2 s2 => ?_⟩
    have s3 := s1.trans s2
    refine ⟨_, rfl, a, rfl, ⟨_, s3.seq hq⟩, fun D hD => lc_it (walk_list (xs := xs)) (fun i H' => Same H2 H' ∧ H' D = some (.lst (intV (((ps.take i).filter isN).map setN)))) ⟨same_upd hD, upd_same⟩ (fun i H' _ e => (s3.trans e.1).seq hq) (fun i x H' H4 hi e y => ?_) (fun H' e => ?_)⟩
    · obtain ⟨rfl, hx⟩ := y
      obtain ⟨s4, hDt⟩ := e
      obtain ⟨p, hp, dp⟩ := pt_at all hx
      have gp := hg p (List.mem_of_getElem? hp)
      refine ⟨rfl, _, rfl, (by decide : 1 ≤ sizeLine), fun T nT => ?_⟩
      have s5 := same_upd (o := .tup [.str "lot"]) nT
      have dp5 := dp_same ((s3.trans s4).trans s5) dp
      refine ⟨_, _, dp5, .tup (SqT.of upd_same) (.cons (.str _) .nil), sh_ok (sh_pt gp.1), by decide +kernel, _, rfl, ?_⟩
      rw [eqv_lot]
      have fs := filter_snoc (p := isN) hp
      refine if_by (fun e1 => ?_) (fun e1 => ?_)
      · refine ⟨_, rfl, x, p, rfl, dp5, gp.1, fun H6 s6 => ⟨_, s6 _ _ (s5 _ _ hDt), ?_, same_upd2 ((s4.trans s5).trans s6) hD, ?_⟩⟩
        · rw [intV_len, List.length_map, sizeLine_eq]
          have h1 := List.length_filter_le isN (ps.take i)
          rw [List.length_take] at h1
          omega
        · rw [upd_same, fs, if_pos (show isN p = true from e1), List.map_append, show [p].map setN = [setN p] from rfl, intV_snoc]
      · refine ⟨s4.trans s5, ?_⟩
        rw [fs, if_neg (by rw [show isN p = false from e1]; decide), List.append_nil]
        exact s5 _ _ hDt
    · obtain ⟨s4, hDt⟩ := e
      rw [lx, List.take_length] at hDt
      obtain ⟨E, hE⟩ : ∃ E, E = ((ps.filter isN).map setN) := ⟨_, rfl⟩
      rw [← hE] at hDt
      have s5 := s3.trans s4
      have inz : inV (.int 0) (intV E) = (ps.filter isN).any (fun p => setN p == 0) := by
        have z := in_nats (n := 0) (E := E)
        cases b : (ps.filter isN).any (fun p => setN p == 0) with
        | true =>
          obtain ⟨p, m, e⟩ := List.any_eq_true.mp b
          exact z.mpr (by rw [hE]; exact List.mem_map.mpr ⟨p, m, eq_of_beq e⟩)
        | false =>
          cases c : inV (.int 0) (intV E) with
          | false => rfl
          | true =>
            have m := z.mp c
            rw [hE] at m
            obtain ⟨p, mp, e⟩ := List.mem_map.mp m
            rw [List.any_eq_false] at b
            exact absurd (by rw [e]; rfl) (b p mp)
      refine ⟨_, rfl, D, _, rfl, .inl (SqL.of hDt), rfl, flat_nats _, _, rfl, ?_⟩
      rw [if_neg (by decide), inz]
      refine if_by (fun e1 => ?_) (fun e1 => ?_)
      · have z := k H' s5
        unfold lstOf at z
        rw [if_pos e1] at z
        exact z
      · have z := fun H6 (s6 : Same H' H6) => k H6 (s5.trans s6)
        unfold lstOf at z
        rw [if_neg (by rw [e1]; decide)] at z
        have lE : E.length ≤ 60 := by
          rw [hE, List.length_map]
          have := List.length_filter_le isN ps
          omega
        have okE : ∀ n ∈ E, n ≠ 0 ∧ low n < 95 := fun n m => by
          rw [hE] at m
          obtain ⟨p, mp, rfl⟩ := List.mem_map.mp m
          have n0 : setN p ≠ 0 := fun z => by
            rw [List.any_eq_false] at e1
            exact e1 p mp (by rw [z]; rfl)
          obtain ⟨mp, np⟩ := List.mem_filter.mp mp
          have hp : p.isLot = false := by
            unfold isN at np
            cases e : p.isLot with
            | true => rw [e] at np; cases np
            | false => rfl
          exact ⟨n0, (least_ok (hg p mp).1 hp n0).1⟩
        have eE : (ps.filter isN).map (fun p => leastC (setN p)) = E.map leastC := by rw [hE, List.map_map]; rfl
        rw [eE] at z
        refine ⟨⟨_, rfl⟩, _, rfl, D, rfl, ⟨_, SqL.of hDt⟩, fun D2 hD2 => lc_it (walk_list (xs := intV E)) (fun i H6 => Same H' H6 ∧ H6 D2 = some (.lst ((((E.take i).map leastC).map sg).map V.str))) ⟨same_upd hD2, upd_same⟩ (fun i H6 _ e => e.1.seq (SqL.of hDt)) (fun i x H6 H7 hi e y => ?_) (fun H6 e => ?_)⟩
        · obtain ⟨rfl, hx⟩ := y
          obtain ⟨s6, hD6⟩ := e
          obtain ⟨c, hc, rfl⟩ := intV_at hx
          obtain ⟨o1, o2⟩ := okE c (List.mem_of_getElem? hc)
          refine ⟨rfl, _, rfl, c, rfl, o1, o2, _, hD6, ?_, same_upd2 s6 hD2, ?_⟩
          · rw [List.length_map, List.length_map, List.length_map, List.length_take, sizeLine_eq]
            omega
          · rw [upd_same, take_snoc hc, List.map_append, List.map_append, List.map_append]
            rfl
        · obtain ⟨s6, hD6⟩ := e
          rw [intV_len, List.take_length] at hD6
          refine ⟨"", D2, (E.map leastC).map sg, rfl, rfl, .inl (SqL.of hD6), ?_, ?_⟩
          · have e1 := sum_sg (E.map leastC)
            rw [e1, List.length_map, List.length_map]
            show _ + _ * 0 ≤ _
            omega
          · rw [join_sg]
            exact z _ s6
end
end Qb
end PySem
namespace PySem
namespace Qb
open PySem.W PySem.Calls PyProof.Rows L2
theorem range_in {n : Nat} {E : List Nat} (h : Asc E) (b : ∀ a ∈ E, a ≤ n) : (List.range (n + 1)).filter (fun a => decide (a ∈ E)) = E :=
  asc_ext (List.Pairwise.filter _ (by simpa using List.pairwise_lt_range)) h fun a => by
    rw [List.mem_filter, List.mem_range, decide_eq_true_iff]
    exact ⟨fun z => z.2, fun m => ⟨by have := b a m; omega, m⟩⟩
theorem cs_from (z : Str) (a : Nat) : cs (cutS z (some ((a : Nat) : Int)) none) = (cs z).drop a := by
  have e : cs (cutS z (some ((a : Nat) : Int)) none) = ((cs z).drop (HT.sIx z.length 0 (some ((a : Nat) : Int)))).take (HT.sIx z.length z.length none - HT.sIx z.length 0 (some ((a : Nat) : Int))) := by
    unfold cutS
    simp
  rw [e, HT.sIx_nat, HT.sIx_none]
  have l : z.length = (cs z).length := len_cs z
  by_cases h : a ≤ z.length
  · rw [Nat.min_eq_left h, List.take_of_length_le (by rw [List.length_drop]; omega)]
  · rw [Nat.min_eq_right (by omega), List.drop_eq_nil_of_le (by omega), List.drop_eq_nil_of_le (by omega), List.take_nil]
def spRl : Sp := fun vs H Q _ => ∃ (F : Addr) (E : List Nat) (z : Str), vs = [.ref F, .str z] ∧ H F = some (.lst (intV E)) ∧ Asc E ∧ (∀ a ∈ E, a ≤ (cs z).length) ∧ (cs z).length ≤ 900 ∧ ∀ H', Same H H' → Q (.bl true) H'
section
variable {P : Program} {w : World} {K : Frag} {mg : Str → Option Value} {base : Heap}
abbrev sRl : Stmt := top 37
abbrev nRl : List Str := ["_law_found", "_law_line_here", "_law_at"]
theorem scRl : FnScope nRl ["_law_found", "_law_line_here"] (defScope sRl) := ⟨rfl, rfl, rfl, by decide +kernel, rfl, by decide +kernel, by decide +kernel⟩
theorem has_Rl {f : Addr} {fd : FuncData} (F : Fun K "_law_are_lengths" "_law_are_lengths" sRl f fd) (g : mg "_law_are_lengths" = some (.ref f)) (B : Blt mg)  :
    Has P w K mg base 1 "_law_are_lengths" ["_law_found", "_law_line_here"] spRl := by
  refine has_of F g (F.binds (ps := ["_law_found", "_law_line_here"]) fun _ _ _ _ _ _ us hl => match us, hl with | [_, _], _ => rfl) (F.ok scRl (fun vs H Q E h => ?_) (fun cdv A outer s H vs Q E hr h => ?_))
  · obtain ⟨F, E, z, rfl, _⟩ := h
    rfl
  · refine ⟨_, (pss_cons (ps_if (pt_not (pt_val (pe_callB call_isi (by rfl) B.isi (by decide +kernel) (pa_cons (pv 0) (pa_cons (pe_bltn (v := .ty "list") (by rfl) B.list (by decide +kernel) rfl) pa_nil))))) (pss_one (ps_ret pe_bl)) pss_nil)
        (pss_cons (ps_if (pt_cmpR (op_neD hr.units) (pe_lc (own := [("_law_at", 2)]) (g := gName 2) (tt := tOr (tNot (tB (tCB (rIsi K) (tCons (tVar 2) (tCons (tC (.ty "int")) tNil))))) (tB (tCB (rIsi K) (tCons (tVar 2) (tCons (tC (.ty "bool")) tNil))))) rfl scRl.nd (pi_list (pv 0)) (blkOk_by (N := nRl) (sc := defScope sRl) (by decide +kernel)) (fun _ _ _ _ _ => pg_name (i := 2) scRl.nd rfl (.inl rfl)) (fun _ _ _ _ _ => pts_one (PW.pt (pw_or (pt_not (pt_val (pe_callB call_isi (by rfl) B.isi (by decide +kernel) (pa_cons (pv 2) (pa_cons (pe_bltn (v := .ty "int") (by rfl) B.int (by decide +kernel) rfl) pa_nil))))) (pw_or1 (pt_val (pe_callB call_isi (by rfl) B.isi (by decide +kernel) (pa_cons (pv 2) (pa_cons (pe_bltn (v := .ty "bool") (by rfl) B.bool (by decide +kernel) rfl) pa_nil)))))))) (fun _ _ _ _ _ => (pv 2))) (pe_lst pa_nil) (nomark _)) (pss_one (ps_ret pe_bl)) pss_nil)
        (pss_one (ps_ret (pe_cmpR (op_eqD hr.units) (pv 0) (pe_lc (own := [("_law_at", 2)]) (g := gName 2) (tt := tTest (tOp (rIn K false) (tVar 2) (tVar 0))) rfl scRl.nd (pi_range1 (by rfl) B.range (pa_cons (pe_op op_add (pe_callB call_len (by rfl) B.len PySem.boot_len (pa_cons (pv 1) pa_nil)) pe_int) pa_nil)) (blkOk_by (N := nRl) (sc := defScope sRl) (by decide +kernel)) (fun _ _ _ _ _ => pg_name (i := 2) scRl.nd rfl (.inl rfl)) (fun _ _ _ _ _ => pts_one (pt_cmpR op_in_seq (pv 2) (pv 0) (by rfl))) (fun _ _ _ _ _ => (pv 2))) (nomark _)))))), ?_⟩
    obtain ⟨F, E, z, rfl, hF, asc, ble, lz, k⟩ := h
    have hq : SqL K H F (intV E) := SqL.of hF
    have sz : z.length ≤ sizeLine := small_line (by rw [len_cs]; omega)
    have ez : z.length = (cs z).length := len_cs z
    refine ⟨_, rfl, .ref F, .ty "list", .type "list", .type "list", true, rfl, .ty _, ty_lst hq, kit_ty (by decide +kernel), _, rfl, if_no rfl ?_⟩
    refine ⟨_, rfl, F, rfl, ⟨_, hq⟩, fun D hD => lc_it (walk_list (xs := intV E)) (fun i H' => Same H H' ∧ H' D = some (.lst [])) ⟨same_upd hD, upd_same⟩ (fun i H' _ e => e.1.seq hq) (fun i x H' H2 hi e y => ?_) (fun H1 e => ?_)⟩
    · obtain ⟨s1, hDt⟩ := e
      obtain ⟨rfl, hx⟩ := y
      obtain ⟨c, hc, rfl⟩ := intV_at hx
      exact ⟨rfl, _, rfl, .int ((c : Nat) : Int), .ty "int", .type "int", .type "int", true, rfl, .ty _, .base (.int _), kit_ty (by decide +kernel), _, rfl, if_no rfl ⟨_, rfl, .int ((c : Nat) : Int), .ty "bool", .type "int", .type "bool", false, rfl, .ty _, .base (.int _), kit_ty (by decide +kernel), _, rfl, if_no rfl ⟨s1, hDt⟩⟩⟩
    · obtain ⟨s1, hDt⟩ := e
      refine ⟨(by decide : 0 ≤ sizeLine), fun e ne => ?_⟩
      have s2 := s1.trans (same_upd (o := .lst []) ne)
      refine ⟨.list [], .list [], .lst (SqL.of (same_upd ne _ _ hDt)) .nil, .lst (SqL.of upd_same) .nil, by decide, by decide, _, rfl, if_no rfl ?_⟩
      generalize L2.upd H1 e (.lst []) = H2 at s2
      refine ⟨_, rfl, _, rfl, .str z, z.length, rfl, ⟨sz, rfl⟩, _, _, rfl, rfl, (((cs z).length + 1 : Nat) : Int), congrArg (fun n : Int => [V.int n]) (show ((z.length : Nat) : Int) + 1 = (((cs z).length + 1 : Nat) : Int) by omega), by omega, by omega, fun D2 hD2 => lc_it (walk_range (lo := 0) (n := (cs z).length + 1)) (fun i H3 => Same H2 H3 ∧ H3 D2 = some (.lst (intV ((List.range i).filter fun a => decide (a ∈ E))))) ⟨same_upd hD2, upd_same⟩ (fun _ _ _ _ => trivial) (fun i x H3 H4 hi e y => ?_) (fun H3 e => ?_)⟩
      · obtain ⟨s3, hD3⟩ := e
        obtain ⟨rfl, rfl⟩ := y
        refine ⟨rfl, _, rfl, _, rfl, F, intV E, rfl, .inl ((s2.trans s3).seq hq), rfl, flat_nats _, _, rfl, ?_⟩
        have e1 : inV (.int (0 + ((i : Nat) : Int))) (intV E) = decide (i ∈ E) := by
          rw [Int.zero_add]
          have z := in_nats (n := i) (E := E)
          by_cases m : i ∈ E
          · rw [decide_eq_true m, z.mpr m]
          · rw [decide_eq_false m]
            cases c : inV (.int ((i : Nat) : Int)) (intV E) with
            | false => rfl
            | true => exact absurd (z.mp c) m
        rw [if_neg (by decide), e1]
        refine if_by (fun e2 => ?_) (fun e2 => ⟨s3, ?_⟩)
        · refine ⟨_, rfl, _, hD3, ?_, same_upd2 s3 hD2, ?_⟩
          · rw [intV_len, sizeLine_eq]
            have := List.length_filter_le (fun a => decide (a ∈ E)) (List.range i)
            rw [List.length_range] at this
            omega
          · rw [upd_same, range_snoc, e2, if_pos rfl, intV_snoc]
            dsimp only
            rw [Int.zero_add]
        · rw [range_snoc, e2, if_neg (by decide), List.append_nil]
          exact hD3
      · obtain ⟨s3, hD3⟩ := e
        rw [range_in asc ble] at hD3
        refine ⟨natsD E, natsD E, dp_nats ((s2.trans s3) _ _ hF), dp_nats hD3, sh_ok (sh_nats _), sh_ok (sh_nats _), ?_⟩
        rw [show PyData.eqv (natsD E) (natsD E) = true from SeqAt.eqv_refl _ (sh_nats E).1]
        exact k _ (s2.trans s3)
end
end Qb
end PySem
namespace PySem
namespace Qb
open PySem.W PySem.Calls PyProof.Rows L2
/-! # two patterns, joined -/
def Due (qs : List Pt) (w A U : List Nat) : Prop := ∀ x, x ∈ U ↔ ∃ a ∈ A, ∃ b, b ≤ (w.drop a).length ∧ M qs ((w.drop a).take b) ∧ x = a + b
theorem due_ends {ps qs : List Pt} {w A U E : List Nat} (hA : EndsAt ps w A) (hU : Due qs w A U) (hE : EndsAt (ps ++ qs) w E) (x : Nat) : x ∈ E ↔ x ∈ U := by
  rw [hE.2, hU, M_append]
  constructor
  · rintro ⟨hx, k, hk, h1, h2⟩
    rw [List.length_take] at hk
    rw [List.take_take, Nat.min_eq_left (by omega)] at h1
    rw [List.drop_take] at h2
    exact ⟨k, (hA.2 k).mpr ⟨by omega, h1⟩, x - k, by rw [List.length_drop]; omega, h2, by omega⟩
  · rintro ⟨a, ma, b, hb, h2, rfl⟩
    obtain ⟨la, h1⟩ := (hA.2 a).mp ma
    rw [List.length_drop] at hb
    refine ⟨by omega, a, by rw [List.length_take]; omega, ?_, ?_⟩
    · rw [List.take_take, Nat.min_eq_left (by omega)]
      exact h1
    · rw [List.drop_take, show a + b - a = b by omega]
      exact h2
theorem due_le {qs : List Pt} {w A U : List Nat} (hU : Due qs w A U) (h : ∀ a ∈ A, a ≤ w.length) {x : Nat} (m : x ∈ U) : x ≤ w.length := by
  obtain ⟨a, ma, b, hb, _, rfl⟩ := (hU x).mp m
  rw [List.length_drop] at hb
  have := h a ma
  omega
theorem asc_int : ∀ {E F : List Int}, E.Pairwise (· < ·) → F.Pairwise (· < ·) → (∀ x, x ∈ E ↔ x ∈ F) → E = F
  | [], [], _, _, _ => rfl
  | [], f :: F, _, _, h => by have := (h f).mpr (.head _); cases this
  | e :: E, [], _, _, h => by have := (h e).mp (.head _); cases this
  | e :: E, f :: F, hE, hF, h => by
    obtain ⟨hE1, hE2⟩ := List.pairwise_cons.mp hE
    obtain ⟨hF1, hF2⟩ := List.pairwise_cons.mp hF
    have ef : e = f := by
      rcases List.mem_cons.mp ((h e).mp (.head _)) with z | z
      · exact z
      · rcases List.mem_cons.mp ((h f).mpr (.head _)) with y | y
        · exact y.symm
        · have a := hF1 e z
          have b := hE1 f y
          omega
    subst ef
    congr 1
    refine asc_int hE2 hF2 fun x => ⟨fun m => ?_, fun m => ?_⟩
    · rcases List.mem_cons.mp ((h x).mp (.tail _ m)) with z | z
      · have := hE1 x m
        omega
      · exact z
    · rcases List.mem_cons.mp ((h x).mpr (.tail _ m)) with z | z
      · have := hF1 x m
        omega
      · exact z
abbrev up (E : List Nat) : List Int := E.map fun n : Nat => ((n : Nat) : Int)
theorem up_V (E : List Nat) : (up E).map V.int = intV E := by
  unfold intV up
  rw [List.map_map]
  rfl
theorem up_mem {E : List Nat} {k : Int} : k ∈ up E ↔ ∃ x ∈ E, k = ((x : Nat) : Int) := by
  rw [List.mem_map]
  exact ⟨fun ⟨x, m, e⟩ => ⟨x, m, e.symm⟩, fun ⟨x, m, e⟩ => ⟨x, m, e.symm⟩⟩
theorem up_sorted {E U : List Nat} {ns : List Int} (hE : Asc E) (h : ∀ x, x ∈ E ↔ x ∈ U) (hs : ns.Pairwise (· < ·)) (hm : ∀ k : Int, k ∈ ns ↔ decide (k ∈ up U) = true) : ns = up E := by
  refine asc_int hs (by rw [List.pairwise_map]; exact hE.imp fun z => by omega) fun k => ?_
  rw [hm, decide_eq_true_iff, up_mem, up_mem]
  exact ⟨fun ⟨x, m, e⟩ => ⟨x, (h x).mpr m, e⟩, fun ⟨x, m, e⟩ => ⟨x, (h x).mp m, e⟩⟩
/-- the whole, by an end that is what is left by a beginning -/
theorem whole_ok {ps qs : List Pt} {w A B : List Nat} (hA : EndsAt ps w A) (hB : EndsAt qs.reverse w.reverse B) : (A.filter fun a => decide (w.length - a ∈ B)) ≠ [] ↔ M (ps ++ qs) w := by
  have one : ∀ a, a ≤ w.length → (w.length - a ∈ B ↔ M qs (w.drop a)) := fun a la => by
    rw [hB.2, List.length_reverse, ← List.reverse_drop, M_turn]
    exact ⟨fun z => z.2, fun z => ⟨by omega, z⟩⟩
  rw [M_append]
  constructor
  · intro h
    obtain ⟨a, m⟩ := List.exists_mem_of_ne_nil _ h
    obtain ⟨m1, m2⟩ := List.mem_filter.mp m
    obtain ⟨la, h1⟩ := (hA.2 a).mp m1
    exact ⟨a, la, h1, (one a la).mp (of_decide_eq_true m2)⟩
  · rintro ⟨a, la, h1, h2⟩ z
    have m : a ∈ A.filter fun a => decide (w.length - a ∈ B) := List.mem_filter.mpr ⟨(hA.2 a).mpr ⟨la, h1⟩, decide_eq_true ((one a la).mpr h2)⟩
    rw [z] at m
    cases m
structure Row (K : Frag) (H : Hp) (a : Addr) (xs : List V) (ps : List Pt) : Prop where
  at_ : H a = some (.lst xs)
  all : DpAll K H xs (ps.map Pt.d)
  len : ps.length ≤ 20
  ok : ∀ q ∈ ps, q.good ∧ q.few
theorem Row.same {K : Frag} {H H' : Hp} {a : Addr} {xs : List V} {ps : List Pt} (r : Row K H a xs ps) (s : Same H H') : Row K H' a xs ps := ⟨s _ _ r.at_, dpAll_same s r.all, r.len, r.ok⟩
theorem Row.inp {K : Frag} {H : Hp} {a : Addr} {xs : List V} {ps : List Pt} (r : Row K H a xs ps) {z : Str} (oz : okZ z) (lz : (cs z).length ≤ 500) : Inp K H (.ref a) ps z := ⟨.lst (SqL.of r.at_) r.all, by have := r.len; omega, fun q m => (r.ok q m).1, fun q m => (r.ok q m).2, oz, by omega⟩
theorem Row.join {K : Frag} {H : Hp} {a b q : Addr} {xs ys : List V} {ps qs : List Pt} (r : Row K H a xs ps) (r2 : Row K H b ys qs) (nq : H q = none) (l : ps.length + qs.length ≤ 20) : Row K (L2.upd H q (.lst (xs ++ ys))) q (xs ++ ys) (ps ++ qs) :=
  ⟨upd_same, by rw [List.map_append]; exact dpApp (dpAll_same (same_upd nq) r.all) (dpAll_same (same_upd nq) r2.all), by rw [List.length_append]; exact l, fun x m => by
    rcases List.mem_append.mp m with m | m
    · exact r.ok x m
    · exact r2.ok x m⟩
theorem Row.turn {K : Frag} {H : Hp} {a q : Addr} {xs : List V} {ps : List Pt} (r : Row K H a xs ps) (nq : H q = none) : Row K (L2.upd H q (.lst xs.reverse)) q xs.reverse ps.reverse :=
  ⟨upd_same, by rw [List.map_reverse]; exact dpRev (dpAll_same (same_upd nq) r.all), by rw [List.length_reverse]; exact r.len, fun x m => r.ok x (List.mem_reverse.mp m)⟩
theorem Row.lens {K : Frag} {H : Hp} {a : Addr} {xs : List V} {ps : List Pt} (r : Row K H a xs ps) : xs.length = ps.length := by
  have := dpLen r.all
  rw [List.length_map] at this
  exact this
end Qb
end PySem
namespace PySem
namespace Qb
open PySem.W PySem.Calls PyProof.Rows L2
def spJo (K : Frag) : Sp := fun vs H Q _ => ∃ (a b : Addr) (xs ys : List V) (ps qs : List Pt) (z : Str), vs = [.ref a, .ref b, .str z] ∧ Row K H a xs ps ∧ Row K H b ys qs ∧ ps.length + qs.length ≤ 19 ∧ okZ z ∧ (cs z).length ≤ 10 ∧ ∀ H', Same H H' → Q (.bl true) H'
section
variable {P : Program} {w : World} {K : Frag} {mg : Str → Option Value} {base : Heap}
abbrev sJo : Stmt := top 38
abbrev nJo : List Str := ["_law_ahead", "_law_row", "_law_line_here", "_law_first", "_law_ends", "_law_due", "_law_at", "_law_rest", "_law_more", "_law_whole", "_law_turned", "_law_from_first_on"]
theorem scJo : FnScope nJo ["_law_ahead", "_law_row", "_law_line_here"] (defScope sJo) := ⟨rfl, rfl, rfl, by decide +kernel, rfl, by decide +kernel, by decide +kernel⟩
theorem has_Jo {f : Addr} {fd : FuncData} (F : Fun K "_law_joins" "_law_joins" sJo f fd) (g : mg "_law_joins" = some (.ref f)) (B : Blt mg) (hHe : Has P w K mg base 6 "heads" ["pattern", "text"] (spLg K)) (hTa : Has P w K mg base 6 "tails" ["pattern", "text"] (spTa K)) (hRl : Has P w K mg base 1 "_law_are_lengths" ["_law_found", "_law_line_here"] spRl) (hSm : Has P w K mg base 6 "_law_same" ["_law_found", "_law_due"] (spSm K 5)) (hMe : Has P w K mg base 6 "meets" ["pattern", "text"] (spMe K)) :
    Has P w K mg base 7 "_law_joins" ["_law_ahead", "_law_row", "_law_line_here"] (spJo K) := by
  obtain ⟨fHe, dHe, gHe, kHe, bHe, GHe⟩ := hHe
  obtain ⟨fTa, dTa, gTa, kTa, bTa, GTa⟩ := hTa
  obtain ⟨fRl, dRl, gRl, kRl, bRl, GRl⟩ := hRl
  obtain ⟨fSm, dSm, gSm, kSm, bSm, GSm⟩ := hSm
  obtain ⟨fMe, dMe, gMe, kMe, bMe, GMe⟩ := hMe
  refine has_of F g (F.binds (ps := ["_law_ahead", "_law_row", "_law_line_here"]) fun _ _ _ _ _ _ us hl => match us, hl with | [_, _, _], _ => rfl) (F.ok scJo (fun vs H Q E h => ?_) (fun cdv A outer s H vs Q E hr h => ?_))
  · obtain ⟨a, b, xs, ys, ps, qs, z, rfl, _⟩ := h
    rfl
  · refine ⟨_, (pss_cons (ps_set (i := 3) scJo.nd rfl (.inr rfl) (pe_call GHe hr rfl gHe kHe bHe .nil pass0 (pa_cons (pv 0) (pa_cons (pv 2) pa_nil))))
        (pss_cons (ps_set (i := 4) scJo.nd rfl (.inr rfl) (pe_call GTa hr rfl gTa kTa bTa .nil pass0 (pa_cons (pv 1) (pa_cons (pv 2) pa_nil))))
        (pss_cons (ps_if (PW.pt (pw_or (pt_not (pt_val (pe_call GRl (hr.mono (by decide)) rfl gRl kRl bRl .nil pass0 (pa_cons (pv 3) (pa_cons (pv 2) pa_nil))))) (pw_or1 (pt_not (pt_val (pe_call GRl (hr.mono (by decide)) rfl gRl kRl bRl .nil pass0 (pa_cons (pv 4) (pa_cons (pv 2) pa_nil)))))))) (pss_one (ps_ret pe_bl)) pss_nil)
        (pss_cons (ps_set (i := 5) scJo.nd rfl (.inl rfl) (pe_lst pa_nil))
        (pss_cons (ps_for PassesOwn.never rfl (pi_list (pv 3)) (pg_name (i := 6) scJo.nd rfl (.inr rfl))
          (pss_cons (ps_set (i := 7) scJo.nd rfl (.inl rfl) (pe_call GHe hr rfl gHe kHe bHe .nil pass0 (pa_cons (pv 1) (pa_cons (pe_slice sl_str (pv 2) (po_some (pv 6)) po_none) pa_nil))))
          (pss_cons (ps_if (pt_not (pt_val (pe_call GRl (hr.mono (by decide)) rfl gRl kRl bRl .nil pass0 (pa_cons (pv 7) (pa_cons (pe_slice sl_str (pv 2) (po_some (pv 6)) po_none) pa_nil))))) (pss_one (ps_ret pe_bl)) pss_nil)
          (pss_one (ps_set (i := 5) scJo.nd rfl (.inl rfl) (pe_op op_cat (pv 5) (pe_lc (own := [("_law_more", 8)]) (g := gName 8) (tt := tYes) rfl scJo.nd (pi_list (pv 7)) (blkOk_by (N := nJo) (sc := defScope sJo) (by decide +kernel)) (fun _ _ _ _ _ => pg_name (i := 8) scJo.nd rfl (.inl rfl)) (fun _ _ _ _ _ => pts_nil) (fun _ _ _ _ _ => (pe_op op_add (pv 6) (pv 8))))))))))
        (pss_cons (ps_if (pt_not (pt_val (pe_call GSm hr rfl gSm kSm bSm .nil pass0 (pa_cons (pe_call GHe hr rfl gHe kHe bHe .nil pass0 (pa_cons (pe_op op_cat (pv 0) (pv 1)) (pa_cons (pv 2) pa_nil))) (pa_cons (pe_callB (cr_sortedSet rfl) (by rfl) B.sorted (by decide +kernel) (pa_cons (pe_callTy (cr_setI rfl) (by rfl) B.set (by decide +kernel) (pa_cons (pv 5) pa_nil)) pa_nil)) pa_nil))))) (pss_one (ps_ret pe_bl)) pss_nil)
        (pss_cons (ps_set (i := 9) scJo.nd rfl (.inl rfl) (pe_cmpR (op_neD hr.units) (pe_lc (own := [("_law_at", 6)]) (g := gName 6) (tt := tTest (tOp (rIn K false) (tOp (rI0 fun i j => .int (i - j)) (tCB (rLenX K) (tCons (tVar 2) tNil)) (tVar 6)) (tVar 4))) rfl scJo.nd (pi_list (pv 3)) (blkOk_by (N := nJo) (sc := defScope sJo) (by decide +kernel)) (fun _ _ _ _ _ => pg_name (i := 6) scJo.nd rfl (.inl rfl)) (fun _ _ _ _ _ => pts_one (pt_cmpR op_in_seq (pe_op op_sub (pe_callB call_len (by rfl) B.len PySem.boot_len (pa_cons (pv 2) pa_nil)) (pv 6)) (pv 4) (by rfl))) (fun _ _ _ _ _ => (pv 6))) (pe_lst pa_nil) (nomark _)))
        (pss_cons (ps_if (pt_not (pt_val (pe_call GSm hr rfl gSm kSm bSm .nil pass0 (pa_cons (pe_call GMe hr rfl gMe kMe bMe .nil pass0 (pa_cons (pe_op op_cat (pv 0) (pv 1)) (pa_cons (pv 2) pa_nil))) (pa_cons (pv 9) pa_nil))))) (pss_one (ps_ret pe_bl)) pss_nil)
        (pss_cons (ps_set (i := 10) scJo.nd rfl (.inl rfl) (pe_call GTa hr rfl gTa kTa bTa .nil pass0 (pa_cons (pe_revL (pe_op op_cat (pv 0) (pv 1))) (pa_cons (pe_revS (pv 2)) pa_nil))))
        (pss_cons (ps_if (pt_not (pt_val (pe_call GSm hr rfl gSm kSm bSm .nil pass0 (pa_cons (pv 10) (pa_cons (pe_callB (cr_sortedSet rfl) (by rfl) B.sorted (by decide +kernel) (pa_cons (pe_callTy (cr_setI rfl) (by rfl) B.set (by decide +kernel) (pa_cons (pv 5) pa_nil)) pa_nil)) pa_nil))))) (pss_one (ps_ret pe_bl)) pss_nil)
        (pss_cons (ps_setLc (i := 11) (own := [("_law_at", 6)]) (g := gName 6) (tt := tAnd (tTest (tOp (rNeD K) (tVar 3) (tLst tNil))) (tTest (tOp (rI0 fun i j => .bl (decide (j ≤ i))) (tVar 6) (tOp (rIxL K) (tVar 3) (tC (.int 0)))))) rfl scJo.nd rfl rfl (sw_true rfl rfl rfl (by decide +kernel)) (pi_range1 (by rfl) B.range (pa_cons (pe_op op_add (pe_callB call_len (by rfl) B.len PySem.boot_len (pa_cons (pv 2) pa_nil)) pe_int) pa_nil)) (blkOk_by (N := nJo) (sc := defScope sJo) (by decide +kernel)) (fun _ _ _ _ _ => pg_name (i := 6) scJo.nd rfl (.inl rfl)) (fun _ _ _ _ _ => pts_one (PW.pt (pw_and (pt_cmpR (op_neD hr.units) (pv 3) (pe_lst pa_nil) (nomark _)) (pw_and1 (pt_cmpR op_ge (pv 6) (pe_ix ix_list (pv 3) pe_int (fun _ _ => rfl)) (nomark _)))))) (fun _ _ _ _ _ => (pv 6)))
        (pss_one (ps_ret (pe_call GSm hr rfl gSm kSm bSm .nil pass0 (pa_cons (pe_call GHe hr rfl gHe kHe bHe .nil pass0 (pa_cons (pe_op op_cat (pv 0) (pe_lst (pa_cons (pe_tup (pa_cons pe_str pa_nil)) pa_nil))) (pa_cons (pv 2) pa_nil))) (pa_cons (pv 11) pa_nil)))))))))))))))), ?_⟩
    obtain ⟨a, b, xs, ys, ps, qs, z, rfl, ra, rb, lpq, oz, lz, k⟩ := h
    have szl : z.length ≤ sizeLine := small_line (by rw [len_cs]; omega)
    have ez : z.length = (cs z).length := len_cs z
    refine ⟨_, rfl, _, rfl, .ref a, ps, z, rfl, ra.inp oz (by omega), fun H1 F1 E1 s1 n1 h1 _ e1 => ?_⟩
    refine ⟨_, rfl, _, rfl, .ref b, qs, z, rfl, (rb.same s1).inp oz (by omega), fun H2 F2 E2 s2 n2 h2 _ e2 => ?_⟩
    have le1 : ∀ x ∈ E1, x ≤ (cs z).length := fun x m => ((e1.2 x).mp m).1
    have le2 : ∀ x ∈ E2, x ≤ (cs z).length := fun x m => by
      have := ((e2.2 x).mp m).1
      rwa [List.length_reverse] at this
    have l1 := e1.lens
    have l2 := e2.lens
    rw [List.length_reverse] at l2
    refine ⟨_, rfl, _, rfl, F1, E1, z, rfl, s2 _ _ h1, e1.1, le1, by omega, fun H3 s3 => ⟨_, rfl, if_no rfl ?_⟩⟩
    refine ⟨_, rfl, _, rfl, F2, E2, z, rfl, s3 _ _ h2, e2.1, le2, by omega, fun H4 s4 => ⟨_, rfl, if_no rfl ?_⟩⟩
    have h14 := (s2.trans (s3.trans s4)) _ _ h1
    have h24 := (s3.trans s4) _ _ h2
    have ra4 := ra.same (s1.trans (s2.trans (s3.trans s4)))
    have rb4 := rb.same (s1.trans (s2.trans (s3.trans s4)))
    have t4 := s1.trans (s2.trans (s3.trans s4))
    refine ⟨(by decide : 0 ≤ sizeLine), fun D0 nD0 => ?_⟩
    -- what is due
    refine ⟨_, rfl, F1, rfl, ⟨_, (same_upd nD0).seq (SqL.of h14)⟩, for_list (xs := intV E1) (fun i σ H' => ∃ (D : Addr) (U : List Nat) (x6 x7 x8 x9 x10 x11 : Option V), σ = [some (.ref a), some (.ref b), some (.str z), some (.ref F1), some (.ref F2), some (.ref D), x6, x7, x8, x9, x10, x11] ∧ Same H4 H' ∧ H' D = some (.lst (intV U)) ∧ U.length ≤ 11 * i ∧ Due qs (cs z) (E1.take i) U) ⟨D0, [], _, _, _, _, _, _, rfl, same_upd nD0, upd_same, Nat.le_refl _, fun x => by simp⟩ (fun i σ H' _ e => ?_) (fun i x σ H' hx e => ?_) (fun σ H' e => ?_)⟩
    · obtain ⟨D, U, x6, x7, x8, x9, x10, x11, _, sH, _⟩ := e
      exact sH.seq (SqL.of h14)
    · obtain ⟨D, U, x6, x7, x8, x9, x10, x11, rfl, sH, hD, lU, du⟩ := e
      obtain ⟨c, hc, rfl⟩ := intV_at hx
      have mc := List.mem_of_getElem? hc
      have hi : i < E1.length := (List.getElem?_eq_some_iff.mp hc).1
      have ec := cs_from z c
      have oc : okZ (cutS z (some ((c : Nat) : Int)) none) := fun x m => oz x (cut_sub x m)
      have lc : (cs (cutS z (some ((c : Nat) : Int)) none)).length ≤ 10 := by rw [ec, List.length_drop]; omega
      refine ⟨_, rfl, _, rfl, _, rfl, _, rfl, z, rfl, szl, .ref b, qs, _, rfl, (rb4.same sH).inp oc (by omega), fun H5 F3 E3 s5 n3 h3 _ e3 => ?_⟩
      have l3 := e3.lens
      refine ⟨_, rfl, _, rfl, _, rfl, _, rfl, z, rfl, szl, F3, E3, _, rfl, h3, e3.1, (fun x m => ((e3.2 x).mp m).1), by omega, fun H6 s6 => ⟨_, rfl, if_no rfl ?_⟩⟩
      have h36 := s6 _ _ h3
      refine ⟨_, rfl, _, rfl, F3, rfl, ⟨_, SqL.of h36⟩, fun D2 nD2 => lc_it (walk_list (xs := intV E3)) (fun j H7 => Same H6 H7 ∧ H7 D2 = some (.lst (intV ((E3.take j).map (c + ·))))) ⟨same_upd nD2, upd_same⟩ (fun j H7 _ e => e.1.seq (SqL.of h36)) (fun j x H7 H8 hj e y => ?_) (fun H7 e => ?_)⟩
      · obtain ⟨s7, hD7⟩ := e
        obtain ⟨rfl, hx2⟩ := y
        obtain ⟨d, hd, rfl⟩ := intV_at hx2
        rw [intV_len] at hj
        refine ⟨rfl, _, rfl, _, rfl, _, _, rfl, rfl, _, hD7, ?_, same_upd2 s7 nD2, ?_⟩
        · rw [intV_len, List.length_map, List.length_take, sizeLine_eq]
          omega
        · rw [upd_same, take_snoc hd, List.map_append, show [d].map (c + ·) = [c + d] from rfl, intV_snoc]
          rfl
      · obtain ⟨s7, hD7⟩ := e
        rw [intV_len, List.take_length] at hD7
        have s57 := s5.trans (s6.trans s7)
        refine ⟨D, D2, _, _, rfl, rfl, s57 _ _ hD, hD7, by rw [intV_len, intV_len, List.length_map, sizeLine_eq]; omega, fun q nq => ?_⟩
        have s8 := same_upd (o := .lst (intV U ++ intV (E3.map (c + ·)))) nq
        refine ⟨q, U ++ E3.map (c + ·), _, _, _, _, _, _, rfl, sH.trans (s57.trans s8), ?_, ?_, fun x => ?_⟩
        · rw [upd_same]
          unfold intV
          rw [List.map_append]
        · rw [List.length_append, List.length_map]
          omega
        · rw [List.mem_append, du x, take_snoc hc, List.mem_map]
          have e3' : ∀ y, y ∈ E3 ↔ y ≤ ((cs z).drop c).length ∧ M qs (((cs z).drop c).take y) := fun y => by rw [e3.2, ec]
          constructor
          · rintro (⟨a', ma, r⟩ | ⟨y, my, rfl⟩)
            · exact ⟨a', List.mem_append.mpr (.inl ma), r⟩
            · exact ⟨c, List.mem_append.mpr (.inr (.head _)), y, ((e3' y).mp my).1, ((e3' y).mp my).2, rfl⟩
          · rintro ⟨a', ma, y, ly, my, rfl⟩
            rcases List.mem_append.mp ma with ma | ma
            · exact .inl ⟨a', ma, y, ly, my, rfl⟩
            · rcases List.mem_singleton.mp ma with rfl
              exact .inr ⟨y, (e3' y).mpr ⟨ly, my⟩, rfl⟩
    · obtain ⟨D, U, x6, x7, x8, x9, x10, x11, rfl, sH, hD, lU, du⟩ := e
      rw [intV_len] at lU du
      rw [List.take_length] at du
      have lU2 : U.length ≤ 1000 := by omega
      have h1' := sH _ _ h14
      have h2' := sH _ _ h24
      have ra' := ra4.same sH
      have rb' := rb4.same sH
      have t' := t4.trans sH
      have lens : xs.length + ys.length ≤ sizeLine := by rw [ra.lens, rb.lens, sizeLine_eq]; omega
      -- sorted(set(due))
      have few : ∀ out : List Int, out.Nodup → (∀ k : Int, k ∈ out ↔ k ∈ up U) → out.length < 64 := fun out nd mem => by
        have := int_len (n := 11) nd fun k mk => by
          obtain ⟨x, mx, rfl⟩ := up_mem.mp ((mem k).mp mk)
          have := due_le du le1 mx
          omega
        omega
      have hU : ∀ {H5 : Hp}, Same H' H5 → SqL K H5 D ((up U).map V.int) := fun s5 => by rw [up_V]; exact SqL.of (s5 _ _ hD)
      have lU3 : (up U).length ≤ 1000 := by rw [List.length_map]; exact lU2
      -- the joined pattern's beginnings
      refine ⟨_, rfl, _, rfl, a, b, xs, ys, rfl, rfl, ra'.at_, rb'.at_, lens, fun q5 nq5 => ?_⟩
      have rj5 := ra'.join rb' nq5 (by omega)
      have s5 := same_upd (o := .lst (xs ++ ys)) nq5
      refine ⟨_, rfl, .ref q5, ps ++ qs, z, rfl, rj5.inp oz (by omega), fun H6 F6 E6 s6 n6 h6 _ e6 => ?_⟩
      have lE6 : E6.length ≤ 1001 - 1 := by have := e6.lens; omega
      refine ⟨_, rfl, D, up U, rfl, hU (s5.trans s6), lU3, fun A7 out nA nd mem => ⟨A7, _, _, rfl, upd_same, few out nd mem, fun ns p7 pw mm ln np => ?_⟩⟩
      obtain rfl := up_sorted e6.1 (due_ends e1 du e6) pw mm
      have s7 := (same_upd (o := SetO w A7 (fun j => decide (j ∈ up U)) out.length) nA).trans (same_upd (o := .lst ((up E6).map V.int)) np)
      refine ⟨.ref F6, .ref p7, natsD E6, rfl, dp_nats (s7 _ _ h6), dp_nats (by rw [upd_same, up_V]), pl_nats lE6, fun H8 s8 => ⟨_, rfl, if_no rfl ?_⟩⟩
      have t8 := s5.trans (s6.trans (s7.trans s8))
      -- the whole text
      refine ⟨_, rfl, F1, rfl, ⟨_, SqL.of (t8 _ _ h1')⟩, fun D9 nD9 => lc_it (walk_list (xs := intV E1)) (fun i H9 => Same H8 H9 ∧ H9 D9 = some (.lst (intV ((E1.take i).filter fun x => decide ((cs z).length - x ∈ E2))))) ⟨same_upd nD9, upd_same⟩ (fun i H9 _ e => (t8.trans e.1).seq (SqL.of h1')) (fun i x H9 H10 hi e y => ?_) (fun H9 e => ?_)⟩
      · obtain ⟨s9, hD9⟩ := e
        obtain ⟨rfl, hx⟩ := y
        obtain ⟨c, hc, rfl⟩ := intV_at hx
        have lc := le1 c (List.mem_of_getElem? hc)
        rw [intV_len] at hi
        refine ⟨rfl, _, rfl, .str z, z.length, rfl, ⟨szl, rfl⟩, _, rfl, _, _, rfl, rfl, _, rfl, F2, intV E2, rfl, .inl ((t8.trans s9).seq (SqL.of h2')), rfl, flat_nats _, _, rfl, ?_⟩
        have ei : inV (.int (((z.length : Nat) : Int) - ((c : Nat) : Int))) (intV E2) = decide ((cs z).length - c ∈ E2) := by
          rw [show ((z.length : Nat) : Int) - ((c : Nat) : Int) = (((cs z).length - c : Nat) : Int) by omega]
          have zz := in_nats (n := (cs z).length - c) (E := E2)
          by_cases m : (cs z).length - c ∈ E2
          · rw [decide_eq_true m, zz.mpr m]
          · rw [decide_eq_false m]
            cases cc : inV (.int (((cs z).length - c : Nat) : Int)) (intV E2) with
            | false => rfl
            | true => exact absurd (zz.mp cc) m
        rw [if_neg (by decide), ei]
        have fs := filter_snoc (p := fun x => decide ((cs z).length - x ∈ E2)) hc
        refine if_by (fun e2 => ?_) (fun e2 => ⟨s9, ?_⟩)
        · refine ⟨_, rfl, _, hD9, ?_, same_upd2 s9 nD9, ?_⟩
          · rw [intV_len, sizeLine_eq]
            have := List.length_filter_le (fun x => decide ((cs z).length - x ∈ E2)) (E1.take i)
            rw [List.length_take] at this
            omega
          · rw [upd_same, fs, if_pos e2, intV_snoc]
        · rw [fs, if_neg (by rw [e2]; decide), List.append_nil]
          exact hD9
      · obtain ⟨s9, hD9⟩ := e
        rw [intV_len, List.take_length] at hD9
        have wo := whole_ok (w := cs z) e1 e2
        generalize E1.filter (fun x => decide ((cs z).length - x ∈ E2)) = W at hD9 wo
        refine ⟨(by decide : 0 ≤ sizeLine), fun e ne => ?_⟩
        have s10 := same_upd (o := .lst []) ne
        refine ⟨natsD W, .list [], dp_nats (s10 _ _ hD9), .lst (SqL.of upd_same) .nil, sh_ok (sh_nats _), by decide, ?_⟩
        have t10 := t8.trans (s9.trans s10)
        generalize L2.upd H9 e (.lst []) = H10 at t10
        have ra10 := ra'.same t10
        have rb10 := rb'.same t10
        refine ⟨_, rfl, _, rfl, a, b, xs, ys, rfl, rfl, ra10.at_, rb10.at_, lens, fun q11 nq11 => ?_⟩
        have rj11 := ra10.join rb10 nq11 (by omega)
        have s11 := same_upd (o := .lst (xs ++ ys)) nq11
        refine ⟨_, rfl, .ref q11, ps ++ qs, z, rfl, rj11.inp oz (by omega), fun H12 bb s12 eb => ?_⟩
        have ebb : (!PyData.eqv (natsD W) (.list [])) = bb := by
          have zz : PyData.eqv (natsD W) (.list []) = W.isEmpty := by
            unfold natsD
            rw [eqv_nil]
            cases W <;> rfl
          rw [zz]
          cases W with
          | nil =>
            cases bb with
            | false => rfl
            | true => exact absurd rfl (wo.mpr (eb.mp rfl))
          | cons x W => exact (eb.mpr (wo.mp (by simp))).symm
        rw [ebb]
        refine ⟨_, rfl, .bl bb, .bl bb, .bool bb, rfl, .bl _, .bl _, .inl (.inr (.inl ⟨bb, rfl⟩)), fun H13 s13 => ⟨_, rfl, if_no rfl ?_⟩⟩
        have t13 := t10.trans (s11.trans (s12.trans s13))
        -- turned about
        have ra13 := ra'.same t13
        have rb13 := rb'.same t13
        refine ⟨_, rfl, _, rfl, a, b, xs, ys, rfl, rfl, ra13.at_, rb13.at_, lens, fun q14 nq14 => ?_⟩
        have rj14 := ra13.join rb13 nq14 (by omega)
        have s14 := same_upd (o := .lst (xs ++ ys)) nq14
        refine ⟨q14, xs ++ ys, rfl, SqL.of upd_same, fun r15 nr15 => ?_⟩
        have rt15 := rj14.turn nr15
        have s15 := same_upd (o := .lst (xs ++ ys).reverse) nr15
        have ozr : okZ (revS z) := fun x m => oz x (by rw [cs_rev] at m; exact List.mem_reverse.mp m)
        refine ⟨_, rfl, z, rfl, szl, .ref r15, (ps ++ qs).reverse, revS z, rfl, rt15.inp ozr (by rw [cs_rev, List.length_reverse]; omega), fun H16 F16 E16 s16 n16 h16 _ e16 => ?_⟩
        rw [cs_rev, List.reverse_reverse, List.reverse_reverse] at e16
        have lE16 : E16.length ≤ 1001 - 1 := by have := e16.lens; omega
        have t16 := t13.trans (s14.trans (s15.trans s16))
        refine ⟨_, rfl, _, rfl, D, up U, rfl, hU t16, lU3, fun A17 out nA nd mem => ⟨A17, _, _, rfl, upd_same, few out nd mem, fun ns p17 pw mm ln np => ?_⟩⟩
        obtain rfl := up_sorted e16.1 (due_ends e1 du e16) pw mm
        have s17 := (same_upd (o := SetO w A17 (fun j => decide (j ∈ up U)) out.length) nA).trans (same_upd (o := .lst ((up E16).map V.int)) np)
        refine ⟨.ref F16, .ref p17, natsD E16, rfl, dp_nats (s17 _ _ h16), dp_nats (by rw [upd_same, up_V]), pl_nats lE16, fun H18 s18 => ⟨_, rfl, if_no rfl ?_⟩⟩
        have t18 := t16.trans (s17.trans s18)
        have h118 := t18 _ _ h1'
        -- a lot behind it
        refine ⟨_, rfl, .str z, z.length, rfl, ⟨szl, rfl⟩, _, _, rfl, rfl, (((cs z).length + 1 : Nat) : Int), congrArg (fun n : Int => [V.int n]) (show ((z.length : Nat) : Int) + 1 = (((cs z).length + 1 : Nat) : Int) by omega), by omega, by omega, fun D19 nD19 => lc_it (walk_range (lo := 0) (n := (cs z).length + 1)) (fun i H2 => Same H18 H2 ∧ H2 D19 = some (.lst (intV ((List.range i).filter (lotOf E1))))) ⟨same_upd nD19, upd_same⟩ (fun _ _ _ _ => trivial) (fun i x H1 H2 hi' e y => ?_) (fun H19 e => ?_)⟩
        · obtain ⟨s2, hD2⟩ := e
          obtain ⟨rfl, rfl⟩ := y
          have lr : (intV ((List.range i).filter (lotOf E1))).length ≤ i := by
            rw [intV_len]
            have := List.length_filter_le (lotOf E1) (List.range i)
            rw [List.length_range] at this
            exact this
          refine ⟨rfl, _, rfl, (by decide : 0 ≤ sizeLine), fun e ne => ?_⟩
          have s3 := same_upd (o := .lst []) ne
          have s23 := s2.trans s3
          refine ⟨.list _, .list [], .lst (SqL.of (s23 _ _ h118)) (dp_intV _), .lst (SqL.of upd_same) .nil, sh_ok (sh_nats _), by decide, _, rfl, ?_⟩
          rw [eqv_nil]
          have stop : ∀ b : Bool, lotOf E1 i = b → b = false → Same H18 (L2.upd H2 e (.lst [])) ∧ (L2.upd H2 e (.lst [])) D19 = some (.lst (intV ((List.range (i + 1)).filter (lotOf E1)))) := fun b h1 h2 => by
            refine ⟨s23, ?_⟩
            rw [range_snoc, h1, h2, if_neg (by decide), List.append_nil]
            exact s3 _ _ hD2
          clear e1 le1 l1 du h1 h14 h1' few e6 wo e16
          cases E1 with
          | nil => exact if_no rfl (stop _ rfl rfl)
          | cons e0 E =>
            refine if_yes rfl ⟨_, rfl, _, rfl, F1, _, 0, .int ((e0 : Nat) : Int), rfl, rfl, SqL.of (s23 _ _ h118), atI_nat (j := 0) rfl, _, _, rfl, rfl, _, rfl, ?_⟩
            have ee : decide (((e0 : Nat) : Int) ≤ 0 + ((i : Nat) : Int)) = lotOf (e0 :: E) i := by
              show _ = decide (e0 ≤ i)
              by_cases h : e0 ≤ i
              · rw [decide_eq_true h, decide_eq_true (by omega)]
              · rw [decide_eq_false h, decide_eq_false (by omega)]
            rw [ee]
            refine if_by (fun e2 => ?_) (fun e2 => stop _ e2 rfl)
            refine ⟨_, rfl, _, s3 _ _ hD2, by rw [sizeLine_eq]; omega, same_upd2 s23 nD19, ?_⟩
            rw [upd_same, range_snoc, e2, if_pos rfl, intV_snoc]
            dsimp only
            rw [Int.zero_add]
        · obtain ⟨s19, hD19⟩ := e
          have ra19 := ra'.same (t18.trans s19)
          refine ⟨_, rfl, (by decide : 1 ≤ sizeLine), fun T nT => ⟨(by decide : 1 ≤ sizeLine), fun L nL => ?_⟩⟩
          have sT := same_upd (o := .tup [.str "lot"]) nT
          have sL := same_upd (o := .lst [V.ref T]) nL
          have rl : Row K (L2.upd (L2.upd H19 T (.tup [.str "lot"])) L (.lst [V.ref T])) L [V.ref T] [Pt.lot] :=
            ⟨upd_same, .cons (.tup (SqT.of (sL _ _ upd_same)) (.cons (.str _) .nil)) .nil, by decide, fun q m => by rcases List.mem_singleton.mp m with rfl; exact ⟨trivial, trivial⟩⟩
          have ra20 := ra19.same (sT.trans sL)
          refine ⟨a, L, xs, [V.ref T], rfl, rfl, ra20.at_, rl.at_, by rw [ra.lens, sizeLine_eq]; show _ + 1 ≤ _; omega, fun q nq => ?_⟩
          have rq := ra20.join rl nq (by show _ + 1 ≤ _; omega)
          have sq := same_upd (o := .lst (xs ++ [V.ref T])) nq
          refine ⟨_, rfl, .ref q, ps ++ [.lot], z, rfl, rq.inp oz (by omega), fun H21 F21 E21 s21 n21 h21 _ e21 => ?_⟩
          obtain rfl := e21.uniq e1.lot fun _ => Iff.rfl
          have lE21 := e21.lens
          have t21 := (t18.trans s19).trans (sT.trans (sL.trans (sq.trans s21)))
          exact ⟨_, rfl, .ref F21, .ref D19, natsD _, rfl, dp_nats h21, dp_nats ((sT.trans (sL.trans (sq.trans s21))) _ _ hD19), pl_nats (by omega), fun H22 s22 => k _ (t'.trans (t21.trans s22))⟩
end
end Qb
end PySem
namespace PySem
namespace Qb
open PySem.W PySem.Calls PyProof.Rows L2
theorem cs_to (z : Str) (a : Nat) : cs (cutS z none (some ((a : Nat) : Int))) = (cs z).take a := by
  have e : cs (cutS z none (some ((a : Nat) : Int))) = ((cs z).drop (HT.sIx z.length 0 none)).take (HT.sIx z.length z.length (some ((a : Nat) : Int)) - HT.sIx z.length 0 none) := by
    unfold cutS
    simp
  rw [e, HT.sIx_nat, HT.sIx_none, List.drop_zero, Nat.sub_zero]
  have l : z.length = (cs z).length := len_cs z
  by_cases h : a ≤ z.length
  · rw [Nat.min_eq_left h]
  · rw [Nat.min_eq_right (by omega), List.take_of_length_le (by omega), List.take_of_length_le (by omega)]
theorem mk_app (l m : List Nat) : (⟨l.toArray⟩ : Str) ++ (⟨m.toArray⟩ : Str) = (⟨(l ++ m).toArray⟩ : Str) := str_ext (by
  rw [cs_app])
theorem mk_cs (l : List Nat) : cs (⟨l.toArray⟩ : Str) = l := by
  show l.toArray.toList = l
  rfl
theorem Row.dp {K : Frag} {H : Hp} {a : Addr} {xs : List V} {ps : List Pt} (r : Row K H a xs ps) : Dp K H (.ref a) (.list (ps.map Pt.d)) := .lst (SqL.of r.at_) r.all
def spLj (K : Frag) : Sp := fun vs H Q _ => ∃ (a b : Addr) (xs ys : List V) (ps qs : List Pt), vs = [.ref a, .ref b] ∧ Row K H a xs ps ∧ Row K H b ys qs ∧ ps.length + qs.length ≤ 19 ∧ ∀ H', Same H H' → Q (.bl true) H'
def lawSp (K : Frag) : Sp := fun vs H Q _ => ∃ (a : Addr) (ns : List Int), vs = [.ref a] ∧ SqL K H a (ns.map V.int) ∧ ns.length ≤ 63 ∧ ∀ H', Q (.bl true) H'
section
variable {P : Program} {w : World} {K : Frag} {mg : Str → Option Value} {base : Heap}
abbrev sLj : Stmt := top 39
abbrev nLj : List Str := ["_law_ahead", "_law_row", "_law_first", "_law_second"]
theorem scLj : FnScope nLj ["_law_ahead", "_law_row"] (defScope sLj) := ⟨rfl, rfl, rfl, by decide +kernel, rfl, by decide +kernel, by decide +kernel⟩
theorem has_Lj {f : Addr} {fd : FuncData} (F : Fun K "_law_least_joins" "_law_least_joins" sLj f fd) (g : mg "_law_least_joins" = some (.ref f)) (B : Blt mg) (hLt : Has P w K mg base 6 "least_text" ["pattern"] (spLt K)) (hMe : Has P w K mg base 6 "meets" ["pattern", "text"] (spMe K)) (hSm : Has P w K mg base 6 "_law_same" ["_law_found", "_law_due"] (spSm K 5)) :
    Has P w K mg base 7 "_law_least_joins" ["_law_ahead", "_law_row"] (spLj K) := by
  obtain ⟨fLt, dLt, gLt, kLt, bLt, GLt⟩ := hLt
  obtain ⟨fMe, dMe, gMe, kMe, bMe, GMe⟩ := hMe
  obtain ⟨fSm, dSm, gSm, kSm, bSm, GSm⟩ := hSm
  refine has_of F g (F.binds (ps := ["_law_ahead", "_law_row"]) fun _ _ _ _ _ _ us hl => match us, hl with | [_, _], _ => rfl) (F.ok scLj (fun vs H Q E h => ?_) (fun cdv A outer s H vs Q E hr h => ?_))
  · obtain ⟨a, b, xs, ys, ps, qs, rfl, _⟩ := h
    rfl
  · refine ⟨_, (pss_cons (ps_set (i := 2) scLj.nd rfl (.inl rfl) (pe_call GLt hr rfl gLt kLt bLt .nil pass0 (pa_cons (pv 0) pa_nil)))
        (pss_cons (ps_set (i := 3) scLj.nd rfl (.inl rfl) (pe_call GLt hr rfl gLt kLt bLt .nil pass0 (pa_cons (pv 1) pa_nil)))
        (pss_cons (ps_if (PW.pt (pw_or (pt_cmpR op_isN (pv 2) pe_non (nomark _)) (pw_or1 (pt_cmpR op_isN (pv 3) pe_non (nomark _))))) (pss_one (ps_ret (pe_cmpR op_isN (pe_call GLt hr rfl gLt kLt bLt .nil pass0 (pa_cons (pe_op op_cat (pv 0) (pv 1)) pa_nil)) pe_non (nomark _)))) pss_nil)
        (pss_cons (ps_if (PW.pt (pw_or (pt_not (pt_val (pe_callB call_isi (by rfl) B.isi (by decide +kernel) (pa_cons (pv 2) (pa_cons (pe_bltn (v := .ty "str") (by rfl) B.str (by decide +kernel) rfl) pa_nil))))) (pw_or1 (pt_not (pt_val (pe_callB call_isi (by rfl) B.isi (by decide +kernel) (pa_cons (pv 3) (pa_cons (pe_bltn (v := .ty "str") (by rfl) B.str (by decide +kernel) rfl) pa_nil)))))))) (pss_one (ps_ret pe_bl)) pss_nil)
        (pss_one (ps_ret (pe_and (pe_call GSm hr rfl gSm kSm bSm .nil pass0 (pa_cons (pe_call GLt hr rfl gLt kLt bLt .nil pass0 (pa_cons (pe_op op_cat (pv 0) (pv 1)) pa_nil)) (pa_cons (pe_op op_add_str (pv 2) (pv 3)) pa_nil))) (pe_one (pe_cmpR op_is_bl (pe_call GMe hr rfl gMe kMe bMe .nil pass0 (pa_cons (pe_op op_cat (pv 0) (pv 1)) (pa_cons (pe_op op_add_str (pv 2) (pv 3)) pa_nil))) pe_bl (nomark _)))))))))), ?_⟩
    obtain ⟨a, b, xs, ys, ps, qs, rfl, ra, rb, lpq, k⟩ := h
    have la := ra.len
    have lb := rb.len
    have lens : xs.length + ys.length ≤ sizeLine := by rw [ra.lens, rb.lens, sizeLine_eq]; omega
    refine ⟨_, rfl, .ref a, ps, rfl, ra.dp, by omega, ra.ok, fun H1 s1 => ?_⟩
    refine ⟨_, rfl, .ref b, qs, rfl, (rb.same s1).dp, by omega, rb.ok, fun H2 s2 => ?_⟩
    have ap := lst_app ps qs
    have s12 := s1.trans s2
    have ra2 := ra.same s12
    have rb2 := rb.same s12
    cases e1 : lstOf ps with
    | none =>
      rw [e1] at ap
      refine ⟨_, rfl, rfl, _, rfl, if_yes rfl ?_⟩
      refine ⟨_, rfl, _, rfl, a, b, xs, ys, rfl, rfl, ra2.at_, rb2.at_, lens, fun q nq => ?_⟩
      have rj := ra2.join rb2 nq (by omega)
      refine ⟨.ref q, ps ++ qs, rfl, rj.dp, by have := rj.len; omega, rj.ok, fun H3 s3 => ?_⟩
      rw [ap]
      exact ⟨rfl, k _ (s12.trans ((same_upd nq).trans s3))⟩
    | some l =>
      cases e2 : lstOf qs with
      | none =>
        rw [e1, e2] at ap
        refine ⟨_, rfl, rfl, _, rfl, if_no rfl ⟨_, rfl, rfl, _, rfl, if_yes rfl ?_⟩⟩
        refine ⟨_, rfl, _, rfl, a, b, xs, ys, rfl, rfl, ra2.at_, rb2.at_, lens, fun q nq => ?_⟩
        have rj := ra2.join rb2 nq (by omega)
        refine ⟨.ref q, ps ++ qs, rfl, rj.dp, by have := rj.len; omega, rj.ok, fun H3 s3 => ?_⟩
        rw [ap]
        exact ⟨rfl, k _ (s12.trans ((same_upd nq).trans s3))⟩
      | some m =>
        rw [e1, e2] at ap
        have ap : lstOf (ps ++ qs) = some (l ++ m) := ap
        have ll := lst_len e1
        have lm := lst_len e2
        have bound : (⟨l.toArray⟩ : Str).length + (⟨m.toArray⟩ : Str).length ≤ sizeLine := by
          rw [len_cs, len_cs, mk_cs, mk_cs, sizeLine_eq]
          omega
        have rj0 : ∀ q ∈ ps ++ qs, q.good ∧ q.few := fun q mq => by
          rcases List.mem_append.mp mq with mq | mq
          · exact ra.ok q mq
          · exact rb.ok q mq
        refine ⟨_, rfl, rfl, _, rfl, if_no rfl ⟨_, rfl, rfl, _, rfl, if_no rfl ?_⟩⟩
        refine ⟨_, rfl, .str ⟨l.toArray⟩, .ty "str", .type "str", .type "str", true, rfl, .ty _, .base (.str _), kit_ty (by decide +kernel), _, rfl, if_no rfl ?_⟩
        refine ⟨_, rfl, .str ⟨m.toArray⟩, .ty "str", .type "str", .type "str", true, rfl, .ty _, .base (.str _), kit_ty (by decide +kernel), _, rfl, if_no rfl ?_⟩
        refine ⟨_, rfl, _, rfl, a, b, xs, ys, rfl, rfl, ra2.at_, rb2.at_, lens, fun q nq => ?_⟩
        have rj := ra2.join rb2 nq (by omega)
        refine ⟨.ref q, ps ++ qs, rfl, rj.dp, by have := rj.len; omega, rj.ok, fun H3 s3 => ?_⟩
        rw [ap]
        have s13 := s12.trans ((same_upd (o := .lst (xs ++ ys)) nq).trans s3)
        refine ⟨_, rfl, _, rfl, _, _, rfl, rfl, bound, ?_⟩
        refine ⟨_, _, .str ⟨(l ++ m).toArray⟩, rfl, .str _, by rw [mk_app]; exact .str _, pl_str 4 _, fun H4 s4 => ⟨_, rfl, if_yes rfl ?_⟩⟩
        have s14 := s13.trans s4
        have ra4 := ra.same s14
        have rb4 := rb.same s14
        refine ⟨_, rfl, _, rfl, a, b, xs, ys, rfl, rfl, ra4.at_, rb4.at_, lens, fun q5 nq5 => ?_⟩
        have rj5 := ra4.join rb4 nq5 (by omega)
        have s5 := same_upd (o := .lst (xs ++ ys)) nq5
        have ecs : cs ((⟨l.toArray⟩ : Str) ++ (⟨m.toArray⟩ : Str)) = l ++ m := by rw [mk_app, mk_cs]
        have oz : okZ ((⟨l.toArray⟩ : Str) ++ (⟨m.toArray⟩ : Str)) := fun c mc => by
          rw [ecs] at mc
          exact lst_signs (fun p mp => (rj0 p mp).1) ap c mc
        refine ⟨_, rfl, _, rfl, _, _, rfl, rfl, bound, .ref q5, ps ++ qs, _, rfl, rj5.inp oz (by rw [ecs, List.length_append]; omega), fun H6 bb s6 eb => ?_⟩
        rw [ecs] at eb
        obtain rfl : bb = true := eb.mpr (lst_met (fun p mp => (rj0 p mp).1) ap)
        exact ⟨_, _, rfl, rfl, k _ (s14.trans (s5.trans s6))⟩
abbrev sLw : Stmt := top 40
abbrev nLw : List Str := ["_law_script", "_law_ahead", "_law_at", "_law_purse_here", "_law_row", "_law_turn", "_law_line_here"]
theorem scLw : FnScope nLw ["_law_script"] (defScope sLw) := ⟨rfl, rfl, rfl, by decide +kernel, rfl, by decide +kernel, by decide +kernel⟩
theorem ok_Lw {f : Addr} {fd : FuncData} (F : Fun K "law" "law" sLw f fd) (B : Blt mg) (hPu : Has P w K mg base 1 "_law_purse" ["_law_script", "_law_at"] (spPu K)) (hCo : Has P w K mg base 1 "_law_coin" ["_law_purse_here", "_law_many"] spCo) (hEn : Has P w K mg base 3 "_law_entry" ["_law_purse_here"] (spEn K)) (hBe : Has P w K mg base 3 "_law_bent" ["_law_purse_here", "_law_line_here"] spBe) (hLi : Has P w K mg base 3 "_law_line" ["_law_purse_here", "_law_row"] (spLi K)) (hLj : Has P w K mg base 7 "_law_least_joins" ["_law_ahead", "_law_row"] (spLj K)) (hJo : Has P w K mg base 7 "_law_joins" ["_law_ahead", "_law_row", "_law_line_here"] (spJo K)) :
    FnOk P w K mg base CX0 8 f fd ["_law_script"] (lawSp K) := by
  obtain ⟨fPu, dPu, gPu, kPu, bPu, GPu⟩ := hPu
  obtain ⟨fCo, dCo, gCo, kCo, bCo, GCo⟩ := hCo
  obtain ⟨fEn, dEn, gEn, kEn, bEn, GEn⟩ := hEn
  obtain ⟨fBe, dBe, gBe, kBe, bBe, GBe⟩ := hBe
  obtain ⟨fLi, dLi, gLi, kLi, bLi, GLi⟩ := hLi
  obtain ⟨fLj, dLj, gLj, kLj, bLj, GLj⟩ := hLj
  obtain ⟨fJo, dJo, gJo, kJo, bJo, GJo⟩ := hJo
  refine (F.ok scLw (fun vs H Q E h => ?_) (fun cdv A outer s H vs Q E hr h => ?_))
  · obtain ⟨a, ns, rfl, _⟩ := h
    rfl
  · refine ⟨_, (pss_cons (ps_set (i := 1) scLw.nd rfl (.inl rfl) (pe_lst pa_nil))
        (pss_cons (ps_for PassesOwn.never rfl (pi_range1 (by rfl) B.range (pa_cons (pe_callB (call_max2 rfl) (by rfl) B.max (by decide +kernel) (pa_cons pe_int (pa_cons (pe_callB (call_min2 rfl) (by rfl) B.min (by decide +kernel) (pa_cons pe_int (pa_cons (pe_callB call_len_seq (by rfl) B.len PySem.boot_len (pa_cons (pv 0) pa_nil)) pa_nil))) pa_nil))) pa_nil)) (pg_name (i := 2) scLw.nd rfl (.inl rfl))
          (pss_cons (ps_set (i := 3) scLw.nd rfl (.inr rfl) (pe_call GPu (hr.mono (by decide)) rfl gPu kPu bPu .nil pass0 (pa_cons (pv 0) (pa_cons (pv 2) pa_nil))))
          (pss_cons (ps_setLc (i := 4) (own := [("_law_turn", 5)]) (g := gName 5) (te := tCall (spEn K) [] E0 (tCons (tVar 3) tNil)) (tt := tYes) rfl scLw.nd rfl rfl (sw_true rfl rfl rfl (by decide +kernel)) (pi_range1 (by rfl) B.range (pa_cons (pe_call GCo (hr.mono (by decide)) rfl gCo kCo bCo .nil pass0 (pa_cons (pv 3) (pa_cons pe_int pa_nil))) pa_nil)) (blkOk_by (N := nLw) (sc := defScope sLw) (by decide +kernel)) (fun _ _ _ _ _ => pg_name (i := 5) scLw.nd rfl (.inl rfl)) (fun _ _ _ _ _ => pts_nil) (fun _ _ _ _ _ => (pe_call GEn (hr.mono (by decide)) rfl gEn kEn bEn .nil pass0 (pa_cons (pv 3) pa_nil))))
          (pss_cons (ps_set (i := 6) scLw.nd rfl (.inl rfl) (pe_slice sl_str (pe_call GBe (hr.mono (by decide)) rfl gBe kBe bBe .nil pass0 (pa_cons (pv 3) (pa_cons (pe_call GLi (hr.mono (by decide)) rfl gLi kLi bLi .nil pass0 (pa_cons (pv 3) (pa_cons (pe_op op_cat (pv 1) (pv 4)) pa_nil))) pa_nil))) po_none (po_some pe_int)))
          (pss_cons (ps_if (PW.pt (pw_or (pt_not (pt_val (pe_call GJo hr rfl gJo kJo bJo .nil pass0 (pa_cons (pv 1) (pa_cons (pv 4) (pa_cons (pv 6) pa_nil)))))) (pw_or1 (pt_not (pt_val (pe_call GLj hr rfl gLj kLj bLj .nil pass0 (pa_cons (pv 1) (pa_cons (pv 4) pa_nil)))))))) (pss_one (ps_ret pe_bl)) pss_nil)
          (pss_one (ps_set (i := 1) scLw.nd rfl (.inl rfl) (pv 4))))))))
        (pss_one (ps_ret pe_bl)))), ?_⟩
    obtain ⟨a, ns, rfl, hq, hl, k⟩ := h
    refine ⟨(by decide : 0 ≤ sizeLine), fun A0 nA0 => ?_⟩
    have s0 := same_upd (o := .lst []) nA0
    have hq0 := s0.seq hq
    have b40 : ∀ e m : Int, m = (if e < 40 then e else 40) → 0 ≤ (if m > 1 then m else 1) ∧ (if m > 1 then m else 1) ≤ 40 := fun e m h => by
      subst h
      split <;> split <;> omega
    obtain ⟨b0, b1⟩ := b40 ((ns.length : Nat) : Int) _ rfl
    obtain ⟨n, hn⟩ := Int.eq_ofNat_of_zero_le b0
    refine ⟨_, rfl, a, _, rfl, .inl hq0, _, _, rfl, _, _, rfl, _, rfl, ?_⟩
    rw [List.length_map, hn]
    rw [hn] at b1
    refine ⟨by omega, by omega, for_range (lo := 0) (n := n) (fun i σ H' => ∃ (x2 x3 x4 x5 x6 : Option V) (A : Addr) (xs : List V) (ps : List Pt), σ = [some (.ref a), some (.ref A), x2, x3, x4, x5, x6] ∧ SqL K H' a (ns.map V.int) ∧ Row K H' A xs ps ∧ ps.length ≤ 4) ⟨_, _, _, _, _, A0, [], [], rfl, hq0, ⟨upd_same, .nil, by decide, by simp⟩, by decide⟩ (fun i σ H1 hi e => ?_) (fun σ H1 e => k _)⟩
    obtain ⟨x2, x3, x4, x5, x6, A, xs, ps, rfl, hq1, ra, lps⟩ := e
    refine ⟨_, rfl, _, rfl, a, ns, i, by rw [Int.zero_add]; rfl, hq1, hl, fun H2 p s2 np hp => ?_⟩
    refine ⟨_, rfl, p, 5, 0, rfl, by decide, by decide, by decide, hp, fun H3 c hc hp3 off3 => ⟨_, rfl, by omega, by omega, fun D hD => ?_⟩⟩
    have T3 : Same H1 (hide H3 p) := (hide_of s2 np).trans (offs off3)
    have neD := hp3.ne hD
    refine lc_it (walk_range (lo := 0) (n := c)) (fun j H' => Pu H' p (1 + 50 * j) ∧ ∃ qs : List Pt, BldP K p H3 H' D (qs.map Pt.d) ∧ qs.length = j ∧ ∀ q ∈ qs, q.good ∧ q.few) ⟨hp3.put neD, [], BldP.new hD neD, rfl, by simp⟩ (fun _ _ _ _ => trivial) (fun j x H4 H5 hj e y => ?_) (fun H4 e => ?_)
    · obtain ⟨hp4, qs, b4, lqs, oqs⟩ := e
      obtain ⟨rfl, rfl⟩ := y
      refine ⟨rfl, _, rfl, p, _, rfl, by omega, hp4, fun H6 v q dv gq fq hp6 s6 => ?_⟩
      obtain ⟨zs, hz, lzs, put⟩ := (b4.draws s6).put
      obtain ⟨_, _, _, zs4, hz4, _⟩ := b4
      refine ⟨zs, hz, by rw [lzs, List.length_map, lqs, sizeLine_eq]; omega, (hp6.put neD).le (by omega), qs ++ [q], ?_, by rw [List.length_append, lqs]; rfl, fun q' mq => ?_⟩
      · rw [List.map_append]
        exact put _ _ (dv D _ hz4 neD)
      · rcases List.mem_append.mp mq with mq | mq
        · exact oqs q' mq
        · rcases List.mem_singleton.mp mq with rfl
          exact ⟨gq, fq⟩
    · obtain ⟨hp4, qs, b4, lqs, oqs⟩ := e
      obtain ⟨nD, _, s34, ys, hR, dq⟩ := b4
      have T4 : Same H1 (hide H4 p) := (T3.trans s34).trans (hide_mono hide_same)
      have rb : Row K (hide H4 p) D ys qs := ⟨hide_ne hR neD, dpAll_same (hide_mono hide_same) dq, by omega, oqs⟩
      have ra4 := ra.same T4
      have la := ra.lens
      have lb := rb.lens
      -- the text
      refine ⟨_, rfl, _, rfl, _, rfl, _, rfl, A, D, xs, ys, rfl, rfl, (ra4.same hide_same).at_, hR, by rw [sizeLine_eq]; omega, fun q nq => ?_⟩
      have neq := hp4.ne nq
      have s5 := same_upd (o := .lst (xs ++ ys)) nq
      have dJ : Dp K (hide (L2.upd H4 q (.lst (xs ++ ys))) p) (.ref q) (.list ((ps ++ qs).map Pt.d)) := by
        refine .lst (SqL.of (hide_ne upd_same neq)) ?_
        rw [List.map_append]
        exact dpApp (dpAll_same (hide_mono s5) ra4.all) (dpAll_same (hide_mono s5) rb.all)
      have okJ : ∀ x ∈ ps ++ qs, x.good ∧ x.few := fun x m => by
        rcases List.mem_append.mp m with m | m
        · exact ra.ok x m
        · exact oqs x m
      refine ⟨p, .ref q, ps ++ qs, _, rfl, by omega, hp4.put neq, dJ, by rw [List.length_append]; omega, okJ, fun H6 z oz lz hp6 s6 => ?_⟩
      refine ⟨p, z, _, rfl, by omega, hp6, oz, by omega, fun H7 y oy ly hp7 s7 => ?_⟩
      have T47 := (hide_mono (W := p) s5).trans (s6.trans s7)
      refine ⟨_, rfl, y, rfl, small_line (by rw [len_cs]; omega), ?_⟩
      have e10 : cs (cutS y none (some (10 : Int))) = (cs y).take 10 := cs_to y 10
      have ra7 := (ra4.same T47).same hide_same
      have rb7 := (rb.same T47).same hide_same
      refine ⟨_, rfl, _, rfl, _, rfl, A, D, xs, ys, ps, qs, _, rfl, ra7, rb7, by omega, (fun x m => oy x (cut_sub x m)), by rw [e10, List.length_take]; omega, fun H8 s8 => ⟨_, rfl, if_no rfl ?_⟩⟩
      refine ⟨_, rfl, _, rfl, A, D, xs, ys, ps, qs, rfl, ra7.same s8, rb7.same s8, by omega, fun H9 s9 => ⟨_, rfl, if_no rfl ?_⟩⟩
      have T79 := s8.trans s9
      exact ⟨_, rfl, _, _, _, _, _, D, ys, qs, rfl, (((T4.trans T47).trans hide_same).trans T79).seq hq1, rb7.same T79, by omega⟩
end
end Qb
end PySem
namespace PySem
namespace Qb
open PySem.W PySem.Calls PyProof.Rows L2
/-- the law is called over the script: what the body needs is laid out -/
theorem law_at {P : Program} {w : World} {K : Frag} {mg mb : Str → Option Value} {fa a : Addr} {s : Shared} {vs : List Value} {ns : List Int}
    (KX : K.In s.heap) (hns : s.heap.Ns mainGlobals mg) (hb : s.heap.Ns builtinsNs mb) (hbb : ∀ x : Str, x ≠ "__name__" → mb x = bootBuiltins x) (lim : s.heap.NoLimit) (hg : s.gens = #[])
    (ha : s.heap.get? a = some { cls := .type "list", data := .seq vs.toArray }) (hi : IntsAre vs ns) (hl : ns.length ≤ sizeLine)
    (run : ∀ (base : Heap) (H : Hp), K.In base → base.Ns mainGlobals mg → Env0 P w K mg base callerA [] s H → SqL K H a (ns.map V.int) →
      codeAny (model P w) callerA (.call (.ref fa) ⟨[.ref a], []⟩) (CR CX0 [] P w H s (fun v _ => v = .bl true) E0) s) :
    codeAny (model P w) callerA (.call (.ref fa) ⟨[.ref a], []⟩) (fun r s' => r = .ok (.ret (.bool true)) ∧ OldK s.heap s'.heap ∧ s'.os = s.os ∧ AllBare s'.gens) s := by
  have rel := vals_ints hi
  have many := hi.length
  -- the script is tracked, as a thing that is known, where it is none of the module's own
  obtain ⟨H, hH⟩ : ∃ H : Hp, ∀ b, H b = if b = a ∧ K.lookup a = none then some (.frz { cls := .type "list", data := .seq vs.toArray } (.lst (ns.map V.int))) else none := ⟨_, fun _ => rfl⟩
  have only : ∀ b u, H b = some u → b = a ∧ K.lookup a = none ∧ u = .frz { cls := .type "list", data := .seq vs.toArray } (.lst (ns.map V.int)) := fun b u z => by
    rw [hH] at z
    by_cases c : b = a ∧ K.lookup a = none
    · rw [if_pos c] at z
      exact ⟨c.1, c.2, (Option.some.inj z).symm⟩
    · rw [if_neg c] at z
      cases z
  have sq : SqL K H a (ns.map V.int) := by
    cases hk : K.lookup a with
    | none => exact .inl (.inr ⟨_, by rw [hH]; exact if_pos ⟨rfl, hk⟩⟩)
    | some o =>
      have e := KX a o hk
      rw [ha] at e
      cases e
      exact .inr ⟨_, vs.toArray, _, hk, rfl, rfl, rfl, by rw [List.size_toArray, many]; exact hl, by simpa using rel⟩
  have ok : HOk P w H s.heap := fun b u z => by
    obtain ⟨rfl, _, rfl⟩ := only b u z
    exact ⟨ha, by rw [List.length_map]; exact hl, vs, _, rel, ha⟩
  have kept : ∀ b o, s.heap.get? b = some o → H b = none → (hidT s.heap H).get? b = some o := fun b o z n => hidT_get z n
  have baseK : K.In (hidT s.heap H) := fun b o z => kept b o (KX b o z) (by
    cases q : H b with
    | none => rfl
    | some u =>
      obtain ⟨rfl, n, _⟩ := only b u q
      rw [n] at z
      cases z)
  have baseN : ∀ (b : Addr) (m : Str → Option Value), s.heap.Ns b m → (hidT s.heap H).Ns b m := fun b m ⟨o, es, ep, z, d, r⟩ => ⟨o, es, ep, kept b o z (by
    cases q : H b with
    | none => rfl
    | some u =>
      obtain ⟨rfl, _, _⟩ := only b u q
      rw [ha] at z
      cases z
      cases d), d, r⟩
  have env : Env0 P w K mg (hidT s.heap H) callerA [] s H := {
    frames := rfl
    mod := ⟨baseK, baseN _ _ hns, ⟨mb, baseN _ _ hb, hbb⟩, let ⟨m, z1, z2⟩ := lim; ⟨m, baseN _ _ z1, z2⟩⟩
    bs := fun b o z => of_hidT z
    bsz := Nat.le_of_eq (hidT_size _ _)
    funs := trivial
    frf := fun b z => nomatch z
    hok := ok
    bare := .of_eq hg }
  refine codeAny_mono (run _ H baseK (baseN _ _ hns) env sq) fun r s' z => ?_
  cases r with
  | error e => exact z.elim
  | ok fl =>
    cases fl with
    | ret u =>
      obtain ⟨v, H', h1, h2, h3, h4, h5, h6⟩ := z
      obtain rfl : v = .bl true := h6
      obtain rfl : u = Value.bool true := h5
      refine ⟨rfl, OldK.of_keep fun b o y => ?_, h1, h2⟩
      cases q : H b with
      | none => exact h3.keep b o y q (fun z => nomatch z) (fun z => nomatch z)
      | some t =>
        obtain ⟨rfl, _, rfl⟩ := only b t q
        have q2 := h3.frzs _ _ _ q
        obtain ⟨g1, _⟩ := h4 _ _ q2
        rw [ha] at y
        cases y
        exact g1
    | next => exact z.elim
    | brk => exact z.elim
    | cont => exact z.elim
theorem glob_mk {K : Frag} {mg : Str → Option Value} {h : Heap} {x c d : Str} {t : Tok} (X : K.In h) (G : h.Ns mainGlobals mg) (a : nsIn K mainGlobals x = some (some (.str c t))) (e : c = d) : ∃ t, mg x = some (.str d t) := ⟨t, e ▸ mg_of X G a⟩
theorem glob_mkI {K : Frag} {mg : Str → Option Value} {h : Heap} {x : Str} {c d : Int} {t : Tok} (X : K.In h) (G : h.Ns mainGlobals mg) (a : nsIn K mainGlobals x = some (some (.int c t))) (e : c = d) : ∃ t, mg x = some (.int d t) := ⟨t, e ▸ mg_of X G a⟩
theorem two_lists {us ws : List Value} (h : us.length + ws.length = 2) : (us = [] ∧ ∃ u v, ws = [u, v]) ∨ (∃ u v, us = [u] ∧ ws = [v]) ∨ (∃ u v, us = [u, v] ∧ ws = []) := by
  match us, ws with
  | [], [u, v] => exact .inl ⟨rfl, u, v, rfl⟩
  | [u], [v] => exact .inr (.inl ⟨u, v, rfl, rfl⟩)
  | [u, v], [] => exact .inr (.inr ⟨u, v, rfl, rfl⟩)
  | [], [] => simp at h
  | [], [_] => simp at h
  | [], _ :: _ :: _ :: _ => simp at h
  | [_], [] => simp at h
  | [_], _ :: _ :: _ => simp at h <;> omega
  | [_, _], _ :: _ => simp at h <;> omega
  | _ :: _ :: _ :: _, _ => simp at h <;> omega
/-- the law holds, by what the text's top has left -/
theorem law_holds {P : Program} {w : World} {K : Frag} {mg mb : Str → Option Value} {s : Shared} {fa a C : Addr} {vs : List Value} {ns : List Int} {f0 f1 f2 f3 f4 f5 f6 f7 f8 f9 f10 f11 f12 f13 f14 f15 f16 f17 f18 f19 f20 f21 f22 f23 f24 f25 f26 f27 f28 f29 f30 f31 f32 f33 : Addr} {d0 d1 d2 d3 d4 d5 d6 d7 d8 d9 d10 d11 d12 d13 d14 d15 d16 d17 d18 d19 d20 d21 d22 d23 d24 d25 d26 d27 d28 d29 d30 d31 d32 d33 : FuncData}
    (KX : K.In s.heap) (hns : s.heap.Ns mainGlobals mg) (hb : s.heap.Ns builtinsNs mb) (hbb : ∀ x : Str, x ≠ "__name__" → mb x = bootBuiltins x) (lim : s.heap.NoLimit) (hg : s.gens = #[])
    (ha : s.heap.get? a = some { cls := .type "list", data := .seq vs.toArray }) (hi : IntsAre vs ns) (hl : ns.length ≤ 63)
    (W : Wrt mg) (B : Blt mg) (T : Txt K mg C)
    (F0 : Fun K "is_sign" "is_sign" sSg f0 d0) (g0 : mg "is_sign" = some (.ref f0))
    (F1 : Fun K "is_range" "is_range" sRg f1 d1) (g1 : mg "is_range" = some (.ref f1))
    (F2 : Fun K "is_pattern_piece" "is_pattern_piece" sPp f2 d2) (g2 : mg "is_pattern_piece" = some (.ref f2))
    (F3 : Fun K "is_pattern" "is_pattern" sPa f3 d3) (g3 : mg "is_pattern" = some (.ref f3))
    (F4 : Fun K "check_patterns" "check_patterns" sCp f4 d4) (g4 : mg "check_patterns" = some (.ref f4))
    (F5 : Fun K "set_of" "set_of" sSo f5 d5) (g5 : mg "set_of" = some (.ref f5))
    (F6 : Fun K "least_sign" "least_sign" sLs f6 d6) (g6 : mg "least_sign" = some (.ref f6))
    (F7 : Fun K "rows_told" "rows_told" sRt f7 d7) (g7 : mg "rows_told" = some (.ref f7))
    (F8 : Fun K "closed" "Machine.closed" sCl f8 d8) (m8 : Meth K C "closed" f8)
    (F9 : Fun K "stepped" "Machine.stepped" sSd f9 d9) (m9 : Meth K C "stepped" f9)
    (F10 : Fun K "lets" "Machine.lets" sLe f10 d10) (m10 : Meth K C "lets" f10)
    (F11 : Fun K "mask_of" "Machine.mask_of" sMo f11 d11) (m11 : Meth K C "mask_of" f11)
    (F12 : Fun K "add_row" "Machine.add_row" sAr f12 d12) (m12 : Meth K C "add_row" f12)
    (F13 : Fun K "__init__" "Machine.__init__" sIn f13 d13) (MIn : Mk K C f13)
    (F14 : Fun K "lets_by" "Machine.lets_by" sLb f14 d14) (m14 : Meth K C "lets_by" f14)
    (F15 : Fun K "lengths_of" "lengths_of" sLg f15 d15) (g15 : mg "lengths_of" = some (.ref f15))
    (F16 : Fun K "meets" "meets" sMe f16 d16) (g16 : mg "meets" = some (.ref f16))
    (F17 : Fun K "heads" "heads" sHe f17 d17) (g17 : mg "heads" = some (.ref f17))
    (F18 : Fun K "tails" "tails" sTa f18 d18) (g18 : mg "tails" = some (.ref f18))
    (F19 : Fun K "least_text" "least_text" sLt f19 d19) (g19 : mg "least_text" = some (.ref f19))
    (F20 : Fun K "_law_same" "_law_same" sSm f20 d20) (g20 : mg "_law_same" = some (.ref f20))
    (F21 : Fun K "_law_purse" "_law_purse" sPu f21 d21) (g21 : mg "_law_purse" = some (.ref f21))
    (F22 : Fun K "_law_coin" "_law_coin" sCo f22 d22) (g22 : mg "_law_coin" = some (.ref f22))
    (F23 : Fun K "_law_signs" "_law_signs" sAl f23 d23) (g23 : mg "_law_signs" = some (.ref f23))
    (F24 : Fun K "_law_takes" "_law_takes" sTk f24 d24) (g24 : mg "_law_takes" = some (.ref f24))
    (F25 : Fun K "_law_sign" "_law_sign" sSi f25 d25) (g25 : mg "_law_sign" = some (.ref f25))
    (F26 : Fun K "_law_ranges" "_law_ranges" sRa f26 d26) (g26 : mg "_law_ranges" = some (.ref f26))
    (F27 : Fun K "_law_entry" "_law_entry" sEn f27 d27) (g27 : mg "_law_entry" = some (.ref f27))
    (F28 : Fun K "_law_line" "_law_line" sLi f28 d28) (g28 : mg "_law_line" = some (.ref f28))
    (F29 : Fun K "_law_bent" "_law_bent" sBe f29 d29) (g29 : mg "_law_bent" = some (.ref f29))
    (F30 : Fun K "_law_are_lengths" "_law_are_lengths" sRl f30 d30) (g30 : mg "_law_are_lengths" = some (.ref f30))
    (F31 : Fun K "_law_joins" "_law_joins" sJo f31 d31) (g31 : mg "_law_joins" = some (.ref f31))
    (F32 : Fun K "_law_least_joins" "_law_least_joins" sLj f32 d32) (g32 : mg "_law_least_joins" = some (.ref f32))
    (F33 : Fun K "law" "law" sLw f33 d33) (g33 : mg "law" = some (.ref f33))
    (hfa : mg "law" = some (.ref fa)) : codeAny (model P w) callerA (.call (.ref fa) ⟨[.ref a], []⟩) (fun r s' => r = .ok (.ret (.bool true)) ∧ OldK s.heap s'.heap ∧ s'.os = s.os ∧ AllBare s'.gens) s := by
  have e := hfa.symm.trans g33
  cases e
  have b0 := F0.binds (ps := ["text"]) fun _ _ _ _ _ _ us hl => match us, hl with | [_], _ => rfl
  have b1 := F1.binds (ps := ["told"]) fun _ _ _ _ _ _ us hl => match us, hl with | [_], _ => rfl
  have b2 := F2.binds (ps := ["piece"]) fun _ _ _ _ _ _ us hl => match us, hl with | [_], _ => rfl
  have b3 := F3.binds (ps := ["pattern"]) fun _ _ _ _ _ _ us hl => match us, hl with | [_], _ => rfl
  have b4 := F4.binds (ps := ["patterns"]) fun _ _ _ _ _ _ us hl => match us, hl with | [_], _ => rfl
  have b5 := F5.binds (ps := ["piece"]) fun _ _ _ _ _ _ us hl => match us, hl with | [_], _ => rfl
  have b6 := F6.binds (ps := ["signs"]) fun _ _ _ _ _ _ us hl => match us, hl with | [_], _ => rfl
  have b7 := F7.binds (ps := ["pieces"]) fun _ _ _ _ _ _ us hl => match us, hl with | [_], _ => rfl
  have b8 := F8.binds (ps := ["self", "standing"]) fun _ _ _ _ _ _ us hl => match us, hl with | [_, _], _ => rfl
  have b9 := F9.binds (ps := ["self", "standing", "mask"]) fun _ _ _ _ _ _ us hl => match us, hl with | [_, _, _], _ => rfl
  have b10 := F10.binds (ps := ["self", "standing", "index"]) fun _ _ _ _ _ _ us hl => match us, hl with | [_, _, _], _ => rfl
  have b11 := F11.binds (ps := ["self", "sign"]) fun _ _ _ _ _ _ us hl => match us, hl with | [_, _], _ => rfl
  have b12 := F12.binds (ps := ["self", "pattern"]) fun _ _ _ _ _ _ us hl => match us, hl with | [_, _], _ => rfl
  have b13 := F13.binds (ps := ["self", "patterns"]) fun _ _ _ _ _ _ us hl => match us, hl with | [_, _], _ => rfl
  have b14 := F14.binds (ps := ["self", "text"]) fun _ _ _ _ _ _ us hl => match us, hl with | [_, _], _ => rfl
  have b15 := F15.binds (ps := ["pattern", "text"]) fun _ _ _ _ _ _ us hl => match us, hl with | [_, _], _ => rfl
  have b16 := F16.binds (ps := ["pattern", "text"]) fun _ _ _ _ _ _ us hl => match us, hl with | [_, _], _ => rfl
  have b17 := F17.binds (ps := ["pattern", "text"]) fun _ _ _ _ _ _ us hl => match us, hl with | [_, _], _ => rfl
  have b18 := F18.binds (ps := ["pattern", "text"]) fun _ _ _ _ _ _ us hl => match us, hl with | [_, _], _ => rfl
  have b19 := F19.binds (ps := ["pattern"]) fun _ _ _ _ _ _ us hl => match us, hl with | [_], _ => rfl
  have b20 := F20.binds (ps := ["_law_found", "_law_due"]) fun _ _ _ _ _ _ us hl => match us, hl with | [_, _], _ => rfl
  have b21 := F21.binds (ps := ["_law_script", "_law_at"]) fun _ _ _ _ _ _ us hl => match us, hl with | [_, _], _ => rfl
  have b22 := F22.binds (ps := ["_law_purse_here", "_law_many"]) fun _ _ _ _ _ _ us hl => match us, hl with | [_, _], _ => rfl
  have b23 := F23.binds (ps := []) fun _ _ _ _ _ _ us hl => match us, hl with | [], _ => rfl
  have b24 := F24.binds (ps := ["_law_part", "_law_sign_here"]) fun _ _ _ _ _ _ us hl => match us, hl with | [_, _], _ => rfl
  have b25 := F25.binds (ps := ["_law_purse_here"]) fun _ _ _ _ _ _ us hl => match us, hl with | [_], _ => rfl
  have b26 := F26.binds (ps := ["_law_purse_here"]) fun _ _ _ _ _ _ us hl => match us, hl with | [_], _ => rfl
  have b27 := F27.binds (ps := ["_law_purse_here"]) fun _ _ _ _ _ _ us hl => match us, hl with | [_], _ => rfl
  have b28 := F28.binds (ps := ["_law_purse_here", "_law_row"]) fun _ _ _ _ _ _ us hl => match us, hl with | [_, _], _ => rfl
  have b29 := F29.binds (ps := ["_law_purse_here", "_law_line_here"]) fun _ _ _ _ _ _ us hl => match us, hl with | [_, _], _ => rfl
  have b30 := F30.binds (ps := ["_law_found", "_law_line_here"]) fun _ _ _ _ _ _ us hl => match us, hl with | [_, _], _ => rfl
  have b31 := F31.binds (ps := ["_law_ahead", "_law_row", "_law_line_here"]) fun _ _ _ _ _ _ us hl => match us, hl with | [_, _, _], _ => rfl
  have b32 := F32.binds (ps := ["_law_ahead", "_law_row"]) fun _ _ _ _ _ _ us hl => match us, hl with | [_, _], _ => rfl
  have bL : ∀ (s : Shared) (u : Value), BindsTo s d33 ⟨[u], []⟩ ((["_law_script"] : List Str).zip [u]) := by
    obtain ⟨oc, od, kV, doc, pm, an, cdv, ct, osl, rfl, lk, hcd⟩ := F33.ex
    exact fun s u => .of_eq rfl
  refine law_at KX hns hb hbb lim hg ha hi (Nat.le_trans hl (by decide)) fun base H hK hN env sq => ?_
  have oSg := has_Sg (P := P) (w := w) (base := base) F0 g0 B W
  have oRg := has_Rg (P := P) (w := w) (base := base) F1 g1 B oSg
  have oPp := has_Pp (P := P) (w := w) (base := base) F2 g2 B oSg oRg
  have oPa := has_of F3 g3 b3 (has_Pa (P := P) (w := w) (base := base) F3 g3 B oPp)
  have oCp := has_Cp (P := P) (w := w) (base := base) F4 g4 B oPa
  have oSo := has_So (P := P) (w := w) (base := base) F5 g5 B W
  have oLs := has_Ls (P := P) (w := w) (base := base) F6 g6 B W
  have oRt := has_Rt (P := P) (w := w) (base := base) F7 g7 B
  have oCl := has_Cl (P := P) (w := w) (base := base) F8 m8 B T
  have oSd := has_Sd (P := P) (w := w) (base := base) F9 m9 B T oCl
  have oLe := has_Le (P := P) (w := w) (base := base) F10 m10 B T
  have oMo := has_Mo (P := P) (w := w) (base := base) F11 m11 B W T
  have oAr := has_Ar (P := P) (w := w) (base := base) F12 m12 B T oSo
  have GIn := ok_In (P := P) (w := w) (base := base) F13 B T oAr oRt oCl
  have oLb := has_Lb (P := P) (w := w) (base := base) F14 m14 B T oSd oMo oLe
  have oLg := has_Lg (P := P) (w := w) (base := base) F15 g15 B T MIn b13 GIn oSd oMo oLe
  have oMe := has_of F16 g16 b16 (ok_Me (P := P) (w := w) (base := base) F16 g16 B T MIn b13 GIn oCp oLb)
  have oHe := has_of F17 g17 b17 (ok_He (P := P) (w := w) (base := base) F17 g17 B oCp oLg)
  have oTa := has_of F18 g18 b18 (ok_Ta (P := P) (w := w) (base := base) F18 g18 B oCp oLg)
  have oLt := has_Lt (P := P) (w := w) (base := base) F19 g19 B oCp oSo oLs
  have oSm := has_of F20 g20 b20 (ok_Sm (P := P) (w := w) (base := base) F20 g20 b20 B 5)
  have oPu := has_Pu (P := P) (w := w) (base := base) F21 g21 B
  have oCo := has_Co (P := P) (w := w) (base := base) F22 g22 B
  have oAl := has_Al (P := P) (w := w) (base := base) F23 g23 B
  have oTk := has_Tk (P := P) (w := w) (base := base) F24 g24 B
  have oSi := has_Si (P := P) (w := w) (base := base) F25 g25 B oCo oAl
  have oRa := has_Ra (P := P) (w := w) (base := base) F26 g26 B oCo oAl
  have oEn := has_En (P := P) (w := w) (base := base) F27 g27 B oCo oSi oRa
  have oLi := has_Li (P := P) (w := w) (base := base) F28 g28 B oCo oSi oTk oAl
  have oBe := has_Be (P := P) (w := w) (base := base) F29 g29 B oCo oSi
  have oRl := has_Rl (P := P) (w := w) (base := base) F30 g30 B
  have oJo := has_Jo (P := P) (w := w) (base := base) F31 g31 B oHe oTa oRl oSm oMe
  have oLj := has_Lj (P := P) (w := w) (base := base) F32 g32 B oLt oMe oSm
  have hr : Room 8 callerA := ⟨rfl, by decide, by decide⟩
  exact (ok_Lw F33 B oPu oCo oEn oBe oLi oLj oJo).run callerA [] s H ⟨[.ref a], []⟩ [.ref a] [.ref a] (fun v _ => v = V.bl true) E0 hr env (bL s (.ref a)) (.cons rfl .nil) ⟨a, ns, rfl, sq, hl, fun _ => rfl⟩
end Qb
end PySem
open PySem PySem.W PyProof.Rows
set_option maxRecDepth 100000 in
set_option maxHeartbeats 0 in
theorem PySem.Challenge.cw_quotedback_k24_whole_joined_and_turned_a_holds : PySem.Challenge.rw_quotedback_k24_whole_joined_and_turned_a.Holds := by
  w_on; o_law; k_head; (case hw => w_witness2)
  k_fill
  refine Att.attach_call (l := PySem.Challenge.rw_quotedback_k24_whole_joined_and_turned_a) (n := 63) rfl rfl ?F
  case F =>
    intro w s₀ s₁ mg mb fa o pm cd doc a vs ns G Y ho hd hcd hmg hobj hints hlen hg
    have KX := kIn_of Y
    refine' PySem.Qb.law_holds KX G.T.g G.T.b G.T.builtins G.T.nolimit hg hobj hints hlen
      ⟨PySem.Qb.glob_mk KX G.T.g ?s0 ?e0, PySem.Qb.glob_mkI KX G.T.g ?s1 ?e1⟩
      ⟨mg_none_of KX G.T.g ?y0, mg_none_of KX G.T.g ?y1, mg_none_of KX G.T.g ?y2, mg_none_of KX G.T.g ?y3, mg_none_of KX G.T.g ?y4, mg_none_of KX G.T.g ?y5, mg_none_of KX G.T.g ?y6, mg_none_of KX G.T.g ?y7, mg_none_of KX G.T.g ?y8, mg_none_of KX G.T.g ?y9, mg_none_of KX G.T.g ?y10, mg_none_of KX G.T.g ?y11, mg_none_of KX G.T.g ?y12, mg_none_of KX G.T.g ?y13, mg_none_of KX G.T.g ?y14, mg_none_of KX G.T.g ?y15⟩
      ⟨⟨?pg, ?hdC, ?po, ?sa⟩, ?n0, ?n1, ?n2, ?n3, ?n4, ?n5, mg_of KX G.T.g ?aC⟩
      (L2.fun_mk ?lf0 ?cf0 ?kf0) (mg_of KX G.T.g ?af0)
      (L2.fun_mk ?lf1 ?cf1 ?kf1) (mg_of KX G.T.g ?af1)
      (L2.fun_mk ?lf2 ?cf2 ?kf2) (mg_of KX G.T.g ?af2)
      (L2.fun_mk ?lf3 ?cf3 ?kf3) (mg_of KX G.T.g ?af3)
      (L2.fun_mk ?lf4 ?cf4 ?kf4) (mg_of KX G.T.g ?af4)
      (L2.fun_mk ?lf5 ?cf5 ?kf5) (mg_of KX G.T.g ?af5)
      (L2.fun_mk ?lf6 ?cf6 ?kf6) (mg_of KX G.T.g ?af6)
      (L2.fun_mk ?lf7 ?cf7 ?kf7) (mg_of KX G.T.g ?af7)
      (L2.fun_mk ?lf8 ?cf8 ?kf8) ⟨?ai8, ?ii8, ?ki8⟩
      (L2.fun_mk ?lf9 ?cf9 ?kf9) ⟨?ai9, ?ii9, ?ki9⟩
      (L2.fun_mk ?lf10 ?cf10 ?kf10) ⟨?ai10, ?ii10, ?ki10⟩
      (L2.fun_mk ?lf11 ?cf11 ?kf11) ⟨?ai11, ?ii11, ?ki11⟩
      (L2.fun_mk ?lf12 ?cf12 ?kf12) ⟨?ai12, ?ii12, ?ki12⟩
      (L2.fun_mk ?lf13 ?cf13 ?kf13) ⟨?mk, ?ai13, ?ii13, ?kc⟩
      (L2.fun_mk ?lf14 ?cf14 ?kf14) ⟨?ai14, ?ii14, ?ki14⟩
      (L2.fun_mk ?lf15 ?cf15 ?kf15) (mg_of KX G.T.g ?af15)
      (L2.fun_mk ?lf16 ?cf16 ?kf16) (mg_of KX G.T.g ?af16)
      (L2.fun_mk ?lf17 ?cf17 ?kf17) (mg_of KX G.T.g ?af17)
      (L2.fun_mk ?lf18 ?cf18 ?kf18) (mg_of KX G.T.g ?af18)
      (L2.fun_mk ?lf19 ?cf19 ?kf19) (mg_of KX G.T.g ?af19)
      (L2.fun_mk ?lf20 ?cf20 ?kf20) (mg_of KX G.T.g ?af20)
      (L2.fun_mk ?lf21 ?cf21 ?kf21) (mg_of KX G.T.g ?af21)
      (L2.fun_mk ?lf22 ?cf22 ?kf22) (mg_of KX G.T.g ?af22)
      (L2.fun_mk ?lf23 ?cf23 ?kf23) (mg_of KX G.T.g ?af23)
      (L2.fun_mk ?lf24 ?cf24 ?kf24) (mg_of KX G.T.g ?af24)
      (L2.fun_mk ?lf25 ?cf25 ?kf25) (mg_of KX G.T.g ?af25)
      (L2.fun_mk ?lf26 ?cf26 ?kf26) (mg_of KX G.T.g ?af26)
      (L2.fun_mk ?lf27 ?cf27 ?kf27) (mg_of KX G.T.g ?af27)
      (L2.fun_mk ?lf28 ?cf28 ?kf28) (mg_of KX G.T.g ?af28)
      (L2.fun_mk ?lf29 ?cf29 ?kf29) (mg_of KX G.T.g ?af29)
      (L2.fun_mk ?lf30 ?cf30 ?kf30) (mg_of KX G.T.g ?af30)
      (L2.fun_mk ?lf31 ?cf31 ?kf31) (mg_of KX G.T.g ?af31)
      (L2.fun_mk ?lf32 ?cf32 ?kf32) (mg_of KX G.T.g ?af32)
      (L2.fun_mk ?lf33 ?cf33 ?kf33) (mg_of KX G.T.g ?af33) hmg
    (case s0 => k_is)
    (case s1 => k_is)
    (case y0 => k_is)
    (case y1 => k_is)
    (case y2 => k_is)
    (case y3 => k_is)
    (case y4 => k_is)
    (case y5 => k_is)
    (case y6 => k_is)
    (case y7 => k_is)
    (case y8 => k_is)
    (case y9 => k_is)
    (case y10 => k_is)
    (case y11 => k_is)
    (case y12 => k_is)
    (case y13 => k_is)
    (case y14 => k_is)
    (case y15 => k_is)
    (case aC => k_is)
    (case pg => k_is)
    (case hdC => k_is)
    (case po => k_is)
    (case sa => k_is)
    (case n0 => unfold L2.NoAttr; k_is)
    (case n1 => unfold L2.NoAttr; k_is)
    (case n2 => unfold L2.NoAttr; k_is)
    (case n3 => unfold L2.NoAttr; k_is)
    (case n4 => unfold L2.NoAttr; k_is)
    (case n5 => unfold L2.NoAttr; k_is)
    (case af0 => k_is)
    (case lf0 => k_is)
    (case cf0 => k_is)
    (case kf0 => k_is)
    (case af1 => k_is)
    (case lf1 => k_is)
    (case cf1 => k_is)
    (case kf1 => k_is)
    (case af2 => k_is)
    (case lf2 => k_is)
    (case cf2 => k_is)
    (case kf2 => k_is)
    (case af3 => k_is)
    (case lf3 => k_is)
    (case cf3 => k_is)
    (case kf3 => k_is)
    (case af4 => k_is)
    (case lf4 => k_is)
    (case cf4 => k_is)
    (case kf4 => k_is)
    (case af5 => k_is)
    (case lf5 => k_is)
    (case cf5 => k_is)
    (case kf5 => k_is)
    (case af6 => k_is)
    (case lf6 => k_is)
    (case cf6 => k_is)
    (case kf6 => k_is)
    (case af7 => k_is)
    (case lf7 => k_is)
    (case cf7 => k_is)
    (case kf7 => k_is)
    (case ai8 => k_is)
    (case ii8 => k_is)
    (case ki8 => k_is)
    (case lf8 => k_is)
    (case cf8 => k_is)
    (case kf8 => k_is)
    (case ai9 => k_is)
    (case ii9 => k_is)
    (case ki9 => k_is)
    (case lf9 => k_is)
    (case cf9 => k_is)
    (case kf9 => k_is)
    (case ai10 => k_is)
    (case ii10 => k_is)
    (case ki10 => k_is)
    (case lf10 => k_is)
    (case cf10 => k_is)
    (case kf10 => k_is)
    (case ai11 => k_is)
    (case ii11 => k_is)
    (case ki11 => k_is)
    (case lf11 => k_is)
    (case cf11 => k_is)
    (case kf11 => k_is)
    (case ai12 => k_is)
    (case ii12 => k_is)
    (case ki12 => k_is)
    (case lf12 => k_is)
    (case cf12 => k_is)
    (case kf12 => k_is)
    (case mk => k_is)
    (case ai13 => k_is)
    (case ii13 => k_is)
    (case kc => k_is)
    (case lf13 => k_is)
    (case cf13 => k_is)
    (case kf13 => k_is)
    (case ai14 => k_is)
    (case ii14 => k_is)
    (case ki14 => k_is)
    (case lf14 => k_is)
    (case cf14 => k_is)
    (case kf14 => k_is)
    (case af15 => k_is)
    (case lf15 => k_is)
    (case cf15 => k_is)
    (case kf15 => k_is)
    (case af16 => k_is)
    (case lf16 => k_is)
    (case cf16 => k_is)
    (case kf16 => k_is)
    (case af17 => k_is)
    (case lf17 => k_is)
    (case cf17 => k_is)
    (case kf17 => k_is)
    (case af18 => k_is)
    (case lf18 => k_is)
    (case cf18 => k_is)
    (case kf18 => k_is)
    (case af19 => k_is)
    (case lf19 => k_is)
    (case cf19 => k_is)
    (case kf19 => k_is)
    (case af20 => k_is)
    (case lf20 => k_is)
    (case cf20 => k_is)
    (case kf20 => k_is)
    (case af21 => k_is)
    (case lf21 => k_is)
    (case cf21 => k_is)
    (case kf21 => k_is)
    (case af22 => k_is)
    (case lf22 => k_is)
    (case cf22 => k_is)
    (case kf22 => k_is)
    (case af23 => k_is)
    (case lf23 => k_is)
    (case cf23 => k_is)
    (case kf23 => k_is)
    (case af24 => k_is)
    (case lf24 => k_is)
    (case cf24 => k_is)
    (case kf24 => k_is)
    (case af25 => k_is)
    (case lf25 => k_is)
    (case cf25 => k_is)
    (case kf25 => k_is)
    (case af26 => k_is)
    (case lf26 => k_is)
    (case cf26 => k_is)
    (case kf26 => k_is)
    (case af27 => k_is)
    (case lf27 => k_is)
    (case cf27 => k_is)
    (case kf27 => k_is)
    (case af28 => k_is)
    (case lf28 => k_is)
    (case cf28 => k_is)
    (case kf28 => k_is)
    (case af29 => k_is)
    (case lf29 => k_is)
    (case cf29 => k_is)
    (case kf29 => k_is)
    (case af30 => k_is)
    (case lf30 => k_is)
    (case cf30 => k_is)
    (case kf30 => k_is)
    (case af31 => k_is)
    (case lf31 => k_is)
    (case cf31 => k_is)
    (case kf31 => k_is)
    (case af32 => k_is)
    (case lf32 => k_is)
    (case cf32 => k_is)
    (case kf32 => k_is)
    (case af33 => k_is)
    (case lf33 => k_is)
    (case cf33 => k_is)
    (case kf33 => k_is)
    (case e0 => first | rfl | decide +kernel)
    (case e1 => first | rfl | decide +kernel)
