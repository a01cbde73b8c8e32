import PyProof.Rows.All
import Wide.All
import OpenK.AllK
import Wide.FinOn
import HandS.ForMost
import HandS.IsInst
import HandS.RaiseMore
import HandS.Defaults
import HandS.Wide
import HandS.Walk
import KE.DatumOrd
import PyProof.Rows.RowBridgeK
import HandS.ForExc
import HandS.ExcInit
import HandS.ExcField
import HandS.ExcOwn
import HandS.Deep
import HandS.Conv
import HandS.OwnEq
import HandS.NamedTupGet
import HandS.Strs
import HandS.SetFor
import HandS.TupAny
import KE.GoesMore
import PyProof.Draws
import HandS.Style
import HandS.SortInts
import PyProof.InstNe
import PyProof.NeKinds
import HandS.More
import HandS.WordsDict
import PySem.Challenge.RW_producttrees_k36_whole_heights_of_relate
set_option Elab.async false
set_option linter.all false
set_option maxRecDepth 100000
set_option maxHeartbeats 4000000
/-! Own layer: data trees with dicts (Dq), repr of them, defs that know that no repr runs (GOk). -/
namespace KX
open PySem PySem.Spec PyProof.Rows L2
/-- a dict's key as data -/
def kD : Key → PyData
  | .inl i => .int i
  | .inr x => .str x
mutual
/-- the value x stands for the data d in the abstract heap -/
inductive Dq (H : Hp) : V → PyData → Prop
  | non : Dq H .non .none
  | bl (b : Bool) : Dq H (.bl b) (.bool b)
  | int (i : Int) : Dq H (.int i) (.int i)
  | str (x : Str) : Dq H (.str x) (.str x)
  | lst {a : Addr} {xs : List V} {ds : List PyData} : H a = some (.lst xs) → DqAll H xs ds → Dq H (.ref a) (.list ds)
  | tup {a : Addr} {xs : List V} {ds : List PyData} : H a = some (.tup xs) → DqAll H xs ds → Dq H (.ref a) (.tuple ds)
  | dct {a : Addr} {kvs : List (Key × V)} {ds : List (PyData × PyData)} : H a = some (.dK kvs) → DqKv H kvs ds → Dq H (.ref a) (.dict ds)
inductive DqAll (H : Hp) : List V → List PyData → Prop
  | nil : DqAll H [] []
  | cons {v : V} {vs : List V} {d : PyData} {ds : List PyData} : Dq H v d → DqAll H vs ds → DqAll H (v :: vs) (d :: ds)
inductive DqKv (H : Hp) : List (Key × V) → List (PyData × PyData) → Prop
  | nil : DqKv H [] []
  | cons {k : Key} {v : V} {r : List (Key × V)} {d : PyData} {ds : List (PyData × PyData)} : Dq H v d → DqKv H r ds → DqKv H ((k, v) :: r) ((kD k, d) :: ds)
end
def Trk (H : Hp) (as : List Addr) : Prop := ∀ a, a ∈ as → H a ≠ none
theorem Trk.nil {H : Hp} : Trk H [] := fun _ h => nomatch h
theorem Trk.app {H : Hp} {as bs : List Addr} (h1 : Trk H as) (h2 : Trk H bs) : Trk H (as ++ bs) := fun a h => (List.mem_append.mp h).elim (h1 a) (h2 a)
theorem Trk.one {H : Hp} {a : Addr} {o : HO} {as : List Addr} (h : H a = some o) (h2 : Trk H as) : Trk H (a :: as) := fun b hb => by
  rcases List.mem_cons.mp hb with e | hb
  · subst e; rw [h]; simp
  · exact h2 b hb
section
variable {X : Cx} {pins : List (Addr × Obj)} {σ : L2.St} {H : Hp} {s : Shared}
mutual
theorem Dq.reads (I : Inv X pins σ H s) : ∀ (d : PyData) (v : V) (u : Value), Dq H v d → RelV v u → ∃ as, Reads s.heap u d as ∧ Trk H as
  | .none, _, _, h, r => by cases h; cases r; exact ⟨_, Reads.none, Trk.nil⟩
  | .bool b, _, _, h, r => by cases h; cases r; exact ⟨_, Reads.bool b, Trk.nil⟩
  | .int i, _, _, h, r => by cases h; obtain ⟨t, rfl⟩ := r; exact ⟨_, Reads.int i t, Trk.nil⟩
  | .str x, _, _, h, r => by cases h; obtain ⟨t, rfl⟩ := r; exact ⟨_, Reads.str x t, Trk.nil⟩
  | .list ds, _, _, h, r => by
    cases h with
    | @lst a xs _ hs ha =>
      cases r
      obtain ⟨_, its, n, rv, ho⟩ := (show ObjOk X.prog X.w H s.heap a (.lst xs) from I.hok _ _ hs)
      obtain ⟨as, hr, tr⟩ := Dq.readsAll I ds _ its ha rv
      exact ⟨_, Reads.list ho rfl rfl (by simpa using hr), Trk.one hs tr⟩
  | .tuple ds, _, _, h, r => by
    cases h with
    | @tup a xs _ hs ha =>
      cases r
      obtain ⟨_, its, rv, o, ho, hc, n, hd⟩ := (show ObjOk X.prog X.w H s.heap a (.tup xs) from I.hok _ _ hs)
      obtain ⟨as, hr, tr⟩ := Dq.readsAll I ds _ its ha rv
      exact ⟨_, Reads.tuple ho hc hd (by simpa using hr), tr⟩
  | .dict ds, _, _, h, r => by
    cases h with
    | @dct a kvs _ hs ha =>
      cases r
      obtain ⟨_, _, vs, rv, o, es, ep, ho, hx, hd, _, hp, _⟩ := (show ObjOk X.prog X.w H s.heap a (.dK kvs) from I.hok _ _ hs)
      obtain ⟨as, bs, h1, h2, t1, t2⟩ := Dq.readsKv I ds kvs vs es.toList ha rv hp
      exact ⟨_, Reads.dict ho hx.1 hd h1 h2, Trk.app (Trk.one hs t1) t2⟩
theorem Dq.readsAll (I : Inv X pins σ H s) : ∀ (ds : List PyData) (vs : List V) (us : List Value), DqAll H vs ds → Vals vs us → ∃ as, ReadsAll s.heap us ds as ∧ Trk H as
  | [], _, _, h, r => by cases h; cases r; exact ⟨_, ReadsAll.nil, Trk.nil⟩
  | d :: ds, _, _, h, r => by
    cases h with
    | cons h1 h2 =>
      cases r with
      | cons r1 r2 =>
        obtain ⟨as, q1, t1⟩ := Dq.reads I d _ _ h1 r1
        obtain ⟨bs, q2, t2⟩ := Dq.readsAll I ds _ _ h2 r2
        exact ⟨_, ReadsAll.cons q1 q2, Trk.app t1 t2⟩
theorem Dq.readsKv (I : Inv X pins σ H s) : ∀ (ds : List (PyData × PyData)) (kvs : List (Key × V)) (vs : List (Key × Value)) (es : List DictEntry), DqKv H kvs ds → KV kvs vs → Pairs (mixKind X.prog X.w) es vs →
    ∃ as bs, ReadsAll s.heap (es.map (·.key)) (ds.map (·.1)) as ∧ ReadsAll s.heap (es.map (·.val)) (ds.map (·.2)) bs ∧ Trk H as ∧ Trk H bs
  | [], _, _, _, h, r, p => by cases h; cases r; cases p; exact ⟨_, _, ReadsAll.nil, ReadsAll.nil, Trk.nil, Trk.nil⟩
  | (_, d) :: ds, _, _, _, h, r, p => by
    cases h with
    | @cons k v _ _ _ h1 h2 =>
      cases r with
      | cons r1 r2 =>
        cases p with
        | cons p1 p2 p3 =>
          obtain ⟨as, bs, q1, q2, t1, t2⟩ := Dq.readsKv I ds _ _ _ h2 r2 p3
          obtain ⟨e1, rv⟩ := r1
          rw [← e1] at p1
          rw [← p2] at rv
          obtain ⟨cs, q3, t3⟩ := Dq.reads I d _ _ h1 rv
          rcases keyIs_shape (show keyIs k _ = true from p1) with ⟨i, t, rfl, e⟩ | ⟨x, t, rfl, e⟩
          · exact ⟨_, _, ReadsAll.cons (by show Reads s.heap (DictEntry.key _) (.int i) []; rw [e]; exact Reads.int i t) q1, ReadsAll.cons q3 q2, Trk.app Trk.nil t1, Trk.app t3 t2⟩
          · exact ⟨_, _, ReadsAll.cons (by show Reads s.heap (DictEntry.key _) (.str x) []; rw [e]; exact Reads.str x t) q1, ReadsAll.cons q3 q2, Trk.app Trk.nil t1, Trk.app t3 t2⟩
end
end
section
variable {X : Cx}
/-- repr of a value without parts -/
theorem call_repr_b : CallR X (.builtin "repr") (fun xs H Q => ∃ b : Bool, xs = [.bl b] ∧ Q (.str (PyData.bool b).shown) H) := by
  intro pins s σ H xs us Q I r h
  obtain ⟨b, rfl, q⟩ := h
  obtain ⟨u, rfl, rx⟩ := vals1 r
  cases rx
  exact PySem.P.repr_of_bool ⟨.str _, H, I.tok _, ⟨_, rfl⟩, q⟩
/-- repr of data of any depth, where no repr runs further out -/
def rRepr : List V → Hp → VK → Prop := fun xs H Q => ∃ (x : V) (d : PyData), xs = [x] ∧ Dq H x d ∧ d.showable = true ∧ d.depth ≤ 60 ∧ d.shown.length ≤ sizeLine ∧ Q (.str d.shown) H
theorem call_repr_q (hS : ∃ o, X.base.get? sysModules = some o) (hg : X.A.guards = some []) (hu : X.A.units + 64 < cLine) : CallR X (.builtin "repr") rRepr := by
  intro pins s σ H xs us Q I r h
  obtain ⟨x, d, rfl, hd, hs, hdp, hl, q⟩ := h
  obtain ⟨u, rfl, rx⟩ := vals1 r
  obtain ⟨as, hr, tr⟩ := Dq.reads I d x u hd rx
  obtain ⟨o, ho⟩ := hS
  have hsm : sysModules ∉ as := fun hm => tr _ hm (I.bs _ _ ho).2
  cases hr with
  | none => exact PySem.P.repr_of_none ⟨.str _, H, I.tok _, ⟨_, rfl⟩, q⟩
  | bool b => exact PySem.P.repr_of_bool ⟨.str _, H, I.tok _, ⟨_, rfl⟩, q⟩
  | int i t => exact PySem.P.repr_of_int (by simpa [PyData.showable] using hs) ⟨.str _, H, I.tok _, ⟨_, rfl⟩, q⟩
  | str y t => exact PySem.P.repr_of_str ⟨.str _, H, I.tok _, ⟨_, rfl⟩, q⟩ hl
  | list h1 h2 h3 h4 => exact repr_of_reads' (.list h1 h2 h3 h4) hs (fun _ => hsm) hg (by omega) (fun _ _ e => e) (fun h' u tk hk => ⟨.str _, H, I.kept hk, ⟨u, rfl⟩, q⟩) hl
  | tuple h1 h2 h3 h4 => exact repr_of_reads' (.tuple h1 h2 h3 h4) hs (fun _ => hsm) hg (by omega) (fun _ _ e => e) (fun h' u tk hk => ⟨.str _, H, I.kept hk, ⟨u, rfl⟩, q⟩) hl
  | dict h1 h2 h3 h4 h5 => exact repr_of_reads' (.dict h1 h2 h3 h4 h5) hs (fun _ => hsm) hg (by omega) (fun _ _ e => e) (fun h' u tk hk => ⟨.str _, H, I.kept hk, ⟨u, rfl⟩, q⟩) hl
/-- an expression by what is known of its value -/
theorem pe_mo {e : Expr} {t : TE} (he : PE X e t) : PE X e (fun σ H Q => ∃ R : VK, t σ H R ∧ ∀ x H1, R x H1 → Q x H1) :=
  ⟨fun pins s σ H Q I ⟨R, h, k⟩ => thn (he.run pins s σ H R I h) fun u s1 ⟨x, H1, I1, r, q⟩ => ⟨x, H1, I1, r, k x H1 q⟩⟩
/-- a test by what is known of its answer -/
theorem pt_mo {e : Expr} {t : TT} (he : PT X e t) : PT X e (fun σ H Q => ∃ R : Bool → Hp → Prop, t σ H R ∧ ∀ b H1, R b H1 → Q b H1) :=
  ⟨fun pins s σ H Q I ⟨R, h, k⟩ => thn (he.run pins s σ H R I h) fun b s1 ⟨H1, I1, q⟩ => ⟨H1, I1, k b H1 q⟩⟩
/-- a statement that is never come to -/
theorem ps_dead {st : Stmt} : PS X st (fun _ _ _ => False) := ⟨fun _ _ _ _ _ _ h => h.elim⟩
theorem pss_dead {st : List Stmt} : PSs X st (fun _ _ _ => False) := ⟨fun _ _ _ _ _ _ h => h.elim⟩
end
end KX

set_option Elab.async false
set_option linter.all false
set_option maxRecDepth 100000
set_option maxHeartbeats 4000000
/-! Own layer: min of a list of pairs (int, list of ints): an item with the least first part. -/
namespace KX
open PySem PySem.Spec PyProof.Rows L2
/-- v is the pair of p's number and a list of p's numbers -/
def PairAt (H : Hp) (v : V) (p : Int × List Int) : Prop := ∃ t m, v = .ref t ∧ H t = some (.tup [.int p.1, .ref m]) ∧ H m = some (.lst (p.2.map V.int))
theorem PairAt.dq {H : Hp} {v : V} {p : Int × List Int} (h : PairAt H v p) : Dq H v (PySem.W.Datum.toD p) := by
  obtain ⟨t, m, rfl, e1, e2⟩ := h
  have go : ∀ l : List Int, DqAll H (l.map V.int) (l.map PySem.W.Datum.toD) := fun l => by
    induction l with
    | nil => exact .nil
    | cons x l ih => exact .cons (.int x) ih
  exact .tup e1 (.cons (.int _) (.cons (.lst e2 (go _)) .nil))
theorem pairs_dq {H : Hp} {vs : List V} {ps : List (Int × List Int)} (h : Paired (PairAt H) vs ps) : DqAll H vs (ps.map PySem.W.Datum.toD) := by
  induction h with
  | nil => exact .nil
  | cons h _ ih => exact .cons h.dq ih
theorem lt_fst {p q : Int × List Int} (h : PySem.W.DatumOrd.lt p q = true) : p.1 ≤ q.1 := by
  have h : (if p.1 = q.1 then PySem.W.DatumOrd.lt p.2 q.2 else decide (p.1 < q.1)) = true := h
  split at h
  · rename_i e; rw [e]; exact Int.le_refl _
  · exact Int.le_of_lt (of_decide_eq_true h)
theorem nlt_fst {p q : Int × List Int} (h : ¬ PySem.W.DatumOrd.lt p q = true) : q.1 ≤ p.1 := by
  have h : ¬ (if p.1 = q.1 then PySem.W.DatumOrd.lt p.2 q.2 else decide (p.1 < q.1)) = true := h
  split at h
  · rename_i e; rw [e]; exact Int.le_refl _
  · have : ¬ p.1 < q.1 := fun z => h (decide_eq_true z)
    omega
theorem minOf_fst : ∀ (xs : List (Int × List Int)) (x : Int × List Int), (PySem.W.minOf x xs).1 ≤ x.1 ∧ ∀ q, q ∈ xs → (PySem.W.minOf x xs).1 ≤ q.1
  | [], x => ⟨Int.le_refl _, fun _ z => nomatch z⟩
  | y :: xs, x => by
    have e : PySem.W.minOf x (y :: xs) = PySem.W.minOf (if PySem.W.DatumOrd.lt y x = true then y else x) xs := rfl
    rw [e]
    obtain ⟨h1, h2⟩ := minOf_fst xs (if PySem.W.DatumOrd.lt y x = true then y else x)
    by_cases c : PySem.W.DatumOrd.lt y x = true
    · rw [if_pos c] at h1 h2 ⊢
      refine ⟨Int.le_trans h1 (lt_fst c), fun q hq => ?_⟩
      rcases List.mem_cons.mp hq with rfl | hq
      · exact h1
      · exact h2 q hq
    · rw [if_neg c] at h1 h2 ⊢
      refine ⟨h1, fun q hq => ?_⟩
      rcases List.mem_cons.mp hq with rfl | hq
      · exact Int.le_trans h1 (nlt_fst c)
      · exact h2 q hq
theorem minOf_mem : ∀ (xs : List (Int × List Int)) (x : Int × List Int), PySem.W.minOf x xs ∈ x :: xs
  | [], x => List.mem_cons_self
  | y :: xs, x => by
    have e : PySem.W.minOf x (y :: xs) = PySem.W.minOf (if PySem.W.DatumOrd.lt y x = true then y else x) xs := rfl
    rw [e]
    by_cases c : PySem.W.DatumOrd.lt y x = true
    · rw [if_pos c]
      exact List.mem_cons_of_mem _ (minOf_mem xs y)
    · rw [if_neg c]
      rcases List.mem_cons.mp (minOf_mem xs x) with h | h
      · rw [h]; exact List.mem_cons_self
      · exact List.mem_cons_of_mem _ (List.mem_cons_of_mem _ h)
theorem paired_get {α β : Type} {R : α → β → Prop} : ∀ {as : List α} {bs : List β} {i : Nat} {a : α}, Paired R as bs → as[i]? = some a → ∃ b, bs[i]? = some b ∧ R a b
  | _, _, _, _, .nil, e => by simp at e
  | _, _, 0, _, .cons h _, e => by simp at e; subst e; exact ⟨_, rfl, h⟩
  | _, _, i + 1, a, .cons _ t, e => by
    obtain ⟨b, h1, h2⟩ := paired_get (i := i) (a := a) t (by simpa using e)
    exact ⟨b, by simpa using h1, h2⟩
section
variable {X : Cx}
/-- min(xs), xs a list of pairs (int, list of ints) -/
def rMinP (K : PySem.W.Frag) : List V → Hp → VK → Prop := fun xs H Q => ∃ (l : Addr) (vs : List V) (ps : List (Int × List Int)), xs = [.ref l] ∧ SqL K H l vs ∧ Paired (PairAt H) vs ps ∧ vs ≠ [] ∧
  ∀ (j : Nat) (v : V) (p : Int × List Int), vs[j]? = some v → ps[j]? = some p → (∀ q, q ∈ ps → p.1 ≤ q.1) → Q v H
theorem call_minP {K : PySem.W.Frag} (hK : X.K = K) (hc : X.calm = true) (hu : X.A.units + 64 < cLine) : CallR X (.builtin "min") (rMinP K) := by
  subst hK
  intro pins s σ H xs us Q I r h
  obtain ⟨l, vs, ps, rfl, hs, hp, ne, q⟩ := h
  obtain ⟨its, rv, hl, _⟩ := I.list hs
  rw [Vals.ref1 r]
  match ps, vs, hp, ne with
  | [], _, .nil, ne => exact absurd rfl ne
  | p :: ps, vs, hp, _ =>
    obtain ⟨as, hr, _⟩ := Dq.readsAll I _ _ _ (pairs_dq hp) rv
    refine PySem.W.min_list_datum (x := p) (xs := ps) (I.ok.hd hc) hl.isList ⟨as, by simpa using hr⟩ (by show X.A.units + 1 + _ < _; simp only [PySem.W.Datum.depth]; omega) fun i u h' tk hi hm hk => ?_
    have hi' : its[i]? = some u := by simpa using hi
    have hlen := rv.length
    have il : i < its.length := (List.getElem?_eq_some_iff.mp hi').1
    obtain ⟨u', e', r'⟩ := rv.get (List.getElem?_eq_getElem (show i < vs.length by omega))
    rw [hi'] at e'
    cases e'
    obtain ⟨pi, hpi, hat⟩ := paired_get hp (List.getElem?_eq_getElem (show i < vs.length by omega))
    refine ⟨vs[i], H, I.kept hk, r', q i _ pi (List.getElem?_eq_getElem _) hpi fun z hz => ?_⟩
    obtain ⟨bs, rd⟩ := hm
    obtain ⟨cs, rd', _⟩ := Dq.reads I _ _ _ hat.dq r'
    obtain ⟨e, _⟩ := PyProof.Rows.reads_det (fun b o e _ => hk b o e) rd' rd
    have e1 : PySem.W.minOf p ps = pi := by
      have : decide (PySem.W.minOf p ps = pi) = true := by rw [← PySem.W.Datum.eqv, e]; exact PySem.SeqAt.eqv_refl_plain _ (PySem.W.Datum.plain _)
      exact of_decide_eq_true this
    rw [← e1]
    rcases List.mem_cons.mp hz with rfl | hz
    · exact (minOf_fst ps _).1
    · exact (minOf_fst ps _).2 z hz
end
end KX

set_option Elab.async false
set_option linter.all false
set_option maxRecDepth 100000
set_option maxHeartbeats 2000000
/-! The mathematics of minimal heights: what the ranges' least heights are. -/
namespace L
/-- m is the least number with P -/
def Lst (P : Nat → Prop) (m : Nat) : Prop := P m ∧ ∀ t, P t → m ≤ t
theorem Lst.uniq {P : Nat → Prop} {a b : Nat} (h : Lst P a) (k : Lst P b) : a = b := Nat.le_antisymm (h.2 _ k.1) (k.2 _ h.1)
theorem lst_ex' {P : Nat → Prop} : ∀ {n : Nat}, P n → ∃ m, Lst P m := by
  intro n
  induction n using Nat.strongRecOn with
  | _ n ih =>
    intro h
    by_cases c : ∃ k, k < n ∧ P k
    · obtain ⟨k, hk, pk⟩ := c
      exact ih k hk pk
    · exact ⟨n, h, fun t ht => Nat.le_of_not_lt fun z => c ⟨t, z, ht⟩⟩
theorem lst_ex {P : Nat → Prop} (h : ∃ n, P n) : ∃ m, Lst P m := let ⟨_, k⟩ := h; lst_ex' k
section
variable (p : Nat → Nat → Nat)
/-- the range is cut into one or more ranges of S with the product e -/
inductive RunOf (S : Nat → Nat → Prop) (e : Nat) : Nat → Nat → Prop
  | one {i j : Nat} : S i j → p i j = e → RunOf S e i j
  | cons {i c j : Nat} : i < c → S i c → p i c = e → p c j = e → p i j = e → RunOf S e c j → RunOf S e i j
/-- a range has a tree of the height t -/
def Can : Nat → Nat → Nat → Prop
  | 0, i, j => j = i + 1
  | t + 1, i, j => j = i + 1 ∨ (∃ c, i < c ∧ c < j ∧ Can t i c ∧ Can t c j) ∨ ∃ c, i < c ∧ c < j ∧ p i c = p i j ∧ p c j = p i j ∧ Can t i c ∧ RunOf p (Can t) (p i j) c j
end
variable {p : Nat → Nat → Nat}
theorem RunOf.mono {S S' : Nat → Nat → Prop} {e i j : Nat} (k : ∀ a b, S a b → S' a b) (h : RunOf p S e i j) : RunOf p S' e i j := by
  induction h with
  | one h1 h2 => exact .one (k _ _ h1) h2
  | cons h1 h2 h3 h4 h5 _ ih => exact .cons h1 (k _ _ h2) h3 h4 h5 ih
theorem Can.up : ∀ {t i j : Nat}, Can p t i j → Can p (t + 1) i j
  | 0, _, _, h => .inl h
  | t + 1, _, _, h => by
    rcases h with h | ⟨c, h1, h2, h3, h4⟩ | ⟨c, h1, h2, h3, h4, h5, h6⟩
    · exact .inl h
    · exact .inr (.inl ⟨c, h1, h2, h3.up, h4.up⟩)
    · exact .inr (.inr ⟨c, h1, h2, h3, h4, h5.up, h6.mono fun _ _ z => z.up⟩)
theorem Can.le {t u i j : Nat} (h : Can p t i j) (l : t ≤ u) : Can p u i j := by
  induction l with
  | refl => exact h
  | step _ ih => exact ih.up
theorem Can.lt : ∀ {t i j : Nat}, Can p t i j → i < j
  | 0, _, _, h => by rw [show _ = _ from h]; exact Nat.lt_succ_self _
  | t + 1, _, _, h => by
    rcases h with h | ⟨c, h1, h2, _⟩ | ⟨c, h1, h2, _⟩
    · rw [h]; exact Nat.lt_succ_self _
    · omega
    · omega
theorem can_all : ∀ (d i : Nat), Can p d i (i + d + 1)
  | 0, _ => rfl
  | d + 1, i => .inr (.inl ⟨i + 1, by omega, by omega, Can.le (t := 0) rfl (Nat.zero_le _), by have := can_all d (i + 1); rw [show i + 1 + d + 1 = i + (d + 1) + 1 by omega] at this; exact this⟩)
theorem can_ex {i j : Nat} (h : i < j) : ∃ t, Can p t i j := ⟨j - i - 1, by have := can_all (p := p) (j - i - 1) i; rw [show i + (j - i - 1) + 1 = j by omega] at this; exact this⟩
/-- the least height of a range -/
noncomputable def hgt (p : Nat → Nat → Nat) (i j : Nat) : Nat := if h : i < j then Classical.choose (lst_ex (can_ex (p := p) h)) else 0
theorem hgt_lst {i j : Nat} (h : i < j) : Lst (fun t => Can p t i j) (hgt p i j) := by
  unfold hgt
  rw [dif_pos h]
  exact Classical.choose_spec (lst_ex (can_ex (p := p) h))
theorem run_ex {i j : Nat} (h : i < j) : ∃ t, RunOf p (Can p t) (p i j) i j := let ⟨t, k⟩ := can_ex (p := p) h; ⟨t, .one k rfl⟩
/-- the least height of the parts of a run with the product of the range -/
noncomputable def rnn (p : Nat → Nat → Nat) (i j : Nat) : Nat := if h : i < j then Classical.choose (lst_ex (run_ex (p := p) h)) else 0
theorem rnn_lst {i j : Nat} (h : i < j) : Lst (fun t => RunOf p (Can p t) (p i j) i j) (rnn p i j) := by
  unfold rnn
  rw [dif_pos h]
  exact Classical.choose_spec (lst_ex (run_ex (p := p) h))
theorem hgt_one (i : Nat) : hgt p i (i + 1) = 0 := by
  have := (hgt_lst (p := p) (i := i) (j := i + 1) (Nat.lt_succ_self _)).2 0 rfl
  omega
theorem rnn_one (i : Nat) : rnn p i (i + 1) = 0 := by
  have := (rnn_lst (p := p) (i := i) (j := i + 1) (Nat.lt_succ_self _)).2 0 (.one (show Can p 0 i (i + 1) from rfl) rfl)
  omega
theorem RunOf.le {t u e i j : Nat} (h : RunOf p (Can p t) e i j) (l : t ≤ u) : RunOf p (Can p u) e i j := h.mono fun _ _ z => z.le l
theorem hgt_can {t i j : Nat} (h : i < j) (l : hgt p i j ≤ t) : Can p t i j := (hgt_lst h).1.le l
theorem hgt_le {t i j : Nat} (k : Can p t i j) : hgt p i j ≤ t := (hgt_lst k.lt).2 t k
theorem can_iff {t i j : Nat} (h : i < j) : Can p t i j ↔ hgt p i j ≤ t := ⟨hgt_le, hgt_can h⟩
/-- the height of a range from those of shorter ones -/
theorem hgt_step {i j low : Nat} (hij : i + 2 ≤ j)
    (att : (∃ c, i < c ∧ c < j ∧ low = max (hgt p i c) (hgt p c j)) ∨ ∃ c, i < c ∧ c < j ∧ p i c = p i j ∧ p c j = p i j ∧ low = max (hgt p i c) (rnn p c j))
    (le1 : ∀ c, i < c → c < j → low ≤ max (hgt p i c) (hgt p c j)) (le2 : ∀ c, i < c → c < j → p i c = p i j → p c j = p i j → low ≤ max (hgt p i c) (rnn p c j)) : low + 1 = hgt p i j := by
  refine Lst.uniq (P := fun t => Can p t i j) ⟨?_, fun t ht => ?_⟩ (hgt_lst (by omega))
  · rcases att with ⟨c, h1, h2, e⟩ | ⟨c, h1, h2, h3, h4, e⟩
    · exact .inr (.inl ⟨c, h1, h2, hgt_can h1 (by omega), hgt_can h2 (by omega)⟩)
    · have k := (rnn_lst (p := p) h2).1
      rw [h4] at k
      exact .inr (.inr ⟨c, h1, h2, h3, h4, hgt_can h1 (by omega), k.le (by omega)⟩)
  · cases t with
    | zero => have : j = i + 1 := ht; omega
    | succ t =>
      rcases ht with h | ⟨c, h1, h2, h3, h4⟩ | ⟨c, h1, h2, h3, h4, h5, h6⟩
      · omega
      · have := le1 c h1 h2
        have := hgt_le h3
        have := hgt_le h4
        omega
      · have := le2 c h1 h2 h3 h4
        have := hgt_le h5
        rw [← h4] at h6
        have := (rnn_lst (p := p) h2).2 t h6
        omega
theorem rnn_step {i j r : Nat} (hij : i + 2 ≤ j)
    (att : r = hgt p i j ∨ ∃ c, i < c ∧ c < j ∧ p i c = p i j ∧ p c j = p i j ∧ r = max (hgt p i c) (rnn p c j))
    (le1 : r ≤ hgt p i j) (le2 : ∀ c, i < c → c < j → p i c = p i j → p c j = p i j → r ≤ max (hgt p i c) (rnn p c j)) (sub : ∀ {t c e : Nat}, RunOf p (Can p t) e c j → c < j) : r = rnn p i j := by
  refine Lst.uniq (P := fun t => RunOf p (Can p t) (p i j) i j) ⟨?_, fun t ht => ?_⟩ (rnn_lst (by omega))
  · rcases att with e | ⟨c, h1, h2, h3, h4, e⟩
    · exact .one (hgt_can (by omega) (by omega)) rfl
    · have k := (rnn_lst (p := p) h2).1
      rw [h4] at k
      exact .cons h1 (hgt_can h1 (by omega)) h3 h4 rfl (k.le (by omega))
  · cases ht with
    | one h1 h2 => exact Nat.le_trans le1 (hgt_le h1)
    | @cons _ c _ h1 h2 h3 h4 _ h6 =>
      have hc := sub h6
      have := le2 c h1 hc h3 h4
      have := hgt_le h2
      rw [← h4] at h6
      have := (rnn_lst (p := p) hc).2 t h6
      omega
theorem run_lt {t e i j : Nat} (h : RunOf p (Can p t) e i j) : i < j := by
  induction h with
  | one h _ => exact h.lt
  | cons h1 _ _ _ _ _ ih => omega
/-! the law's own way: all ranges of a height from those of the smaller ones -/
/-- where the beginnings of the range end that are cut into ranges of S with the product e -/
inductive Ch (p : Nat → Nat → Nat) (S : Nat → Nat → Prop) (e i : Nat) : Nat → Prop
  | z : Ch p S e i i
  | s {m k : Nat} : Ch p S e i m → m < k → S m k → p m k = e → Ch p S e i k
theorem Ch.ge {S : Nat → Nat → Prop} {e i j : Nat} (h : Ch p S e i j) : i ≤ j := by
  induction h with
  | z => exact Nat.le_refl _
  | s _ h1 _ _ ih => omega
theorem ch_run {S : Nat → Nat → Prop} {op : Nat → Nat → Nat} {n : Nat} (hp : ∀ i c j, i < c → c < j → j ≤ n → p i j = op (p i c) (p c j)) {e i j m : Nat} (ee : op e e = e) (hj : j ≤ n) (h : Ch p S e i m) :
    m < j → RunOf p S e m j → p m j = e → i = m ∨ ∃ c, i < c ∧ c < j ∧ S i c ∧ p i c = e ∧ p c j = e ∧ RunOf p S e c j := by
  induction h with
  | z => exact fun _ _ _ => .inl rfl
  | @s a b h1 h2 h3 h4 ih =>
    intro hb hr hbj
    have e1 : p a j = e := by rw [hp a b j h2 hb hj, h4, hbj, ee]
    rcases ih (by omega) (.cons h2 h3 h4 hbj e1 hr) e1 with rfl | h
    · exact .inr ⟨b, h2, hb, h3, h4, hbj, hr⟩
    · exact .inr h
theorem run_ch {S : Nat → Nat → Prop} {e i c j : Nat} (lt : ∀ a b, S a b → a < b) (hr : RunOf p S e c j) : Ch p S e i c → Ch p S e i j := by
  induction hr with
  | one h1 h2 => exact fun h => .s h (lt _ _ h1) h1 h2
  | cons h1 h2 h3 _ _ _ ih => exact fun h => ih (.s h h1 h2 h3)
/-- what the law's one step finds -/
theorem makes_iff {op : Nat → Nat → Nat} {n t i j : Nat} (hp : ∀ i c j, i < c → c < j → j ≤ n → p i j = op (p i c) (p c j)) (hj : j ≤ n) (hij : i < j) (no : ¬ Can p t i j) :
    Can p (t + 1) i j ↔ (∃ k, i < k ∧ k < j ∧ Can p t i k ∧ Can p t k j) ∨ (op (p i j) (p i j) = p i j ∧ Ch p (Can p t) (p i j) i j) := by
  constructor
  · intro h
    rcases h with h | h | ⟨c, h1, h2, h3, h4, h5, h6⟩
    · exact absurd (Can.le (t := 0) h (Nat.zero_le t)) no
    · exact .inl h
    · refine .inr ⟨?_, run_ch (fun _ _ z => z.lt) h6 (.s .z h1 h5 h3)⟩
      have e := hp i c j h1 h2 hj
      rw [h3, h4] at e
      exact e.symm
  · rintro (h | ⟨ee, h⟩)
    · exact .inr (.inl h)
    · cases h with
      | z => omega
      | @s m _ h1 h2 h3 h4 =>
        rcases ch_run hp ee hj h1 h2 (.one h3 h4) h4 with rfl | ⟨c, k1, k2, k3, k4, k5, k6⟩
        · exact absurd h3 no
        · exact .inr (.inr ⟨c, k1, k2, k4, k5, k3, k6⟩)
end L

set_option Elab.async false
set_option linter.all false
set_option maxRecDepth 100000
set_option maxHeartbeats 4000000
/-! Defs that may use that no repr runs further out (GOk), their calls, and the law's entry for them. -/
namespace KX
open PySem PySem.Spec PyProof.Rows L2
/-- as FnOk, of calls in whose surroundings no container's repr runs -/
structure GOk (P : Program) (w : World) (K : PySem.W.Frag) (mg : Str → Option Value) (base : Heap) (CX : CXT) (k : Nat) (f : Addr) (fd : FuncData) (ps : List Str) (sp : Sp) : Prop where
  arity : ∀ vs H Q E, sp vs H Q E → vs.length = ps.length
  go : ∀ (A : Around) (out : List Env) (s : Shared) (H : Hp) (args : Args) (us : List Value) (vs : List V) (Q : VK) (E : XK),
    Room k A → A.guards = some [] → Env0 P w K mg base A out s H → BindsTo s fd args (ps.zip us) → Vals vs us → sp vs H Q E →
    codeAny (model P w) A (.call (.ref f) args) (CR CX out P w H s Q E) s
theorem FnOk.g {P : Program} {w : World} {K : PySem.W.Frag} {mg : Str → Option Value} {base : Heap} {CX : CXT} {k : Nat} {f : Addr} {fd : FuncData} {ps : List Str} {sp : Sp}
    (F : FnOk P w K mg base CX k f fd ps sp) : GOk P w K mg base CX k f fd ps sp := ⟨F.len, fun A out s H args us vs Q E hr _ => F.run A out s H args us vs Q E hr⟩
section
variable {P : Program} {w : World} {K : PySem.W.Frag} {mg : Str → Option Value} {base : Heap}
/-- a def of the text, by its body, where no repr runs further out -/
theorem gok {CX : CXT} {x qual : Str} {st : Stmt} {f : Addr} {fd : FuncData} {N ps : List Str} {k : Nat} {sp : Sp} (F : Fun K x qual st f fd) (S : FnScope N ps (defScope st))
    (ar : ∀ vs H Q E, sp vs H Q E → vs.length = ps.length)
    (body : ∀ (cdv : Value) (A : Around) (out : List Env) (s : Shared) (H : Hp) (vs : List V) (Q : VK) (E : XK),
      Room k (A.deeper (envOfC qual (defScope st) s.heap.objs.size f cdv)) → A.guards = some [] → sp vs H Q E →
      ∃ t, PSs (cxOf CX P w K mg base N qual (defScope st) f cdv A out s H E).nox (defBody st) t ∧ t { nx := fun _ H' => Q .non H', rt := Q } (start N vs) H) :
    GOk P w K mg base CX (k + 1) f fd ps sp := by
  obtain ⟨oc, od, kV, doc, pm, an, cdv, ct, osl, rfl, lk, hcd⟩ := F.ex
  refine ⟨ar, fun A out s H args us vs Q E hr hA e0 hb r hsp => ?_⟩
  -- the library's rule for a def is about every surroundings: it is asked for a promise that carries this one's guards along
  have hl := ar _ _ _ _ hsp
  have kin : K.In s.heap := e0.mod.kin.keeps fun b o e => (e0.bs b o e).1
  have par : ∀ y ∈ ps.zip us, (defScope st).names.lookup y.1 = some .local ∨
      ((defScope st).names.lookup y.1 = some .cell ∧ ((cellsFrom (s.heap.objs.size + 1) (defScope st).names []).lookup y.1).isSome = true) := by
    rintro ⟨n, v⟩ hy
    exact (S.par n (List.of_mem_zip hy).1).imp id fun q => ⟨q, PySem.W.cellsFrom_some _ _ _ (.inl q)⟩
  refine codeAny_call_function hr.depth (kin _ _ lk) rfl S.co S.gen rfl (PySem.W.codeRec_of kin hcd) (hb _ _ _ _ (wpAny_newFunctionEnv_cells S.kind par ?_))
  rintro _ rfl s1 x
  refine ⟨(e0.mod.nolimit.keeps fun b o e => (e0.bs b o e).1).keeps x.toInCall.keep, codeAny_func ?_⟩
  obtain ⟨t, ht, hq⟩ := body cdv A out s H vs Q E (hr.deeper _) hA hsp
  have I := inv_start (P := P) (w := w) (mg := mg) (CX := CX) (E := E) S hr.hd e0 hl r x
  refine wpAny_mono (ht.nox.run [] s1 _ H _ I hq) (fun fl s' hs => ?_) fun _ _ hs => hs
  match fl, hs with
  | .ret u, ⟨v, _, H', J, rv, q⟩ => exact ⟨v, H', J.os, J.bare, J.base, J.hok, rv, q⟩
  | .next, ⟨_, H', J, q⟩ => exact ⟨V.non, H', J.os, J.bare, J.base, J.hok, rfl, q⟩
  | .brk, ⟨_, _, _, q⟩ => exact q.elim
  | .cont, ⟨_, _, _, q⟩ => exact q.elim
end
section
variable {X : Cx} {CX : CXT} {k : Nat} {f : Addr} {fd : FuncData} {ps : List Str} {sp : Sp} {dvs : List V} {ds : List Value} {E : XK} {x : Str} {p pos : Pos} {e : Expr} {es : List Expr} {t : TA}
/-- the call of such a def where no repr runs further out -/
theorem pe_g (F : GOk X.prog X.w X.K X.mg X.base CX k f fd ps sp) (hA : X.A.guards = some []) (hr : Room k X.A) (hg : Gl X x) (hm : X.mg x = some (.ref f)) (hk : PySem.W.keepIn X.K (.ref f) = true)
    (hb : Binds X.K fd ps ds) (hd : Vals dvs ds) (hx : Passes CX X E) (ha : PA X (e :: es) t) (hdb : (x == ("__debug__" : Str)) = false := by decide)
    (he : starEach (e :: es) X.env = (false, eval e X.env) :: starEach es X.env := by rfl) (hpl : (backTo pos (starEach es X.env)).any (·.1) = false := by rfl) :
    PE X (.Call (.Name x p) (e :: es) [] pos) (tCall sp dvs E t) := ⟨fun pins s σ H Q I h => by
  refine wpAny_Call_Name_kw (ld_glob I hg hm (PySem.W.callWith_K (h₀ := X.base) I.ok.mod.kin hk (thn (ha.run pos pins s σ H _ I h) ?_) he hpl) hdb)
  rintro us s1 ⟨vs, H1, I1, r, q⟩
  have r2 : Vals (vs ++ dvs) (us ++ ds) := r.append hd
  have hl : (us ++ ds).length = ps.length := by rw [← r2.length]; exact F.arity _ _ _ _ q
  refine ⟨I1.kIn, wpAny_call (codeAny_mono (F.go X.A X.stack s1 H1 ⟨us, []⟩ (us ++ ds) (vs ++ dvs) Q E hr hA I1.env0 (hb s1 us I1.kIn hl) r2 q) fun r s' hq => ?_)⟩
  match r, hq with
  | .error e, hq => exact hx pins σ H1 s1 e s' I1 hq
  | .ok (.ret u), hq => exact I1.after hq⟩
end
section
variable {X : Cx} {CX : CXT} {k : Nat} {f : Addr} {fd : FuncData} {ps ks : List Str} {sp : Sp} {E : XK} {x : Str} {p pos : Pos} {kws : List Keyword} {tk : TA} {g : List Value → List Value → List Value} {gV : List V → List V → List V}
/-- f(k = v, ..), every argument by its name -/
theorem pe_kw0 (F : FnOk X.prog X.w X.K X.mg X.base CX k f fd ps sp) (hr : Room k X.A) (hg : Gl X x) (hm : X.mg x = some (.ref f)) (hk : PySem.W.keepIn X.K (.ref f) = true) (hb : KBinds X.K fd ps ks g gV) (hx : Passes CX X E)
    (hkw : PK X kws tk) (hall : (backToKw pos (keywordEach kws X.env)).all (·.1.isSome) = true := by rfl) (hks : (backToKw pos (keywordEach kws X.env)).filterMap (·.1) = ks := by rfl) (hdb : (x == ("__debug__" : Str)) = false := by decide)
    (hpl : ((backTo pos (starEach [] X.env)).any (·.1) || (backToKw pos (keywordEach kws X.env)).any (·.1.isNone)) = false := by rfl) :
    PE X (.Call (.Name x p) [] kws pos) (tCallK sp gV E tNil tk) := ⟨fun pins s σ H Q I h => by
  refine wpAny_Call_Name_kw (ld_glob I hg hm (PySem.W.callWith_KW0 (h₀ := X.base) I.ok.mod.kin hk hall (thn (hkw.run pos pins s σ H _ I h) ?_) hpl) hdb)
  rintro ws s2 ⟨zs, H2, I2, rz, q2⟩
  rw [hks]
  exact ⟨I2.kIn, run_fnk (us := []) (vs := []) F hr hb hx I2 .nil rz q2⟩⟩
end
/-- one parameter, by its place or by its name -/
theorem kb1 {K : PySem.W.Frag} {fd : FuncData} {a : Str} (h : ∀ u : Value, bindArgs fd ⟨[u], []⟩ = pure [(a, u)]) (h2 : ∀ u : Value, bindArgs fd ⟨[], [(a, u)]⟩ = pure [(a, u)]) : KBinds K fd [a] [a] (fun us ws => us ++ ws) (fun us ws => us ++ ws) where
  to := fun s us ws _ hl => by
    match us, ws, hl with
    | [], [w], _ => exact .of_eq (h2 w)
    | [u], [], _ => exact .of_eq (h u)
  rel := fun r q => r.append q
/-- what the law's def is called with: base holds sys.modules, and no repr runs -/
theorem law_g {P : Program} {w : World} {K : PySem.W.Frag} {mg mb : Str → Option Value} {k : Nat} {fa a : Addr} {fd : FuncData} {x : Str} {sp : Sp} {s₁ : Shared} {vs : List Value} {ns : List Int}
    (kin : K.In s₁.heap) (hns : s₁.heap.Ns mainGlobals mg) (hb : s₁.heap.Ns builtinsNs mb) (hbb : ∀ x : Str, x ≠ "__name__" → mb x = bootBuiltins x) (hlim : s₁.heap.NoLimit) (hsys : ∃ mm, s₁.heap.Ns sysModules mm) (hg : s₁.gens = #[])
    (ha : s₁.heap.get? a = some { cls := .type "list", data := .seq vs.toArray }) (hi : IntsAre vs ns) (hl : ns.length ≤ sizeLine) (hr : Room k callerA)
    (F : ∀ base : Heap, K.In base → base.Ns mainGlobals mg → (∃ o, base.get? sysModules = some o) → GOk P w K mg base CX0 k fa fd [x] sp) (hbind : ∀ (s : Shared) (u : Value), BindsTo s fd ⟨[u], []⟩ [(x, u)])
    (hsp : ∀ H : Hp, Only H → SqL K H a (ns.map V.int) → sp [.ref a] H (fun v _ => v = .bl true) fun _ _ _ => False) :
    codeAny (model P w) callerA (.call (.ref fa) ⟨[.ref a], []⟩) (fun r s' => r = .ok (.ret (.bool true)) ∧ OldK s₁.heap s'.heap ∧ s'.os = s₁.os ∧ AllBare s'.gens) s₁ := by
  have rv := vals_ints hi
  have nV := hi.length
  let ob : Obj := { cls := .type "list", data := .seq vs.toArray }
  suffices core : ∀ H : Hp, Only H → SqL K H a (ns.map V.int) → HOk P w H s₁.heap → (∀ b, H b ≠ none → b = a ∧ K.lookup a = none) →
      codeAny (model P w) callerA (.call (.ref fa) ⟨[.ref a], []⟩) (fun r s' => r = .ok (.ret (.bool true)) ∧ OldK s₁.heap s'.heap ∧ s'.os = s₁.os ∧ AllBare s'.gens) s₁ by
    cases hk : K.lookup a with
    | some o =>
      have e := kin a o hk
      rw [ha] at e
      cases e
      exact core (fun _ => none) (fun _ => .inl rfl) (.inr ⟨_, vs.toArray, _, hk, rfl, rfl, rfl, by rw [List.size_toArray, nV]; exact hl, by simpa using rv⟩) (fun _ _ z => nomatch z) fun _ z => absurd rfl z
    | none =>
      refine core (fun b => if b = a then some (.frz ob (.lst (ns.map V.int))) else none) (fun b => ?_) (.inl (.inr ⟨ob, if_pos rfl⟩)) (fun b u z => ?_) (fun b z => ?_)
      · by_cases hb : b = a
        · exact .inr ⟨_, _, if_pos hb⟩
        · exact .inl (if_neg hb)
      · by_cases hb : b = a
        · have z' := (if_pos hb).symm.trans z
          cases z'; subst hb
          exact ⟨ha, by rw [List.length_map]; exact hl, vs, _, rv, ha⟩
        · exact nomatch (if_neg hb).symm.trans z
      · by_cases hb : b = a
        · exact ⟨hb, hk⟩
        · exact absurd (if_neg hb) z
  intro H hO hS hok hA
  have keep : ∀ {b : Addr} {o : Obj}, s₁.heap.get? b = some o → H b = none → (hidT s₁.heap H).get? b = some o := fun e n => hidT_get e n
  have free : ∀ {b : Addr} {o : Obj}, s₁.heap.get? b = some o → (∀ es ep, o.data = .dict es ep → H b = none) := fun {b o} e es ep d => by
    refine Classical.byContradiction fun q => ?_
    obtain ⟨e', _⟩ := hA b q
    rw [e', ha] at e; cases e
    exact nomatch d
  have ns2 : ∀ {b : Addr} {m : Str → Option Value}, s₁.heap.Ns b m → (hidT s₁.heap H).Ns b m := fun {b m} ⟨o, es, ep, e, d, r⟩ => ⟨o, es, ep, keep e (free e _ _ d), d, r⟩
  have kb : K.In (hidT s₁.heap H) := fun b o e => keep (kin b o e) <| Classical.byContradiction fun q => by
    obtain ⟨e', n⟩ := hA b q
    rw [e', n] at e; cases e
  have M : Mod K mg (hidT s₁.heap H) := ⟨kb, ns2 hns, ⟨mb, ns2 hb, hbb⟩, hlim.elim fun mc h => ⟨mc, ns2 h.1, h.2⟩⟩
  have e0 : Env0 P w K mg (hidT s₁.heap H) callerA [] s₁ H := ⟨rfl, M, fun b o e => of_hidT e, Nat.le_of_eq (hidT_size _ _), trivial, fun _ hb => (nomatch hb), hok, .of_eq hg⟩
  have sys : ∃ o, (hidT s₁.heap H).get? sysModules = some o := hsys.elim fun mm h => (ns2 h).elim fun o h => h.elim fun _ h => h.elim fun _ h => ⟨o, h.1⟩
  refine codeAny_mono ((F _ kb (ns2 hns) sys).go callerA [] s₁ H ⟨[.ref a], []⟩ [.ref a] [.ref a] _ _ hr rfl e0 (hbind s₁ (.ref a)) (.cons rfl .nil) (hsp H hO hS)) fun r s' h => ?_
  match r, h with
  | .error e, h => exact h.elim
  | .ok (.ret u), ⟨v, H', os, bare, un, hok', r', q⟩ =>
    have q' : v = .bl true := q
    subst q'
    obtain rfl : u = Value.bool true := r'
    refine ⟨rfl, OldK.of_keep fun b o e => ?_, os, bare⟩
    cases q : H b with
    | none => exact un.keep b o e q (fun z => nomatch z) (fun z => nomatch z)
    | some u =>
      rcases hO b with z | ⟨_, xs, z⟩
      · rw [q] at z; cases z
      · obtain ⟨e1, _⟩ := hok b _ z
        obtain ⟨e2, _⟩ := hok' b _ (un.frzs b _ _ z)
        rw [e] at e1; cases e1
        exact e2
/-- the goal that k_head leaves, by the law's promise -/
theorem walk_g {l : PySem.W.OpenLaw} {n k : Nat} {q : Program} {loose : List Str} {XP : (Str → Option Value) → Heap → Prop} {YP : World → Heap → Prop} {d : DefRec} {K : Params → PySem.W.Frag} {sp : PySem.W.Frag → Sp} {x : Str}
    (hn : l.most = some n) (hn2 : n ≤ sizeLine) (hdf : d.params.defaults = []) (hr : Room k callerA) (him : importsNone q = true) (hY : ∀ (w : World) (h : Heap), YP w h → (K w.params).In h)
    (F : ∀ (w : World) (mg : Str → Option Value) (fa : Addr) (h : Heap), (K w.params).In h → h.Ns mainGlobals mg → mg d.name = some (.ref fa) →
      ∃ fd : FuncData, (∀ (s : Shared) (u : Value), BindsTo s fd ⟨[u], []⟩ [(x, u)]) ∧
        ∀ base : Heap, (K w.params).In base → base.Ns mainGlobals mg → (∃ o, base.get? sysModules = some o) → GOk l.prog w (K w.params) mg base CX0 k fa fd [x] (sp (K w.params)))
    (hsp : ∀ (K : PySem.W.Frag) (H : Hp) (a : Addr) (ns : List Int), ns.length ≤ n → Only H → SqL K H a (ns.map V.int) → sp K [.ref a] H (fun v _ => v = .bl true) fun _ _ _ => False) :
    PySem.W.WalkO q loose XP YP l.row.toRowW d [] (fun f vs => PySem.call f vs) := by
  refine Att.attach_call hn hdf fun w s₀ s₁ mg mb fa o pm cd doc a vs ns G Y ho hd hcd hmg hobj hints hlen hg => ?_
  obtain ⟨fd, hb, hF⟩ := F w mg fa _ (hY w _ Y) G.T.g hmg
  obtain ⟨mm, hmm, _⟩ := (G.T.seer him).mods
  exact law_g (hY w _ Y) G.T.g G.T.b G.T.builtins G.T.nolimit ⟨mm, hmm⟩ hg hobj hints (Nat.le_trans hlen hn2) hr hF hb fun H hO hS => hsp _ H a ns hlen hO hS
end KX

set_option Elab.async false
set_option linter.all false
set_option maxRecDepth 100000
set_option maxHeartbeats 4000000
/-! Own layer: short texts, picks by a drawn index. -/
namespace KX
open PySem PySem.Spec PyProof.Rows L2
/-- a short text of codes that repr shows in at most ten signs each -/
def Ss (n : Nat) (z : Str) : Prop := z.length ≤ n ∧ ∀ c, c ∈ z.cps.toList → c < 1114112
theorem Ss.mono {n m : Nat} {z : Str} (h : Ss n z) (l : n ≤ m) : Ss m z := ⟨Nat.le_trans h.1 l, h.2⟩
theorem Ss.app {n m : Nat} {a b : Str} (h : Ss n a) (g : Ss m b) : Ss (n + m) (a ++ b) := by
  refine ⟨by rw [strLen_append]; exact Nat.add_le_add h.1 g.1, fun c hc => ?_⟩
  have e : (a ++ b).cps.toList = a.cps.toList ++ b.cps.toList := Array.toList_append
  rw [e] at hc
  exact (List.mem_append.mp hc).elim (h.2 c) (g.2 c)
theorem Ss.cut {n : Nat} {a : Str} (h : Ss n a) (lo hi : Option Int) : Ss n (cutS a lo hi) := by
  refine ⟨Nat.le_trans (cutS_length a lo hi) h.1, fun c hc => h.2 c ?_⟩
  have hc' : c ∈ (a.cps.toList.drop (HT.sIx a.length 0 lo)).take (HT.sIx a.length a.length hi - HT.sIx a.length 0 lo) := by simpa [cutS] using hc
  exact List.mem_of_mem_drop (List.mem_of_mem_take hc')
theorem Ss.sign {c : Nat} (h : c < 1114112) : Ss 1 ⟨#[c]⟩ := ⟨Nat.le_refl 1, fun d hd => by simp at hd; subst hd; exact h⟩
theorem Ss.nil : Ss 0 (Str.ofString "") := ⟨by decide, by decide⟩
theorem Ss.join {m : Nat} : ∀ {ys : List Str}, (∀ y, y ∈ ys → Ss m y) → Ss (ys.length * m) (Str.join (Str.ofString "") ys)
  | [], _ => by rw [List.length_nil, Nat.zero_mul]; exact Ss.nil
  | [x], h => by rw [List.length_singleton, Nat.one_mul]; exact h x (List.mem_singleton.mpr rfl)
  | x :: z :: r, h => by
    have h1 := h x List.mem_cons_self
    have h2 := Ss.join (ys := z :: r) fun y hy => h y (List.mem_cons_of_mem _ hy)
    have h3 := (h1.app Ss.nil).app h2
    refine Ss.mono (show Ss _ (x ++ Str.ofString "" ++ Str.join (Str.ofString "") (z :: r)) from h3) ?_
    simp only [List.length_cons]
    rw [Nat.succ_mul (r.length + 1) m]
    omega
theorem Ss.joinT {m : Nat} {ys : List Str} (h : ∀ y, y ∈ ys → Ss m y) : Ss (ys.length * m) (Txt.join (Str.ofString "") ys) := by
  rw [show Txt.join (Str.ofString "") ys = Str.join (Str.ofString "") ys from StrLaws.glued_eq_join _ ys]; exact Ss.join h
theorem Ss.sum {m : Nat} : ∀ {ys : List Str}, (∀ y, y ∈ ys → Ss m y) → (ys.map (·.length)).sum ≤ ys.length * m
  | [], _ => by simp
  | x :: r, h => by
    have h1 := (h x List.mem_cons_self).1
    have h2 := Ss.sum (ys := r) fun y hy => h y (List.mem_cons_of_mem _ hy)
    simp only [List.map_cons, List.sum_cons, List.length_cons, Nat.succ_mul]
    omega
/-- an item by an index in bounds -/
theorem pick {α : Type} {xs : List α} {i : Int} (h0 : 0 ≤ i) (h1 : i < (xs.length : Int)) : ∃ (j : Nat) (v : α), xs[j]? = some v ∧ v ∈ xs ∧ i = (j : Int) ∧ atI xs i = some v := by
  have hj : i.toNat < xs.length := by omega
  have e : i = ((i.toNat : Nat) : Int) := by omega
  refine ⟨i.toNat, xs[i.toNat], List.getElem?_eq_getElem hj, List.getElem_mem hj, e, ?_⟩
  have q : atI xs ((i.toNat : Nat) : Int) = some xs[i.toNat] := atI_nat (List.getElem?_eq_getElem hj)
  rw [← e] at q
  exact q
theorem pickI {xs : List Int} {i : Int} (h0 : 0 ≤ i) (h1 : i < (xs.length : Int)) : ∃ m, m ∈ xs ∧ atI (xs.map V.int) i = some (.int m) := by
  obtain ⟨j, v, h2, h3, h4, h5⟩ := pick (xs := xs.map V.int) h0 (by rw [List.length_map]; exact h1)
  obtain ⟨m, hm, rfl⟩ := List.mem_map.mp h3
  exact ⟨m, hm, h5⟩
/-- data that repr shows in few signs -/
structure OkD (n W : Nat) (d : PyData) : Prop where
  short : d.leavesShort 110 = true
  shows : d.showable = true
  deep : d.depth ≤ n
  wt : d.weight ≤ W
theorem OkD.mono {n m W U : Nat} {d : PyData} (h : OkD n W d) (h1 : n ≤ m) (h2 : W ≤ U) : OkD m U d := ⟨h.short, h.shows, Nat.le_trans h.deep h1, Nat.le_trans h.wt h2⟩
theorem OkD.len {n W : Nat} {d : PyData} (h : OkD n W d) (hW : W ≤ 100000) : d.shown.length ≤ sizeLine := by
  have h1 := PyData.shown_le 110 (by decide) d h.short
  have h2 := h.wt
  rw [sizeLine_eq]
  have h3 : (110 + 2) * d.weight ≤ 112 * 100000 := Nat.mul_le_mul_left 112 (by omega)
  omega
theorem OkD.none : OkD 0 0 .none := ⟨rfl, rfl, Nat.le_refl _, Nat.le_refl _⟩
theorem OkD.bool (b : Bool) : OkD 0 0 (.bool b) := ⟨rfl, rfl, Nat.le_refl _, Nat.le_refl _⟩
theorem OkD.str {n : Nat} {z : Str} (h : Ss n z) : OkD 0 n (.str z) := by
  refine ⟨?_, rfl, Nat.le_refl _, h.1⟩
  simp only [PyData.leavesShort, List.all_eq_true, decide_eq_true_eq]
  exact fun c hc => Nat.lt_trans (h.2 c hc) (by decide)
theorem OkD.int {i : Int} (h : i.natAbs < 2 ^ 98) : OkD 0 100 (.int i) := by
  have hl : i.natAbs.log2 < 98 := by
    by_cases z : i.natAbs = 0
    · rw [z]; decide
    · exact (Nat.log2_lt z).mpr h
  refine ⟨?_, ?_, Nat.le_refl _, ?_⟩
  · have q := int_text_length_le (a := i) (k := 98) (by decide) hl
    have e : (PyData.shown (.int i)).length = (toString i).length := PySem.ofString_length _
    simp only [PyData.leavesShort, decide_eq_true_eq]
    omega
  · simp only [PyData.showable, decide_eq_true_eq]; omega
  · simp only [PyData.weight]; split <;> omega
theorem OkD.intB {i : Int} (h : i.natAbs < 2 ^ 104) : OkD 0 106 (.int i) := by
  have hl : i.natAbs.log2 < 104 := by
    by_cases z : i.natAbs = 0
    · rw [z]; decide
    · exact (Nat.log2_lt z).mpr h
  refine ⟨?_, ?_, Nat.le_refl _, ?_⟩
  · have q := int_text_length_le (a := i) (k := 104) (by decide) hl
    have e : (PyData.shown (.int i)).length = (toString i).length := PySem.ofString_length _
    simp only [PyData.leavesShort, decide_eq_true_eq]
    omega
  · simp only [PyData.showable, decide_eq_true_eq]; omega
  · simp only [PyData.weight]; split <;> omega
/-- what is new in H', behind H -/
def nw (H H' : Hp) : Hp := fun b => match H b with
  | none => H' b
  | some _ => none
theorem nw_at {H H' : Hp} {b : Addr} (h : H b = none) : nw H H' b = H' b := by unfold nw; rw [h]
theorem nw_some {H H' : Hp} {b : Addr} {o : HO} (h : nw H H' b = some o) : H b = none ∧ H' b = some o := by
  unfold nw at h
  cases e : H b with
  | none => rw [e] at h; exact ⟨rfl, h⟩
  | some u => rw [e] at h; cases h
theorem nw_same {H H' : Hp} : Same (nw H H') H' := fun b o h => (nw_some h).2
mutual
theorem Dq.same {H G : Hp} (s : Same H G) : ∀ (d : PyData) (v : V), Dq H v d → Dq G v d
  | .none, _, h => by cases h; exact .non
  | .bool b, _, h => by cases h; exact .bl b
  | .int i, _, h => by cases h; exact .int i
  | .str x, _, h => by cases h; exact .str x
  | .list ds, _, h => by cases h with | lst h1 h2 => exact .lst (s _ _ h1) (DqAll.same s ds _ h2)
  | .tuple ds, _, h => by cases h with | tup h1 h2 => exact .tup (s _ _ h1) (DqAll.same s ds _ h2)
  | .dict ds, _, h => by cases h with | dct h1 h2 => exact .dct (s _ _ h1) (DqKv.same s ds _ h2)
theorem DqAll.same {H G : Hp} (s : Same H G) : ∀ (ds : List PyData) (vs : List V), DqAll H vs ds → DqAll G vs ds
  | [], _, h => by cases h; exact .nil
  | d :: ds, _, h => by cases h with | cons h1 h2 => exact .cons (Dq.same s d _ h1) (DqAll.same s ds _ h2)
theorem DqKv.same {H G : Hp} (s : Same H G) : ∀ (ds : List (PyData × PyData)) (kvs : List (Key × V)), DqKv H kvs ds → DqKv G kvs ds
  | [], _, h => by cases h; exact .nil
  | (_, d) :: ds, _, h => by cases h with | cons h1 h2 => exact .cons (Dq.same s d _ h1) (DqKv.same s ds _ h2)
end
/-- the value stands for some data of at most this depth and weight -/
def Dd (n W : Nat) (H : Hp) (v : V) : Prop := ∃ d, Dq H v d ∧ OkD n W d
theorem Dd.same {n W : Nat} {H G : Hp} {v : V} (h : Dd n W H v) (s : Same H G) : Dd n W G v := let ⟨d, a, b⟩ := h; ⟨d, Dq.same s d v a, b⟩
theorem Dd.mono {n m W U : Nat} {H : Hp} {v : V} (h : Dd n W H v) (h1 : n ≤ m) (h2 : W ≤ U) : Dd m U H v := let ⟨d, a, b⟩ := h; ⟨d, a, b.mono h1 h2⟩
theorem Dd.items {n W : Nat} {H : Hp} : ∀ {vs : List V}, (∀ v, v ∈ vs → Dd n W H v) → ∃ ds, DqAll H vs ds ∧ PyData.leavesShortAll 110 ds = true ∧ PyData.showableAll ds = true ∧ PyData.depthAll ds ≤ n ∧ PyData.weightAll ds ≤ vs.length * (W + 1)
  | [], _ => ⟨[], .nil, rfl, rfl, Nat.zero_le _, Nat.zero_le _⟩
  | v :: r, h => by
    obtain ⟨d, h1, h2⟩ := h v List.mem_cons_self
    obtain ⟨ds, g1, g2, g3, g4, g5⟩ := Dd.items (vs := r) fun u hu => h u (List.mem_cons_of_mem _ hu)
    refine ⟨d :: ds, .cons h1 g1, ?_, ?_, ?_, ?_⟩
    · simp only [PyData.leavesShortAll, h2.short, g2, Bool.and_self]
    · simp only [PyData.showableAll, h2.shows, g3, Bool.and_self]
    · have := h2.deep
      simp only [PyData.depthAll]; omega
    · have := h2.wt
      simp only [PyData.weightAll, List.length_cons, Nat.succ_mul]; omega
theorem Dd.lst {n W m : Nat} {H : Hp} {a : Addr} {vs : List V} (h : H a = some (.lst vs)) (l : vs.length ≤ m) (hv : ∀ v, v ∈ vs → Dd n W H v) : Dd (n + 1) (m * (W + 1)) H (.ref a) := by
  obtain ⟨ds, g1, g2, g3, g4, g5⟩ := Dd.items hv
  refine ⟨.list ds, .lst h g1, ⟨by simpa only [PyData.leavesShort] using g2, by simpa only [PyData.showable] using g3, by simp only [PyData.depth]; omega, ?_⟩⟩
  have := Nat.mul_le_mul_right (W + 1) l
  simp only [PyData.weight]; omega
theorem Dd.tup {n W m : Nat} {H : Hp} {a : Addr} {vs : List V} (h : H a = some (.tup vs)) (l : vs.length ≤ m) (hv : ∀ v, v ∈ vs → Dd n W H v) : Dd (n + 1) (m * (W + 1)) H (.ref a) := by
  obtain ⟨ds, g1, g2, g3, g4, g5⟩ := Dd.items hv
  refine ⟨.tuple ds, .tup h g1, ⟨by simpa only [PyData.leavesShort] using g2, by simpa only [PyData.showable] using g3, by simp only [PyData.depth]; omega, ?_⟩⟩
  have := Nat.mul_le_mul_right (W + 1) l
  simp only [PyData.weight]; omega
/-- a key is a short text -/
def KeyS (k : Key) : Prop := ∃ z, k = Sum.inr z ∧ Ss 9 z
theorem Dd.pairs {n W : Nat} {H : Hp} : ∀ {kvs : List (Key × V)}, (∀ kv, kv ∈ kvs → KeyS kv.1 ∧ Dd n W H kv.2) → ∃ ds, DqKv H kvs ds ∧ PyData.leavesShortKv 110 ds = true ∧ PyData.showableKv ds = true ∧ PyData.depthKv ds ≤ n ∧ PyData.weightKv ds ≤ kvs.length * (W + 11)
  | [], _ => ⟨[], .nil, rfl, rfl, Nat.zero_le _, Nat.zero_le _⟩
  | (k, v) :: r, h => by
    obtain ⟨⟨z, e, hz⟩, d, h1, h2⟩ := h (k, v) List.mem_cons_self
    obtain ⟨ds, g1, g2, g3, g4, g5⟩ := Dd.pairs (kvs := r) fun u hu => h u (List.mem_cons_of_mem _ hu)
    have e' : k = Sum.inr z := e
    subst e'
    have hk := OkD.str hz
    refine ⟨(kD (Sum.inr z), d) :: ds, .cons h1 g1, ?_, ?_, ?_, ?_⟩
    · show (PyData.leavesShort 110 (.str z) && d.leavesShort 110 && PyData.leavesShortKv 110 ds) = true
      rw [hk.short, h2.short, g2]; rfl
    · show (PyData.showable (.str z) && d.showable && PyData.showableKv ds) = true
      rw [hk.shows, h2.shows, g3]; rfl
    · have := h2.deep
      show max (max (PyData.depth (.str z)) d.depth) (PyData.depthKv ds) ≤ n
      have e0 : PyData.depth (.str z) = 0 := rfl
      omega
    · have w1 := h2.wt
      have w2 := hk.wt
      show PyData.weight (.str z) + d.weight + 2 + PyData.weightKv ds ≤ _
      simp only [List.length_cons, Nat.succ_mul]; omega
theorem Dd.dct {n W m : Nat} {H : Hp} {a : Addr} {kvs : List (Key × V)} (h : H a = some (.dK kvs)) (l : kvs.length ≤ m) (hv : ∀ kv, kv ∈ kvs → KeyS kv.1 ∧ Dd n W H kv.2) : Dd (n + 1) (m * (W + 11)) H (.ref a) := by
  obtain ⟨ds, g1, g2, g3, g4, g5⟩ := Dd.pairs hv
  refine ⟨.dict ds, .dct h g1, ⟨by simpa only [PyData.leavesShort] using g2, by simpa only [PyData.showable] using g3, by simp only [PyData.depth]; omega, ?_⟩⟩
  have := Nat.mul_le_mul_right (W + 11) l
  simp only [PyData.weight]; omega
theorem putK_all {p : Key × V → Prop} {k : Key} {v : V} (hv : p (k, v)) {kvs : List (Key × V)} (h : ∀ kv, kv ∈ kvs → p kv) : (∀ kv, kv ∈ putK kvs k v → p kv) ∧ (putK kvs k v).length ≤ kvs.length + 1 := by
  unfold putK
  split
  · refine ⟨fun kv hm => ?_, by rw [List.length_map]; omega⟩
    obtain ⟨x, hx, rfl⟩ := List.mem_map.mp hm
    by_cases e : x.1 = k
    · rw [if_pos e, e]; exact hv
    · rw [if_neg e]; exact h x hx
  · refine ⟨fun kv hm => ?_, by rw [List.length_append]; exact Nat.le_refl _⟩
    rcases List.mem_append.mp hm with q | q
    · exact h kv q
    · rw [List.mem_singleton.mp q]; exact hv
theorem mergeK_all {p : Key × V → Prop} : ∀ {more kvs : List (Key × V)}, (∀ kv, kv ∈ more → p kv) → (∀ kv, kv ∈ kvs → p kv) → (∀ kv, kv ∈ mergeK kvs more → p kv) ∧ (mergeK kvs more).length ≤ kvs.length + more.length
  | [], _, _, h => ⟨h, Nat.le_refl _⟩
  | (k, v) :: r, kvs, hm, h => by
    have h1 := putK_all (hm (k, v) List.mem_cons_self) h
    have h2 := mergeK_all (more := r) (kvs := putK kvs k v) (fun kv q => hm kv (List.mem_cons_of_mem _ q)) h1.1
    refine ⟨h2.1, ?_⟩
    have := h1.2
    have := h2.2
    show (mergeK (putK kvs k v) r).length ≤ kvs.length + (r.length + 1)
    omega
theorem KeyS.num {i : Nat} (h : i < 10) : KeyS (Sum.inr (Str.ofString (toString (i : Int)))) := by
  refine ⟨_, rfl, ?_⟩
  have hd : ∀ j : Fin 10, (Str.ofString (toString ((j.val : Nat) : Int))).length ≤ 9 ∧ ∀ c, c ∈ (Str.ofString (toString ((j.val : Nat) : Int))).cps.toList → c < 1114112 := by decide +kernel
  exact hd ⟨i, h⟩
end KX

set_option Elab.async false
set_option linter.all false
set_option maxRecDepth 100000
set_option maxHeartbeats 4000000
/-! Own layer: try with several clauses «except C as n», each of them the only one that takes the error; the clauses behind are never looked at. -/
namespace KX
open PySem PySem.Spec PyProof.Rows L2
abbrev Cla := Value × Nat × (Addr → Value → Option Addr → TS)
/-- behind a suite the clause's name is gone -/
def gone (D : Ends) (i : Nat) : Ends := { nx := fun τ G => D.nx (τ.set i none) G, rt := D.rt, bk := fun τ G => D.bk (τ.set i none) G, ct := fun τ G => D.ct (τ.set i none) G }
def wTo (K : PySem.W.Frag) (D : Ends) : List Cla → WX
  | [] => fun _ _ _ _ => False
  | (c, i, ts) :: r => fun cls d σ H => ∃ b, PySem.W.exmOne K cls c = some b ∧ (b = true → ∀ a, H a = none → ts a cls d (gone D i) (σ.set i (some (.ref a))) H) ∧ (b = false → wTo K D r cls d σ H)
inductive Clauses (X : Cx) : List ExceptHandler → List Cla → Prop
  | rest {hds : List ExceptHandler} : Clauses X hds []
  | cons {x n : Str} {c : Value} {i : Nat} {ts : Addr → Value → Option Addr → TS} {st : Stmt} {more : List Stmt} {np pos' : Pos} {hds : List ExceptHandler} {l : List Cla} (hc : Names X x c) (hi : X.N[i]? = some n) (hl : X.env.kindOf n = some .local)
      (su : ∀ (a : Addr) (oe : Obj) (cls : Value) (d : Option Addr) (pn : List (Addr × Obj)), Zc cls d oe → (∃ vs, oe.data = .fields vs) → PSs (X.suite a ((a, oe) :: pn)) (st :: more) (ts a cls d)) (r : Clauses X hds l) :
      Clauses X (.ExceptHandler (some (.Name x np)) (some n) (st :: more) pos' :: hds) ((c, i, ts) :: l)
section
variable {X : Cx} {body : List Stmt} {h0 : ExceptHandler} {hds : List ExceptHandler} {l : List Cla} {pos : Pos} {tb : WX → TS}
theorem ps_try_to (hs : X.stack = X.env :: X.outer) (hf : X.env.frame = some X.env.locals) (nd : X.N.Nodup) (cl : Clauses X (h0 :: hds) l)
    (hb : ∀ (W : WX) (pn : List (Addr × Obj)) (xe : Value → Shared → Prop), Takes (X.tr pn xe) W → PassesOwn (model X.prog X.w) X.A X.env xe → PSs (X.tr pn xe) body (tb W)) :
    PS X (.Try body (h0 :: hds) [] [] pos) (fun D σ H => tb (wTo X.K D l) D σ H) := ⟨fun pins s σ H D I h => by
  have ok := I.ok
  have fr : X.A.frames = some (X.env :: X.outer) := ok.frames.trans (congrArg some hs)
  let after : Value → Shared → Prop := fun e s1 => wpAny (model X.prog X.w) X.A (noteFrame e X.env) (fun _ s2 =>
    wpAny (model X.prog X.w) X.A (setFlight e none) (fun _ s3 => wpAny (model X.prog X.w) X.A (handleBy e X.env (h0 :: hds)) (SP X pins D) X.xe s3) X.xe s2) X.xe s1
  refine wpAny_Try_except (wpAny_mono ((hb (wTo X.K D l) (X.pn ++ pins) after (fun u s1 z => ?_) PassesOwn.looking).run [] s σ H D (I.toTry _) h) (fun fl s1 z => ?_) fun _ _ z => z)
  · obtain ⟨a, B, s0, pins1, σ1, H1, cls, d, rfl, J0, nb, up, sky, na, os, ag, wish⟩ := z
    have J : Inv X pins σ1 H1 s0 := J0.ofTry ok
    show wpAny (model X.prog X.w) X.A (noteFrame (.ref a) X.env) _ _ _
    refine Sky.land Zc.steady fr hf (by rw [← hs]; exact sky) fun h3 fl3 up3 => ?_
    have J3 : Inv X pins σ1 H1 { s1 with heap := h3 } := J.landed nb fl3.1 (up.trans up3) os ag
    obtain ⟨oe, vs, he, hz, hd⟩ := fl3.there
    have off : a ∉ frs (X.env :: X.outer) := fun m => by
      obtain ⟨_, o1, e1, nf⟩ := fl3.2.2.1.mem m
      exact nf _ ((Option.some.inj (e1.symm.trans he)) ▸ hd)
    have offL : a ≠ X.env.locals := fun e => off (List.mem_filterMap.mpr ⟨X.env, List.mem_cons_self, by rw [hf, e]⟩)
    have offF : a ∉ X.fs := fun m => by
      obtain ⟨en, m1, m2⟩ := List.mem_filterMap.mp m
      exact off (List.mem_filterMap.mpr ⟨en, List.mem_cons_of_mem _ m1, m2⟩)
    have S3 := J3.suite he hd na offL offF
    have ty : PySem.W.Looks (model X.prog X.w) h3 (typeOf (.ref a)) cls := fun A' Q' E' t k q => wpAny_typeOf_ref (k _ _ he) (hz.1 ▸ q)
    clear h
    revert cl wish
    generalize h0 :: hds = all
    intro cl
    induction cl with
    | rest => exact fun z => z.elim
    | @cons x n c i ts st more np pos' hds' l' hc hi hl su r ih =>
      rintro ⟨b, hb1, yes, no⟩
      refine wpAny_handleBy_cons (codeAny_handlers_test ?_) (by intro e; cases e)
      have name : ∀ {Q' : Value → Shared → Prop} {E' : Value → Shared → Prop}, Q' c { s1 with heap := h3 } → wpAny (model X.prog X.w) (X.A.mark (some (.ref a))) (eval (.Name x np) X.env) Q' E' { s1 with heap := h3 } := fun q => by
        obtain ⟨g, db, m | ⟨m, bt, nn⟩⟩ := hc
        · exact ld_glob (X := X.suite a ((a, oe) :: (X.pn ++ pins))) S3 g m q db
        · exact ld_blt (X := X.suite a ((a, oe) :: (X.pn ++ pins))) S3 g m bt q nn db
      refine name ((PySem.W.exm_one J3.kIn ty hb1).here ?_)
      cases b with
      | false => exact ih (no rfl)
      | true =>
        refine codeAny_handlers_suite_as (HandSPX.lands_againZ fl3 fun h4 fl4 up4 => ?_)
        have J4 : Inv X pins σ1 H1 { s1 with heap := h4 } := J.landed nb fl4.1 ((up.trans up3).trans up4) os ag
        obtain ⟨oe4, vs4, he4, hz4, hd4⟩ := fl4.there
        refine store_ok (X := X.suite a ((a, oe4) :: (X.pn ++ pins))) (v := .ref a) (J4.suite he4 hd4 na offL offF) nd hi (.inl hl) rfl (fun s5 S5 => ?_) (.inr hl)
        refine wpAny_mono ((su a oe4 cls d (X.pn ++ pins) hz4 ⟨_, hd4⟩).run [] s5 _ H1 _ S5 (yes rfl a na)) (fun fl s6 z => ?_) fun _ _ z => z.elim
        have leave : ∀ {τ : L2.St} {G : Hp} {R : Shared → Prop}, Inv (X.suite a ((a, oe4) :: (X.pn ++ pins))) [] τ G s6 → (∀ s7, Inv X pins (τ.set i none) G s7 → R s7) →
            wpAny (model X.prog X.w) X.A (do bindName X.env n .none; unbindBehindTheSuite X.env n pos') (fun _ s7 => R s7) X.xe s6 := fun S hq => gone_ok (S.unsuite ok) nd hi hl hq
        match fl, z with
        | .next, ⟨_, _, S, q⟩ => exact leave S fun _ K7 => ⟨_, _, K7, q⟩
        | .brk, ⟨_, _, S, q⟩ => exact leave S fun _ K7 => ⟨_, _, K7, q⟩
        | .cont, ⟨_, _, S, q⟩ => exact leave S fun _ K7 => ⟨_, _, K7, q⟩
        | .ret u, ⟨_, _, _, S, rv, q⟩ => exact leave S fun _ K7 => ⟨_, _, _, K7, rv, q⟩
  · match fl, z with
    | .next, ⟨_, _, K7, q⟩ => exact wpAny_execs_nil ⟨_, _, K7.ofTry ok, q⟩
    | .brk, ⟨_, _, K7, q⟩ => exact ⟨_, _, K7.ofTry ok, q⟩
    | .cont, ⟨_, _, K7, q⟩ => exact ⟨_, _, K7.ofTry ok, q⟩
    | .ret u, ⟨_, _, _, K7, rv, q⟩ => exact ⟨_, _, _, K7.ofTry ok, rv, q⟩⟩
end
end KX

set_option Elab.async false
set_option linter.all false
set_option maxRecDepth 100000
set_option maxHeartbeats 4000000
/-! Own layer: the tables that the laws draw are associative. Plain lists and numbers. -/
namespace KX
/-- the product of a and b by the rows -/
def mu (tb : List (List Int)) (a b : Nat) : Int := (tb.getD a []).getD b 0
/-- a square of elements -/
structure Sqr (tb : List (List Int)) : Prop where
  le : 1 ≤ tb.length
  ge : tb.length ≤ 16
  row : ∀ r, r ∈ tb → r.length = tb.length
  el : ∀ a b, a < tb.length → b < tb.length → 0 ≤ mu tb a b ∧ mu tb a b < (tb.length : Int)
/-- (a*b)*c is a*(b*c) -/
def rt (tb : List (List Int)) (a b c : Nat) : Prop := mu tb (mu tb a b).toNat c = mu tb a (mu tb b c).toNat
/-- an associative table -/
structure Tb (tb : List (List Int)) : Prop where
  sq : Sqr tb
  as : ∀ a b c, a < tb.length → b < tb.length → c < tb.length → rt tb a b c
/-- the table of a function -/
def tab (n : Nat) (f : Nat → Nat → Nat) : List (List Int) := (List.range n).map fun a => (List.range n).map fun b => ((f a b : Nat) : Int)
theorem tab_len (n : Nat) (f : Nat → Nat → Nat) : (tab n f).length = n := by unfold tab; rw [List.length_map, List.length_range]
theorem tab_row {n : Nat} {f : Nat → Nat → Nat} {a : Nat} (h : a < n) : (tab n f)[a]? = some ((List.range n).map fun b => ((f a b : Nat) : Int)) := by
  unfold tab
  rw [List.getElem?_map, List.getElem?_range h]; rfl
theorem tab_mu {n : Nat} {f : Nat → Nat → Nat} {a b : Nat} (ha : a < n) (hb : b < n) : mu (tab n f) a b = (f a b : Int) := by
  have e : (tab n f).getD a [] = (List.range n).map fun b => ((f a b : Nat) : Int) := by rw [List.getD_eq_getElem?_getD, tab_row ha]; rfl
  unfold mu
  rw [e, List.getD_eq_getElem?_getD, List.getElem?_map, List.getElem?_range hb]; rfl
/-- a function below n that is associative there -/
structure Asf (n : Nat) (f : Nat → Nat → Nat) : Prop where
  lt : ∀ a b, a < n → b < n → f a b < n
  as : ∀ a b c, a < n → b < n → c < n → f (f a b) c = f a (f b c)
theorem tab_tb {n : Nat} {f : Nat → Nat → Nat} (h1 : 1 ≤ n) (h16 : n ≤ 16) (F : Asf n f) : Tb (tab n f) := by
  have L := tab_len n f
  refine ⟨⟨by rw [L]; exact h1, by rw [L]; exact h16, fun r hr => ?_, fun a b ha hb => ?_⟩, fun a b c ha hb hc => ?_⟩
  · rw [L]
    obtain ⟨a, _, rfl⟩ := List.mem_map.mp hr
    rw [List.length_map, List.length_range]
  · rw [L] at *
    rw [tab_mu ha hb]
    have := F.lt a b ha hb
    omega
  · rw [L] at ha hb hc
    unfold rt
    rw [tab_mu ha hb, tab_mu hb hc, Int.toNat_natCast, Int.toNat_natCast, tab_mu (F.lt a b ha hb) hc, tab_mu ha (F.lt b c hb hc), F.as a b c ha hb hc]
/-- every square table is the table of its own function -/
theorem tab_of {tb : List (List Int)} (S : Sqr tb) : tb = tab tb.length fun a b => (mu tb a b).toNat := by
  refine List.ext_getElem? fun a => ?_
  by_cases ha : a < tb.length
  · rw [tab_row ha, List.getElem?_eq_getElem ha]
    refine congrArg some (List.ext_getElem? fun b => ?_)
    have hl := S.row tb[a] (List.getElem_mem ha)
    by_cases hb : b < tb.length
    · have e := S.el a b ha hb
      have em : mu tb a b = tb[a][b] := by
        unfold mu
        rw [List.getD_eq_getElem?_getD, List.getD_eq_getElem?_getD, List.getElem?_eq_getElem ha]
        show (tb[a][b]?).getD 0 = _
        rw [List.getElem?_eq_getElem (by omega)]; rfl
      rw [List.getElem?_map, List.getElem?_range hb, List.getElem?_eq_getElem (by omega)]
      show some tb[a][b] = some (((mu tb a b).toNat : Nat) : Int)
      rw [Int.toNat_of_nonneg e.1, em]
    · rw [List.getElem?_eq_none (by omega), List.getElem?_eq_none (by rw [List.length_map, List.length_range]; omega)]
  · rw [List.getElem?_eq_none (by omega), List.getElem?_eq_none (by rw [tab_len]; omega)]
theorem asf_of {tb : List (List Int)} (T : Tb tb) : Asf tb.length fun a b => (mu tb a b).toNat := by
  have lt : ∀ a b, a < tb.length → b < tb.length → (mu tb a b).toNat < tb.length := fun a b ha hb => by
    have := T.sq.el a b ha hb; omega
  refine ⟨lt, fun a b c ha hb hc => ?_⟩
  have h := T.as a b c ha hb hc
  unfold rt at h
  show (mu tb (mu tb a b).toNat c).toNat = (mu tb a (mu tb b c).toNat).toNat
  rw [h]
/-! ### the drawn tables -/
/-- _law_plain -/
def fpl (kind n a b : Nat) : Nat := match kind with
  | 0 => a
  | 1 => b
  | 2 => min a b
  | 3 => (a + b) % n
  | 4 => min (a + b) (n - 1)
  | _ => if 0 < a then a else b
theorem asf_plain (kind n : Nat) (h : 1 ≤ n) : Asf n (fpl kind n) := by
  match kind with
  | 0 => exact ⟨fun a b ha hb => ha, fun a b c ha hb hc => rfl⟩
  | 1 => exact ⟨fun a b ha hb => hb, fun a b c ha hb hc => rfl⟩
  | 2 => exact ⟨fun a b ha hb => by show min a b < n; omega, fun a b c ha hb hc => by show min (min a b) c = min a (min b c); omega⟩
  | 3 => exact ⟨fun a b ha hb => Nat.mod_lt _ (by omega), fun a b c ha hb hc => by show ((a + b) % n + c) % n = (a + (b + c) % n) % n; rw [Nat.mod_add_mod, Nat.add_mod_mod, Nat.add_assoc]⟩
  | 4 => exact ⟨fun a b ha hb => by show min (a + b) (n - 1) < n; omega, fun a b c ha hb hc => by show min (min (a + b) (n - 1) + c) (n - 1) = min (a + min (b + c) (n - 1)) (n - 1); omega⟩
  | k + 5 =>
    refine ⟨fun a b ha hb => ?_, fun a b c ha hb hc => ?_⟩
    · show (if 0 < a then a else b) < n
      split <;> omega
    · show (if 0 < (if 0 < a then a else b) then (if 0 < a then a else b) else c) = (if 0 < a then a else (if 0 < b then b else c))
      by_cases h1 : 0 < a
      · simp only [if_pos h1]
      · simp only [if_neg h1]
/-- _law_extended -/
def fex (kind n : Nat) (f : Nat → Nat → Nat) (a b : Nat) : Nat := if a < n ∧ b < n then f a b else if kind = 0 then n else if a < n then a else b
theorem asf_extended {kind n : Nat} {f : Nat → Nat → Nat} (F : Asf n f) : Asf (n + 1) (fex kind n f) := by
  have lt := F.lt
  refine ⟨fun a b ha hb => ?_, fun a b c ha hb hc => ?_⟩
  · unfold fex
    split
    · rename_i h; have := lt a b h.1 h.2; omega
    · split
      · omega
      · split <;> omega
  · by_cases h1 : a < n
    · by_cases h2 : b < n
      · have hab := lt a b h1 h2
        by_cases h3 : c < n
        · have hbc := lt b c h2 h3
          unfold fex
          rw [if_pos (show a < n ∧ b < n from ⟨h1, h2⟩), if_pos (show b < n ∧ c < n from ⟨h2, h3⟩), if_pos ⟨hab, h3⟩, if_pos ⟨h1, hbc⟩]
          exact F.as a b c h1 h2 h3
        · have ec : c = n := by omega
          subst ec
          unfold fex
          rw [if_pos (show a < c ∧ b < c from ⟨h1, h2⟩), if_neg (show ¬ (f a b < c ∧ c < c) by omega), if_neg (show ¬ (b < c ∧ c < c) by omega)]
          by_cases k0 : kind = 0
          · rw [if_pos k0, if_pos k0, if_neg (show ¬ (a < c ∧ c < c) by omega), if_pos k0]
          · rw [if_neg k0, if_neg k0, if_pos hab, if_pos h2, if_pos ⟨h1, h2⟩]
      · have eb : b = n := by omega
        subst eb
        by_cases k0 : kind = 0
        · have e1 : ∀ x, fex kind b f x b = b := fun x => by unfold fex; rw [if_neg (by omega), if_pos k0]
          have e2 : ∀ x, fex kind b f b x = b := fun x => by unfold fex; rw [if_neg (by omega), if_pos k0]
          rw [e1, e2, e1]
        · have e1 : fex kind b f a b = a := by unfold fex; rw [if_neg (by omega), if_neg k0, if_pos h1]
          have e2 : fex kind b f b c = c := by unfold fex; rw [if_neg (by omega), if_neg k0, if_neg (by omega)]
          rw [e1, e2]
    · have ea : a = n := by omega
      subst ea
      by_cases k0 : kind = 0
      · have e2 : ∀ x, fex kind a f a x = a := fun x => by unfold fex; rw [if_neg (by omega), if_pos k0]
        rw [e2, e2, e2]
      · have e2 : ∀ x, fex kind a f a x = x := fun x => by unfold fex; rw [if_neg (by omega), if_neg k0, if_neg (by omega)]
        rw [e2, e2]
/-- _law_pairs -/
def fpr (n : Nat) (f g : Nat → Nat → Nat) (a b : Nat) : Nat := f (a / n) (b / n) * n + g (a % n) (b % n)
theorem asf_pairs {m n : Nat} {f g : Nat → Nat → Nat} (hn : 1 ≤ n) (F : Asf m f) (G : Asf n g) : Asf (m * n) (fpr n f g) := by
  have dv : ∀ a, a < m * n → a / n < m := fun a h => (Nat.div_lt_iff_lt_mul (by omega)).mpr h
  have md : ∀ a, a % n < n := fun a => Nat.mod_lt _ (by omega)
  have d1 : ∀ x y, y < n → (x * n + y) / n = x := fun x y h => by rw [Nat.add_comm, Nat.add_mul_div_right _ _ (by omega), Nat.div_eq_of_lt h, Nat.zero_add]
  have d2 : ∀ x y, y < n → (x * n + y) % n = y := fun x y h => by rw [Nat.add_comm, Nat.add_mul_mod_self_right, Nat.mod_eq_of_lt h]
  refine ⟨fun a b ha hb => ?_, fun a b c ha hb hc => ?_⟩
  · have h1 := F.lt _ _ (dv a ha) (dv b hb)
    have h2 := G.lt _ _ (md a) (md b)
    unfold fpr
    have h3 : (f (a / n) (b / n) + 1) * n ≤ m * n := Nat.mul_le_mul_right n h1
    rw [Nat.succ_mul] at h3
    omega
  · unfold fpr
    rw [d1 _ _ (G.lt _ _ (md a) (md b)), d2 _ _ (G.lt _ _ (md a) (md b)), d1 _ _ (G.lt _ _ (md b) (md c)), d2 _ _ (G.lt _ _ (md b) (md c)), F.as _ _ _ (dv a ha) (dv b hb) (dv c hc), G.as _ _ _ (md a) (md b) (md c)]
/-- _law_grid -/
def fgr (s : Nat → Nat) (a b : Nat) : Nat := a / 4 * 4 + (a / 2 + b / 2 + s (a % 2 * 2 + b / 4)) % 2 * 2 + b % 2
theorem asf_grid (s : Nat → Nat) (hs : ∀ i, s i < 2) : Asf 8 (fgr s) := by
  have key : ∀ p q r t : Fin 2, ∀ a b c : Fin 8,
      fgr (fun i => [p.val, q.val, r.val, t.val].getD i 0) a.val b.val < 8 ∧
      fgr (fun i => [p.val, q.val, r.val, t.val].getD i 0) (fgr (fun i => [p.val, q.val, r.val, t.val].getD i 0) a.val b.val) c.val = fgr (fun i => [p.val, q.val, r.val, t.val].getD i 0) a.val (fgr (fun i => [p.val, q.val, r.val, t.val].getD i 0) b.val c.val) := by decide +kernel
  have e : ∀ a b, a < 8 → b < 8 → fgr s a b = fgr (fun i => [s 0, s 1, s 2, s 3].getD i 0) a b := fun a b ha hb => by
    unfold fgr
    have h4 : a % 2 * 2 + b / 4 < 4 := by omega
    have : s (a % 2 * 2 + b / 4) = [s 0, s 1, s 2, s 3].getD (a % 2 * 2 + b / 4) 0 := by
      generalize a % 2 * 2 + b / 4 = i at h4
      match i, h4 with
      | 0, _ => rfl
      | 1, _ => rfl
      | 2, _ => rfl
      | 3, _ => rfl
    rw [this]
  have k := key ⟨s 0, hs 0⟩ ⟨s 1, hs 1⟩ ⟨s 2, hs 2⟩ ⟨s 3, hs 3⟩
  refine ⟨fun a b ha hb => ?_, fun a b c ha hb hc => ?_⟩
  · rw [e a b ha hb]; exact (k ⟨a, ha⟩ ⟨b, hb⟩ ⟨0, by decide⟩).1
  · have hab := (k ⟨a, ha⟩ ⟨b, hb⟩ ⟨0, by decide⟩).1
    have hbc := (k ⟨b, hb⟩ ⟨c, hc⟩ ⟨0, by decide⟩).1
    rw [e a b ha hb, e b c hb hc, e _ c hab hc, e a _ ha hbc]
    exact (k ⟨a, ha⟩ ⟨b, hb⟩ ⟨c, hc⟩).2
/-! ### other numbers of the elements -/
/-- the place of x in the order -/
def plc (o : List Nat) (x : Nat) : Nat := o.idxOf x
def frn (o : List Nat) (f : Nat → Nat → Nat) (i j : Nat) : Nat := plc o (f (o.getD i 0) (o.getD j 0))
theorem asf_renum {n : Nat} {f : Nat → Nat → Nat} {o : List Nat} (F : Asf n f) (hp : o.Perm (List.range n)) : Asf n (frn o f) := by
  have hl : o.length = n := by rw [hp.length_eq, List.length_range]
  have hm : ∀ x, x ∈ o ↔ x < n := fun x => by rw [hp.mem_iff, List.mem_range]
  have at_ : ∀ i, i < n → o.getD i 0 < n := fun i hi => by
    rw [List.getD_eq_getElem?_getD, List.getElem?_eq_getElem (by omega)]
    exact (hm _).mp (List.getElem_mem _)
  have pl : ∀ x, x < n → plc o x < n := fun x hx => by
    have := List.idxOf_lt_length_of_mem ((hm x).mpr hx); unfold plc; omega
  have back : ∀ x, x < n → o.getD (plc o x) 0 = x := fun x hx => by
    have h := List.idxOf_lt_length_of_mem ((hm x).mpr hx)
    unfold plc
    rw [List.getD_eq_getElem?_getD, List.getElem?_eq_getElem h, Option.getD_some]
    exact List.getElem_idxOf h
  refine ⟨fun a b ha hb => pl _ (F.lt _ _ (at_ a ha) (at_ b hb)), fun a b c ha hb hc => ?_⟩
  have h1 := F.lt _ _ (at_ a ha) (at_ b hb)
  have h2 := F.lt _ _ (at_ b hb) (at_ c hc)
  unfold frn
  rw [back _ h1, back _ h2, F.as _ _ _ (at_ a ha) (at_ b hb) (at_ c hc)]
end KX

set_option Elab.async false
set_option linter.all false
set_option maxRecDepth 100000
set_option maxHeartbeats 4000000
namespace L
open PySem L2 KX

def top (i : Nat) : Stmt := PySem.Challenge.pw_producttrees_k36_whole_heights_of_relate.main.body.getD i (.Pass ⟨0, 0, 0, 0⟩)
abbrev sCell : Stmt := top 30
abbrev sBox : Stmt := top 31
abbrev sTake : Stmt := top 32
/-- the names of built-ins are the built-ins' -/
structure Mn (mg : Str → Option Value) : Prop where
  max : mg "max" = none
  min : mg "min" = none
  len : mg "len" = none
  range : mg "range" = none
  repr : mg "repr" = none
  isin : mg "isinstance" = none
  all : mg "all" = none
  enum : mg "enumerate" = none
  tuple : mg "tuple" = none
  dict : mg "dict" = none
  str : mg "str" = none
  int : mg "int" = none
  bool : mg "bool" = none
  list : mg "list" = none
/-- the box of a cell stands at p -/
def Bx (H : Hp) (p : Addr) : Prop := ∃ b0 b1 b2 : Int, H p = some (.lst [.int b0, .int b1, .int b2]) ∧ 0 ≤ b0 ∧ 0 ≤ b1 ∧ b1 < 2147483647 ∧ 0 ≤ b2
/-- all but what stands at p is as it was -/
def Sx (p : Addr) (H H' : Hp) : Prop := ∀ b o, b ≠ p → H b = some o → H' b = some o
def spCell (K : PySem.W.Frag) : Sp := fun vs H Q _ => ∃ (a : Addr) (ns : List Int) (k : Int), vs = [.ref a, .int k] ∧ SqL K H a (ns.map V.int) ∧ 0 ≤ k ∧ ∀ c : Int, Q (.int c) H
def spBox : Sp := fun vs H Q _ => ∃ c : Int, vs = [.int c] ∧ ∀ p H', Same H H' → H p = none → Bx H' p → Q (.ref p) H'
def spTake : Sp := fun vs H Q _ => ∃ (p : Addr) (n : Int), vs = [.ref p, .int n] ∧ Bx H p ∧ 0 < n ∧ n < 316912650057057350374175801344 ∧ ∀ (r : Int) H', 0 ≤ r → r < n → Bx H' p → Sx p H H' → Q (.int r) H'
section
variable {P : Program} {w : World} {K : PySem.W.Frag} {mg : Str → Option Value} {base : Heap} {f : Addr} {fd : FuncData}
theorem scCell : FnScope ["script", "k"] ["script", "k"] (defScope sCell) := ⟨rfl, rfl, rfl, by decide +kernel, rfl, by decide +kernel, by decide +kernel⟩
theorem ok_cell (F : Fun K "_law_cell" "_law_cell" sCell f fd) (M : Mn mg) : FnOk P w K mg base CX0 1 f fd ["script", "k"] (spCell K) := by
  refine F.ok scCell (fun vs H Q E h => ?_) (fun cdv A outer s H vs Q E hr h => ?_)
  · obtain ⟨a, ns, k, rfl, _⟩ := h
    rfl
  obtain ⟨a, ns, k, rfl, hS, hk, q⟩ := h
  refine ⟨_, pss_cons (ps_if (pt_cmpR op_lt (pv 1) (pe_callB call_len_seq (by rfl) M.len PySem.boot_len (pa_cons (pv 0) pa_nil)) (nomark _)) (pss_one (ps_ret (pe_ix ix_list (pv 0) (pv 1) (fun _ _ => rfl)))) pss_nil)
    (pss_one (ps_ret (pe_op op_add (pe_op op_mul pe_int (pv 1)) pe_int))), ?_⟩
  refine ⟨_, rfl, _, rfl, a, _, rfl, .inl hS, _, _, rfl, rfl, _, rfl, ?_⟩
  refine ite2 (fun c => ?_) (fun c => ?_)
  · have c' : k < (((ns.map V.int).length : Nat) : Int) := of_decide_eq_true c
    rw [List.length_map] at c'
    have hlt : k.toNat < ns.length := by omega
    refine ⟨_, rfl, _, rfl, a, _, _, V.int ns[k.toNat], rfl, rfl, hS, at_of (j := k.toNat) (by omega) (by rw [List.getElem?_map, List.getElem?_eq_getElem hlt]; rfl), q _⟩
  · exact ⟨_, rfl, _, _, rfl, rfl, .inl ⟨by decide, by decide⟩, _, _, rfl, rfl, q _⟩
theorem scBox : FnScope ["cell"] ["cell"] (defScope sBox) := ⟨rfl, rfl, rfl, by decide +kernel, rfl, by decide +kernel, by decide +kernel⟩
theorem ok_box (F : Fun K "_law_box" "_law_box" sBox f fd) (M : Mn mg) : FnOk P w K mg base CX0 1 f fd ["cell"] spBox := by
  refine F.ok scBox (fun vs H Q E h => ?_) (fun cdv A outer s H vs Q E hr h => ?_)
  · obtain ⟨c, rfl, _⟩ := h
    rfl
  obtain ⟨c, rfl, q⟩ := h
  refine ⟨_, pss_one (ps_ret (pe_lst (pa_cons (pe_callB (call_max2 rfl) (by rfl) M.max (by decide +kernel) (pa_cons pe_int (pa_cons (pe_op op_sub (pv 0) (pe_op op_pow pe_int pe_int)) pa_nil)))
    (pa_cons (pe_op op_mod (pv 0) pe_int) (pa_cons pe_int pa_nil))))), ?_⟩
  refine ⟨_, rfl, _, _, rfl, rfl, ⟨by decide, by decide, by decide⟩, _, _, rfl, rfl, _, _, rfl, _, rfl, _, _, rfl, rfl, (by show (0 : Int) < 2147483629; decide), (by show 3 ≤ sizeLine; decide), fun p hp => ?_⟩
  refine q p _ (fun b o e => by rw [upd_ne (ne_of_none e hp)]; exact e) hp ⟨_, _, _, upd_same, ?_, Int.emod_nonneg _ (by decide), ?_, Int.le_refl 0⟩
  · split <;> omega
  · have := Int.emod_lt_of_pos c (show (0 : Int) < 2147483629 by decide)
    omega
theorem scTake : FnScope ["box", "size", "digit", "mixed"] ["box", "size"] (defScope sTake) := ⟨rfl, rfl, rfl, by decide +kernel, rfl, by decide +kernel, by decide +kernel⟩
theorem ok_take (F : Fun K "_law_take" "_law_take" sTake f fd) (M : Mn mg) : FnOk P w K mg base CX0 1 f fd ["box", "size"] spTake := by
  refine F.ok scTake (fun vs H Q E h => ?_) (fun cdv A outer s H vs Q E hr h => ?_)
  · obtain ⟨p, n, rfl, _⟩ := h
    rfl
  obtain ⟨p, n, rfl, ⟨b0, b1, b2, hp, z0, z1, z1', z2⟩, n0, n1, q⟩ := h
  refine ⟨_, pss_cons (ps_if (pt_cmpR op_gt (pe_ix ix_list (pv 0) pe_int (fun _ _ => rfl)) pe_int (nomark _))
      (pss_cons (ps_set (i := 2) scTake.nd rfl (Or.inl rfl) (pe_op op_mod (pe_ix ix_list (pv 0) pe_int (fun _ _ => rfl)) (pv 1)))
      (pss_cons (ps_asg (pe_op op_fdivW (pe_ix ix_list (pv 0) pe_int (fun _ _ => rfl)) (pv 1)) (pg_sub (pv 0) pe_int set_list))
      (pss_one (ps_ret (pv 2))))) pss_nil)
    (pss_cons (ps_asg (pe_op op_add (pe_ix ix_list (pv 0) pe_int (fun _ _ => rfl)) pe_int) (pg_sub (pv 0) pe_int set_list))
    (pss_cons (ps_set (i := 3) scTake.nd rfl (Or.inl rfl) (pe_op op_mod (pe_op op_add (pe_op op_add (pe_op op_mul (pe_ix ix_list (pv 0) pe_int (fun _ _ => rfl)) pe_int) (pe_op op_mul pe_int (pe_ix ix_list (pv 0) pe_int (fun _ _ => rfl)))) pe_int) pe_int))
    (pss_cons (ps_asg (pe_op op_mod (pe_op op_add (pe_op op_pow (pv 3) pe_int) (pe_op op_mul pe_int (pe_ix ix_list (pv 0) pe_int (fun _ _ => rfl)))) pe_int) (pg_sub (pv 0) pe_int set_list))
    (pss_one (ps_ret (pe_op op_mod (pe_op op_fdiv (pe_ix ix_list (pv 0) pe_int (fun _ _ => rfl)) pe_int) (pv 1))))))), ?_⟩
  refine ⟨_, rfl, p, _, _, _, rfl, rfl, SqL.of hp, rfl, _, _, rfl, rfl, _, rfl, ?_⟩
  refine ite2 (fun c => ?_) (fun c => ?_)
  · refine ⟨_, rfl, p, _, _, _, rfl, rfl, SqL.of hp, rfl, _, rfl, _, _, rfl, rfl, n0, ?_⟩
    refine ⟨_, rfl, p, _, _, _, rfl, rfl, SqL.of hp, rfl, _, rfl, _, _, rfl, rfl, wide_div (b := 98) n0 (by omega) (by decide) (by decide), _, rfl, p, _, _, 0, rfl, rfl, hp, rfl, ?_⟩
    refine ⟨_, rfl, q _ _ (Int.emod_nonneg _ (by omega)) (Int.emod_lt_of_pos _ n0) ⟨_, _, _, upd_same, Int.ediv_nonneg z0 (by omega), z1, z1', z2⟩ fun b o hb e => by rw [upd_ne hb]; exact e⟩
  · refine ⟨_, rfl, p, _, _, _, rfl, rfl, SqL.of hp, rfl, _, _, rfl, rfl, _, rfl, p, _, _, 2, rfl, rfl, hp, rfl, ?_⟩
    have h1 : ∀ o, (upd H p o) p = some o := fun o => upd_same
    refine ⟨_, rfl, p, _, _, _, rfl, rfl, SqL.of (h1 _), rfl, _, _, rfl, rfl, .inr ⟨by decide, by decide⟩, _, rfl, p, _, _, _, rfl, rfl, SqL.of (h1 _), rfl, _, _, rfl, rfl, .inl ⟨by decide, by decide⟩, _, _, rfl, rfl, _, _, rfl, rfl, _, _, rfl, rfl, (by show (0 : Int) < 2147483647; decide), ?_⟩
    have m0 : ∀ x : Int, 0 ≤ x % 2147483647 := fun x => Int.emod_nonneg _ (by decide)
    have m1 : ∀ x : Int, x % 2147483647 < 2147483647 := fun x => Int.emod_lt_of_pos _ (by decide)
    refine ⟨_, rfl, _, _, rfl, rfl, ⟨by decide, by decide, ?_⟩, _, rfl, p, _, _, _, rfl, rfl, SqL.of (h1 _), rfl, _, _, rfl, rfl, .inl ⟨by decide, by decide⟩, _, _, rfl, rfl, _, _, rfl, rfl, (by show (0 : Int) < 2147483647; decide), _, rfl, p, _, _, 1, rfl, rfl, (h1 _), rfl, ?_⟩
    · have a0 := m0 (b1 * 48271 + 69621 * (b2 + 1) + 7)
      have a1 := m1 (b1 * 48271 + 69621 * (b2 + 1) + 7)
      omega
    · refine ⟨_, rfl, p, _, _, _, rfl, rfl, SqL.of upd_same, rfl, _, _, rfl, rfl, ⟨by decide, by decide⟩, _, rfl, _, _, rfl, rfl, n0, ?_⟩
      refine q _ _ (Int.emod_nonneg _ (by omega)) (Int.emod_lt_of_pos _ n0) ⟨_, _, _, upd_same, z0, m0 _, m1 _, (by omega)⟩ fun b o hb e => by rw [upd_ne hb, upd_ne hb]; exact e
end
theorem Sx.refl {p : Addr} (H : Hp) : Sx p H H := fun _ _ _ e => e
theorem Sx.trans {p : Addr} {H G J : Hp} (a : Sx p H G) (b : Sx p G J) : Sx p H J := fun c o n e => b c o n (a c o n e)
theorem Sx.of {p : Addr} {H G : Hp} (a : Same H G) : Sx p H G := fun c o _ e => a c o e
theorem Sx.new {p q : Addr} {H : Hp} {o : HO} (h : H q = none) : Sx p H (upd H q o) := fun c u _ e => by rw [upd_ne (ne_of_none e h)]; exact e
theorem Bx.new {p q : Addr} {H : Hp} {o : HO} (b : Bx H p) (h : H q = none) : Bx (upd H q o) p := by
  obtain ⟨b0, b1, b2, e, r⟩ := b
  exact ⟨b0, b1, b2, by rw [upd_ne (ne_of_none e h)]; exact e, r⟩
theorem Bx.ne {p q : Addr} {H : Hp} (b : Bx H p) (h : H q = none) : q ≠ p := by
  obtain ⟨b0, b1, b2, e, r⟩ := b
  exact (ne_of_none e h).symm
theorem Bx.at_ne {p q : Addr} {H : Hp} {o : HO} (b : Bx H p) (h : q ≠ p) : Bx (upd H q o) p := by
  obtain ⟨b0, b1, b2, e, r⟩ := b
  exact ⟨b0, b1, b2, by rw [upd_ne h.symm]; exact e, r⟩
theorem Sx.free {p q : Addr} {H G : Hp} (s : Sx p H G) (b : Bx G p) (h : G q = none) : H q = none := by
  cases e : H q with
  | none => rfl
  | some o =>
    have n := b.ne h
    rw [s q o n e] at h
    cases h
theorem Bx.nn {p : Addr} {H : Hp} (b : Bx H p) : H p ≠ none := by
  obtain ⟨b0, b1, b2, e, r⟩ := b
  rw [e]; exact fun z => nomatch z
/-- what was new stays, where only p changes -/
theorem nw_step {p : Addr} {H G J : Hp} (b : Bx H p) (s : Sx p G J) : Same (nw H G) (nw H J) := fun c o h => by
  obtain ⟨h1, h2⟩ := nw_some h
  rw [nw_at h1]
  exact s c o (fun z => b.nn (z ▸ h1)) h2
/-- what is new behind a later heap is new behind an earlier one -/
theorem nw_back {p : Addr} {H G J : Hp} (s : Sx p H G) (b : Bx G p) : Same (nw G J) (nw H J) := fun c o h => by
  obtain ⟨h1, h2⟩ := nw_some h
  rw [nw_at (s.free b h1)]
  exact h2
end L

set_option Elab.async false
set_option linter.all false
set_option maxRecDepth 100000
set_option maxHeartbeats 4000000
namespace L
open PySem L2 KX
abbrev sIsInt : Stmt := top 10
/-- what isinstance tells of a value -/
def Isi (K : PySem.W.Frag) (H : Hp) (v : V) (b1 b2 : Bool) : Prop := ∃ t, TyX K H v t ∧ PySem.W.kitOne K t (.type "int") = some b1 ∧ PySem.W.kitOne K t (.type "bool") = some b2
def spIsInt (K : PySem.W.Frag) : Sp := fun vs H Q _ => ∃ v b1 b2, vs = [v] ∧ Isi K H v b1 b2 ∧ Q (.bl (b1 && !b2)) H
section
variable {P : Program} {w : World} {K : PySem.W.Frag} {mg : Str → Option Value} {base : Heap} {f g gn : Addr} {fd gd gnd : FuncData}
theorem scIsInt : FnScope ["value"] ["value"] (defScope sIsInt) := ⟨rfl, rfl, rfl, by decide +kernel, rfl, by decide +kernel, by decide +kernel⟩
theorem ok_isint (F : Fun K "is_integer" "is_integer" sIsInt f fd) (M : Mn mg) : FnOk P w K mg base CX0 1 f fd ["value"] (spIsInt K) := by
  refine F.ok scIsInt (fun vs H Q E h => ?_) (fun cdv A outer s H vs Q E hr h => ?_)
  · obtain ⟨v, b1, b2, rfl, _⟩ := h
    rfl
  obtain ⟨v, b1, b2, rfl, ⟨t, ty, k1, k2⟩, q⟩ := h
  refine ⟨_, pss_one (ps_ret (pe_and (pe_callB call_isi (by rfl) M.isin (by decide +kernel) (pa_cons (pv 0) (pa_cons (pe_bltn (v := .ty "int") (by rfl) M.int (by decide +kernel) rfl) pa_nil)))
    (pe_one (pe_not (pe_callB call_isi (by rfl) M.isin (by decide +kernel) (pa_cons (pv 0) (pa_cons (pe_bltn (v := .ty "bool") (by rfl) M.bool (by decide +kernel) rfl) pa_nil))))))), ?_⟩
  refine ⟨_, rfl, v, .ty "int", t, .type "int", b1, rfl, .ty _, ty, k1, b1, rfl, ?_⟩
  cases b1 with
  | false => exact iteF q
  | true => exact iteT ⟨_, rfl, v, .ty "bool", t, .type "bool", b2, rfl, .ty _, ty, k2, b2, rfl, q⟩
end

abbrev sIsList : Stmt := top 11
abbrev sBelow : Stmt := top 12
abbrev sNumList : Stmt := top 13
abbrev sAreRows : Stmt := top 21
abbrev sWrong : Stmt := top 22
theorem TyX.same {K : PySem.W.Frag} {H G : Hp} (s : Same H G) {v : V} {t : Value} (h : TyX K H v t) : TyX K G v t := by
  cases h with
  | base b =>
    cases b with
    | non => exact .base .non
    | bl b => exact .base (.bl b)
    | int i => exact .base (.int i)
    | str x => exact .base (.str x)
    | flt x => exact .base (.flt x)
    | lst e => exact .base (.lst (s _ _ e))
    | frz e => exact .base (.frz (s _ _ e))
    | tup e => exact .base (.tup (s _ _ e))
    | dK e => exact .base (.dK (s _ _ e))
    | dT e => exact .base (.dT (s _ _ e))
    | ins e a b c d f => exact .base (.ins (s _ _ e) a b c d f)
  | byt b => exact .byt b
  | set e => exact .set (s _ _ e)
  | kList e c => exact .kList e c
  | kTuple e c => exact .kTuple e c
  | kDict e c => exact .kDict e c
  | fTuple e => exact .fTuple (s _ _ e)
  | fDict e => exact .fDict (s _ _ e)
theorem Isi.same {K : PySem.W.Frag} {H G : Hp} (s : Same H G) {v : V} {a b : Bool} (h : Isi K H v a b) : Isi K G v a b := let ⟨t, h1, h2, h3⟩ := h; ⟨t, TyX.same s h1, h2, h3⟩
theorem Same.tup {K : PySem.W.Frag} {H H' : Hp} {a : Addr} {xs : List V} (e : Same H H') (h : SqT K H a xs) : SqT K H' a xs := by
  rcases h with (h | ⟨o, h⟩) | h
  · exact .inl (.inl (e _ _ h))
  · exact .inl (.inr ⟨o, e _ _ h⟩)
  · exact .inr h
theorem Same.new {H : Hp} {p : Addr} (h : H p = none) (o : HO) : Same H (upd H p o) := fun b u e => by rw [upd_ne (ne_of_none e h)]; exact e
/-- a list or a tuple is to be read at v -/
def Sq (K : PySem.W.Frag) (H : Hp) (v : V) (xs : List V) : Prop := ∃ a, v = .ref a ∧ (SqL K H a xs ∨ SqT K H a xs)
theorem Sq.same {K : PySem.W.Frag} {H G : Hp} {v : V} {xs : List V} (s : Same H G) (h : Sq K H v xs) : Sq K G v xs := let ⟨a, e, h⟩ := h; ⟨a, e, h.imp (fun z => Same.seq s z) (fun z => Same.tup s z)⟩
theorem SqL.ty {K : PySem.W.Frag} {H : Hp} {a : Addr} {xs : List V} (h : SqL K H a xs) : TyX K H (.ref a) (.type "list") := by
  rcases h with (h | ⟨o, h⟩) | ⟨o, its, n, h, c, _⟩
  · exact .base (.lst h)
  · exact .base (.frz h)
  · exact .kList h c
theorem SqT.ty {K : PySem.W.Frag} {H : Hp} {a : Addr} {xs : List V} (h : SqT K H a xs) : TyX K H (.ref a) (.type "tuple") := by
  rcases h with (h | ⟨o, h⟩) | ⟨o, its, n, h, c, _⟩
  · exact .base (.tup h)
  · exact .fTuple h
  · exact .kTuple h c
theorem Sq.ty {K : PySem.W.Frag} {H : Hp} {v : V} {xs : List V} (h : Sq K H v xs) : ∃ t, TyX K H v t ∧ PySem.W.kitAny K t [.type "list", .type "tuple"] = some true := by
  obtain ⟨a, rfl, h | h⟩ := h
  · exact ⟨_, SqL.ty h, kitAny_cons (b := true) (kit_ty (by decide +kernel)) (fun z => nomatch z) fun _ => rfl⟩
  · exact ⟨_, SqT.ty h, kitAny_cons (b := false) (kit_ty (by decide +kernel)) (fun _ => kitAny_cons (b := true) (kit_ty (by decide +kernel)) (fun z => nomatch z) fun _ => rfl) fun z => nomatch z⟩
/-- no list and no tuple -/
def NoSq (K : PySem.W.Frag) (H : Hp) (v : V) : Prop := ∃ t, TyX K H v t ∧ PySem.W.kitAny K t [.type "list", .type "tuple"] = some false
theorem NoSq.same {K : PySem.W.Frag} {H G : Hp} {v : V} (s : Same H G) (h : NoSq K H v) : NoSq K G v := let ⟨t, a, b⟩ := h; ⟨t, TyX.same s a, b⟩
/-- an item: an int, or something that is_integer refuses -/
def Itm (K : PySem.W.Frag) (H : Hp) (v : V) : Prop := (∃ i, v = .int i) ∨ ((∀ i, v ≠ .int i) ∧ ∃ b1 b2, Isi K H v b1 b2 ∧ (b1 && !b2) = false)
theorem Itm.same {K : PySem.W.Frag} {H G : Hp} {v : V} (s : Same H G) (h : Itm K H v) : Itm K G v := h.imp id fun ⟨a, b1, b2, c, d⟩ => ⟨a, b1, b2, c.same s, d⟩
def nb (lim : Int) : V → Bool
  | .int i => decide (0 ≤ i) && decide (i < lim)
  | _ => false
def spIsList (K : PySem.W.Frag) : Sp := fun vs H Q _ => ∃ v lo hi, vs = [v, .int lo, .int hi] ∧
  ((∃ xs, Sq K H v xs ∧ ∀ H', Same H H' → Q (.bl (decide (lo ≤ (xs.length : Int)) && decide ((xs.length : Int) ≤ hi))) H') ∨ (NoSq K H v ∧ ∀ H', Same H H' → Q (.bl false) H'))
def spBelow (K : PySem.W.Frag) : Sp := fun vs H Q _ => ∃ v lim, vs = [v, .int lim] ∧ Itm K H v ∧ Q (.bl (nb lim v)) H
def spNumList (K : PySem.W.Frag) : Sp := fun vs H Q _ => ∃ v lo hi lim, vs = [v, .int lo, .int hi, .int lim] ∧
  ((∃ xs, Sq K H v xs ∧ (∀ x, x ∈ xs → Itm K H x) ∧ xs.length < 1000000 ∧ ∀ H', Same H H' → Q (.bl (decide (lo ≤ (xs.length : Int)) && decide ((xs.length : Int) ≤ hi) && xs.all (nb lim))) H') ∨ (NoSq K H v ∧ ∀ H', Same H H' → Q (.bl false) H'))
section
variable {P : Program} {w : World} {K : PySem.W.Frag} {mg : Str → Option Value} {base : Heap} {f g gn : Addr} {fd gd gnd : FuncData}
theorem scIsList : FnScope ["value", "least", "most"] ["value", "least", "most"] (defScope sIsList) := ⟨rfl, rfl, rfl, by decide +kernel, rfl, by decide +kernel, by decide +kernel⟩
theorem ok_islist (F : Fun K "is_list" "is_list" sIsList f fd) (M : Mn mg) : FnOk P w K mg base CX0 1 f fd ["value", "least", "most"] (spIsList K) := by
  refine F.ok scIsList (fun vs H Q E h => ?_) (fun cdv A outer s H vs Q E hr h => ?_)
  · obtain ⟨v, lo, hi, rfl, _⟩ := h
    rfl
  obtain ⟨v, lo, hi, rfl, h⟩ := h
  refine ⟨_, pss_one (ps_ret (pe_and (pe_callB call_isiT (by rfl) M.isin (by decide +kernel) (pa_cons (pv 0) (pa_cons (pe_tup (pa_cons (pe_bltn (v := .ty "list") (by rfl) M.list (by decide +kernel) rfl)
      (pa_cons (pe_bltn (v := .ty "tuple") (by rfl) M.tuple (by decide +kernel) rfl) pa_nil))) pa_nil)))
    (pe_one (pe_chain op_le op_le (pv 1) (pe_callB call_len_seq (by rfl) M.len PySem.boot_len (pa_cons (pv 0) pa_nil)) (pv 2))))), ?_⟩
  refine ⟨_, rfl, (by show 2 ≤ sizeLine; decide), fun tp htp => ?_⟩
  have ss := Same.new htp (.tup [V.ty "list", V.ty "tuple"])
  rcases h with ⟨xs, hs, q⟩ | ⟨hs, q⟩
  · obtain ⟨t, ty, kt⟩ := (hs.same ss).ty
    refine ⟨v, tp, _, t, _, true, rfl, upd_same, .cons (.ty _) (.cons (.ty _) .nil), ty, kt, true, rfl, iteT ?_⟩
    obtain ⟨a, rfl, hs2⟩ := hs.same ss
    refine ⟨_, rfl, _, rfl, a, xs, rfl, hs2, _, _, rfl, rfl, _, rfl, ?_⟩
    refine ite2 (fun c => ⟨_, rfl, _, _, rfl, rfl, ?_⟩) (fun c => ?_)
    · have q' := q _ ss
      rw [c] at q'
      exact q'
    · have q' := q _ ss
      rw [Bool.eq_false_iff.mpr c] at q'
      exact q'
  · obtain ⟨t, ty, kt⟩ := hs.same ss
    exact ⟨v, tp, _, t, _, false, rfl, upd_same, .cons (.ty _) (.cons (.ty _) .nil), ty, kt, false, rfl, iteF (q _ ss)⟩
theorem scBelow : FnScope ["value", "limit"] ["value", "limit"] (defScope sBelow) := ⟨rfl, rfl, rfl, by decide +kernel, rfl, by decide +kernel, by decide +kernel⟩
theorem ok_below (F : Fun K "is_number_below" "is_number_below" sBelow f fd) (G : FnOk P w K mg base CX0 1 g gd ["value"] (spIsInt K)) (bG : Binds K gd ["value"] []) (kG : PySem.W.keepIn K (.ref g) = true) (mG : mg "is_integer" = some (.ref g)) :
    FnOk P w K mg base CX0 2 f fd ["value", "limit"] (spBelow K) := by
  refine F.ok scBelow (fun vs H Q E h => ?_) (fun cdv A outer s H vs Q E hr h => ?_)
  · obtain ⟨v, lim, rfl, _⟩ := h
    rfl
  obtain ⟨v, lim, rfl, h, q⟩ := h
  refine ⟨_, pss_one (ps_ret (pe_and (pe_call G hr rfl mG kG bG .nil pass0 (pa_cons (pv 0) pa_nil)) (pe_one (pe_chain op_le op_lt pe_int (pv 0) (pv 1))))), ?_⟩
  rcases h with ⟨i, rfl⟩ | ⟨ni, b1, b2, hi, hb⟩
  · refine ⟨_, rfl, _, true, false, rfl, ⟨_, .base (.int i), kit_ty (by decide +kernel), kit_ty (by decide +kernel)⟩, true, rfl, iteT ⟨_, rfl, _, _, rfl, rfl, _, rfl, ?_⟩⟩
    refine ite2 (fun c => ⟨_, rfl, _, _, rfl, rfl, ?_⟩) (fun c => ?_)
    · have e : nb lim (.int i) = decide (i < lim) := by show (decide (0 ≤ i) && decide (i < lim)) = _; rw [c]; rfl
      rw [e] at q
      exact q
    · have e : nb lim (.int i) = false := by show (decide (0 ≤ i) && decide (i < lim)) = _; rw [Bool.eq_false_iff.mpr c]; rfl
      rw [e] at q
      exact q
  · refine ⟨_, rfl, v, b1, b2, rfl, hi, _, rfl, ?_⟩
    rw [hb]
    have e : nb lim v = false := by
      cases v with
      | int i => exact absurd rfl (ni i)
      | _ => rfl
    rw [e] at q
    exact iteF q
theorem scNumList : FnScope ["value", "least", "most", "limit", "item"] ["value", "least", "most", "limit"] (defScope sNumList) := ⟨rfl, rfl, rfl, by decide +kernel, rfl, by decide +kernel, by decide +kernel⟩
theorem ok_numlist (F : Fun K "is_number_list" "is_number_list" sNumList f fd) (M : Mn mg)
    (G : FnOk P w K mg base CX0 1 g gd ["value", "least", "most"] (spIsList K)) (bG : Binds K gd ["value", "least", "most"] []) (kG : PySem.W.keepIn K (.ref g) = true) (mG : mg "is_list" = some (.ref g))
    (N : FnOk P w K mg base CX0 2 gn gnd ["value", "limit"] (spBelow K)) (bN : Binds K gnd ["value", "limit"] []) (kN : PySem.W.keepIn K (.ref gn) = true) (mN : mg "is_number_below" = some (.ref gn)) :
    FnOk P w K mg base CX0 3 f fd ["value", "least", "most", "limit"] (spNumList K) := by
  refine F.ok scNumList (fun vs H Q E h => ?_) (fun cdv A outer s H vs Q E hr h => ?_)
  · obtain ⟨v, lo, hi, lim, rfl, _⟩ := h
    rfl
  obtain ⟨v, lo, hi, lim, rfl, h⟩ := h
  have hr1 : Room 1 _ := hr.mono (by decide)
  rcases h with ⟨xs, hs, ht, hz, q⟩ | ⟨hs, q⟩
  · -- a list or a tuple: the walk over it is one of two
    have key : ∀ (D : Addr) (G : Hp), Same H G → G D = none → ∀ (i : Nat) (J : Hp), (Same H J ∧ J D = some (.lst (((xs.take i).map (nb lim)).map V.bl))) → ∀ x, xs[i]? = some x → Itm K J x ∧
        ∃ acc, J D = some (.lst acc) ∧ acc.length < sizeLine ∧ (Same H (upd J D (.lst (acc ++ [V.bl (nb lim x)]))) ∧ (upd J D (.lst (acc ++ [V.bl (nb lim x)]))) D = some (.lst (((xs.take (i + 1)).map (nb lim)).map V.bl))) := by
      intro D G sG hD i J ⟨sJ, eD⟩ x hx
      have hD0 : H D = none := sG.free hD
      refine ⟨(ht x (List.mem_of_getElem? hx)).same sJ, _, eD, ?_, fun b o e => by rw [upd_ne (ne_of_none e hD0)]; exact sJ b o e, ?_⟩
      · rw [List.length_map, List.length_map, List.length_take, sizeLine_eq]; omega
      · rw [upd_same, List.take_add_one, hx, List.map_append, List.map_append]; rfl
    have fin : ∀ (D : Addr) (J : Hp), (Same H J ∧ J D = some (.lst (((xs.take xs.length).map (nb lim)).map V.bl))) → (decide (lo ≤ (xs.length : Int)) && decide ((xs.length : Int) ≤ hi)) = true → rAll K [.ref D] J Q := by
      intro D J ⟨sJ, eD⟩ hc
      rw [List.take_length] at eD
      refine ⟨D, _, rfl, SqL.of eD, ?_⟩
      have e2 : (xs.map (nb lim)).all id = xs.all (nb lim) := by rw [List.all_map]; rfl
      have q' := q J sJ
      rw [hc] at q'
      rw [e2]
      exact q'
    obtain ⟨a, rfl, hl | hl⟩ := id hs
    · refine ⟨_, pss_one (ps_ret (pe_and (pe_call G hr1 rfl mG kG bG .nil pass0 (pa_cons (pv 0) (pa_cons (pv 1) (pa_cons (pv 2) pa_nil))))
        (pe_one (pe_callB (cr_all rfl) (by rfl) M.all (by decide +kernel) (pa_cons (pe_lc (own := [("item", 4)]) (g := gName 4) (tt := tYes) rfl scNumList.nd (pi_list (pv 0))
          (blkOk_by (N := ["value", "least", "most", "limit", "item"]) (sc := defScope sNumList) (by decide +kernel)) (fun _ _ _ _ _ => pg_name (i := 4) scNumList.nd rfl (Or.inl rfl)) (fun _ _ _ _ _ => pts_nil)
          (fun _ _ _ _ _ => pe_call N hr rfl mN kN bN .nil pass0 (pa_cons (pv 4) (pa_cons (pv 3) pa_nil)))) pa_nil))))), ?_⟩
      refine ⟨_, rfl, _, rfl, _, rfl, _, lo, hi, rfl, .inl ⟨xs, hs, fun G sG => ⟨_, rfl, ite2 (fun c => ?_) (fun c => ?_)⟩⟩⟩
      · refine ⟨_, rfl, a, rfl, ⟨_, sG.seq hl⟩, fun D hD => lc_list (xs := xs) (fun i J => Same H J ∧ J D = some (.lst (((xs.take i).map (nb lim)).map V.bl)))
          ⟨fun b o e => by rw [upd_ne (ne_of_none (sG b o e) hD)]; exact sG b o e, upd_same⟩ (fun i J _ z => z.1.seq hl) (fun i x J hx z => ?_) fun J z => fin D J z c⟩
        obtain ⟨k1, k2⟩ := key D G sG hD i J z x hx
        exact ⟨rfl, _, rfl, _, rfl, x, lim, rfl, k1, k2⟩
      · have q' := q G sG
        rw [Bool.eq_false_iff.mpr c] at q'
        exact q'
    · refine ⟨_, pss_one (ps_ret (pe_and (pe_call G hr1 rfl mG kG bG .nil pass0 (pa_cons (pv 0) (pa_cons (pv 1) (pa_cons (pv 2) pa_nil))))
        (pe_one (pe_callB (cr_all rfl) (by rfl) M.all (by decide +kernel) (pa_cons (pe_lc (own := [("item", 4)]) (g := gName 4) (tt := tYes) rfl scNumList.nd (pi_tup (pv 0))
          (blkOk_by (N := ["value", "least", "most", "limit", "item"]) (sc := defScope sNumList) (by decide +kernel)) (fun _ _ _ _ _ => pg_name (i := 4) scNumList.nd rfl (Or.inl rfl)) (fun _ _ _ _ _ => pts_nil)
          (fun _ _ _ _ _ => pe_call N hr rfl mN kN bN .nil pass0 (pa_cons (pv 4) (pa_cons (pv 3) pa_nil)))) pa_nil))))), ?_⟩
      refine ⟨_, rfl, _, rfl, _, rfl, _, lo, hi, rfl, .inl ⟨xs, hs, fun G sG => ⟨_, rfl, ite2 (fun c => ?_) (fun c => ?_)⟩⟩⟩
      · refine ⟨_, rfl, a, rfl, ⟨_, Same.tup sG hl⟩, fun D hD => lc_tup (xs := xs) (fun i J => Same H J ∧ J D = some (.lst (((xs.take i).map (nb lim)).map V.bl)))
          ⟨fun b o e => by rw [upd_ne (ne_of_none (sG b o e) hD)]; exact sG b o e, upd_same⟩ (fun i J _ z => Same.tup z.1 hl) (fun i x J hx z => ?_) fun J z => fin D J z c⟩
        obtain ⟨k1, k2⟩ := key D G sG hD i J z x hx
        exact ⟨rfl, _, rfl, _, rfl, x, lim, rfl, k1, k2⟩
      · have q' := q G sG
        rw [Bool.eq_false_iff.mpr c] at q'
        exact q'
  · refine ⟨_, pss_one (ps_ret (pe_and (pe_call G hr1 rfl mG kG bG .nil pass0 (pa_cons (pv 0) (pa_cons (pv 1) (pa_cons (pv 2) pa_nil))))
        (pe_one (pe_callB (cr_all rfl) (by rfl) M.all (by decide +kernel) (pa_cons (pe_lc (own := [("item", 4)]) (g := gName 4) (tt := tYes) rfl scNumList.nd (pi_list (pv 0))
          (blkOk_by (N := ["value", "least", "most", "limit", "item"]) (sc := defScope sNumList) (by decide +kernel)) (fun _ _ _ _ _ => pg_name (i := 4) scNumList.nd rfl (Or.inl rfl)) (fun _ _ _ _ _ => pts_nil)
          (fun _ _ _ _ _ => pe_call N hr rfl mN kN bN .nil pass0 (pa_cons (pv 4) (pa_cons (pv 3) pa_nil)))) pa_nil))))), ?_⟩
    exact ⟨_, rfl, _, rfl, _, rfl, v, lo, hi, rfl, .inr ⟨hs, fun G sG => ⟨_, rfl, iteF (q G sG)⟩⟩⟩
end

abbrev sInit : Stmt := inClass (top 17) 0
section
variable {X : Cx}
/-- what a for walks: a list or a tuple -/
def iSq (K : PySem.W.Frag) (tl : TE) : TI := fun σ H R => iList K tl σ H R ∨ iTup K tl σ H R
theorem pi_sq {tg l : Expr} {tl : TE} (h : PE X l tl) : PI X tg l (iSq X.K tl) := ⟨fun pins s σ H R I q => q.elim (fun z => (pi_list h).run pins s σ H R I z) fun z => (pi_tup h).run pins s σ H R I z⟩
theorem isq_of {K : PySem.W.Frag} {i : Nat} {σ : L2.St} {H : Hp} {v : V} {xs : List V} {R : It → Hp → Prop} (e : σ[i]? = some (some v)) (h : Sq K H v xs) (k : ∀ J, Walk J xs.length (Same H) (YAt xs) → R J H) : iSq K (tVar i) σ H R := by
  obtain ⟨a, rfl, h | h⟩ := h
  · exact .inl ⟨_, e, a, rfl, ⟨_, h⟩, k _ (walk_list.mono (fun G s => s.seq h) fun _ _ _ _ _ _ y => y)⟩
  · exact .inr ⟨_, e, a, rfl, ⟨_, h⟩, k _ (walk_tup.mono (fun G s => Same.tup s h) fun _ _ _ _ _ _ y => y)⟩
theorem rix_of {K : PySem.W.Frag} {H : Hp} {v x : V} {xs : List V} {z : Int} {i : Nat} {Q : VK} (h : Sq K H v xs) (ez : z = (i : Int)) (hx : xs[i]? = some x) (q : Q x H) : rIx K v (.int z) H Q := by
  obtain ⟨a, rfl, h | h⟩ := h
  · exact .inl ⟨a, xs, z, x, rfl, rfl, h, at_of ez hx, q⟩
  · exact .inr (.inl ⟨a, xs, z, x, rfl, rfl, h, at_of ez hx, q⟩)
theorem call_len_sq : CallR X (.builtin "len") (fun vs H Q => ∃ v xs, vs = [v] ∧ Sq X.K H v xs ∧ Q (.int xs.length) H) := by
  intro pins s σ H xs us Q I r h
  obtain ⟨v, ys, rfl, ⟨a, rfl, h⟩, q⟩ := h
  exact call_len_seq pins s σ H _ us Q I r ⟨a, ys, rfl, h, q⟩
end
/-- a row: a list or tuple of items, or neither -/
def RowD (K : PySem.W.Frag) (H : Hp) (x : V) : Option (List V) → Prop
  | some xs => Sq K H x xs ∧ (∀ y, y ∈ xs → Itm K H y) ∧ xs.length < 1000000
  | none => NoSq K H x
theorem RowD.same {K : PySem.W.Frag} {H G : Hp} (s : Same H G) {x : V} : ∀ {o : Option (List V)}, RowD K H x o → RowD K G x o
  | some xs, h => ⟨h.1.same s, fun y hy => (h.2.1 y hy).same s, h.2.2⟩
  | none, h => NoSq.same s h
def rb (n : Nat) : Option (List V) → Bool
  | some xs => decide ((n : Int) ≤ (xs.length : Int)) && decide ((xs.length : Int) ≤ (n : Int)) && xs.all (nb (n : Int))
  | none => false
def spAreRows (K : PySem.W.Frag) : Sp := fun vs H Q _ => ∃ v, vs = [v] ∧ ((NoSq K H v ∧ ∀ H', Same H H' → Q (.bl false) H') ∨
  ∃ rs os, Sq K H v rs ∧ Paired (RowD K H) rs os ∧ ∀ H', Same H H' → Q (.bl (decide ((1 : Int) ≤ (rs.length : Int)) && decide ((rs.length : Int) ≤ 16) && os.all (rb rs.length))) H')
theorem pair_at {α β : Type} {F : α → β → Prop} : ∀ {as : List α} {bs : List β} {i : Nat} {a : α}, Paired F as bs → as[i]? = some a → ∃ b, bs[i]? = some b ∧ F a b
  | _, _, _, _, .nil, e => by simp at e
  | _, _, 0, _, .cons h _, e => by simp at e; subst e; exact ⟨_, rfl, h⟩
  | _, _, i + 1, a, .cons _ t, e => by
    obtain ⟨b, h1, h2⟩ := pair_at (i := i) (a := a) t (by simpa using e)
    exact ⟨b, by simpa using h1, h2⟩
section
variable {P : Program} {w : World} {K : PySem.W.Frag} {mg : Str → Option Value} {base : Heap} {f g gn : Addr} {fd gd gnd : FuncData}
theorem scAreRows : FnScope ["rows", "size", "row"] ["rows"] (defScope sAreRows) := ⟨rfl, rfl, rfl, by decide +kernel, rfl, by decide +kernel, by decide +kernel⟩
theorem ok_arerows (F : Fun K "_are_rows" "_are_rows" sAreRows f fd) (M : Mn mg) (mL : ∃ t, mg "LARGEST_TABLE" = some (.int 16 t))
    (G : FnOk P w K mg base CX0 1 g gd ["value", "least", "most"] (spIsList K)) (bG : Binds K gd ["value", "least", "most"] []) (kG : PySem.W.keepIn K (.ref g) = true) (mG : mg "is_list" = some (.ref g))
    (N : FnOk P w K mg base CX0 3 gn gnd ["value", "least", "most", "limit"] (spNumList K)) (bN : Binds K gnd ["value", "least", "most", "limit"] []) (kN : PySem.W.keepIn K (.ref gn) = true) (mN : mg "is_number_list" = some (.ref gn)) :
    FnOk P w K mg base CX0 4 f fd ["rows"] (spAreRows K) := by
  refine F.ok scAreRows (fun vs H Q E h => ?_) (fun cdv A outer s H vs Q E hr h => ?_)
  · obtain ⟨v, rfl, _⟩ := h
    rfl
  obtain ⟨v, rfl, h⟩ := h
  obtain ⟨tok, mL⟩ := mL
  have hr1 : Room 1 _ := hr.mono (by decide)
  refine ⟨_, pss_cons (ps_if (pt_not (pt_val (pe_call G hr1 rfl mG kG bG .nil pass0 (pa_cons (pv 0) (pa_cons pe_int (pa_cons (pe_glob (v := .int 16) (by rfl) mL ⟨_, rfl⟩) pa_nil)))))) (pss_one (ps_ret pe_bl)) pss_nil)
    (pss_cons (ps_set (i := 1) scAreRows.nd rfl (Or.inr rfl) (pe_callB call_len_sq (by rfl) M.len PySem.boot_len (pa_cons (pv 0) pa_nil)))
    (pss_one (ps_ret (pe_callB (cr_all rfl) (by rfl) M.all (by decide +kernel) (pa_cons (pe_lc (own := [("row", 2)]) (g := gName 2) (tt := tYes) rfl scAreRows.nd (pi_sq (pv 0))
      (blkOk_by (N := ["rows", "size", "row"]) (sc := defScope sAreRows) (by decide +kernel)) (fun _ _ _ _ _ => pg_name (i := 2) scAreRows.nd rfl (Or.inl rfl)) (fun _ _ _ _ _ => pts_nil)
      (fun _ _ _ _ _ => pe_call N hr rfl mN kN bN .nil pass0 (pa_cons (pv 2) (pa_cons (pv 1) (pa_cons (pv 1) (pa_cons (pv 1) pa_nil)))))) pa_nil))))), ?_⟩
  rcases h with ⟨hs, q⟩ | ⟨rs, os, hs, pr, q⟩
  · exact ⟨_, rfl, v, 1, 16, rfl, .inr ⟨hs, fun J sJ => ⟨false, rfl, iteT (q J sJ)⟩⟩⟩
  · refine ⟨_, rfl, v, 1, 16, rfl, .inl ⟨rs, hs, fun J sJ => ⟨_, rfl, ?_⟩⟩⟩
    cases hc : (decide ((1 : Int) ≤ (rs.length : Int)) && decide ((rs.length : Int) ≤ 16)) with
    | false =>
      have q' := q J sJ
      rw [hc] at q'
      exact iteT q'
    | true =>
      have hl : rs.length ≤ 16 := by
        have := of_decide_eq_true (Bool.and_eq_true_iff.mp hc).2
        omega
      refine iteF ⟨_, rfl, v, rs, rfl, hs.same sJ, ?_⟩
      refine isq_of (v := v) rfl (hs.same sJ) fun It wk D hD => ?_
      refine lc_it wk (fun i J2 => Same J J2 ∧ J2 D = some (.lst (((os.take i).map (rb rs.length)).map V.bl))) ⟨fun b o e => by rw [upd_ne (ne_of_none e hD)]; exact e, upd_same⟩ (fun _ _ _ z => z.1) ?_ ?_
      · rintro i x Jz J2 hi ⟨s2, eD⟩ ⟨rfl, hx⟩
        obtain ⟨o, ho, hrow⟩ := pair_at pr hx
        have hrow' := hrow.same (sJ.trans s2)
        refine ⟨rfl, _, rfl, _, rfl, _, rfl, _, rfl, x, _, _, _, rfl, ?_⟩
        have fin : ∀ G2, Same J2 G2 → ∃ acc, G2 D = some (.lst acc) ∧ acc.length < sizeLine ∧ (Same J (upd G2 D (.lst (acc ++ [V.bl (rb rs.length o)]))) ∧ (upd G2 D (.lst (acc ++ [V.bl (rb rs.length o)]))) D = some (.lst (((os.take (i + 1)).map (rb rs.length)).map V.bl))) := fun G2 s3 => by
          refine ⟨_, s3 _ _ eD, ?_, fun b o e => by rw [upd_ne (ne_of_none e hD)]; exact s3 _ _ (s2 b o e), ?_⟩
          · rw [List.length_map, List.length_map, List.length_take, sizeLine_eq]; omega
          · rw [upd_same, List.take_add_one, ho, List.map_append, List.map_append]; rfl
        cases o with
        | none => exact .inr ⟨hrow', fun G2 s3 => fin G2 s3⟩
        | some xs => exact .inl ⟨xs, hrow'.1, hrow'.2.1, hrow'.2.2, fun G2 s3 => fin G2 s3⟩
      · rintro J2 ⟨s2, eD⟩
        have tk : os.take rs.length = os := by rw [show rs.length = os.length from pr.length]; exact List.take_length
        rw [tk] at eD
        refine ⟨D, _, rfl, SqL.of eD, ?_⟩
        have e2 : (os.map (rb rs.length)).all id = os.all (rb rs.length) := by rw [List.all_map]; rfl
        have q' := q J2 (sJ.trans s2)
        rw [hc] at q'
        rw [e2]
        exact q'
end
/-- the rows tb are to be read at v -/
def Rws (K : PySem.W.Frag) (H : Hp) (v : V) (tb : List (List Int)) : Prop := ∃ rs, Sq K H v rs ∧ Paired (fun x row => Sq K H x (row.map V.int)) rs tb
theorem Rws.same {K : PySem.W.Frag} {H G : Hp} (s : Same H G) {v : V} {tb : List (List Int)} (h : Rws K H v tb) : Rws K G v tb :=
  let ⟨rs, a, b⟩ := h
  ⟨rs, a.same s, L2.Paired.mapP b fun _ _ z => z.same s⟩
theorem Rws.len {K : PySem.W.Frag} {H : Hp} {v : V} {tb : List (List Int)} {rs : List V} (b : Paired (fun x row => Sq K H x (row.map V.int)) rs tb) : rs.length = tb.length := b.length
/-- rows[i], then its item j -/
theorem Rws.at_ {K : PySem.W.Frag} {H : Hp} {v : V} {tb : List (List Int)} (h : Rws K H v tb) (S : Sqr tb) {i : Nat} (hi : i < tb.length) :
    ∃ rs x, Sq K H v rs ∧ rs[i]? = some x ∧ Sq K H x ((tb.getD i []).map V.int) ∧ ∀ j, j < tb.length → ((tb.getD i []).map V.int)[j]? = some (.int (mu tb i j)) := by
  obtain ⟨rs, a, b⟩ := h
  have hi' : i < rs.length := by rw [b.length]; exact hi
  obtain ⟨row, h1, h2⟩ := pair_at b (List.getElem?_eq_getElem hi')
  have e : tb.getD i [] = row := by rw [List.getD_eq_getElem?_getD, h1]; rfl
  refine ⟨rs, rs[i], a, List.getElem?_eq_getElem hi', by rw [e]; exact h2, fun j hj => ?_⟩
  have hr : row.length = tb.length := S.row row (List.mem_of_getElem? h1)
  unfold mu
  rw [e, List.getElem?_map, List.getElem?_eq_getElem (by omega), List.getD_eq_getElem?_getD, List.getElem?_eq_getElem (by omega)]
  rfl
def lexlt (x y : Nat × Nat × Nat) : Prop := x.1 < y.1 ∨ (x.1 = y.1 ∧ (x.2.1 < y.2.1 ∨ (x.2.1 = y.2.1 ∧ x.2.2 < y.2.2)))
def spWrong (K : PySem.W.Frag) : Sp := fun vs H Q _ => ∃ v tb, vs = [v] ∧ Rws K H v tb ∧ Sqr tb ∧
  ((∀ a b c, a < tb.length → b < tb.length → c < tb.length → rt tb a b c) → Q .non H) ∧
  (∀ a b c, a < tb.length → b < tb.length → c < tb.length → ¬ rt tb a b c →
    (∀ a' b' c', a' < tb.length → b' < tb.length → c' < tb.length → lexlt (a', b', c') (a, b, c) → rt tb a' b' c') → ∀ p, H p = none → Q (.ref p) (upd H p (.tup [.int a, .int b, .int c])))
/-- a product table stands at p -/
structure TbA (K : PySem.W.Frag) (C : Addr) (H : Hp) (p : Addr) (tb : List (List Int)) : Prop where
  ob : ∃ dx t rs, H p = some (.ins C dx [("_rows", .ref t)]) ∧ SqT K H t rs ∧ Paired (fun x row => ∃ r, x = V.ref r ∧ SqT K H r (row.map V.int)) rs tb
def spInit (K : PySem.W.Frag) (C : Addr) : Sp := fun vs H Q _ => ∃ p dx v tb, vs = [.ref p, v] ∧ H p = some (.ins C dx []) ∧ Rws K H v tb ∧ Sqr tb ∧ (∀ a b c, a < tb.length → b < tb.length → c < tb.length → rt tb a b c) ∧
  (∀ a, v = .ref a → a ≠ p) ∧ ∀ H', TbA K C H' p tb → (∀ b o, b ≠ p → H b = some o → H' b = some o) → Q .non H'
section
variable {P : Program} {w : World} {K : PySem.W.Frag} {mg : Str → Option Value} {base : Heap} {f g gn : Addr} {fd gd gnd : FuncData}
theorem scWrong : FnScope ["rows", "size", "a", "b", "c"] ["rows"] (defScope sWrong) := ⟨rfl, rfl, rfl, by decide +kernel, rfl, by decide +kernel, by decide +kernel⟩
theorem ok_wrong (F : Fun K "_first_wrong_triple" "_first_wrong_triple" sWrong f fd) (M : Mn mg) : FnOk P w K mg base CX0 1 f fd ["rows"] (spWrong K) := by
  refine F.ok scWrong (fun vs H Q E h => ?_) (fun cdv A outer s H vs Q E hr h => ?_)
  · obtain ⟨v, tb, rfl, _⟩ := h
    rfl
  obtain ⟨v, tb, rfl, hR, S, q1, q2⟩ := h
  have ix : ∀ {X : Cx}, IxR X (rIx X.K) := fun {X} => ix_seq
  refine ⟨_, pss_cons (ps_set (i := 1) scWrong.nd rfl (Or.inl rfl) (pe_callB call_len_sq (by rfl) M.len PySem.boot_len (pa_cons (pv 0) pa_nil)))
    (pss_cons (ps_for PassesOwn.never rfl (pi_range1 (by rfl) M.range (pa_cons (pv 1) pa_nil)) (pg_name (i := 2) scWrong.nd rfl (Or.inl rfl))
      (pss_one (ps_for PassesOwn.never rfl (pi_range1 (by rfl) M.range (pa_cons (pv 1) pa_nil)) (pg_name (i := 3) scWrong.nd rfl (Or.inl rfl))
        (pss_one (ps_for PassesOwn.never rfl (pi_range1 (by rfl) M.range (pa_cons (pv 1) pa_nil)) (pg_name (i := 4) scWrong.nd rfl (Or.inl rfl))
          (pss_one (ps_if (pt_cmpR op_ne (pe_ix ix_seq (pe_ix ix_seq (pv 0) (pe_ix ix_seq (pe_ix ix_seq (pv 0) (pv 2) (fun _ _ => rfl)) (pv 3) (fun _ _ => rfl)) (fun _ _ => rfl)) (pv 4) (fun _ _ => rfl))
            (pe_ix ix_seq (pe_ix ix_seq (pv 0) (pv 2) (fun _ _ => rfl)) (pe_ix ix_seq (pe_ix ix_seq (pv 0) (pv 3) (fun _ _ => rfl)) (pv 4) (fun _ _ => rfl)) (fun _ _ => rfl)) (nomark _))
            (pss_one (ps_ret (pe_tup (pa_cons (pv 2) (pa_cons (pv 3) (pa_cons (pv 4) pa_nil)))))) pss_nil)))))))
    (pss_one (ps_ret pe_non))), ?_⟩
  have n16 := S.ge
  obtain ⟨rs0, hs0, pr0⟩ := id hR
  have l0 : rs0.length = tb.length := pr0.length
  refine ⟨_, rfl, v, rs0, rfl, hs0, ?_⟩
  rw [l0]
  refine ⟨_, rfl, (tb.length : Int), rfl, by omega, by omega, ?_⟩
  refine for_range (lo := 0) (n := tb.length) (fun a σ J => H = J ∧ (∃ x y z, σ = [some v, some (.int tb.length), x, y, z]) ∧ ∀ a' b c, a' < a → b < tb.length → c < tb.length → rt tb a' b c)
    ⟨rfl, ⟨_, _, _, rfl⟩, fun _ _ _ z => absurd z (Nat.not_lt_zero _)⟩ ?_ ?_
  · rintro a _ _ ha ⟨rfl, ⟨x, y, z, rfl⟩, hA⟩
    refine ⟨_, rfl, (tb.length : Int), rfl, by omega, by omega, ?_⟩
    refine for_range (lo := 0) (n := tb.length) (fun b σ J => H = J ∧ (∃ y z, σ = [some v, some (.int tb.length), some (.int (0 + (a : Int))), y, z]) ∧ ∀ b' c, b' < b → c < tb.length → rt tb a b' c)
      ⟨rfl, ⟨_, _, rfl⟩, fun _ _ z => absurd z (Nat.not_lt_zero _)⟩ ?_ ?_
    · rintro b _ _ hb ⟨rfl, ⟨y, z, rfl⟩, hB⟩
      refine ⟨_, rfl, (tb.length : Int), rfl, by omega, by omega, ?_⟩
      refine for_range (lo := 0) (n := tb.length) (fun c σ J => H = J ∧ (∃ z, σ = [some v, some (.int tb.length), some (.int (0 + (a : Int))), some (.int (0 + (b : Int))), z]) ∧ ∀ c', c' < c → rt tb a b c')
        ⟨rfl, ⟨_, rfl⟩, fun _ z => absurd z (Nat.not_lt_zero _)⟩ ?_ ?_
      · rintro c _ _ hc ⟨rfl, ⟨z, rfl⟩, hC⟩
        obtain ⟨ra, xa, sa, ea, ta, ga⟩ := hR.at_ S ha
        obtain ⟨rb', xb, sb, eb, tb', gb⟩ := hR.at_ S hb
        have e1 := S.el a b ha hb
        have e2 := S.el b c hb hc
        obtain ⟨rm, xm, sm, em, tm, gm⟩ := hR.at_ S (i := (mu tb a b).toNat) (by omega)
        refine ⟨_, rfl, _, rfl, _, rfl, rix_of sa (by omega) ea ⟨_, rfl, rix_of ta (by omega) (ga b hb) (rix_of sm (by omega) em ⟨_, rfl, rix_of tm (by omega) (gm c hc) ?_⟩)⟩⟩
        refine ⟨_, rfl, _, rfl, rix_of sa (by omega) ea ⟨_, rfl, _, rfl, rix_of sb (by omega) eb ⟨_, rfl, rix_of tb' (by omega) (gb c hc) (rix_of ta (i := (mu tb b c).toNat) (by omega) (ga _ (by omega)) ⟨rfl, _, rfl, ?_⟩)⟩⟩⟩
        have ed : ∀ x y : Int, (!decide (V.int x = V.int y)) = true ↔ x ≠ y := fun x y => by
          rw [Bool.not_eq_true', decide_eq_false_iff_not]
          exact ⟨fun h e => h (by rw [e]), fun h e => h (V.int.inj e)⟩
        refine ite2 (fun k => ?_) (fun k => ?_)
        · have nr : ¬ rt tb a b c := (ed _ _).mp k
          refine ⟨_, rfl, _, rfl, _, rfl, (by show 3 ≤ sizeLine; decide), fun p hp => ?_⟩
          have q' := q2 a b c ha hb hc nr (fun a' b' c' h1 h2 h3 hl => by
            rcases hl with hl | ⟨rfl, hl | ⟨rfl, hl⟩⟩
            · exact hA a' b' c' hl h2 h3
            · exact hB b' c' hl h3
            · exact hC c' hl) p hp
          have z0 : ∀ n : Nat, (0 : Int) + (n : Int) = (n : Int) := fun n => Int.zero_add _
          rw [z0, z0, z0]
          exact q'
        · refine ⟨rfl, ⟨_, rfl⟩, fun c' hc' => ?_⟩
          rcases Nat.lt_succ_iff_lt_or_eq.mp hc' with h | rfl
          · exact hC c' h
          · exact Classical.byContradiction fun nr => k ((ed _ _).mpr nr)
      · rintro _ _ ⟨rfl, ⟨z, rfl⟩, hC⟩
        refine ⟨rfl, ⟨_, _, rfl⟩, fun b' c' h1 h2 => ?_⟩
        rcases Nat.lt_succ_iff_lt_or_eq.mp h1 with h | rfl
        · exact hB b' c' h h2
        · exact hC c' h2
    · rintro _ _ ⟨rfl, ⟨y, z, rfl⟩, hB⟩
      refine ⟨rfl, ⟨_, _, _, rfl⟩, fun a' b' c' h1 h2 h3 => ?_⟩
      rcases Nat.lt_succ_iff_lt_or_eq.mp h1 with h | rfl
      · exact hA a' b' c' h h2 h3
      · exact hB b' c' h2 h3
  · rintro _ _ ⟨rfl, ⟨x, y, z, rfl⟩, hA⟩
    exact q1 fun a b c h1 h2 h3 => hA a b c h1 h2 h3
end

section
variable {X : Cx}
/-- x is not True, x an int or a truth value -/
theorem op_notIB : OpR X (compareOp .IsNot) (fun x y H Q => ∃ b : Bool, y = .bl b ∧ ((∃ a : Bool, x = .bl a ∧ Q (.bl (!decide (a = b))) H) ∨ (∃ i, x = .int i ∧ Q (.bl true) H))) := by
  intro pins s σ H x y v u Q I rx ry h
  obtain ⟨b, rfl, h⟩ := h
  cases (show u = Value.bool b from ry)
  rcases h with ⟨a, rfl, q⟩ | ⟨i, rfl, q⟩
  · cases (show v = Value.bool a from rx)
    by_cases e : a = b
    · subst e
      exact wpAny_isNot_self rfl ⟨.bl false, H, I, rfl, by simpa using q⟩
    · exact wpAny_isNot_other rfl (fun z => e (Value.bool.inj z)) ⟨.bl true, H, I, rfl, by simpa [e] using q⟩
  · obtain ⟨t, rfl⟩ := (show ∃ t, v = Value.int i t from rx)
    exact wpAny_isNot_other rfl (fun z => nomatch z) ⟨.bl true, H, I, rfl, q⟩
end
/-- tuple(x), the written part told -/
def rTpl (K : PySem.W.Frag) : List V → Hp → VK → Prop := fun xs H Q => ∃ (p : Addr) (ys : List V), xs = [.ref p] ∧ ((SqL K H p ys ∧ ∀ l, H l = none → Q (.ref l) (upd H l (.tup ys))) ∨ (SqT K H p ys ∧ Q (.ref p) H))
theorem ctuple {X : Cx} {K : PySem.W.Frag} (hK : X.K = K) : CallR X (.type "tuple") (rTpl K) := by
  subst hK
  exact call_tuple_of
/-- what the checks of a class's instances need of the class -/
structure CTx (K : PySem.W.Frag) (mg : Str → Option Value) (C : Addr) : Prop where
  cl : Cls K C
  nR : NoAttr K C "_rows"
  mgC : mg "ProductTable" = some (.ref C)
theorem pair_map {α β γ : Type} {F : α → β → Prop} {G : α → γ → Prop} {g : β → γ} : ∀ {as : List α} {bs : List β}, Paired F as bs → (∀ a b, b ∈ bs → F a b → G a (g b)) → Paired G as (bs.map g)
  | _, _, .nil, _ => .nil
  | _, _, .cons h t, k => .cons (k _ _ List.mem_cons_self h) (pair_map t fun a b m => k a b (List.mem_cons_of_mem _ m))
theorem SqT.upd {K : PySem.W.Frag} {H : Hp} {p r C dx : Addr} {fs : List (Str × V)} {xs : List V} {o : HO} (hp : H p = some (.ins C dx fs)) (h : SqT K H r xs) : SqT K (upd H p o) r xs := by
  rcases h with (h | ⟨ob, h⟩) | h
  · exact .inl (.inl (by rw [upd_ne (ne_of h hp (by intro z; cases z))]; exact h))
  · exact .inl (.inr ⟨ob, by rw [upd_ne (ne_of h hp (by intro z; cases z))]; exact h⟩)
  · exact .inr h
theorem rows_true {tb : List (List Int)} (S : Sqr tb) : (decide ((1 : Int) ≤ (tb.length : Int)) && decide ((tb.length : Int) ≤ 16) && (tb.map fun row => some (row.map V.int)).all (rb tb.length)) = true := by
  have h1 := S.le
  have h2 := S.ge
  rw [decide_eq_true (show (1 : Int) ≤ (tb.length : Int) by omega), decide_eq_true (show (tb.length : Int) ≤ 16 by omega)]
  rw [List.all_map]
  show (tb.all _) = true
  rw [List.all_eq_true]
  intro row hr
  obtain ⟨i, hi, rfl⟩ := List.mem_iff_getElem.mp hr
  have hl := S.row _ hr
  show (decide ((tb.length : Int) ≤ ((tb[i].map V.int).length : Int)) && decide (((tb[i].map V.int).length : Int) ≤ (tb.length : Int)) && (tb[i].map V.int).all (nb (tb.length : Int))) = true
  rw [List.length_map, hl, decide_eq_true (Int.le_refl _), Bool.true_and, Bool.true_and, List.all_map, List.all_eq_true]
  intro m hm
  obtain ⟨j, hj, rfl⟩ := List.mem_iff_getElem.mp hm
  have e := S.el i j hi (by omega)
  have em : mu tb i j = tb[i][j] := by
    unfold mu
    rw [List.getD_eq_getElem?_getD, List.getD_eq_getElem?_getD, List.getElem?_eq_getElem hi]
    show (tb[i][j]?).getD 0 = _
    rw [List.getElem?_eq_getElem hj]; rfl
  rw [em] at e
  show (decide (0 ≤ tb[i][j]) && decide (tb[i][j] < (tb.length : Int))) = true
  rw [decide_eq_true e.1, decide_eq_true e.2]; rfl
theorem rows_rowd {K : PySem.W.Frag} {H : Hp} {tb : List (List Int)} {rs : List V} (S : Sqr tb) (h : Paired (fun x row => Sq K H x (row.map V.int)) rs tb) : Paired (RowD K H) rs (tb.map fun row => some (row.map V.int)) :=
  pair_map h fun x row hm z => ⟨z, fun y hy => by obtain ⟨i, _, rfl⟩ := List.mem_map.mp hy; exact .inl ⟨i, rfl⟩, by
    have h1 := S.row row hm
    have h2 := S.ge
    rw [List.length_map]; omega⟩
section
variable {P : Program} {w : World} {K : PySem.W.Frag} {mg : Str → Option Value} {base : Heap} {f g gn : Addr} {fd gd gnd : FuncData}
theorem scInit : FnScope ["self", "rows", "triple", "row"] ["self", "rows"] (defScope sInit) := ⟨rfl, rfl, rfl, by decide +kernel, rfl, by decide +kernel, by decide +kernel⟩
theorem ok_init {C : Addr} (F : Fun K "__init__" "ProductTable.__init__" sInit f fd) (M : Mn mg) (T : CTx K mg C)
    (G : FnOk P w K mg base CX0 4 g gd ["rows"] (spAreRows K)) (bG : Binds K gd ["rows"] []) (kG : PySem.W.keepIn K (.ref g) = true) (mG : mg "_are_rows" = some (.ref g))
    (N : FnOk P w K mg base CX0 1 gn gnd ["rows"] (spWrong K)) (bN : Binds K gnd ["rows"] []) (kN : PySem.W.keepIn K (.ref gn) = true) (mN : mg "_first_wrong_triple" = some (.ref gn)) :
    FnOk P w K mg base CX0 5 f fd ["self", "rows"] (spInit K C) := by
  refine F.ok scInit (fun vs H Q E h => ?_) (fun cdv A outer s H vs Q E hr h => ?_)
  · obtain ⟨p, dx, v, tb, rfl, _⟩ := h
    rfl
  obtain ⟨p, dx, v, tb, rfl, hp, hR, S, as, _, q⟩ := h
  have hr1 : Room 1 _ := hr.mono (by decide)
  refine ⟨_, pss_cons (ps_if (pt_not (pt_val (pe_call G hr rfl mG kG bG .nil pass0 (pa_cons (pv 1) pa_nil)))) pss_dead pss_nil)
    (pss_cons (ps_set (i := 2) scInit.nd rfl (Or.inl rfl) (pe_call N hr1 rfl mN kN bN .nil pass0 (pa_cons (pv 1) pa_nil)))
    (pss_cons (ps_if (pt_cmp (pc_notN (pv 2))) pss_dead pss_nil)
    (pss_one (ps_fld (pv 0) (pe_callTy call_tuple_of (by rfl) M.tuple (by decide +kernel) (pa_cons (pe_lc (own := [("row", 3)]) (g := gName 3) (tt := tYes) rfl scInit.nd (pi_sq (pv 1))
      (blkOk_by (N := ["self", "rows", "triple", "row"]) (sc := defScope sInit) (by decide +kernel)) (fun _ _ _ _ _ => pg_name (i := 3) scInit.nd rfl (Or.inl rfl)) (fun _ _ _ _ _ => pts_nil)
      (fun _ _ _ _ _ => pe_callTy (T := "tuple") (ctuple (K := K) rfl) (by rfl) M.tuple (by decide +kernel) (pa_cons (pv 3) pa_nil))) pa_nil)) rfl)))), ?_⟩
  obtain ⟨rs, hs, pr⟩ := id hR
  have ln : rs.length = tb.length := pr.length
  refine ⟨_, rfl, v, rfl, .inr ⟨rs, _, hs, rows_rowd S pr, fun J sJ => ⟨_, rfl, ?_⟩⟩⟩
  rw [ln, rows_true S]
  refine iteF ⟨_, rfl, v, tb, rfl, hR.same sJ, S, fun _ => ?_, fun a b c ha hb hc n => absurd (as a b c ha hb hc) n⟩
  refine ⟨_, rfl, _, rfl, iteF ?_⟩
  refine isq_of (v := v) rfl (hs.same sJ) fun It wk D hD => ?_
  rw [ln] at wk
  refine lc_it wk (fun i J2 => Same J J2 ∧ ∃ ts : List Addr, J2 D = some (.lst (ts.map V.ref)) ∧ ts.length = i ∧ Paired (fun r row => SqT K J2 r (row.map V.int)) ts (tb.take i))
    ⟨fun b o e => by rw [upd_ne (ne_of_none e hD)]; exact e, [], upd_same, rfl, .nil⟩ (fun _ _ _ z => z.1) ?_ ?_
  · rintro i x Jz J2 hi ⟨s2, ts, eD, lt, pt⟩ ⟨rfl, hx⟩
    obtain ⟨row, hrow, hsq⟩ := pair_at pr hx
    have tk : tb.take (i + 1) = tb.take i ++ [row] := by rw [List.take_add_one, hrow]; rfl
    have n16 := S.ge
    have app : ∀ {as : List Addr} {bs : List (List Int)} {F : Addr → List Int → Prop} {c : Addr} {kv : List Int}, Paired F as bs → F c kv → Paired F (as ++ [c]) (bs ++ [kv]) := by
      intro as bs F c kv h hc
      induction h with
      | nil => exact .cons hc .nil
      | cons h1 _ ih => exact .cons h1 ih
    have fin : ∀ (r : Addr) (J3 : Hp), Same J2 J3 → SqT K J3 r (row.map V.int) → ∃ acc, J3 D = some (.lst acc) ∧ acc.length < sizeLine ∧ (Same J (upd J3 D (.lst (acc ++ [V.ref r]))) ∧
        ∃ ts' : List Addr, (upd J3 D (.lst (acc ++ [V.ref r]))) D = some (.lst (ts'.map V.ref)) ∧ ts'.length = i + 1 ∧ Paired (fun c row => SqT K (upd J3 D (.lst (acc ++ [V.ref r]))) c (row.map V.int)) ts' (tb.take (i + 1))) := fun r J3 s3 hr3 => by
      have keep : ∀ {c : Addr} {xs : List V} {acc : List V}, SqT K J3 c xs → SqT K (upd J3 D (.lst acc)) c xs := fun {c xs acc} h => by
        have e3 := s3 _ _ eD
        rcases h with (h | ⟨ob, h⟩) | h
        · exact .inl (.inl (by rw [upd_ne (ne_of h e3 (by intro z; cases z))]; exact h))
        · exact .inl (.inr ⟨ob, by rw [upd_ne (ne_of h e3 (by intro z; cases z))]; exact h⟩)
        · exact .inr h
      refine ⟨_, s3 _ _ eD, ?_, fun b o e => by rw [upd_ne (ne_of_none e hD)]; exact s3 _ _ (s2 b o e), ts ++ [r], ?_, by simp [lt], ?_⟩
      · rw [List.length_map, lt, sizeLine_eq]; omega
      · rw [upd_same, List.map_append]; rfl
      · rw [tk]
        exact app (L2.Paired.mapP pt fun c row' h => keep (Same.tup s3 h)) (keep hr3)
    obtain ⟨a, rfl, ha | ha⟩ := hsq.same (sJ.trans s2)
    · exact ⟨rfl, _, rfl, a, _, rfl, .inl ⟨ha, fun l hl => fin l _ (Same.new hl _) (SqT.of upd_same)⟩⟩
    · exact ⟨rfl, _, rfl, a, _, rfl, .inr ⟨ha, fin a J2 (Same.refl _) ha⟩⟩
  · rintro J2 ⟨s2, ts, eD, lt, pt⟩
    rw [List.take_of_length_le (Nat.le_refl _)] at pt
    refine ⟨D, _, rfl, .inl ⟨SqL.of eD, fun t ht => ?_⟩⟩
    have s3 : Same H (upd J2 t (.tup (ts.map V.ref))) := (sJ.trans s2).trans (Same.new ht _)
    refine ⟨_, rfl, p, C, dx, [], rfl, s3 _ _ hp, T.cl, T.nR, (by show 0 < 1000; decide), ?_⟩
    refine q _ ⟨dx, t, ts.map V.ref, upd_same, SqT.upd (s3 _ _ hp) (SqT.of upd_same), ?_⟩ fun b o hb e => by rw [upd_ne hb]; exact s3 _ _ e
    have h1 : Paired (fun r row => SqT K (upd (upd J2 t (.tup (ts.map V.ref))) p (.ins C dx [("_rows", .ref t)])) r (row.map V.int)) ts tb := L2.Paired.mapP pt fun c row h => SqT.upd (s3 _ _ hp) (Same.tup (Same.new ht _) h)
    have h2 : ∀ {as : List Addr} {bs : List (List Int)} {Fn : Addr → List Int → Prop}, Paired Fn as bs → Paired (fun x row => ∃ r, x = V.ref r ∧ Fn r row) (as.map V.ref) bs := by
      intro as bs Fn h
      induction h with
      | nil => exact .nil
      | cons h1 _ ih => exact .cons ⟨_, rfl, h1⟩ ih
    exact h2 h1
end
end L

set_option Elab.async false
set_option linter.all false
set_option maxRecDepth 100000
set_option maxHeartbeats 4000000
namespace L
open PySem L2 KX
abbrev sPlain : Stmt := top 34
abbrev sExt : Stmt := top 35
abbrev sGrid : Stmt := top 36
abbrev sPairs : Stmt := top 38
/-- a list of lists of ints stands at v -/
def RowsL (G : Hp) (v : V) (tb : List (List Int)) : Prop := ∃ a rs, v = .ref a ∧ G a = some (.lst (rs.map V.ref)) ∧ Paired (fun r row => G r = some (.lst (row.map V.int))) rs tb
theorem RowsL.same {G J : Hp} {v : V} {tb : List (List Int)} (s : Same G J) (h : RowsL G v tb) : RowsL J v tb := let ⟨a, rs, e, h1, h2⟩ := h; ⟨a, rs, e, s _ _ h1, L2.Paired.mapP h2 fun _ _ z => s _ _ z⟩
theorem pair_refs {K : PySem.W.Frag} {G : Hp} {rs : List Addr} {tb : List (List Int)} (h : Paired (fun r row => G r = some (.lst (row.map V.int))) rs tb) : Paired (fun x row => Sq K G x (row.map V.int)) (rs.map V.ref) tb := by
  induction h with
  | nil => exact .nil
  | cons h _ ih => exact .cons ⟨_, rfl, .inl (SqL.of h)⟩ ih
theorem RowsL.rws {K : PySem.W.Frag} {G : Hp} {v : V} {tb : List (List Int)} (h : RowsL G v tb) : Rws K G v tb := let ⟨a, rs, e, h1, h2⟩ := h; ⟨rs.map V.ref, ⟨a, e, .inl (SqL.of h1)⟩, pair_refs h2⟩
theorem pair_app {α β : Type} {F : α → β → Prop} {as : List α} {bs : List β} {a : α} {b : β} (h : Paired F as bs) (k : F a b) : Paired F (as ++ [a]) (bs ++ [b]) := by
  induction h with
  | nil => exact .cons k .nil
  | cons h1 _ ih => exact .cons h1 ih
/-- a list of new rows is being made at fa -/
structure Part (H J : Hp) (fa : Addr) (rows : List (List Int)) : Prop where
  same : Same H J
  new : H fa = none
  at_ : ∃ rs, J fa = some (.lst (rs.map V.ref)) ∧ Paired (fun r row => r ≠ fa ∧ H r = none ∧ J r = some (.lst (row.map V.int))) rs rows
theorem Part.to {H J G : Hp} {fa : Addr} {rows : List (List Int)} (h : Part H J fa rows) (s : Same J G) : Part H G fa rows :=
  let ⟨rs, e, p⟩ := h.at_
  ⟨h.same.trans s, h.new, rs, s _ _ e, L2.Paired.mapP p fun _ _ z => ⟨z.1, z.2.1, s _ _ z.2.2⟩⟩
theorem Part.start {H G : Hp} {fa : Addr} (s : Same H G) (h : G fa = none) : Part H (upd G fa (.lst [])) fa [] := ⟨s.trans (Same.new h _), s.free h, [], upd_same, .nil⟩
theorem Part.add {H J G : Hp} {fa q : Addr} {rows : List (List Int)} {row : List Int} (h : Part H J fa rows) (s : Same J G) (n : J q = none) (e : G q = some (.lst (row.map V.int))) :
    ∃ acc, G fa = some (.lst acc) ∧ acc.length = rows.length ∧ Part H (upd G fa (.lst (acc ++ [V.ref q]))) fa (rows ++ [row]) := by
  obtain ⟨rs, e1, p⟩ := (h.to s).at_
  obtain ⟨rs0, e0, _⟩ := h.at_
  have nq : q ≠ fa := (ne_of_none e0 n).symm
  refine ⟨_, e1, by rw [List.length_map]; exact p.length, fun b o eb => ?_, h.new, rs ++ [q], by rw [upd_same, List.map_append]; rfl, ?_⟩
  · rw [upd_ne (ne_of_none eb h.new)]; exact (h.to s).same _ _ eb
  · refine pair_app (L2.Paired.mapP p fun r row z => ⟨z.1, z.2.1, by rw [upd_ne z.1]; exact z.2.2⟩) ⟨nq, h.same.free n, by rw [upd_ne nq]; exact e⟩
theorem Part.fin {H J : Hp} {fa : Addr} {tb : List (List Int)} (h : Part H J fa tb) : RowsL (nw H J) (.ref fa) tb :=
  let ⟨rs, e, p⟩ := h.at_
  ⟨fa, rs, rfl, by rw [nw_at h.new]; exact e, L2.Paired.mapP p fun _ _ z => by rw [nw_at z.2.1]; exact z.2.2⟩
/-- what a table's row holds ahead of place b -/
def rowTo (f : Nat → Nat → Nat) (a b : Nat) : List Int := (List.range b).map fun b => ((f a b : Nat) : Int)
theorem rowTo_next {f : Nat → Nat → Nat} {a b : Nat} : rowTo f a (b + 1) = rowTo f a b ++ [((f a b : Nat) : Int)] := by unfold rowTo; rw [List.range_succ, List.map_append]; rfl
theorem rowTo_len {f : Nat → Nat → Nat} {a b : Nat} : ((rowTo f a b).map V.int).length = b := by unfold rowTo; rw [List.length_map, List.length_map, List.length_range]
/-- the rows ahead of row a -/
def rowsTo (n : Nat) (f : Nat → Nat → Nat) (a : Nat) : List (List Int) := (List.range a).map fun a => rowTo f a n
theorem rowsTo_next {n : Nat} {f : Nat → Nat → Nat} {a : Nat} : rowsTo n f (a + 1) = rowsTo n f a ++ [rowTo f a n] := by unfold rowsTo; rw [List.range_succ, List.map_append]; rfl
theorem rowsTo_len {n : Nat} {f : Nat → Nat → Nat} {a : Nat} : (rowsTo n f a).length = a := by unfold rowsTo; rw [List.length_map, List.length_range]
theorem rowsTo_all {n : Nat} {f : Nat → Nat → Nat} : rowsTo n f n = tab n f := rfl
theorem z0 (n : Nat) : (0 : Int) + (n : Int) = (n : Int) := Int.zero_add _
def spPlain : Sp := fun vs H Q _ => ∃ kind n : Nat, vs = [.int kind, .int n] ∧ kind < 6 ∧ 1 ≤ n ∧ n ≤ 16 ∧ ∀ v H', RowsL (nw H H') v (tab n (fpl kind n)) → Same H H' → Q v H'
section
variable {P : Program} {w : World} {K : PySem.W.Frag} {mg : Str → Option Value} {base : Heap} {f g gn : Addr} {fd gd gnd : FuncData}
theorem scPlain : FnScope ["kind", "n", "found", "a", "row", "b", "some"] ["kind", "n"] (defScope sPlain) := ⟨rfl, rfl, rfl, by decide +kernel, rfl, by decide +kernel, by decide +kernel⟩
theorem ok_plain (F : Fun K "_law_plain" "_law_plain" sPlain f fd) (M : Mn mg) : FnOk P w K mg base CX0 1 f fd ["kind", "n"] spPlain := by
  refine F.ok scPlain (fun vs H Q E h => ?_) (fun cdv A outer s H vs Q E hr h => ?_)
  · obtain ⟨kind, n, rfl, _⟩ := h
    rfl
  obtain ⟨kind, n, rfl, hk, h1, h16, q⟩ := h
  refine ⟨_, pss_cons (ps_set (i := 2) scPlain.nd rfl (Or.inl rfl) (pe_lst pa_nil))
    (pss_cons (ps_for PassesOwn.never rfl (pi_range1 (by rfl) M.range (pa_cons (pv 1) pa_nil)) (pg_name (i := 3) scPlain.nd rfl (Or.inl rfl))
      (pss_cons (ps_set (i := 4) scPlain.nd rfl (Or.inl rfl) (pe_lst pa_nil))
      (pss_cons (ps_for PassesOwn.never rfl (pi_range1 (by rfl) M.range (pa_cons (pv 1) pa_nil)) (pg_name (i := 5) scPlain.nd rfl (Or.inl rfl))
        (pss_cons (ps_set (i := 6) scPlain.nd rfl (Or.inl rfl) (pe_lst (pa_cons (pv 3) (pa_cons (pv 5) (pa_cons (pe_callB (call_min2 rfl) (by rfl) M.min (by decide +kernel) (pa_cons (pv 3) (pa_cons (pv 5) pa_nil)))
          (pa_cons (pe_op op_mod (pe_op op_add (pv 3) (pv 5)) (pv 1)) pa_nil))))))
        (pss_one (ps_expr (pe_bm PySem.F.plainAttrs_list PySem.F.slot_list_append PySem.F.type_list_append mt_append (pv 4) (pa_cons (pe_ix ix_list (pe_op op_cat (pv 6)
          (pe_lst (pa_cons (pe_callB (call_min2 rfl) (by rfl) M.min (by decide +kernel) (pa_cons (pe_op op_add (pv 3) (pv 5)) (pa_cons (pe_op op_sub (pv 1) pe_int) pa_nil)))
            (pa_cons (pe_mo (pe_ifExp (pt_cmpR op_gt (pv 3) pe_int (nomark _)) (pv 3) (pv 5))) pa_nil)))) (pv 0) (fun _ _ => rfl)) pa_nil))))))
      (pss_one (ps_expr (pe_bm PySem.F.plainAttrs_list PySem.F.slot_list_append PySem.F.type_list_append mt_append (pv 2) (pa_cons (pv 4) pa_nil)))))))
    (pss_one (ps_ret (pv 2)))), ?_⟩
  refine ⟨(by show 0 ≤ sizeLine; decide), fun fa hfa => ?_⟩
  refine ⟨_, rfl, (n : Int), rfl, by omega, by omega, ?_⟩
  refine for_range (lo := 0) (n := (n : Int).toNat) (fun a σ J => Part H J fa (rowsTo n (fpl kind n) a) ∧ ∃ x3 x4 x5 x6, σ = [some (.int kind), some (.int n), some (.ref fa), x3, x4, x5, x6])
    ⟨Part.start (Same.refl H) hfa, _, _, _, _, rfl⟩ ?_ ?_
  · rintro a _ J ha ⟨pa, x3, x4, x5, x6, rfl⟩
    have ha' : a < n := by simpa using ha
    refine ⟨(by show 0 ≤ sizeLine; decide), fun qa hqa => ?_⟩
    refine ⟨_, rfl, (n : Int), rfl, by omega, by omega, ?_⟩
    refine for_range (lo := 0) (n := (n : Int).toNat) (fun b σ G => Same J G ∧ G qa = some (.lst ((rowTo (fpl kind n) a b).map V.int)) ∧ ∃ x5 x6, σ = [some (.int kind), some (.int n), some (.ref fa), some (.int (0 + (a : Int))), some (.ref qa), x5, x6])
      ⟨Same.new hqa _, upd_same, _, _, rfl⟩ ?_ ?_
    · rintro b _ G hb ⟨sG, eq, y5, y6, rfl⟩
      have hb' : b < n := by simpa using hb
      refine ⟨_, rfl, _, rfl, _, rfl, _, rfl, _, _, rfl, _, rfl, _, rfl, _, _, rfl, rfl, _, rfl, _, _, rfl, rfl, (by show (0 : Int) < (n : Int); omega), (by show 4 ≤ sizeLine; decide), fun sa hsa => ?_⟩
      have e1 : ∀ o, (upd G sa o) qa = some (.lst ((rowTo (fpl kind n) a b).map V.int)) := fun o => by rw [upd_ne (ne_of_none eq hsa)]; exact eq
      refine ⟨_, rfl, Or.inl ⟨rfl, _, SqL.of (e1 _)⟩, _, rfl, _, rfl, _, rfl, _, _, rfl, rfl, _, rfl, _, _, rfl, rfl, _, _, rfl, ?_⟩
      -- a if a > 0 else b
      refine ⟨fun x G1 => _ = G1 ∧ x = .int ((if 0 < a then a else b : Nat) : Int), ⟨_, rfl, _, _, rfl, rfl, _, rfl, ite2 (fun c => ⟨_, rfl, rfl, ?_⟩) (fun c => ⟨_, rfl, rfl, ?_⟩)⟩, ?_⟩
      · have c' : (0 : Int) < 0 + (a : Int) := of_decide_eq_true c
        rw [if_pos (show 0 < a by omega), z0]
      · have c' : ¬ (0 : Int) < 0 + (a : Int) := of_decide_eq_false (Bool.eq_false_iff.mpr c)
        rw [if_neg (show ¬ 0 < a by omega), z0]
      rintro _ _ ⟨rfl, rfl⟩
      refine ⟨(by show 2 ≤ sizeLine; decide), fun l2 hl2 => ?_⟩
      have s2 := Same.new hl2 (.lst [.int (if (n : Int) - 1 < 0 + (a : Int) + (0 + (b : Int)) then (n : Int) - 1 else 0 + (a : Int) + (0 + (b : Int))), .int ((if 0 < a then a else b : Nat) : Int)])
      refine ⟨sa, l2, _, _, rfl, rfl, s2 _ _ upd_same, upd_same, (by show 4 + 2 ≤ sizeLine; decide), fun p6 hp6 => ?_⟩
      have s6 := Same.new hp6 (.lst ([V.int (0 + (a : Int)), .int (0 + (b : Int)), .int (if 0 + (b : Int) < 0 + (a : Int) then 0 + (b : Int) else 0 + (a : Int)), .int ((0 + (a : Int) + (0 + (b : Int))) % (n : Int))] ++
        [.int (if (n : Int) - 1 < 0 + (a : Int) + (0 + (b : Int)) then (n : Int) - 1 else 0 + (a : Int) + (0 + (b : Int))), .int ((if 0 < a then a else b : Nat) : Int)]))
      refine ⟨_, rfl, p6, _, (kind : Int), .int ((fpl kind n a b : Nat) : Int), rfl, rfl, SqL.of upd_same, at_of (j := kind) rfl ?_, qa, _, _, rfl, rfl, s6 _ _ (s2 _ _ (e1 _)), ?_, ?_⟩
      · rw [z0, z0]
        match kind, hk with
        | 0, _ => rfl
        | 1, _ => rfl
        | 2, _ =>
          show some (V.int (if (b : Int) < (a : Int) then (b : Int) else (a : Int))) = some (V.int ((min a b : Nat) : Int))
          refine congrArg (fun z => some (V.int z)) ?_
          split <;> omega
        | 3, _ =>
          show some (V.int (((a : Int) + (b : Int)) % (n : Int))) = some (V.int (((a + b) % n : Nat) : Int))
          refine congrArg (fun z => some (V.int z)) ?_
          rw [Int.natCast_emod, Int.natCast_add]
        | 4, _ =>
          show some (V.int (if (n : Int) - 1 < (a : Int) + (b : Int) then (n : Int) - 1 else (a : Int) + (b : Int))) = some (V.int ((min (a + b) (n - 1) : Nat) : Int))
          refine congrArg (fun z => some (V.int z)) ?_
          split <;> omega
        | 5, _ => rfl
      · rw [rowTo_len]; exact small1000 (by omega)
      · refine ⟨fun c o ec => ?_, ?_, _, _, rfl⟩
        · rw [upd_ne (ne_of_none ec hqa)]
          exact s6 _ _ (s2 _ _ (Same.new hsa _ _ _ (sG c o ec)))
        · rw [upd_same, rowTo_next, List.map_append]; rfl
    · rintro _ G ⟨sG, eq, y5, y6, rfl⟩
      obtain ⟨acc, e1, l1, p1⟩ := pa.add sG hqa eq
      refine ⟨_, rfl, Or.inl ⟨rfl, _, SqL.of e1⟩, _, rfl, fa, acc, _, rfl, rfl, e1, by rw [l1, rowsTo_len]; exact small1000 (by omega), ?_, _, _, _, _, rfl⟩
      have en : (n : Int).toNat = n := Int.toNat_natCast n
      rw [en] at p1
      rw [rowsTo_next]
      exact p1
  · rintro _ J ⟨pa, x3, x4, x5, x6, rfl⟩
    have pa' : Part H J fa (tab n (fpl kind n)) := by
      have e : (n : Int).toNat = n := Int.toNat_natCast n
      rw [e] at pa
      exact pa
    exact ⟨_, rfl, q _ _ pa'.fin pa'.same⟩
end
end L

set_option Elab.async false
set_option linter.all false
set_option maxRecDepth 100000
set_option maxHeartbeats 4000000
namespace L
open PySem L2 KX
theorem ixl {X : Cx} {K : PySem.W.Frag} (hK : X.K = K) : IxR X (rIxL K) := by subst hK; exact ix_list
theorem lenl {X : Cx} {K : PySem.W.Frag} (hK : X.K = K) : CallR X (.builtin "len") (fun xs H Q => ∃ p ys, xs = [.ref p] ∧ (SqL K H p ys ∨ SqT K H p ys) ∧ Q (.int ys.length) H) := by subst hK; exact call_len_seq
theorem fex_row {kind n a b : Nat} {f : Nat → Nat → Nat} (ha : a < n) (hb : b < n) : fex kind n f a b = f a b := if_pos ⟨ha, hb⟩
theorem rowTo_congr {f g : Nat → Nat → Nat} {a : Nat} : ∀ {b : Nat}, (∀ c, c < b → f a c = g a c) → rowTo f a b = rowTo g a b
  | 0, _ => rfl
  | b + 1, h => by rw [rowTo_next, rowTo_next, rowTo_congr (b := b) fun c hc => h c (by omega), h b (by omega)]
def spExt : Sp := fun vs H Q _ => ∃ (v : V) (kind n : Nat) (f : Nat → Nat → Nat), vs = [v, .int kind] ∧ kind < 2 ∧ 1 ≤ n ∧ n < 16 ∧ RowsL H v (tab n f) ∧ ∀ v' H', RowsL (nw H H') v' (tab (n + 1) (fex kind n f)) → Same H H' → Q v' H'
def spPairs : Sp := fun vs H Q _ => ∃ (v u : V) (m n : Nat) (f g : Nat → Nat → Nat), vs = [v, u] ∧ 1 ≤ m ∧ 1 ≤ n ∧ m * n ≤ 16 ∧ RowsL H v (tab m f) ∧ RowsL H u (tab n g) ∧ ∀ v' H', RowsL (nw H H') v' (tab (m * n) (fpr n f g)) → Same H H' → Q v' H'
def spGrid : Sp := fun vs H Q _ => ∃ p, vs = [.ref p] ∧ Bx H p ∧ ∀ v H' (s : Nat → Nat), (∀ i, s i < 2) → RowsL (nw H H') v (tab 8 (fgr s)) → Bx H' p → Sx p H H' → Q v H'
section
variable {P : Program} {w : World} {K : PySem.W.Frag} {mg : Str → Option Value} {base : Heap} {f g gn : Addr} {fd gd gnd : FuncData}
theorem scExt : FnScope ["rows", "kind", "n", "found", "a", "row", "b"] ["rows", "kind"] (defScope sExt) := ⟨rfl, rfl, rfl, by decide +kernel, rfl, by decide +kernel, by decide +kernel⟩
theorem ok_ext (F : Fun K "_law_extended" "_law_extended" sExt f fd) (M : Mn mg) : FnOk P w K mg base CX0 1 f fd ["rows", "kind"] spExt := by
  refine F.ok scExt (fun vs H Q E h => ?_) (fun cdv A outer s H vs Q E hr h => ?_)
  · obtain ⟨v, kind, n, f, rfl, _⟩ := h
    rfl
  obtain ⟨v, kind, n, f, rfl, hk, h1, h16, hR, q⟩ := h
  refine ⟨_, pss_cons (ps_set (i := 2) scExt.nd rfl (Or.inr rfl) (pe_callB call_len_seq (by rfl) M.len PySem.boot_len (pa_cons (pv 0) pa_nil)))
    (pss_cons (ps_setLc (i := 3) (own := [("a", 4), ("row", 5)]) (g := gTup _ 2 (gCons (gName 4) (gCons (gName 5) gNil))) (tt := tYes) rfl scExt.nd rfl rfl (sw_true rfl rfl rfl (by decide +kernel))
      (pi_enum (by rfl) M.enum (pa_cons (pv 0) pa_nil)) (blkOk_by (N := ["rows", "kind", "n", "found", "a", "row", "b"]) (sc := defScope sExt) (by decide +kernel))
      (fun _ _ _ _ _ => pg_tup rfl (pgs_cons (pg_name (i := 4) scExt.nd rfl (Or.inl rfl)) (pgs_cons (pg_name (i := 5) scExt.nd rfl (Or.inl rfl)) pgs_nil))) (fun _ _ _ _ _ => pts_nil)
      (fun _ _ _ _ _ => pe_op op_cat (pv 5) (pe_lst (pa_cons (pe_ix (ixl (K := K) rfl) (pe_lst (pa_cons (pv 2) (pa_cons (pv 4) pa_nil))) (pv 1) (fun _ _ => rfl)) pa_nil))))
    (pss_one (ps_ret (pe_op op_cat (pv 3) (pe_lst (pa_cons (pe_op op_cat (pe_lc (own := [("b", 6)]) (g := gName 6) (tt := tYes) rfl scExt.nd (pi_range1 (by rfl) M.range (pa_cons (pv 2) pa_nil))
      (blkOk_by (N := ["rows", "kind", "n", "found", "a", "row", "b"]) (sc := defScope sExt) (by decide +kernel)) (fun _ _ _ _ _ => pg_name (i := 6) scExt.nd rfl (Or.inl rfl)) (fun _ _ _ _ _ => pts_nil)
      (fun _ _ _ _ _ => pe_ix (ixl (K := K) rfl) (pe_lst (pa_cons (pv 2) (pa_cons (pv 6) pa_nil))) (pv 1) (fun _ _ => rfl))) (pe_lst (pa_cons (pv 2) pa_nil))) pa_nil)))))), ?_⟩
  obtain ⟨a0, rs, rfl, ea, pr⟩ := hR
  have ln : rs.length = n := by rw [pr.length, tab_len]
  refine ⟨_, rfl, a0, _, rfl, .inl (SqL.of ea), ?_⟩
  rw [List.length_map, ln]
  refine ⟨_, rfl, a0, rs.map V.ref, rfl, SqL.of ea, fun D hD => ?_⟩
  let f' := fex kind n f
  have pick2 : ∀ x : Int, atI [V.int (n : Int), .int x] (kind : Int) = some (.int (if kind = 0 then (n : Int) else x)) := fun x => by
    match kind, hk with
    | 0, _ => rfl
    | 1, _ => rfl
  refine lc_it (walk_enum (xs := rs.map V.ref)) (fun i J => Part H J D (rowsTo (n + 1) f' i)) (Part.start (Same.refl H) hD) (fun i J _ z => SqL.of (z.same _ _ ea)) ?_ ?_
  · rintro i x J J1 hi pa ⟨T, x1, y1, rfl, hT, rfl, g1, g2⟩
    cases g1
    have hi' : i < n := by rw [List.length_map, ln] at hi; exact hi
    obtain ⟨r, hr0, rfl⟩ : ∃ r, rs[i]? = some r ∧ y1 = V.ref r := by
      have g3 : (rs.map V.ref)[i]? = some y1 := g2
      rw [List.getElem?_map] at g3
      obtain ⟨r, h2, h3⟩ := Option.map_eq_some_iff.mp g3
      exact ⟨r, h2, h3.symm⟩
    obtain ⟨row, hrow, er⟩ := pair_at pr hr0
    rw [tab_row hi'] at hrow
    cases hrow
    refine ⟨T, _, rfl, SqT.of upd_same, rfl, _, _, rfl, _, _, rfl, rfl, rfl, _, rfl, _, rfl, _, rfl, (by show 2 ≤ sizeLine; decide), fun l1 hl1 => ?_⟩
    have s1 := Same.new hT (.tup [.int (i : Nat), .ref r])
    have s2 := Same.new hl1 (.lst [.int (n : Int), .int ((i : Nat) : Int)])
    refine ⟨_, rfl, l1, _, _, _, rfl, rfl, SqL.of upd_same, pick2 _, (by show 1 ≤ sizeLine; decide), fun l2 hl2 => ?_⟩
    have s3 := Same.new hl2 (.lst [.int (if kind = 0 then (n : Int) else ((i : Nat) : Int))])
    refine ⟨r, l2, _, _, rfl, rfl, s3 _ _ (s2 _ _ (s1 _ _ (pa.same _ _ er))), upd_same, ?_, fun qa hqa => ?_⟩
    · rw [List.length_map, List.length_map, List.length_range]; exact Nat.le_of_lt (small1000 (by show n + 1 ≤ 1000; omega))
    have sall := ((s1.trans s2).trans s3).trans (Same.new hqa (.lst ((((List.range n).map fun b => ((f i b : Nat) : Int)).map V.int) ++ [.int (if kind = 0 then (n : Int) else ((i : Nat) : Int))])))
    have er2 : rowTo f' i (n + 1) = ((List.range n).map fun b => ((f i b : Nat) : Int)) ++ [if kind = 0 then (n : Int) else ((i : Nat) : Int)] := by
      rw [rowTo_next]
      have e1 : rowTo f' i n = (List.range n).map fun b => ((f i b : Nat) : Int) := rowTo_congr (g := f) fun c hc => fex_row hi' hc
      rw [e1]
      refine congrArg (fun z => _ ++ [z]) ?_
      show ((fex kind n f i n : Nat) : Int) = _
      unfold fex
      rw [if_neg (show ¬ (i < n ∧ n < n) by omega)]
      split
      · rfl
      · first | rfl | rw [if_pos hi']
    obtain ⟨acc, e1, lac, p1⟩ := pa.add (q := qa) (row := rowTo f' i (n + 1)) sall (((s1.trans s2).trans s3).free hqa) (by rw [upd_same, er2, List.map_append]; rfl)
    refine ⟨acc, e1, by rw [lac, rowsTo_len]; exact small1000 (by omega), ?_⟩
    rw [rowsTo_next]
    exact p1
  · rintro J pa
    rw [List.length_map, ln] at pa
    refine ⟨_, rfl, _, rfl, n, rfl, by omega, by omega, fun D2 hD2 => ?_⟩
    refine lc_range (lo := 0) (n := (n : Int).toNat) (fun b G => Same J G ∧ G D2 = some (.lst ((rowTo f' n b).map V.int))) ⟨Same.new hD2 _, upd_same⟩ ?_ ?_
    · rintro b G hb ⟨sG, eD⟩
      have hb' : b < n := by simpa using hb
      refine ⟨rfl, _, rfl, _, rfl, (by show 2 ≤ sizeLine; decide), fun l1 hl1 => ?_⟩
      refine ⟨_, rfl, l1, _, _, _, rfl, rfl, SqL.of upd_same, pick2 _, _, Same.new hl1 _ _ _ eD, by rw [rowTo_len]; exact small1000 (by omega), fun c o ec => ?_, ?_⟩
      · rw [upd_ne (ne_of_none ec hD2)]; exact Same.new hl1 _ _ _ (sG c o ec)
      · rw [upd_same, rowTo_next, List.map_append, z0]
        refine congrArg (fun z => some (HO.lst (_ ++ [V.int z]))) ?_
        show _ = ((fex kind n f n b : Nat) : Int)
        unfold fex
        rw [if_neg (show ¬ (n < n ∧ b < n) by omega)]
        split
        · rfl
        · first | rfl | rw [if_neg (show ¬ n < n by omega)]
    · rintro G ⟨sG, eD⟩
      have en : (n : Int).toNat = n := Int.toNat_natCast n
      rw [en] at eD
      refine ⟨_, rfl, (by show 1 ≤ sizeLine; decide), fun l3 hl3 => ?_⟩
      have t1 := Same.new hl3 (.lst [.int (n : Int)])
      refine ⟨D2, l3, _, _, rfl, rfl, t1 _ _ eD, upd_same, by rw [rowTo_len]; exact Nat.le_of_lt (small1000 (by show n + 1 ≤ 1000; omega)), fun q2 hq2 => ?_⟩
      have t2 := Same.new hq2 (.lst ((rowTo f' n n).map V.int ++ [.int (n : Int)]))
      refine ⟨(by show 1 ≤ sizeLine; decide), fun l4 hl4 => ?_⟩
      have t3 := Same.new hl4 (.lst [.ref q2])
      have pa' := pa.to (((sG.trans t1).trans t2).trans t3)
      obtain ⟨rs', e', p'⟩ := pa'.at_
      have lr : rs'.length = n := by rw [p'.length, rowsTo_len]
      refine ⟨D, l4, _, _, rfl, rfl, e', upd_same, by rw [List.length_map, lr]; exact Nat.le_of_lt (small1000 (by show n + 1 ≤ 1000; omega)), fun q3 hq3 => ?_⟩
      have t4 := Same.new hq3 (.lst (rs'.map V.ref ++ [.ref q2]))
      have hq3n : H q3 = none := pa'.same.free hq3
      have hq2n : H q2 = none := (pa.same.trans (sG.trans t1)).free hq2
      refine q _ _ ⟨q3, rs' ++ [q2], rfl, by rw [nw_at hq3n, upd_same, List.map_append]; rfl, ?_⟩ (pa'.same.trans t4)
      have e3 : tab (n + 1) (fex kind n f) = rowsTo (n + 1) f' n ++ [rowTo f' n (n + 1)] := by rw [← rowsTo_next, rowsTo_all]
      rw [e3]
      refine pair_app (L2.Paired.mapP p' fun r row z => by rw [nw_at z.2.1]; exact t4 _ _ z.2.2) ?_
      rw [nw_at hq2n]
      refine (t4 _ _ (t3 _ _ upd_same)).trans ?_
      rw [rowTo_next, List.map_append]
      refine congrArg (fun z => some (HO.lst (_ ++ [V.int z]))) ?_
      show _ = ((fex kind n f n n : Nat) : Int)
      unfold fex
      rw [if_neg (show ¬ (n < n ∧ n < n) by omega)]
      split
      · rfl
      · first | rfl | rw [if_neg (show ¬ n < n by omega)]
theorem scPairs : FnScope ["one", "other", "n", "found", "a", "row", "b", "first"] ["one", "other"] (defScope sPairs) := ⟨rfl, rfl, rfl, by decide +kernel, rfl, by decide +kernel, by decide +kernel⟩
theorem ok_pairs (F : Fun K "_law_pairs" "_law_pairs" sPairs f fd) (M : Mn mg) : FnOk P w K mg base CX0 1 f fd ["one", "other"] spPairs := by
  refine F.ok scPairs (fun vs H Q E h => ?_) (fun cdv A outer s H vs Q E hr h => ?_)
  · obtain ⟨v, u, m, n, f, g, rfl, _⟩ := h
    rfl
  obtain ⟨v, u, m, n, f, g, rfl, hm, hn, h16, hR, hU, q⟩ := h
  refine ⟨_, pss_cons (ps_set (i := 2) scPairs.nd rfl (Or.inl rfl) (pe_callB call_len_seq (by rfl) M.len PySem.boot_len (pa_cons (pv 1) pa_nil)))
    (pss_cons (ps_set (i := 3) scPairs.nd rfl (Or.inl rfl) (pe_lst pa_nil))
    (pss_cons (ps_for PassesOwn.never rfl (pi_range1 (by rfl) M.range (pa_cons (pe_op op_mul (pe_callB call_len_seq (by rfl) M.len PySem.boot_len (pa_cons (pv 0) pa_nil)) (pv 2)) pa_nil)) (pg_name (i := 4) scPairs.nd rfl (Or.inl rfl))
      (pss_cons (ps_set (i := 5) scPairs.nd rfl (Or.inl rfl) (pe_lst pa_nil))
      (pss_cons (ps_for PassesOwn.never rfl (pi_range1 (by rfl) M.range (pa_cons (pe_op op_mul (pe_callB call_len_seq (by rfl) M.len PySem.boot_len (pa_cons (pv 0) pa_nil)) (pv 2)) pa_nil)) (pg_name (i := 6) scPairs.nd rfl (Or.inl rfl))
        (pss_cons (ps_set (i := 7) scPairs.nd rfl (Or.inl rfl) (pe_ix ix_list (pe_ix ix_list (pv 0) (pe_op op_fdiv (pv 4) (pv 2)) (fun _ _ => rfl)) (pe_op op_fdiv (pv 6) (pv 2)) (fun _ _ => rfl)))
        (pss_one (ps_expr (pe_bm PySem.F.plainAttrs_list PySem.F.slot_list_append PySem.F.type_list_append mt_append (pv 5) (pa_cons (pe_op op_add (pe_op op_mul (pv 7) (pv 2))
          (pe_ix ix_list (pe_ix ix_list (pv 1) (pe_op op_mod (pv 4) (pv 2)) (fun _ _ => rfl)) (pe_op op_mod (pv 6) (pv 2)) (fun _ _ => rfl))) pa_nil))))))
      (pss_one (ps_expr (pe_bm PySem.F.plainAttrs_list PySem.F.slot_list_append PySem.F.type_list_append mt_append (pv 3) (pa_cons (pv 5) pa_nil)))))))
    (pss_one (ps_ret (pv 3))))), ?_⟩
  obtain ⟨a1, rs1, rfl, e1, pr1⟩ := id hR
  obtain ⟨a2, rs2, rfl, e2, pr2⟩ := id hU
  have l1 : rs1.length = m := by rw [pr1.length, tab_len]
  have l2 : rs2.length = n := by rw [pr2.length, tab_len]
  have hnn : n ≤ 16 := Nat.le_trans (by have := Nat.mul_le_mul_right n hm; rw [Nat.one_mul] at this; exact this) h16
  have hmm : m ≤ 16 := Nat.le_trans (by have := Nat.mul_le_mul_left m hn; rw [Nat.mul_one] at this; exact this) h16
  have mnI : ((m : Int) * (n : Int)) = ((m * n : Nat) : Int) := (Int.natCast_mul m n).symm
  refine ⟨_, rfl, a2, _, rfl, .inl (SqL.of e2), ?_⟩
  rw [List.length_map, l2]
  refine ⟨(by show 0 ≤ sizeLine; decide), fun fa hfa => ?_⟩
  have s0 := Same.new hfa (.lst [])
  refine ⟨_, rfl, a1, _, rfl, .inl (SqL.of (s0 _ _ e1)), ?_⟩
  rw [List.length_map, l1]
  refine ⟨_, rfl, _, _, rfl, rfl, .inl ⟨by omega, by omega⟩, (m : Int) * (n : Int), rfl, by rw [mnI]; omega, by rw [mnI]; omega, ?_⟩
  rw [mnI]
  have dv : ∀ a, a < m * n → a / n < m := fun a h => (Nat.div_lt_iff_lt_mul (by omega)).mpr h
  have md : ∀ a, a % n < n := fun a => Nat.mod_lt _ (by omega)
  refine for_range (lo := 0) (n := ((m * n : Nat) : Int).toNat) (fun a σ J => Part H J fa (rowsTo (m * n) (fpr n f g) a) ∧ ∃ x4 x5 x6 x7, σ = [some (.ref a1), some (.ref a2), some (.int n), some (.ref fa), x4, x5, x6, x7])
    ⟨Part.start (Same.refl H) hfa, _, _, _, _, rfl⟩ ?_ ?_
  · rintro a _ J ha ⟨pa, x4, x5, x6, x7, rfl⟩
    have ha' : a < m * n := by rw [Int.toNat_natCast] at ha; exact ha
    refine ⟨(by show 0 ≤ sizeLine; decide), fun qa hqa => ?_⟩
    have sJq := Same.new hqa (.lst [])
    refine ⟨_, rfl, a1, _, rfl, .inl (SqL.of (sJq _ _ (pa.same _ _ e1))), ?_⟩
    rw [List.length_map, l1]
    refine ⟨_, rfl, _, _, rfl, rfl, .inl ⟨by omega, by omega⟩, (m : Int) * (n : Int), rfl, by rw [mnI]; omega, by rw [mnI]; omega, ?_⟩
    rw [mnI]
    refine for_range (lo := 0) (n := ((m * n : Nat) : Int).toNat) (fun b σ G => Same J G ∧ G qa = some (.lst ((rowTo (fpr n f g) a b).map V.int)) ∧ ∃ x6 x7, σ = [some (.ref a1), some (.ref a2), some (.int n), some (.ref fa), some (.int (0 + (a : Int))), some (.ref qa), x6, x7])
      ⟨sJq, upd_same, _, _, rfl⟩ ?_ ?_
    · rintro b _ G hb ⟨sG, eq, y6, y7, rfl⟩
      have hb' : b < m * n := by rw [Int.toNat_natCast] at hb; exact hb
      have cell : ∀ {K' : PySem.W.Frag} {m n : Nat} {f : Nat → Nat → Nat} {c : Addr} {rs : List Addr} {i j : Nat}, H c = some (.lst (rs.map V.ref)) → Paired (fun r row => H r = some (.lst (row.map V.int))) rs (tab m f) → i < m → j < m →
          ∃ r, SqL K' G c (rs.map V.ref) ∧ (rs.map V.ref)[i]? = some (V.ref r) ∧ SqL K' G r (((List.range m).map fun b => ((f i b : Nat) : Int)).map V.int) ∧ (((List.range m).map fun b => ((f i b : Nat) : Int)).map V.int)[j]? = some (.int ((f i j : Nat) : Int)) := fun {K' m n f c rs i j} ec pc hi hj => by
        have hir : i < rs.length := by rw [pc.length, tab_len]; exact hi
        obtain ⟨row, h1, h2⟩ := pair_at pc (List.getElem?_eq_getElem hir)
        rw [tab_row hi] at h1
        cases h1
        refine ⟨rs[i], SqL.of (sG _ _ (pa.same _ _ ec)), by rw [List.getElem?_map, List.getElem?_eq_getElem hir]; rfl, SqL.of (sG _ _ (pa.same _ _ h2)), ?_⟩
        rw [List.getElem?_map, List.getElem?_map, List.getElem?_range hj]; rfl
      obtain ⟨r1, c1, c2, c3, c4⟩ := cell (K' := K) (n := n) e1 pr1 (dv a ha') (dv b hb')
      obtain ⟨r2, d1, d2, d3, d4⟩ := cell (K' := K) (n := n) e2 pr2 (md a) (md b)
      have eD : ∀ x : Nat, ((0 : Int) + (x : Int)) / (n : Int) = ((x / n : Nat) : Int) := fun x => by rw [z0]; exact (Int.natCast_ediv x n).symm
      have eM : ∀ x : Nat, ((0 : Int) + (x : Int)) % (n : Int) = ((x % n : Nat) : Int) := fun x => by rw [z0]; exact (Int.natCast_emod x n).symm
      refine ⟨_, rfl, _, rfl, _, rfl, _, _, rfl, rfl, ⟨by omega, by omega⟩, a1, _, _, _, rfl, rfl, c1, at_of (eD a) c2, _, rfl, _, rfl, _, _, rfl, rfl, ⟨by omega, by omega⟩, r1, _, _, _, rfl, rfl, c3, at_of (eD b) c4, ?_⟩
      refine ⟨_, rfl, Or.inl ⟨rfl, _, SqL.of eq⟩, _, rfl, _, rfl, _, _, rfl, rfl, .inr ⟨by omega, by omega⟩, _, rfl, _, rfl, _, rfl, _, _, rfl, rfl, (by show (0 : Int) < (n : Int); omega), a2, _, _, _, rfl, rfl, d1, at_of (eM a) d2,
        _, rfl, _, rfl, _, _, rfl, rfl, (by show (0 : Int) < (n : Int); omega), r2, _, _, _, rfl, rfl, d3, at_of (eM b) d4, _, _, rfl, rfl, qa, _, _, rfl, rfl, eq, by rw [rowTo_len]; exact small1000 (by omega), ?_⟩
      refine ⟨fun c o ec => by rw [upd_ne (ne_of_none ec hqa)]; exact sG c o ec, ?_, _, _, rfl⟩
      rw [upd_same, rowTo_next, List.map_append]
      refine congrArg (fun z => some (HO.lst (_ ++ [V.int z]))) ?_
      show ((f (a / n) (b / n) : Nat) : Int) * (n : Int) + ((g (a % n) (b % n) : Nat) : Int) = ((f (a / n) (b / n) * n + g (a % n) (b % n) : Nat) : Int)
      rw [Int.natCast_add, Int.natCast_mul]
    · rintro _ G ⟨sG, eq, y6, y7, rfl⟩
      obtain ⟨acc, ea, la, p1⟩ := pa.add sG hqa eq
      refine ⟨_, rfl, Or.inl ⟨rfl, _, SqL.of ea⟩, _, rfl, fa, acc, _, rfl, rfl, ea, by rw [la, rowsTo_len]; exact small1000 (by omega), ?_, _, _, _, _, rfl⟩
      rw [Int.toNat_natCast] at p1
      rw [rowsTo_next]
      exact p1
  · rintro _ J ⟨pa, x4, x5, x6, x7, rfl⟩
    have pa' : Part H J fa (tab (m * n) (fpr n f g)) := by
      rw [Int.toNat_natCast] at pa
      exact pa
    exact ⟨_, rfl, q _ _ pa'.fin pa'.same⟩
theorem scGrid : FnScope ["box", "shift", "found", "a", "row", "b", "value", "k"] ["box"] (defScope sGrid) := ⟨rfl, rfl, rfl, by decide +kernel, rfl, by decide +kernel, by decide +kernel⟩
theorem ok_grid (F : Fun K "_law_grid" "_law_grid" sGrid f fd) (M : Mn mg) (G : FnOk P w K mg base CX0 1 g gd ["box", "size"] spTake) (bG : Binds K gd ["box", "size"] []) (kG : PySem.W.keepIn K (.ref g) = true) (mG : mg "_law_take" = some (.ref g)) :
    FnOk P w K mg base CX0 2 f fd ["box"] spGrid := by
  refine F.ok scGrid (fun vs H Q E h => ?_) (fun cdv A outer s H vs Q E hr h => ?_)
  · obtain ⟨p, rfl, _⟩ := h
    rfl
  obtain ⟨p, rfl, hb, q⟩ := h
  refine ⟨_, pss_cons (ps_setLc (i := 1) (own := [("k", 7)]) (g := gName 7) (tt := tYes) rfl scGrid.nd rfl rfl (sw_true rfl rfl rfl (by decide +kernel)) (pi_range1 (by rfl) M.range (pa_cons pe_int pa_nil))
      (blkOk_by (N := ["box", "shift", "found", "a", "row", "b", "value", "k"]) (sc := defScope sGrid) (by decide +kernel)) (fun _ _ _ _ _ => pg_name (i := 7) scGrid.nd rfl (Or.inl rfl)) (fun _ _ _ _ _ => pts_nil)
      (fun _ _ _ _ _ => pe_call G hr (by rfl) mG kG bG .nil pass0 (pa_cons (pv 0) (pa_cons pe_int pa_nil))))
    (pss_cons (ps_set (i := 2) scGrid.nd rfl (Or.inl rfl) (pe_lst pa_nil))
    (pss_cons (ps_for PassesOwn.never rfl (pi_range1 (by rfl) M.range (pa_cons pe_int pa_nil)) (pg_name (i := 3) scGrid.nd rfl (Or.inl rfl))
      (pss_cons (ps_set (i := 4) scGrid.nd rfl (Or.inl rfl) (pe_lst pa_nil))
      (pss_cons (ps_for PassesOwn.never rfl (pi_range1 (by rfl) M.range (pa_cons pe_int pa_nil)) (pg_name (i := 5) scGrid.nd rfl (Or.inl rfl))
        (pss_cons (ps_set (i := 6) scGrid.nd rfl (Or.inl rfl) (pe_op op_mod (pe_op op_add (pe_op op_add (pe_op op_fdiv (pv 3) pe_int) (pe_op op_fdiv (pv 5) pe_int))
          (pe_ix ix_list (pv 1) (pe_op op_add (pe_op op_mul (pe_op op_mod (pv 3) pe_int) pe_int) (pe_op op_fdiv (pv 5) pe_int)) (fun _ _ => rfl))) pe_int))
        (pss_one (ps_expr (pe_bm PySem.F.plainAttrs_list PySem.F.slot_list_append PySem.F.type_list_append mt_append (pv 4) (pa_cons (pe_op op_add (pe_op op_add (pe_op op_mul (pe_op op_fdiv (pv 3) pe_int) pe_int)
          (pe_op op_mul (pv 6) pe_int)) (pe_op op_mod (pv 5) pe_int)) pa_nil))))))
      (pss_one (ps_expr (pe_bm PySem.F.plainAttrs_list PySem.F.slot_list_append PySem.F.type_list_append mt_append (pv 2) (pa_cons (pv 4) pa_nil)))))))
    (pss_one (ps_ret (pv 2))))), ?_⟩
  refine ⟨4, rfl, by decide, by decide, fun D hD => ?_⟩
  have nD : D ≠ p := hb.ne hD
  refine lc_range (lo := 0) (n := Int.toNat 4) (fun i J => Bx J p ∧ Sx p H J ∧ ∃ xs : List Nat, J D = some (.lst (xs.map fun x : Nat => V.int ((x : Nat) : Int))) ∧ xs.length = i ∧ ∀ x, x ∈ xs → x < 2)
    ⟨hb.new hD, Sx.new hD, [], upd_same, rfl, fun _ z => nomatch z⟩ ?_ ?_
  · rintro i J hi ⟨bJ, sJ, xs, eD, lx, hx⟩
    have hi4 : i < 4 := hi
    refine ⟨rfl, _, rfl, p, 2, rfl, bJ, by decide, by decide, fun r J1 ra rb bJ1 sJ1 => ?_⟩
    refine ⟨_, sJ1 D _ nD eD, by rw [List.length_map, lx]; exact small1000 (by omega), bJ1.at_ne nD, fun b o hbp e => ?_, xs ++ [r.toNat], ?_, by simp [lx], fun x h => ?_⟩
    · rw [upd_ne (ne_of_none e hD)]; exact sJ1 b o hbp (sJ b o hbp e)
    · rw [upd_same, List.map_append]
      show _ = some (HO.lst (_ ++ [V.int ((r.toNat : Nat) : Int)]))
      rw [Int.toNat_of_nonneg ra]
    · rcases List.mem_append.mp h with h | h
      · exact hx x h
      · rw [List.mem_singleton.mp h]; omega
  · rintro H1 ⟨b1, s1, xs, eD, lx, hx⟩
    have lx4 : xs.length = 4 := lx
    let sh : Nat → Nat := fun i => xs.getD i 0
    have hsh : ∀ i, sh i < 2 := fun i => by
      show xs.getD i 0 < 2
      rw [List.getD_eq_getElem?_getD]
      by_cases h : i < xs.length
      · rw [List.getElem?_eq_getElem h]; exact hx _ (List.getElem_mem h)
      · rw [List.getElem?_eq_none (by omega)]; decide
    refine ⟨(by show 0 ≤ sizeLine; decide), fun fa hfa => ?_⟩
    refine ⟨8, rfl, by decide, by decide, ?_⟩
    refine for_range (lo := 0) (n := Int.toNat 8) (fun a σ J => Part H1 J fa (rowsTo 8 (fgr sh) a) ∧ ∃ x3 x4 x5 x6 x7, σ = [some (.ref p), some (.ref D), some (.ref fa), x3, x4, x5, x6, x7])
      ⟨Part.start (Same.refl H1) hfa, _, _, _, _, _, rfl⟩ ?_ ?_
    · rintro a _ J ha ⟨pa, x3, x4, x5, x6, x7, rfl⟩
      have ha' : a < 8 := ha
      refine ⟨(by show 0 ≤ sizeLine; decide), fun qa hqa => ?_⟩
      refine ⟨8, rfl, by decide, by decide, ?_⟩
      refine for_range (lo := 0) (n := Int.toNat 8) (fun b σ G => Same J G ∧ G qa = some (.lst ((rowTo (fgr sh) a b).map V.int)) ∧ ∃ x5 x6 x7, σ = [some (.ref p), some (.ref D), some (.ref fa), some (.int (0 + (a : Int))), some (.ref qa), x5, x6, x7])
        ⟨Same.new hqa _, upd_same, _, _, _, rfl⟩ ?_ ?_
      · rintro b _ G hb2 ⟨sG, eq, y5, y6, y7, rfl⟩
        have hb' : b < 8 := hb2
        have h4 : a % 2 * 2 + b / 4 < 4 := by omega
        have at4 : (xs.map fun x : Nat => V.int ((x : Nat) : Int))[a % 2 * 2 + b / 4]? = some (.int ((sh (a % 2 * 2 + b / 4) : Nat) : Int)) := by
          rw [List.getElem?_map, List.getElem?_eq_getElem (by omega)]
          show some (V.int ((xs[a % 2 * 2 + b / 4] : Nat) : Int)) = some (V.int ((xs.getD (a % 2 * 2 + b / 4) 0 : Nat) : Int))
          rw [List.getD_eq_getElem?_getD, List.getElem?_eq_getElem (by omega)]; rfl
        refine ⟨_, rfl, _, _, rfl, rfl, ⟨by decide, by decide⟩, _, rfl, _, _, rfl, rfl, ⟨by decide, by decide⟩, _, _, rfl, rfl, _, rfl, _, rfl, _, _, rfl, rfl, (by show (0 : Int) < 2; decide), _, _, rfl, rfl, .inr ⟨by decide, by decide⟩, _, rfl, _, _, rfl, rfl, ⟨by decide, by decide⟩, _, _, rfl, rfl,
          D, _, _, _, rfl, rfl, SqL.of (sG _ _ (pa.same _ _ eD)), at_of (j := a % 2 * 2 + b / 4) (by omega) at4, _, _, rfl, rfl, _, _, rfl, rfl, (by show (0 : Int) < 2; decide), ?_⟩
        refine ⟨_, rfl, Or.inl ⟨rfl, _, SqL.of eq⟩, _, rfl, _, _, rfl, rfl, ⟨by decide, by decide⟩, _, _, rfl, rfl, .inr ⟨by decide, by decide⟩, _, rfl, _, _, rfl, rfl, .inr ⟨by decide, by decide⟩, _, _, rfl, rfl, _, rfl, _, _, rfl, rfl, (by show (0 : Int) < 2; decide), _, _, rfl, rfl,
          qa, _, _, rfl, rfl, eq, by rw [rowTo_len]; exact small1000 (by omega), ?_⟩
        refine ⟨fun c o ec => by rw [upd_ne (ne_of_none ec hqa)]; exact sG c o ec, ?_, _, _, _, rfl⟩
        rw [upd_same, rowTo_next, List.map_append]
        refine congrArg (fun z => some (HO.lst (_ ++ [V.int z]))) ?_
        show (0 + (a : Int)) / 4 * 4 + ((0 + (a : Int)) / 2 + (0 + (b : Int)) / 2 + ((sh (a % 2 * 2 + b / 4) : Nat) : Int)) % 2 * 2 + (0 + (b : Int)) % 2 = ((a / 4 * 4 + (a / 2 + b / 2 + sh (a % 2 * 2 + b / 4)) % 2 * 2 + b % 2 : Nat) : Int)
        generalize sh (a % 2 * 2 + b / 4) = z
        omega
      · rintro _ G ⟨sG, eq, y5, y6, y7, rfl⟩
        obtain ⟨acc, ea, la, p1⟩ := pa.add sG hqa eq
        refine ⟨_, rfl, Or.inl ⟨rfl, _, SqL.of ea⟩, _, rfl, fa, acc, _, rfl, rfl, ea, by rw [la, rowsTo_len]; exact small1000 (by omega), ?_, _, _, _, _, _, rfl⟩
        rw [rowsTo_next]
        exact p1
    · rintro _ J ⟨pa, x3, x4, x5, x6, x7, rfl⟩
      have pa' : Part H1 J fa (tab 8 (fgr sh)) := pa
      have bJ : Bx J p := by
        obtain ⟨c0, c1, c2, e, z⟩ := b1
        exact ⟨c0, c1, c2, pa'.same _ _ e, z⟩
      exact ⟨_, rfl, q _ _ sh hsh (pa'.fin.same (nw_back s1 b1)) bJ (s1.trans (Sx.of pa'.same))⟩
end
end L

set_option Elab.async false
set_option linter.all false
set_option maxRecDepth 100000
set_option maxHeartbeats 4000000
namespace L
open PySem L2 KX
abbrev sWords : Stmt := top 37
def wds : List Str := ["a", "b", "aa", "ab", "ba", "bb", ""]
def wd (i : Nat) : Str := wds.getD i ""
def fwd (a b : Nat) : Nat := if a < 2 ∧ b < 2 then 2 + 2 * a + b else 6
theorem asf_words : Asf 7 fwd := by
  refine ⟨fun a b ha hb => by unfold fwd; split <;> omega, fun a b c ha hb hc => ?_⟩
  have e : ∀ x y, ¬ fwd x y < 2 := fun x y => by unfold fwd; split <;> omega
  have l : fwd (fwd a b) c = 6 := if_neg fun z => e a b z.1
  have r : fwd a (fwd b c) = 6 := if_neg fun z => e b c z.2
  rw [l, r]
def bothOf (x y : Str) : Str := if (!decide (V.str x = V.str "")) = true then (if (!decide (V.str y = V.str "")) = true then x ++ y else "") else ""
def keyOf (z : Str) : Str := if decide (((z.length : Nat) : Int) < 3) = true then z else ""
def wOk (a b : Nat) : Bool := (wds[fwd a b]? == some (keyOf (bothOf (wd a) (wd b)))) && decide ((wd a).length + (wd b).length ≤ 4) && decide ((bothOf (wd a) (wd b)).length ≤ 4) &&
  eqV (.str (keyOf (bothOf (wd a) (wd b)))) (.str (keyOf (bothOf (wd a) (wd b)))) && (List.range (fwd a b)).all fun m => !eqV (.str (wd m)) (.str (keyOf (bothOf (wd a) (wd b))))
theorem wOk_all : ((List.range 7).all fun a => (List.range 7).all fun b => wOk a b) = true := by decide +kernel
theorem wd_at {m : Nat} {z : V} (h : (wds.map V.str)[m]? = some z) : z = .str (wd m) := by
  rw [List.getElem?_map] at h
  obtain ⟨x, h1, rfl⟩ := Option.map_eq_some_iff.mp h
  unfold wd
  rw [List.getD_eq_getElem?_getD, h1]; rfl
theorem w_facts {a b : Nat} (ha : a < 7) (hb : b < 7) : (wds.map V.str)[fwd a b]? = some (.str (keyOf (bothOf (wd a) (wd b)))) ∧ (wd a).length + (wd b).length ≤ 4 ∧ (bothOf (wd a) (wd b)).length ≤ 4 ∧
    eqV (.str (keyOf (bothOf (wd a) (wd b)))) (.str (keyOf (bothOf (wd a) (wd b)))) = true ∧ ∀ (m : Nat) (z' : V), m < fwd a b → (wds.map V.str)[m]? = some z' → eqV z' (.str (keyOf (bothOf (wd a) (wd b)))) = false := by
  have h := List.all_eq_true.mp (List.all_eq_true.mp wOk_all a (List.mem_range.mpr ha)) b (List.mem_range.mpr hb)
  unfold wOk at h
  obtain ⟨h, h5⟩ := Bool.and_eq_true_iff.mp h
  obtain ⟨h, h4⟩ := Bool.and_eq_true_iff.mp h
  obtain ⟨h, h3⟩ := Bool.and_eq_true_iff.mp h
  obtain ⟨h1, h2⟩ := Bool.and_eq_true_iff.mp h
  refine ⟨by rw [List.getElem?_map, eq_of_beq h1]; rfl, of_decide_eq_true h2, of_decide_eq_true h3, h4, fun m z' hm hz => ?_⟩
  have e := List.all_eq_true.mp h5 m (List.mem_range.mpr hm)
  rw [wd_at hz]
  exact Bool.not_eq_true' _ |>.mp e
def spWords : Sp := fun vs H Q _ => vs = [] ∧ ∀ v H', RowsL (nw H H') v (tab 7 fwd) → Same H H' → Q v H'
section
variable {P : Program} {w : World} {K : PySem.W.Frag} {mg : Str → Option Value} {base : Heap} {f g gn : Addr} {fd gd gnd : FuncData}
theorem scWords : FnScope ["words", "found", "one", "row", "other", "both"] [] (defScope sWords) := ⟨rfl, rfl, rfl, by decide +kernel, rfl, by decide +kernel, by decide +kernel⟩
theorem ok_words (F : Fun K "_law_words" "_law_words" sWords f fd) (M : Mn mg) : FnOk P w K mg base CX0 1 f fd [] spWords := by
  refine F.ok scWords (fun vs H Q E h => ?_) (fun cdv A outer s H vs Q E hr h => ?_)
  · obtain ⟨rfl, _⟩ := h
    rfl
  obtain ⟨rfl, q⟩ := h
  refine ⟨_, pss_cons (ps_set (i := 0) scWords.nd rfl (Or.inl rfl) (pe_lst (pa_cons pe_str (pa_cons pe_str (pa_cons pe_str (pa_cons pe_str (pa_cons pe_str (pa_cons pe_str (pa_cons pe_str pa_nil)))))))))
    (pss_cons (ps_set (i := 1) scWords.nd rfl (Or.inl rfl) (pe_lst pa_nil))
    (pss_cons (ps_for PassesOwn.never rfl (pi_list (pv 0)) (pg_name (i := 2) scWords.nd rfl (Or.inl rfl))
      (pss_cons (ps_set (i := 3) scWords.nd rfl (Or.inl rfl) (pe_lst pa_nil))
      (pss_cons (ps_for PassesOwn.never rfl (pi_list (pv 0)) (pg_name (i := 4) scWords.nd rfl (Or.inl rfl))
        (pss_cons (ps_set (i := 5) scWords.nd rfl (Or.inl rfl) (pe_mo (pe_ifExp (pw_and (pt_cmpR op_ne (pv 2) pe_str (nomark _)) (pw_and1 (pt_cmpR op_ne (pv 4) pe_str (nomark _)))).pt (pe_op op_add_str (pv 2) (pv 4)) pe_str)))
        (pss_one (ps_expr (pe_bm PySem.F.plainAttrs_list PySem.F.slot_list_append PySem.F.type_list_append mt_append (pv 3) (pa_cons
          (pe_bm PySem.F.plainAttrs_list PySem.F.slot_list_index PySem.F.type_list_index mt_index (pv 0) (pa_cons
            (pe_mo (pe_ifExp (pt_cmpR op_lt (pe_callB call_len_str (by rfl) M.len PySem.boot_len (pa_cons (pv 5) pa_nil)) pe_int (nomark _)) (pv 5) pe_str)) pa_nil)) pa_nil))))))
      (pss_one (ps_expr (pe_bm PySem.F.plainAttrs_list PySem.F.slot_list_append PySem.F.type_list_append mt_append (pv 1) (pa_cons (pv 3) pa_nil)))))))
    (pss_one (ps_ret (pv 1))))), ?_⟩
  refine ⟨(by show 7 ≤ sizeLine; decide), fun wa hwa => ?_⟩
  have s0 : Same H (upd H wa (.lst (wds.map V.str))) := Same.new hwa _
  have e0 : (upd H wa (.lst (wds.map V.str))) wa = some (.lst (wds.map V.str)) := upd_same
  refine ⟨(by show 0 ≤ sizeLine; decide), fun fa hfa => ?_⟩
  have hwf : wa ≠ fa := ne_of_none e0 hfa
  have hfn : H fa = none := s0.free hfa
  have L7 : (wds.map V.str).length = 7 := rfl
  refine ⟨_, rfl, wa, rfl, ⟨_, SqL.of (by rw [upd_ne hwf]; exact e0)⟩, ?_⟩
  refine for_it (walk_list (xs := wds.map V.str)) (fun a σ J => J wa = some (.lst (wds.map V.str)) ∧ Part H J fa (rowsTo 7 fwd a) ∧ ∃ x2 x3 x4 x5, σ = [some (.ref wa), some (.ref fa), x2, x3, x4, x5])
    ⟨by rw [upd_ne hwf]; exact e0, ⟨s0.trans (Same.new hfa _), hfn, [], upd_same, .nil⟩, _, _, _, _, rfl⟩ (fun i σ J _ z => SqL.of z.1) ?_ ?_
  · rintro a x _ J J1 ha ⟨eW, pa, x2, x3, x4, x5, rfl⟩ ⟨rfl, hx⟩
    cases wd_at hx
    refine ⟨(by show 0 ≤ sizeLine; decide), fun qa hqa => ?_⟩
    have hwq : wa ≠ qa := ne_of_none eW hqa
    refine ⟨_, rfl, wa, rfl, ⟨_, SqL.of (by rw [upd_ne hwq]; exact eW)⟩, ?_⟩
    refine for_it (walk_list (xs := wds.map V.str)) (fun b σ G => G wa = some (.lst (wds.map V.str)) ∧ Same J1 G ∧ G qa = some (.lst ((rowTo fwd a b).map V.int)) ∧ ∃ x4 x5, σ = [some (.ref wa), some (.ref fa), some (.str (wd a)), some (.ref qa), x4, x5])
      ⟨by rw [upd_ne hwq]; exact eW, Same.new hqa _, upd_same, _, _, rfl⟩ (fun i σ J _ z => SqL.of z.1) ?_ ?_
    · rintro b y _ G G1 hb ⟨eW2, sG, eq, y4, y5, rfl⟩ ⟨rfl, hy⟩
      cases wd_at hy
      obtain ⟨f1, f2, f3, f4, f5⟩ := w_facts (a := a) (b := b) ha hb
      refine ⟨fun z G2 => G1 = G2 ∧ z = .str (bothOf (wd a) (wd b)), ?_, ?_⟩
      · have le : (wd a).length + (wd b).length ≤ sizeLine := Nat.le_trans f2 (by decide)
        refine ⟨_, rfl, rfl, _, rfl, ite2 (fun c => ⟨_, rfl, rfl, _, rfl, ite2 (fun d => ⟨_, rfl, _, rfl, _, _, rfl, rfl, le, rfl, ?_⟩) fun d => ⟨rfl, ?_⟩⟩) fun c => iteF ⟨rfl, ?_⟩⟩
        · unfold bothOf; rw [if_pos c, if_pos d]
        · unfold bothOf; rw [if_pos c, if_neg d]
        · unfold bothOf; rw [if_neg c]
      rintro _ _ ⟨rfl, rfl⟩
      refine ⟨_, rfl, Or.inl ⟨rfl, _, SqL.of eq⟩, _, rfl, Or.inl ⟨rfl, _, SqL.of eW2⟩, fun z G2 => G1 = G2 ∧ z = .str (keyOf (bothOf (wd a) (wd b))), ?_, ?_⟩
      · refine ⟨_, rfl, _, rfl, Nat.le_trans f3 (by decide), _, _, rfl, rfl, _, rfl, ite2 (fun c => ⟨_, rfl, rfl, ?_⟩) fun c => ⟨rfl, ?_⟩⟩
        · unfold keyOf; rw [if_pos c]
        · unfold keyOf; rw [if_neg c]
      rintro _ _ ⟨rfl, rfl⟩
      refine ⟨wa, _, _, fwd a b, _, rfl, rfl, SqL.of eW2, rfl, rfl, f1, f4, f5, qa, _, _, rfl, rfl, eq, by rw [rowTo_len]; exact small1000 (by have : b < 7 := hb; omega), ?_⟩
      refine ⟨by rw [upd_ne hwq]; exact eW2, fun c o ec => by rw [upd_ne (ne_of_none ec hqa)]; exact sG c o ec, ?_, _, _, rfl⟩
      rw [upd_same, rowTo_next, List.map_append]; rfl
    · rintro _ G ⟨eW2, sG, eq, y4, y5, rfl⟩
      obtain ⟨acc, ea, la, p1⟩ := pa.add sG hqa eq
      refine ⟨_, rfl, Or.inl ⟨rfl, _, SqL.of ea⟩, _, rfl, fa, acc, _, rfl, rfl, ea, by rw [la, rowsTo_len]; exact small1000 (by have : a < 7 := ha; omega), by rw [upd_ne hwf]; exact eW2, ?_, _, _, _, _, rfl⟩
      rw [rowsTo_next]
      exact p1
  · rintro _ J ⟨eW, pa, x2, x3, x4, x5, rfl⟩
    have pa' : Part H J fa (tab 7 fwd) := pa
    exact ⟨_, rfl, q _ _ pa'.fin pa'.same⟩
end
end L

set_option Elab.async false
set_option linter.all false
set_option maxRecDepth 100000
set_option maxHeartbeats 4000000
/-! Own layer: tables of maps under composition. Plain lists and numbers. -/
namespace KX
/-- a map of k states -/
def Mp (k : Nat) (m : List Nat) : Prop := m.length = k ∧ ∀ x, x ∈ m → x < k
/-- first x, then y -/
def cmp (x y : List Nat) : List Nat := x.map fun s => y.getD s 0
theorem getD_lt {k : Nat} {m : List Nat} (h : Mp k m) {s : Nat} (hs : s < k) : m.getD s 0 < k := by
  have hl : s < m.length := by rw [h.1]; exact hs
  rw [List.getD_eq_getElem?_getD, List.getElem?_eq_getElem hl]
  exact h.2 _ (List.getElem_mem hl)
theorem cmp_mp {k : Nat} {x y : List Nat} (hx : Mp k x) (hy : Mp k y) : Mp k (cmp x y) := by
  refine ⟨by unfold cmp; rw [List.length_map]; exact hx.1, fun z hz => ?_⟩
  obtain ⟨s, hs, rfl⟩ := List.mem_map.mp hz
  exact getD_lt hy (hx.2 s hs)
theorem cmp_as {k : Nat} {x y z : List Nat} (hx : Mp k x) (hy : Mp k y) : cmp (cmp x y) z = cmp x (cmp y z) := by
  unfold cmp
  rw [List.map_map]
  refine List.map_congr_left fun s hs => ?_
  have hl : s < y.length := by rw [hy.1]; exact hx.2 s hs
  show z.getD (y.getD s 0) 0 = (y.map fun s => z.getD s 0).getD s 0
  rw [List.getD_eq_getElem?_getD (l := y.map _), List.getElem?_map, List.getElem?_eq_getElem hl, List.getD_eq_getElem?_getD (l := y), List.getElem?_eq_getElem hl]; rfl
/-- made of letters -/
inductive Gen (ls : List (List Nat)) : List Nat → Prop
  | base {l : List Nat} : l ∈ ls → Gen ls l
  | step {x l : List Nat} : Gen ls x → l ∈ ls → Gen ls (cmp x l)
theorem Gen.mp {k : Nat} {ls : List (List Nat)} (hl : ∀ l, l ∈ ls → Mp k l) {m : List Nat} (g : Gen ls m) : Mp k m := by
  induction g with
  | base h => exact hl _ h
  | step _ h ih => exact cmp_mp ih (hl _ h)
theorem gen_closed {k : Nat} {ls ms : List (List Nat)} (hl : ∀ l, l ∈ ls → Mp k l) (hg : ∀ x, x ∈ ms → Gen ls x) (hc : ∀ x, x ∈ ms → ∀ l, l ∈ ls → cmp x l ∈ ms) {x y : List Nat} (hx : x ∈ ms) (g : Gen ls y) : cmp x y ∈ ms := by
  induction g with
  | base h => exact hc x hx _ h
  | step g h ih =>
    rw [← cmp_as ((hg x hx).mp hl) (g.mp hl)]
    exact hc _ ih _ h
/-- the place of a map -/
def fmp (ms : List (List Nat)) (a b : Nat) : Nat := ms.idxOf (cmp (ms.getD a []) (ms.getD b []))
theorem getD_mem {ms : List (List Nat)} {a : Nat} (h : a < ms.length) : ms.getD a [] ∈ ms := by
  rw [List.getD_eq_getElem?_getD, List.getElem?_eq_getElem h]
  exact List.getElem_mem h
theorem idx_get {ms : List (List Nat)} {m : List Nat} (h : m ∈ ms) : ms.idxOf m < ms.length ∧ ms[ms.idxOf m]? = some m := by
  have hl : ms.idxOf m < ms.length := List.idxOf_lt_length_iff.mpr h
  exact ⟨hl, by rw [List.getElem?_eq_getElem hl, List.getElem_idxOf hl]⟩
theorem idx_ahead {ms : List (List Nat)} {m : List Nat} : ∀ {j : Nat} {z : List Nat}, j < ms.idxOf m → ms[j]? = some z → z ≠ m := by
  induction ms with
  | nil => intro j z h e; cases e
  | cons a ms ih =>
    intro j z h e hz
    subst hz
    rw [List.idxOf_cons] at h
    by_cases ha : a = z
    · subst ha
      rw [show (a == a) = true from beq_self_eq_true a] at h
      exact absurd h (Nat.not_lt_zero _)
    · rw [show (a == z) = false from beq_eq_false_iff_ne.mpr ha] at h
      cases j with
      | zero => exact ha (Option.some.inj e)
      | succ j =>
        have h' : j + 1 < ms.idxOf z + 1 := h
        exact ih (j := j) (by omega) e rfl
/-- a list of maps closed under composition -/
structure Cl (k : Nat) (ms : List (List Nat)) : Prop where
  mp : ∀ m, m ∈ ms → Mp k m
  cl : ∀ x, x ∈ ms → ∀ y, y ∈ ms → cmp x y ∈ ms
theorem Cl.at_ {k : Nat} {ms : List (List Nat)} (C : Cl k ms) {a b : Nat} (ha : a < ms.length) (hb : b < ms.length) : fmp ms a b < ms.length ∧ ms[fmp ms a b]? = some (cmp (ms.getD a []) (ms.getD b [])) :=
  idx_get (C.cl _ (getD_mem ha) _ (getD_mem hb))
theorem asf_maps {k : Nat} {ms : List (List Nat)} (C : Cl k ms) : Asf ms.length (fmp ms) := by
  refine ⟨fun a b ha hb => (C.at_ ha hb).1, fun a b c ha hb hc => ?_⟩
  have h1 := C.at_ ha hb
  have h2 := C.at_ hb hc
  have e1 : ms.getD (fmp ms a b) [] = cmp (ms.getD a []) (ms.getD b []) := by rw [List.getD_eq_getElem?_getD, h1.2]; rfl
  have e2 : ms.getD (fmp ms b c) [] = cmp (ms.getD b []) (ms.getD c []) := by rw [List.getD_eq_getElem?_getD, h2.2]; rfl
  unfold fmp at *
  rw [e1, e2, cmp_as (C.mp _ (getD_mem ha)) (C.mp _ (getD_mem hb))]
/-- what the search knows: letters ls, found ms, i of them walked -/
structure Srch (k : Nat) (ls ms : List (List Nat)) (i : Nat) : Prop where
  lm : ∀ l, l ∈ ls → Mp k l
  sub : ∀ l, l ∈ ls → l ∈ ms
  gen : ∀ x, x ∈ ms → Gen ls x
  done : ∀ j, j < i → ∀ x, ms[j]? = some x → ∀ l, l ∈ ls → cmp x l ∈ ms
theorem Srch.cl {k : Nat} {ls ms : List (List Nat)} {i : Nat} (S : Srch k ls ms i) (h : ms.length ≤ i) : Cl k ms := by
  refine ⟨fun m hm => (S.gen m hm).mp S.lm, fun x hx y hy => gen_closed S.lm S.gen (fun x hx l hl => ?_) hx (S.gen y hy)⟩
  obtain ⟨j, hj, rfl⟩ := List.mem_iff_getElem.mp hx
  exact S.done j (by omega) _ (List.getElem?_eq_getElem hj) l hl
theorem Srch.more {k : Nat} {ls ms : List (List Nat)} {i : Nat} (S : Srch k ls ms i) {m : List Nat} (g : Gen ls m) (hi : i ≤ ms.length) : Srch k ls (ms ++ [m]) i := by
  refine ⟨S.lm, fun l hl => List.mem_append_left _ (S.sub l hl), fun x hx => ?_, fun j hj x hx l hl => ?_⟩
  · rcases List.mem_append.mp hx with h | h
    · exact S.gen x h
    · rw [List.mem_singleton.mp h]; exact g
  · rw [List.getElem?_append_left (by omega)] at hx
    exact List.mem_append_left _ (S.done j hj x hx l hl)
end KX

set_option Elab.async false
set_option linter.all false
set_option maxRecDepth 100000
set_option maxHeartbeats 4000000
namespace L
open PySem L2 KX
abbrev sMaps : Stmt := top 33
/-! ### tuples of numbers as data -/
def nv (m : List Nat) : List V := m.map fun x : Nat => V.int ((x : Nat) : Int)
def nD (m : List Nat) : List PyData := m.map fun x : Nat => PyData.int ((x : Nat) : Int)
def tD (m : List Nat) : PyData := .tuple (nD m)
theorem nD_lay : ∀ m : List Nat, PyData.canLayAll0 (nD m) = true
  | [] => by unfold nD; simp [PyData.canLayAll0]
  | x :: m => by
    have h := nD_lay m
    unfold nD at h ⊢
    simp [PyData.canLayAll0, PyData.canLay0, h]
theorem nD_depth : ∀ m : List Nat, PyData.depthAll (nD m) = 0
  | [] => by unfold nD; simp [PyData.depthAll]
  | x :: m => by
    have h := nD_depth m
    unfold nD at h ⊢
    simp [PyData.depthAll, PyData.depth, h]
theorem tD_lay : ∀ ms : List (List Nat), PyData.canLayAll0 (ms.map tD) = true
  | [] => by simp [PyData.canLayAll0]
  | m :: ms => by
    have h := tD_lay ms
    have h2 := nD_lay m
    simp only [List.map_cons, PyData.canLayAll0, tD, PyData.canLay0, h2, Bool.true_and]
    exact h
theorem tD_depth : ∀ ms : List (List Nat), PyData.depthAll (ms.map tD) ≤ 1
  | [] => by simp [PyData.depthAll]
  | m :: ms => by
    have h := tD_depth ms
    have h2 := nD_depth m
    have h3 : (tD m).depth = 1 := by unfold tD; simp only [PyData.depth, h2]
    simp only [List.map_cons, PyData.depthAll, h3]
    omega
theorem tD_shaped (m : List Nat) : SeqAt.shaped (tD m) = true := by
  have h2 : (tD m).depth = 1 := by unfold tD; simp only [PyData.depth, nD_depth m]
  have h1 : (tD m).canLay0 = true := by unfold tD; simp only [PyData.canLay0]; exact nD_lay m
  show ((tD m).canLay0 && decide ((tD m).depth ≤ 64)) = true
  rw [Bool.and_eq_true]
  exact ⟨h1, decide_eq_true (by omega)⟩
theorem tDs_shaped (ms : List (List Nat)) : SeqAt.shaped (.list (ms.map tD)) = true := by
  have h1 := tD_depth ms
  have h2 : PyData.depth (.list (ms.map tD)) ≤ 64 := by
    simp only [PyData.depth]
    omega
  show (PyData.canLay0 (.list (ms.map tD)) && decide (PyData.depth (.list (ms.map tD)) ≤ 64)) = true
  rw [Bool.and_eq_true]
  exact ⟨by simp only [PyData.canLay0]; exact tD_lay ms, decide_eq_true h2⟩
theorem nD_eqv : ∀ a b : List Nat, PyData.eqvAll (nD a) (nD b) = decide (a = b)
  | [], [] => by unfold nD; simp [PyData.eqvAll]
  | [], _ :: _ => by unfold nD; simp [PyData.eqvAll]
  | _ :: _, [] => by unfold nD; simp [PyData.eqvAll]
  | x :: a, y :: b => by
    have h := nD_eqv a b
    unfold nD at h ⊢
    simp only [List.map_cons, PyData.eqvAll, PyData.eqv, h]
    by_cases e : x = y
    · subst e
      rw [show (((x : Int) == (x : Int))) = true from beq_self_eq_true _, Bool.true_and]
      by_cases e2 : a = b
      · subst e2; simp
      · rw [decide_eq_false e2, decide_eq_false fun z => e2 (List.cons.inj z).2]
    · rw [show (((x : Int) == (y : Int))) = false from beq_eq_false_iff_ne.mpr (by omega), Bool.false_and, decide_eq_false fun z => e (List.cons.inj z).1]
theorem tD_eqv (a b : List Nat) : PyData.eqv (tD a) (tD b) = decide (a = b) := by
  unfold tD
  simp only [PyData.eqv]
  exact nD_eqv a b
theorem tD_any (ms : List (List Nat)) (m : List Nat) : ((ms.map tD).any fun z => PyData.eqv z (tD m)) = decide (m ∈ ms) := by
  rw [List.any_map]
  rw [Bool.eq_iff_iff, List.any_eq_true, decide_eq_true_iff]
  constructor
  · rintro ⟨x, hx, e⟩
    have e' : PyData.eqv (tD x) (tD m) = true := e
    rw [tD_eqv] at e'
    exact (of_decide_eq_true e') ▸ hx
  · intro h
    refine ⟨m, h, ?_⟩
    show PyData.eqv (tD m) (tD m) = true
    rw [tD_eqv]; exact decide_eq_true rfl
theorem dp_nv {K : PySem.W.Frag} {G : Hp} : ∀ m : List Nat, DpAll K G (nv m) (nD m)
  | [] => .nil
  | x :: m => .cons (.int _) (dp_nv m)
theorem dp_tup {K : PySem.W.Frag} {G : Hp} {t : Addr} {m : List Nat} (h : G t = some (.tup (nv m))) : Dp K G (.ref t) (tD m) := .tup (SqT.of h) (dp_nv m)
theorem dp_tups {K : PySem.W.Frag} {G : Hp} {ts : List Addr} {ms : List (List Nat)} (h : Paired (fun t m => G t = some (.tup (nv m))) ts ms) : DpAll K G (ts.map V.ref) (ms.map tD) := by
  induction h with
  | nil => exact .nil
  | cons h _ ih => exact .cons (dp_tup h) ih
/-- the maps found so far stand at fa -/
structure Mi (H : Hp) (p fa : Addr) (J : Hp) (ms : List (List Nat)) : Prop where
  bx : Bx J p
  sx : Sx p H J
  nf : H fa = none
  np : fa ≠ p
  fm : ∃ ts, J fa = some (.lst (ts.map V.ref)) ∧ Paired (fun t m => J t = some (.tup (nv m))) ts ms
section
variable {H J G : Hp} {p fa q : Addr} {ms : List (List Nat)} {m : List Nat}
theorem Bx.same (b : Bx H p) (s : Same H J) : Bx J p := let ⟨b0, b1, b2, e, r⟩ := b; ⟨b0, b1, b2, s _ _ e, r⟩
theorem Mi.to (h : Mi H p fa J ms) (s : Same J G) : Mi H p fa G ms :=
  let ⟨ts, e, pr⟩ := h.fm
  ⟨h.bx.same s, h.sx.trans (Sx.of s), h.nf, h.np, ts, s _ _ e, L2.Paired.mapP pr fun _ _ z => s _ _ z⟩
theorem Bx.ne_tup {t : Addr} {xs : List V} (b : Bx H p) (h : H t = some (.tup xs)) : t ≠ p := fun z => by
  obtain ⟨b0, b1, b2, e, r⟩ := b
  rw [z, e] at h
  cases h
theorem Mi.took (h : Mi H p fa J ms) (s : Sx p J G) (b : Bx G p) : Mi H p fa G ms :=
  let ⟨ts, e, pr⟩ := h.fm
  ⟨b, h.sx.trans s, h.nf, h.np, ts, s _ _ h.np e, L2.Paired.mapP pr fun _ _ z => s _ _ (h.bx.ne_tup z) z⟩
theorem Mi.start (b : Bx G p) (s : Sx p H G) (n : G fa = none) : Mi H p fa (upd G fa (.lst [])) [] :=
  ⟨b.new n, s.trans (Sx.new n), s.free b n, b.ne n, [], upd_same, .nil⟩
theorem Mi.add (h : Mi H p fa J ms) (e : J q = some (.tup (nv m))) : ∃ acc, J fa = some (.lst acc) ∧ acc.length = ms.length ∧ Mi H p fa (upd J fa (.lst (acc ++ [V.ref q]))) (ms ++ [m]) := by
  obtain ⟨ts, e1, pr⟩ := h.fm
  refine ⟨_, e1, by rw [List.length_map]; exact pr.length, h.bx.at_ne h.np, fun b o nb eb => by rw [upd_ne (ne_of_none eb h.nf)]; exact h.sx b o nb eb, h.nf, h.np, ts ++ [q], by rw [upd_same, List.map_append]; rfl, ?_⟩
  have nt : ∀ {t : Addr} {xs : List V}, J t = some (.tup xs) → t ≠ fa := fun {t xs} z y => by rw [y, e1] at z; cases z
  exact pair_app (L2.Paired.mapP pr fun t m z => by rw [upd_ne (nt z)]; exact z) (by rw [upd_ne (nt e)]; exact e)
theorem Mi.sq {K : PySem.W.Frag} (h : Mi H p fa J ms) : ∃ xs, SqL K J fa xs ∧ xs.length = ms.length := let ⟨ts, e, pr⟩ := h.fm; ⟨_, SqL.of e, by rw [List.length_map]; exact pr.length⟩
theorem Mi.dp {K : PySem.W.Frag} (h : Mi H p fa J ms) : Dp K J (.ref fa) (.list (ms.map tD)) := let ⟨ts, e, pr⟩ := h.fm; .lst (SqL.of e) (dp_tups pr)
end
end L

set_option Elab.async false
set_option linter.all false
set_option maxRecDepth 100000
set_option maxHeartbeats 4000000
namespace L
open PySem L2 KX
theorem ixt {X : Cx} {K : PySem.W.Frag} (hK : X.K = K) : IxR X (rIxT K) := by subst hK; exact ix_tup
theorem pit {X : Cx} {K : PySem.W.Frag} (hK : X.K = K) {tg l : Expr} {tl : TE} (h : PE X l tl) : PI X tg l (iTup K tl) := by subst hK; exact pi_tup h
theorem pe_idx {X : Cx} {K : PySem.W.Frag} (hK : X.K = K) (hu : X.A.units + 65 < cLine) {o e : Expr} {apos cpos : Pos} {to : TE} {t : TA} (ho : PE X o to) (ha : PA X [e] t)
    (hbase : attributeBase o "index" X.env (eval o X.env) = eval o X.env := by rfl)
    (hfew : ((backTo cpos (starEach [e] X.env)).all (fun x => !x.1) && (backToKw cpos (keywordEach [] X.env)).all (fun x => x.1.isSome)
      && decide (([e] : List Expr).length + ([] : List Keyword).length + (if ([] : List Keyword).isEmpty then 0 else 1) < 30)) = true := by rfl)
    (hline : (apos.endLine == cpos.line) = true := by rfl) (hs : starEach [e] X.env = (false, eval e X.env) :: starEach [] X.env := by rfl) (hplain : (backTo cpos (starEach [] X.env)).any (·.1) = false := by rfl) :
    PE X (.Call (.Attribute o "index" apos) [e] [] cpos) (tBM K "list" (rIndexD K) to t) := by
  subst hK
  exact pe_bm PySem.F.plainAttrs_list PySem.F.slot_list_index PySem.F.type_list_index (mt_indexD hu) ho ha hbase hfew hline hs hplain
theorem hu65 {k : Nat} {A : Around} (r : Room k A) : A.units + 65 < cLine := by have := r.un; omega
def scReached : Scope := { kind := .function, names := [(Str.ofString ".0", .local), (Str.ofString "other", .cell), (Str.ofString "tuple", .globalImplicit), (Str.ofString "one", .cell)], isGenerator := false, isCoroutine := false }
/-- the letters stand at la -/
def Lt (la : Addr) (ts : List Addr) (ms : List (List Nat)) (J : Hp) : Prop := J la = some (.lst (ts.map V.ref)) ∧ Paired (fun t m => J t = some (.tup (nv m))) ts ms
theorem Lt.to {la : Addr} {ts : List Addr} {ms : List (List Nat)} {J G : Hp} (h : Lt la ts ms J) (s : Same J G) : Lt la ts ms G := ⟨s _ _ h.1, L2.Paired.mapP h.2 fun _ _ z => s _ _ z⟩
theorem Lt.upd {la fa : Addr} {ts : List Addr} {ms : List (List Nat)} {J : Hp} {acc xs : List V} (h : Lt la ts ms J) (n : la ≠ fa) (e : J fa = some (.lst acc)) : Lt la ts ms (upd J fa (.lst xs)) :=
  ⟨by rw [upd_ne n]; exact h.1, L2.Paired.mapP h.2 fun t m z => by rw [upd_ne fun y => by rw [y, e] at z; cases z]; exact z⟩
theorem nv_at {m : List Nat} {i : Nat} {v : V} (h : (nv m)[i]? = some v) : ∃ x : Nat, m[i]? = some x ∧ v = .int (x : Int) := by
  unfold nv at h
  rw [List.getElem?_map] at h
  obtain ⟨x, h1, h2⟩ := Option.map_eq_some_iff.mp h
  exact ⟨x, h1, h2.symm⟩
theorem nv_get {k : Nat} {m : List Nat} (h : Mp k m) {s : Nat} (hs : s < k) : (nv m)[s]? = some (.int ((m.getD s 0 : Nat) : Int)) := by
  have hl : s < m.length := by rw [h.1]; exact hs
  unfold nv
  rw [List.getElem?_map, List.getD_eq_getElem?_getD, List.getElem?_eq_getElem hl]; rfl
theorem nv_len (m : List Nat) : (nv m).length = m.length := by unfold nv; rw [List.length_map]
theorem cmp_take {x l : List Nat} {b s : Nat} (h : x[b]? = some s) : (cmp x l).take (b + 1) = (cmp x l).take b ++ [l.getD s 0] := by
  rw [List.take_add_one]
  unfold cmp
  rw [List.getElem?_map, h]; rfl
theorem ref_at {ts : List Addr} {i : Nat} {v : V} (h : (ts.map V.ref)[i]? = some v) : ∃ t, ts[i]? = some t ∧ v = .ref t := by
  rw [List.getElem?_map] at h
  obtain ⟨x, h1, h2⟩ := Option.map_eq_some_iff.mp h
  exact ⟨x, h1, h2.symm⟩
theorem pair_to {α β : Type} {F : α → β → Prop} : ∀ {as : List α} {bs : List β} {i : Nat} {b : β}, Paired F as bs → bs[i]? = some b → ∃ a, as[i]? = some a ∧ F a b
  | _, _, _, _, .nil, e => by simp at e
  | _, _, 0, _, .cons h _, e => by simp at e; subst e; exact ⟨_, rfl, h⟩
  | _, _, i + 1, _, .cons _ t, e => by
    simp at e
    obtain ⟨a, h1, h2⟩ := pair_to t e
    exact ⟨a, by simpa using h1, h2⟩
def spMaps : Sp := fun vs H Q _ => ∃ p, vs = [.ref p] ∧ Bx H p ∧ ∀ v H', (v = .non ∨ ∃ n f, 1 ≤ n ∧ n ≤ 16 ∧ Asf n f ∧ RowsL (nw H H') v (tab n f)) → Bx H' p → Sx p H H' → Q v H'
abbrev nMaps : List Str := ["box", "size", "found", "turn", "one", "letters", "at", "letter", "rows", "reached", "state", "other"]
section
variable {P : Program} {w : World} {K : PySem.W.Frag} {mg : Str → Option Value} {base : Heap} {f g gn : Addr} {fd gd gnd : FuncData}
theorem scMaps : FnScope nMaps ["box"] (defScope sMaps) := ⟨rfl, rfl, rfl, by decide +kernel, rfl, by decide +kernel, by decide +kernel⟩
theorem ok_maps (F : Fun K "_law_maps" "_law_maps" sMaps f fd) (M : Mn mg) (G : FnOk P w K mg base CX0 1 g gd ["box", "size"] spTake) (bG : Binds K gd ["box", "size"] []) (kG : PySem.W.keepIn K (.ref g) = true) (mG : mg "_law_take" = some (.ref g)) :
    FnOk P w K mg base CX0 2 f fd ["box"] spMaps := by
  refine F.ok scMaps (fun vs H Q E h => ?_) (fun cdv A outer s H vs Q E hr h => ?_)
  · obtain ⟨p, rfl, _⟩ := h
    rfl
  obtain ⟨p, rfl, hb, q⟩ := h
  refine ⟨_, pss_cons (ps_set (i := 1) scMaps.nd rfl (Or.inr rfl) (pe_op op_add pe_int (pe_call G hr (by rfl) mG kG bG .nil pass0 (pa_cons (pv 0) (pa_cons pe_int pa_nil)))))
    (pss_cons (ps_set (i := 2) scMaps.nd rfl (Or.inr rfl) (pe_lst pa_nil))
    (pss_cons (ps_for PassesOwn.never rfl (pi_range1 (by rfl) M.range (pa_cons (pe_op op_add pe_int (pe_call G hr (by rfl) mG kG bG .nil pass0 (pa_cons (pv 0) (pa_cons pe_int pa_nil)))) pa_nil)) (pg_name (i := 3) scMaps.nd rfl (Or.inl rfl))
      (pss_cons (ps_set (i := 4) scMaps.nd rfl (Or.inr rfl) (pe_callTy call_tuple_of (by rfl) M.tuple (by decide +kernel) (pa_cons (pe_lc (own := [("state", 10)]) (g := gName 10) (tt := tYes) rfl scMaps.nd (pi_range1 (by rfl) M.range (pa_cons (pv 1) pa_nil))
        (blkOk_by (N := nMaps) (sc := defScope sMaps) (by decide +kernel)) (fun _ _ _ _ _ => pg_name (i := 10) scMaps.nd rfl (Or.inl rfl)) (fun _ _ _ _ _ => pts_nil)
        (fun _ _ _ _ _ => pe_call G hr (by rfl) mG kG bG .nil pass0 (pa_cons (pv 0) (pa_cons (pv 1) pa_nil)))) pa_nil)))
      (pss_one (ps_if (pt_cmpR (op_notInD (hu65 hr)) (pv 4) (pv 2) rfl) (pss_one (ps_expr (pe_bm PySem.F.plainAttrs_list PySem.F.slot_list_append PySem.F.type_list_append mt_append (pv 2) (pa_cons (pv 4) pa_nil)))) pss_nil))))
    (pss_cons (ps_par (i := 5) (j := 6) rfl scMaps.nd rfl rfl (by decide) rfl rfl (pa_cons (pe_callTy call_list_of (by rfl) M.list (by decide +kernel) (pa_cons (pv 2) pa_nil)) (pa_cons pe_int pa_nil)) (by rfl))
    (pss_cons (ps_while PassesOwn.never (pt_mo (pw_and (pt_cmpR op_lt (pv 6) (pe_callB call_len_seq (by rfl) M.len PySem.boot_len (pa_cons (pv 2) pa_nil)) (nomark _))
        (pw_and1 (pt_cmpR op_lt (pe_callB call_len_seq (by rfl) M.len PySem.boot_len (pa_cons (pv 2) pa_nil)) pe_int (nomark _)))).pt)
      (pss_cons (ps_for PassesOwn.never rfl (pi_list (pv 5)) (pg_name (i := 7) scMaps.nd rfl (Or.inr rfl))
        (pss_cons (ps_set (i := 4) scMaps.nd rfl (Or.inr rfl) (pe_callTy call_tuple_of (by rfl) M.tuple (by decide +kernel) (pa_cons (pe_lc (own := [("state", 10)]) (g := gName 10) (tt := tYes) rfl scMaps.nd (pi_tup (pe_ix ix_list (pv 2) (pv 6) (fun _ _ => rfl)))
          (blkOk_by (N := nMaps) (sc := defScope sMaps) (by decide +kernel)) (fun _ _ _ _ _ => pg_name (i := 10) scMaps.nd rfl (Or.inl rfl)) (fun _ _ _ _ _ => pts_nil)
          (fun _ _ _ _ _ => pe_ix (ixt (K := K) rfl) (pv 7) (pv 10) (fun _ _ => rfl))) pa_nil)))
        (pss_one (ps_if (pt_cmpR (op_notInD (hu65 hr)) (pv 4) (pv 2) rfl) (pss_one (ps_expr (pe_bm PySem.F.plainAttrs_list PySem.F.slot_list_append PySem.F.type_list_append mt_append (pv 2) (pa_cons (pv 4) pa_nil)))) pss_nil))))
      (pss_one (ps_aug (i := 6) scMaps.nd rfl (.inl rfl) pe_int ip_add))))
    (pss_cons (ps_if (pt_cmpR op_gt (pe_callB call_len_seq (by rfl) M.len PySem.boot_len (pa_cons (pv 2) pa_nil)) pe_int (nomark _)) (pss_one (ps_ret pe_non)) pss_nil)
    (pss_cons (ps_set (i := 8) scMaps.nd rfl (Or.inl rfl) (pe_lst pa_nil))
    (pss_cons (ps_for PassesOwn.never rfl (pi_list (pv 2)) (pg_name (i := 4) scMaps.nd rfl (Or.inr rfl))
      (pss_cons (ps_setLc (i := 9) (own := [("other", 11)]) (g := gName 11) (tt := tYes) rfl scMaps.nd rfl rfl (sw_true rfl rfl rfl (by decide +kernel)) (pi_list (pv 2))
        (blkOk_by (N := nMaps) (sc := defScope sMaps) (by decide +kernel)) (fun _ _ _ _ _ => pg_name (i := 11) scMaps.nd rfl (Or.inr rfl)) (fun _ _ _ _ _ => pts_nil)
        (fun _ _ _ _ _ => pe_callTy (T := "tuple") (ctuple (K := K) rfl) (by rfl) M.tuple (by decide +kernel) (pa_cons (pe_lc (own := [("state", 10)]) (g := gName 10) (tt := tYes) rfl scMaps.nd (pit (K := K) rfl (pv 4))
          (blkOk_by (N := nMaps) (sc := scReached) (by decide +kernel)) (fun _ _ _ _ _ => pg_name (i := 10) scMaps.nd rfl (Or.inl rfl)) (fun _ _ _ _ _ => pts_nil)
          (fun _ _ _ _ _ => pe_ix (ixt (K := K) rfl) (pv 11) (pv 10) (fun _ _ => rfl))) pa_nil)))
      (pss_one (ps_expr (pe_bm PySem.F.plainAttrs_list PySem.F.slot_list_append PySem.F.type_list_append mt_append (pv 8) (pa_cons (pe_lc (own := [("other", 11)]) (g := gName 11) (tt := tYes) rfl scMaps.nd (pi_list (pv 9))
        (blkOk_by (N := nMaps) (sc := defScope sMaps) (by decide +kernel)) (fun _ _ _ _ _ => pg_name (i := 11) scMaps.nd rfl (Or.inl rfl)) (fun _ _ _ _ _ => pts_nil)
        (fun _ _ _ _ _ => pe_idx (K := K) rfl (hu65 hr) (pv 2) (pa_cons (pv 11) pa_nil))) pa_nil))))))
    (pss_one (ps_ret (pv 8)))))))))), ?_⟩
  have z05 : 0 ≤ sizeLine := by decide
  refine ⟨_, rfl, p, 3, rfl, hb, by decide, by decide, fun r J0 ra rb b0 s0 => ?_⟩
  obtain ⟨r, rfl⟩ := Int.eq_ofNat_of_zero_le ra
  refine ⟨_, _, rfl, rfl, ?_⟩
  have ek : (2 : Int) + ((r : Nat) : Int) = ((2 + r : Nat) : Int) := by omega
  dsimp only
  rw [ek]
  have k2 : 2 ≤ 2 + r := by omega
  have k4 : 2 + r ≤ 4 := by omega
  generalize 2 + r = k at k2 k4 ⊢
  refine ⟨z05, fun fa hfa => ?_⟩
  have m0 : Mi H p fa (upd J0 fa (.lst [])) [] := Mi.start b0 s0 hfa
  refine ⟨_, rfl, p, 3, rfl, m0.bx, by decide, by decide, fun t J1 ta tb b1 s1 => ?_⟩
  obtain ⟨t, rfl⟩ := Int.eq_ofNat_of_zero_le ta
  refine ⟨_, _, rfl, rfl, (1 : Int) + ((t : Nat) : Int), rfl, by omega, by omega, ?_⟩
  refine for_range (lo := 0) (n := ((1 : Int) + ((t : Nat) : Int)).toNat) (fun i σ J => ∃ ms, Mi H p fa J ms ∧ ms.length ≤ i ∧ (0 < i → 0 < ms.length) ∧ (∀ m, m ∈ ms → Mp k m) ∧ ∃ x3 x4 x5 x6 x7 x8 x9 x10 x11, σ = [some (.ref p), some (.int k), some (.ref fa), x3, x4, x5, x6, x7, x8, x9, x10, x11])
    ⟨[], m0.took s1 b1, Nat.le_refl _, fun z => absurd z (Nat.lt_irrefl 0), (fun _ z => nomatch z), _, _, _, _, _, _, _, _, _, rfl⟩ ?_ ?_
  · rintro i _ J hi ⟨ms, mi, l1, l2, l3, x3, x4, x5, x6, x7, x8, x9, x10, x11, rfl⟩
    refine ⟨_, rfl, (k : Int), rfl, by omega, by omega, fun D hD => ?_⟩
    have nD : D ≠ p := mi.bx.ne hD
    refine lc_range (lo := 0) (n := (k : Int).toNat) (fun i G => Bx G p ∧ Sx p J G ∧ ∃ xs : List Nat, G D = some (.lst (nv xs)) ∧ xs.length = i ∧ ∀ x, x ∈ xs → x < k)
      ⟨mi.bx.new hD, Sx.new hD, [], upd_same, rfl, fun _ z => nomatch z⟩ ?_ ?_
    · rintro j G hj ⟨bG, sG, xs, eD, lx, hx⟩
      have hjk : j < k := by simpa using hj
      refine ⟨rfl, _, rfl, _, rfl, p, (k : Int), rfl, bG, by omega, by omega, fun r G1 ra rb b1 s1 => ?_⟩
      obtain ⟨r, rfl⟩ := Int.eq_ofNat_of_zero_le ra
      refine ⟨_, s1 D _ nD eD, by rw [nv_len, lx]; exact small1000 (by omega), b1.at_ne nD, fun b o hbp e => ?_, xs ++ [r], ?_, by simp [lx], fun x h => ?_⟩
      · rw [upd_ne (ne_of_none e hD)]; exact s1 b o hbp (sG b o hbp e)
      · rw [upd_same]; unfold nv; rw [List.map_append]; rfl
      · rcases List.mem_append.mp h with h | h
        · exact hx x h
        · rw [List.mem_singleton.mp h]; omega
    · rintro G ⟨bG, sG, xs, eD, lx, hx⟩
      have lk : xs.length = k := by rw [lx]; exact Int.toNat_natCast k
      have mG := mi.took sG bG
      refine ⟨D, _, rfl, .inl ⟨SqL.of eD, fun l hl => ?_⟩⟩
      have mG1 := mG.to (Same.new hl (.tup (nv xs)))
      have el : (upd G l (.tup (nv xs))) l = some (.tup (nv xs)) := upd_same
      refine ⟨_, rfl, _, rfl, tD xs, ms.map tD, dp_tup el, mG1.dp, tD_shaped xs, tDs_shaped ms, _, rfl, ?_⟩
      rw [tD_any]
      have i4 : i < 4 := by omega
      refine ite2 (fun c => ?_) (fun c => ?_)
      · obtain ⟨acc, ea, la, m2⟩ := mG1.add el
        refine ⟨_, rfl, Or.inl ⟨rfl, _, SqL.of ea⟩, _, rfl, fa, acc, _, rfl, rfl, ea, by rw [la]; exact small1000 (by omega), ms ++ [xs], m2, by rw [List.length_append, List.length_singleton]; omega, fun _ => by rw [List.length_append, List.length_singleton]; omega, fun m hm => ?_, _, _, _, _, _, _, _, _, _, rfl⟩
        rcases List.mem_append.mp hm with h | h
        · exact l3 m h
        · rw [List.mem_singleton.mp h]; exact ⟨lk, hx⟩
      · have hin : xs ∈ ms := by
          by_cases hm : xs ∈ ms
          · exact hm
          · rw [decide_eq_false hm] at c; exact absurd rfl c
        exact ⟨ms, mG1, by omega, fun _ => List.length_pos_of_mem hin, l3, _, _, _, _, _, _, _, _, _, rfl⟩
  rintro _ J ⟨ms, mi, l1, l2, l3, x3, x4, x5, x6, x7, x8, x9, x10, x11, rfl⟩
  have ln3 : ms.length ≤ 3 := by omega
  have ln0 : 0 < ms.length := l2 (by omega)
  obtain ⟨ts, ets, pts⟩ := id mi.fm
  refine ⟨_, rfl, fa, _, rfl, .inl (SqL.of ets), fun la hla => ?_⟩
  refine ⟨_, _, rfl, ?_⟩
  have naf : la ≠ fa := (ne_of_none ets hla).symm
  have sla := Same.new hla (.lst (ts.map V.ref))
  have lts : ts.length = ms.length := pts.length
  dsimp only [tSeq]
  change tWhile _ _ _ [some (.ref p), some (.int k), some (.ref fa), x3, x4, some (.ref la), some (.int ((0 : Nat) : Int)), x7, x8, x9, x10, x11] _
  refine while_by (fun σ G => ∃ fs i, Mi H p fa G fs ∧ Lt la ts ms G ∧ Srch k ms fs i ∧ i ≤ fs.length ∧ i ≤ 17 ∧ fs.length ≤ 19 ∧ ∃ x3 x4 x7 x8 x9 x10 x11, σ = [some (.ref p), some (.int k), some (.ref fa), x3, x4, some (.ref la), some (.int (i : Nat)), x7, x8, x9, x10, x11])
    (fun σ _ => match σ.getD 6 none with | some (.int i) => 20 - i.toNat | _ => 0)
    ⟨ms, 0, mi.to sla, ⟨upd_same, L2.Paired.mapP pts fun _ _ z => sla _ _ z⟩, ⟨l3, fun _ h => h, fun x h => .base h, fun j hj => absurd hj (Nat.not_lt_zero _)⟩, Nat.zero_le _, by omega, by omega, _, _, _, _, _, _, _, rfl⟩ ?_ ?_
  rotate_left
  · rintro σ H Q Q' k ⟨R, h, r⟩
    exact ⟨R, h, fun x H1 z => k _ _ (r x H1 z)⟩
  rintro _ G ⟨fs, i, mG, lt, S, h1, h2, h3, x3, x4, x7, x8, x9, x10, x11, rfl⟩
  obtain ⟨xs, hxs, lxs⟩ := mG.sq (K := K)
  refine ⟨fun b G1 => G = G1 ∧ b = (decide (i < fs.length) && decide (fs.length < 17)), ?_, ?_⟩
  · refine ⟨_, rfl, _, rfl, fa, xs, rfl, .inl hxs, _, _, rfl, rfl, _, rfl, ite2 (fun c => ⟨_, rfl, fa, xs, rfl, .inl hxs, _, _, rfl, rfl, _, rfl, rfl, ?_⟩) (fun c => ⟨rfl, ?_⟩)⟩
    · have c' : ((i : Nat) : Int) < ((xs.length : Nat) : Int) := of_decide_eq_true c
      rw [decide_eq_true (show i < fs.length by omega), Bool.true_and, lxs]
      rw [Bool.eq_iff_iff, decide_eq_true_iff, decide_eq_true_iff]
      omega
    · have c' : ¬ ((i : Nat) : Int) < ((xs.length : Nat) : Int) := of_decide_eq_false (Bool.eq_false_iff.mpr c)
      rw [decide_eq_false (show ¬ i < fs.length by omega), Bool.false_and]
  rintro _ _ ⟨rfl, rfl⟩
  refine ite2 (fun c => ?_) (fun c => ?_)
  · obtain ⟨ca, cb⟩ := Bool.and_eq_true_iff.mp c
    have hi : i < fs.length := of_decide_eq_true ca
    have h17 : fs.length < 17 := of_decide_eq_true cb
    obtain ⟨x, hx⟩ : ∃ x, fs[i]? = some x := ⟨_, List.getElem?_eq_getElem hi⟩
    have xm : x ∈ fs := List.mem_of_getElem? hx
    have xk : Mp k x := (S.gen x xm).mp S.lm
    refine ⟨_, rfl, la, rfl, ⟨_, SqL.of lt.1⟩, ?_⟩
    refine for_it (walk_list (xs := ts.map V.ref)) (fun j σ G => ∃ gs, Mi H p fa G gs ∧ Lt la ts ms G ∧ Srch k ms gs i ∧ i < gs.length ∧ gs.length ≤ fs.length + j ∧ gs[i]? = some x ∧ (∀ l, l ∈ ms.take j → cmp x l ∈ gs) ∧
        ∃ x3 x4 x7 x8 x9 x10 x11, σ = [some (.ref p), some (.int k), some (.ref fa), x3, x4, some (.ref la), some (.int (i : Nat)), x7, x8, x9, x10, x11])
      ⟨fs, mG, lt, S, hi, Nat.le_refl _, hx, (fun _ z => by rw [List.take_zero] at z; cases z), _, _, _, _, _, _, _, rfl⟩ (fun _ _ _ _ ⟨_, _, z, _⟩ => SqL.of z.1) ?_ ?_
    · rintro j y _ G1 G2 hj ⟨gs, mG, lt, S, hi, hl, hx, hd, x3, x4, x7, x8, x9, x10, x11, rfl⟩ ⟨rfl, hy⟩
      have hj3 : j < ms.length := by rw [List.length_map, lts] at hj; exact hj
      obtain ⟨tl, htl, rfl⟩ := ref_at hy
      obtain ⟨l, hl1, el⟩ := pair_at lt.2 htl
      have lm : l ∈ ms := List.mem_of_getElem? hl1
      have lk : Mp k l := S.lm l lm
      obtain ⟨fts, efts, pf⟩ := id mG.fm
      obtain ⟨ti, hti, et⟩ := pair_to pf hx
      have wk : (nv x).length = k := by rw [nv_len]; exact xk.1
      refine ⟨_, rfl, _, rfl, fa, _, _, _, rfl, rfl, SqL.of efts, at_of (j := i) rfl (by rw [List.getElem?_map, hti]; rfl), ti, rfl, ⟨_, SqT.of et⟩, fun D hD => ?_⟩
      refine lc_it (walk_tup (xs := nv x)) (fun b G => Same G2 G ∧ G D = some (.lst (nv ((cmp x l).take b)))) ⟨Same.new hD _, upd_same⟩ (fun b G _ z => SqT.of (z.1 _ _ et)) ?_ ?_
      · rintro b v G3 G4 hb ⟨sG, eD⟩ ⟨rfl, hv⟩
        rw [wk] at hb
        obtain ⟨s, hs, rfl⟩ := nv_at hv
        have sk : s < k := xk.2 s (List.mem_of_getElem? hs)
        refine ⟨rfl, _, rfl, _, rfl, tl, _, _, _, rfl, rfl, SqT.of (sG _ _ el), at_of (j := s) rfl (nv_get lk sk), _, eD, ?_, fun c o ec => by rw [upd_ne (ne_of_none ec hD)]; exact sG c o ec, ?_⟩
        · rw [nv_len, List.length_take]; exact small1000 (by omega)
        · rw [upd_same, cmp_take hs]; unfold nv; rw [List.map_append]; rfl
      · rintro G3 ⟨sG, eD⟩
        rw [List.take_of_length_le (by rw [wk]; have := (cmp_mp xk lk).1; omega)] at eD
        refine ⟨D, _, rfl, .inl ⟨SqL.of eD, fun q hq => ?_⟩⟩
        have s3 : Same G2 (upd G3 q (.tup (nv (cmp x l)))) := sG.trans (Same.new hq _)
        have mG1 := mG.to s3
        have lt1 := lt.to s3
        have eq : (upd G3 q (.tup (nv (cmp x l)))) q = some (.tup (nv (cmp x l))) := upd_same
        have tk : ms.take (j + 1) = ms.take j ++ [l] := by rw [List.take_add_one, hl1]; rfl
        refine ⟨_, rfl, _, rfl, tD (cmp x l), gs.map tD, dp_tup eq, mG1.dp, tD_shaped _, tDs_shaped gs, _, rfl, ?_⟩
        rw [tD_any]
        refine ite2 (fun c => ?_) (fun c => ?_)
        · obtain ⟨acc, ea, lacc, m2⟩ := mG1.add eq
          refine ⟨_, rfl, Or.inl ⟨rfl, _, SqL.of ea⟩, _, rfl, fa, acc, _, rfl, rfl, ea, by rw [lacc]; exact small1000 (by omega), gs ++ [cmp x l], m2, lt1.upd naf ea, S.more (.step (S.gen x (List.mem_of_getElem? hx)) lm) (by omega), by rw [List.length_append, List.length_singleton]; omega,
            by rw [List.length_append, List.length_singleton]; omega, by rw [List.getElem?_append_left hi]; exact hx, fun l' hl' => ?_, _, _, _, _, _, _, _, rfl⟩
          rw [tk] at hl'
          rcases List.mem_append.mp hl' with h | h
          · exact List.mem_append_left _ (hd l' h)
          · rw [List.mem_singleton.mp h]; exact List.mem_append_right _ (List.mem_singleton.mpr rfl)
        · have hin : cmp x l ∈ gs := by
            by_cases hm : cmp x l ∈ gs
            · exact hm
            · rw [decide_eq_false hm] at c; exact absurd rfl c
          refine ⟨gs, mG1, lt1, S, hi, by omega, hx, fun l' hl' => ?_, _, _, _, _, _, _, _, rfl⟩
          rw [tk] at hl'
          rcases List.mem_append.mp hl' with h | h
          · exact hd l' h
          · rw [List.mem_singleton.mp h]; exact hin
    · rintro _ G1 ⟨gs, mG, lt, S', hi, hl, hx', hd, x3, x4, x7, x8, x9, x10, x11, rfl⟩
      rw [List.length_map, lts] at hl hd
      rw [List.take_of_length_le (Nat.le_refl _)] at hd
      refine ⟨_, rfl, _, _, rfl, rfl, ⟨gs, i + 1, mG, lt, ⟨S'.lm, S'.sub, S'.gen, fun j hj z hz l hl => ?_⟩, hi, by omega, by omega, _, _, _, _, _, _, _, rfl⟩, ?_⟩
      · by_cases e : j = i
        · subst e
          rw [hx'] at hz
          cases hz
          exact hd l hl
        · exact S'.done j (by omega) z hz l hl
      · show 20 - (((i : Nat) : Int) + 1).toNat < 20 - ((i : Nat) : Int).toNat
        omega
  · refine ⟨_, rfl, fa, xs, rfl, .inl hxs, _, _, rfl, rfl, _, rfl, ite2 (fun d => ?_) (fun d => ?_)⟩
    · exact q _ _ (.inl rfl) mG.bx mG.sx
    have d' : ¬ (16 : Int) < ((xs.length : Nat) : Int) := of_decide_eq_false (Bool.eq_false_iff.mpr d)
    have n16 : fs.length ≤ 16 := by omega
    have hi : fs.length ≤ i := by
      by_cases z : i < fs.length
      · exact absurd (by rw [decide_eq_true z, decide_eq_true (show fs.length < 17 by omega)]; rfl) c
      · omega
    have C : Cl k fs := S.cl hi
    have n1 : 1 ≤ fs.length := by
      obtain ⟨m, hm⟩ : ∃ m, m ∈ ms := ⟨_, List.getElem_mem ln0⟩
      exact List.length_pos_of_mem (S.sub m hm)
    obtain ⟨fts, efts, pf⟩ := id mG.fm
    have lf : fts.length = fs.length := pf.length
    refine ⟨z05, fun ra hra => ?_⟩
    refine ⟨_, rfl, fa, rfl, ⟨_, SqL.of (Same.new hra _ _ _ efts)⟩, ?_⟩
    refine for_it (walk_list (xs := fts.map V.ref)) (fun a σ J => Part G J ra (rowsTo fs.length (fmp fs) a) ∧ ∃ x3 x4 x5 x6 x7 x9 x10 x11, σ = [some (.ref p), some (.int k), some (.ref fa), x3, x4, x5, x6, x7, some (.ref ra), x9, x10, x11])
      ⟨Part.start (Same.refl G) hra, _, _, _, _, _, _, _, _, rfl⟩ (fun _ _ _ _ z => SqL.of (z.1.same _ _ efts)) ?_ ?_
    · rintro a y _ J1 J2 ha ⟨pa, x3, x4, x5, x6, x7, x9, x10, x11, rfl⟩ ⟨rfl, hy⟩
      have ha' : a < fs.length := by rw [List.length_map, lf] at ha; exact ha
      obtain ⟨ta, hta, rfl⟩ := ref_at hy
      obtain ⟨x, hx, ex⟩ := pair_at pf hta
      have xk : Mp k x := C.mp x (List.mem_of_getElem? hx)
      have wk : (nv x).length = k := by rw [nv_len]; exact xk.1
      have sGJ := pa.same
      refine ⟨_, rfl, fa, rfl, ⟨_, SqL.of (sGJ _ _ efts)⟩, fun D hD => ?_⟩
      refine lc_it (walk_list (xs := fts.map V.ref)) (fun b G3 => Same J2 G3 ∧ ∃ rts : List Addr, G3 D = some (.lst (rts.map V.ref)) ∧ rts.length = b ∧ Paired (fun t m => G3 t = some (.tup (nv m))) rts ((fs.take b).map (cmp x)))
        ⟨Same.new hD _, [], upd_same, rfl, .nil⟩ (fun b G3 _ z => SqL.of (z.1 _ _ (sGJ _ _ efts))) ?_ ?_
      · rintro b z G3 G4 hb ⟨sG, rts, eD, lr, pr⟩ ⟨rfl, hz⟩
        obtain ⟨tb, htb, rfl⟩ := ref_at hz
        obtain ⟨y, hy, ey⟩ := pair_at pf htb
        have yk : Mp k y := C.mp y (List.mem_of_getElem? hy)
        have hb' : b < fs.length := by rw [List.length_map, lf] at hb; exact hb
        have tk : fs.take (b + 1) = fs.take b ++ [y] := by rw [List.take_add_one, hy]; rfl
        refine ⟨rfl, _, rfl, ta, rfl, ⟨_, SqT.of (sG _ _ (sGJ _ _ ex))⟩, fun D2 hD2 => ?_⟩
        have nD : D ≠ D2 := ne_of_none eD hD2
        refine lc_it (walk_tup (xs := nv x)) (fun c G5 => Same G4 G5 ∧ G5 D2 = some (.lst (nv ((cmp x y).take c)))) ⟨Same.new hD2 _, upd_same⟩ (fun c G5 _ z => SqT.of (z.1 _ _ (sG _ _ (sGJ _ _ ex)))) ?_ ?_
        · rintro c v G5 G6 hc ⟨sG5, eD2⟩ ⟨rfl, hv⟩
          rw [wk] at hc
          obtain ⟨s, hs, rfl⟩ := nv_at hv
          have sk : s < k := xk.2 s (List.mem_of_getElem? hs)
          refine ⟨rfl, _, rfl, _, rfl, tb, _, _, _, rfl, rfl, SqT.of (sG5 _ _ (sG _ _ (sGJ _ _ ey))), at_of (j := s) rfl (nv_get yk sk), _, eD2, ?_, fun c o ec => by rw [upd_ne (ne_of_none ec hD2)]; exact sG5 c o ec, ?_⟩
          · rw [nv_len, List.length_take]; exact small1000 (by omega)
          · rw [upd_same, cmp_take hs]; unfold nv; rw [List.map_append]; rfl
        · rintro G5 ⟨sG5, eD2⟩
          rw [List.take_of_length_le (by rw [wk]; have := (cmp_mp xk yk).1; omega)] at eD2
          refine ⟨D2, _, rfl, .inl ⟨SqL.of eD2, fun t ht => ?_⟩⟩
          have s6 : Same G4 (upd G5 t (.tup (nv (cmp x y)))) := sG5.trans (Same.new ht _)
          have eD6 := s6 _ _ eD
          have nt : t ≠ D := (ne_of_none (sG5 _ _ eD) ht).symm
          have nDt : ∀ {c : Addr} {vs : List V}, G4 c = some (.tup vs) → c ≠ D := fun {c vs} z w => by rw [w, eD] at z; cases z
          refine ⟨_, eD6, by rw [List.length_map, lr]; exact small1000 (by omega), fun c o ec => by rw [upd_ne (ne_of_none ec hD)]; exact s6 _ _ (sG c o ec), rts ++ [t], by rw [upd_same, List.map_append]; rfl, by simp [lr], ?_⟩
          rw [tk, List.map_append]
          exact pair_app (L2.Paired.mapP pr fun c m z => by rw [upd_ne (nDt z)]; exact s6 _ _ z) (by rw [upd_ne nt, upd_same])
      · rintro G3 ⟨sG, rts, eD, lr, pr⟩
        rw [List.length_map, lf] at lr pr
        rw [List.take_of_length_le (Nat.le_refl _)] at pr
        have pa3 := pa.to sG
        obtain ⟨rs0, er, _⟩ := id pa3.at_
        refine ⟨_, rfl, Or.inl ⟨rfl, _, SqL.of er⟩, _, rfl, D, rfl, ⟨_, SqL.of eD⟩, fun D3 hD3 => ?_⟩
        refine lc_it (walk_list (xs := rts.map V.ref)) (fun b G5 => Same G3 G5 ∧ G5 D3 = some (.lst ((rowTo (fmp fs) a b).map V.int))) ⟨Same.new hD3 _, upd_same⟩ (fun b G5 _ z => SqL.of (z.1 _ _ eD)) ?_ ?_
        · rintro b z G5 G6 hb ⟨sG5, eD3⟩ ⟨rfl, hz⟩
          have hb' : b < fs.length := by rw [List.length_map, lr] at hb; exact hb
          obtain ⟨tz, htz, rfl⟩ := ref_at hz
          obtain ⟨m, hm, em⟩ := pair_at pr htz
          have em' : m = cmp (fs.getD a []) (fs.getD b []) := by
            rw [List.getElem?_map, List.getElem?_eq_getElem hb'] at hm
            rw [List.getD_eq_getElem?_getD, hx, List.getD_eq_getElem?_getD, List.getElem?_eq_getElem hb']
            exact (Option.some.inj hm).symm
          have at1 := C.at_ ha' hb'
          rw [← em'] at at1
          refine ⟨rfl, _, rfl, Or.inl ⟨rfl, _, SqL.of (sG5 _ _ (sG _ _ (sGJ _ _ efts)))⟩, _, rfl, fa, .ref tz, tD m, fs.map tD, fmp fs a b, tD m, rfl, rfl, .lst (SqL.of (sG5 _ _ (sG _ _ (sGJ _ _ efts)))) (dp_tups (L2.Paired.mapP pf fun _ _ w => sG5 _ _ (sG _ _ (sGJ _ _ w)))),
            dp_tup (sG5 _ _ em), tDs_shaped fs, tD_shaped m, by rw [List.getElem?_map, at1.2]; rfl, by rw [tD_eqv]; exact decide_eq_true rfl, fun j z' hj hz' => ?_, _, eD3, by rw [rowTo_len]; exact small1000 (by omega), fun c o ec => by rw [upd_ne (ne_of_none ec hD3)]; exact sG5 c o ec, ?_⟩
          · rw [List.getElem?_map] at hz'
            obtain ⟨w, hw, rfl⟩ := Option.map_eq_some_iff.mp hz'
            rw [tD_eqv]
            refine decide_eq_false (idx_ahead (ms := fs) (m := m) ?_ hw)
            unfold fmp at hj
            rw [← em'] at hj
            exact hj
          · rw [upd_same, rowTo_next, List.map_append]; rfl
        · rintro G5 ⟨sG5, eD3⟩
          rw [List.length_map, lr] at eD3
          obtain ⟨acc, ea, lacc, p1⟩ := pa.add (q := D3) (sG.trans sG5) (sG.free hD3) eD3
          refine ⟨ra, acc, _, rfl, rfl, ea, by rw [lacc, rowsTo_len]; exact small1000 (by omega), ?_, _, _, _, _, _, _, _, _, rfl⟩
          rw [rowsTo_next]
          exact p1
    · rintro _ J1 ⟨pa, x3, x4, x5, x6, x7, x9, x10, x11, rfl⟩
      have pa' : Part G J1 ra (tab fs.length (fmp fs)) := by
        rw [List.length_map, lf] at pa
        exact pa
      exact ⟨_, rfl, q _ _ (.inr ⟨_, _, n1, n16, asf_maps C, pa'.fin.same (nw_back mG.sx mG.bx)⟩) (mG.bx.same pa'.same) (mG.sx.trans (Sx.of pa'.same))⟩
end
end L

set_option Elab.async false
set_option linter.all false
set_option maxRecDepth 100000
set_option maxHeartbeats 4000000
namespace L
open PySem L2 KX
abbrev sRows : Stmt := top 39
theorem erase_pm {α : Type} : ∀ {l : List α} {i : Nat} {y : α}, l[i]? = some y → (y :: l.eraseIdx i).Perm l
  | [], _, _, h => by simp at h
  | x :: l, 0, y, h => by simp at h; subst h; exact List.Perm.refl _
  | x :: l, i + 1, y, h => (List.Perm.swap x y _).trans ((erase_pm (l := l) (i := i) (by simpa using h)).cons x)
theorem erase_nv : ∀ {m : List Nat} {i : Nat}, (nv m).eraseIdx i = nv (m.eraseIdx i)
  | [], _ => rfl
  | x :: m, 0 => rfl
  | x :: m, i + 1 => congrArg (V.int ((x : Nat) : Int) :: ·) (erase_nv (m := m) (i := i))
theorem idx_ahead1 {ms : List Nat} {m : Nat} : ∀ {j : Nat} {z : Nat}, j < ms.idxOf m → ms[j]? = some z → z ≠ m := by
  induction ms with
  | nil => intro j z h e; cases e
  | cons a ms ih =>
    intro j z h e hz
    subst hz
    rw [List.idxOf_cons] at h
    by_cases ha : a = z
    · subst ha
      rw [show (a == a) = true from beq_self_eq_true a] at h
      exact absurd h (Nat.not_lt_zero _)
    · rw [show (a == z) = false from beq_eq_false_iff_ne.mpr ha] at h
      cases j with
      | zero => exact ha (Option.some.inj e)
      | succ j =>
        have h' : j + 1 < ms.idxOf z + 1 := h
        exact ih (j := j) (by omega) e rfl
section
variable {X : Cx} {K : PySem.W.Frag}
/-- a statement by what is known behind it -/
theorem ps_cut {st : Stmt} {t : TS} (h : PS X st t) : PS X st (fun D σ H => ∃ R : L2.St → Hp → Prop, t { D with nx := R } σ H ∧ ∀ σ' H', R σ' H' → D.nx σ' H') := by
  refine ⟨fun pins s σ H D I ⟨R, h1, k⟩ => thn (h.run pins s σ H { D with nx := R } I h1) fun f s1 q => ?_⟩
  cases f with
  | next =>
    obtain ⟨σ', H', I', q⟩ := q
    exact ⟨σ', H', I', k _ _ q⟩
  | ret v => exact q
  | brk => exact q
  | cont => exact q
theorem pil (hK : X.K = K) {tg l : Expr} {tl : TE} (h : PE X l tl) : PI X tg l (iList K tl) := by subst hK; exact pi_list h
theorem pe_bK (hK : X.K = K) {o e : Expr} {to : TE} {t : TA} {r : V → List V → Hp → VK → Prop} {name : Str} {apos cpos : Pos} (h : PE X (.Call (.Attribute o name apos) [e] [] cpos) (tBM X.K "list" r to t)) :
    PE X (.Call (.Attribute o name apos) [e] [] cpos) (tBM K "list" r to t) := by subst hK; exact h
theorem mt_idx1 (hK : X.K = K) : MtR X "list.index" (rIndex K) := by subst hK; exact mt_index
end
def scOut : Scope := { kind := .function, names := [(Str.ofString ".0", .local), (Str.ofString "a", .cell), (Str.ofString "order", .cell), (Str.ofString "rows", .cell)], isGenerator := false, isCoroutine := false }
/-- the rows so far: a new table at v -/
structure RwAt (H : Hp) (p : Addr) (J : Hp) (v : V) (n : Nat) (f : Nat → Nat → Nat) : Prop where
  bx : Bx J p
  sx : Sx p H J
  n1 : 1 ≤ n
  n16 : n ≤ 16
  as : Asf n f
  rows : RowsL (nw H J) v (tab n f)
theorem nw_to {H J : Hp} : Same (nw H J) J := fun c o h => (nw_some h).2
theorem RwAt.took {H J G : Hp} {p : Addr} {v : V} {n : Nat} {f : Nat → Nat → Nat} (h : RwAt H p J v n f) (hb : Bx H p) (s : Sx p J G) (b : Bx G p) : RwAt H p G v n f := ⟨b, h.sx.trans s, h.n1, h.n16, h.as, h.rows.same (nw_step hb s)⟩
theorem RwAt.to {H J G : Hp} {p : Addr} {v : V} {n : Nat} {f : Nat → Nat → Nat} (h : RwAt H p J v n f) (hb : Bx H p) (s : Same J G) : RwAt H p G v n f := h.took hb (Sx.of s) (h.bx.same s)
theorem RwAt.of {H J G : Hp} {p : Addr} {v : V} {n : Nat} {f : Nat → Nat → Nat} (b : Bx J p) (sx : Sx p H J) (s : Same J G) (n1 : 1 ≤ n) (n16 : n ≤ 16) (as : Asf n f) (r : RowsL (nw J G) v (tab n f)) : RwAt H p G v n f :=
  ⟨b.same s, sx.trans (Sx.of s), n1, n16, as, r.same (nw_back sx b)⟩
theorem RwAt.ofS {H J G : Hp} {p : Addr} {v : V} {n : Nat} {f : Nat → Nat → Nat} (b : Bx J p) (sx : Sx p H J) (s : Sx p J G) (bG : Bx G p) (n1 : 1 ≤ n) (n16 : n ≤ 16) (as : Asf n f) (r : RowsL (nw J G) v (tab n f)) : RwAt H p G v n f :=
  ⟨bG, sx.trans s, n1, n16, as, r.same (nw_back sx b)⟩
/-- the rows as a list -/
theorem RwAt.lst {K : PySem.W.Frag} {H J : Hp} {p : Addr} {v : V} {n : Nat} {f : Nat → Nat → Nat} (h : RwAt H p J v n f) : ∃ a xs, v = .ref a ∧ SqL K J a xs ∧ xs.length = n :=
  let ⟨a, rs, e, ea, pr⟩ := h.rows
  ⟨a, _, e, SqL.of (nw_to _ _ ea), by rw [List.length_map, pr.length, tab_len]⟩
theorem RwAt.ne {H J : Hp} {p : Addr} {v : V} {n : Nat} {f : Nat → Nat → Nat} (h : RwAt H p J v n f) : v ≠ .non := fun e => by
  obtain ⟨a, rs, e', _⟩ := h.rows
  rw [e'] at e; cases e
theorem rg_nv (n : Nat) : rgV 0 (n : Int) = nv (List.range n) := by
  unfold rgV nv
  rw [Int.sub_zero, Int.toNat_natCast]
  exact List.map_congr_left fun x _ => by rw [Int.zero_add]
def spRows : Sp := fun vs H Q _ => ∃ p, vs = [.ref p] ∧ Bx H p ∧ ∀ v H' n f, RwAt H p H' v n f → Q v H'
abbrev nRows : List Str := ["box", "kind", "rows", "more", "other", "left", "order", "k", "b", "a"]
section
variable {P : Program} {w : World} {K : PySem.W.Frag} {mg : Str → Option Value} {base : Heap} {f g gn : Addr} {fd gd gnd : FuncData} {g1 g2 g3 g4 g5 g6 : Addr} {d1 d2 d3 d4 d5 d6 : FuncData}
theorem scRows : FnScope nRows ["box"] (defScope sRows) := ⟨rfl, rfl, rfl, by decide +kernel, rfl, by decide +kernel, by decide +kernel⟩
theorem ok_rows (F : Fun K "_law_rows" "_law_rows" sRows f fd) (M : Mn mg) (G : FnOk P w K mg base CX0 1 g gd ["box", "size"] spTake) (bG : Binds K gd ["box", "size"] []) (kG : PySem.W.keepIn K (.ref g) = true) (mG : mg "_law_take" = some (.ref g))
    (G1 : FnOk P w K mg base CX0 2 g1 d1 ["box"] spMaps) (b1 : Binds K d1 ["box"] []) (k1 : PySem.W.keepIn K (.ref g1) = true) (m1 : mg "_law_maps" = some (.ref g1))
    (G2 : FnOk P w K mg base CX0 2 g2 d2 ["box"] spGrid) (b2 : Binds K d2 ["box"] []) (k2 : PySem.W.keepIn K (.ref g2) = true) (m2 : mg "_law_grid" = some (.ref g2))
    (G3 : FnOk P w K mg base CX0 1 g3 d3 [] spWords) (b3 : Binds K d3 [] []) (k3 : PySem.W.keepIn K (.ref g3) = true) (m3 : mg "_law_words" = some (.ref g3))
    (G4 : FnOk P w K mg base CX0 1 g4 d4 ["kind", "n"] spPlain) (b4 : Binds K d4 ["kind", "n"] []) (k4 : PySem.W.keepIn K (.ref g4) = true) (m4 : mg "_law_plain" = some (.ref g4))
    (G5 : FnOk P w K mg base CX0 1 g5 d5 ["rows", "kind"] spExt) (b5 : Binds K d5 ["rows", "kind"] []) (k5 : PySem.W.keepIn K (.ref g5) = true) (m5 : mg "_law_extended" = some (.ref g5))
    (G6 : FnOk P w K mg base CX0 1 g6 d6 ["one", "other"] spPairs) (b6 : Binds K d6 ["one", "other"] []) (k6 : PySem.W.keepIn K (.ref g6) = true) (m6 : mg "_law_pairs" = some (.ref g6)) :
    FnOk P w K mg base CX0 3 f fd ["box"] spRows := by
  refine F.ok scRows (fun vs H Q E h => ?_) (fun cdv A outer s H vs Q E hr2 h => ?_)
  · obtain ⟨p, rfl, _⟩ := h
    rfl
  obtain ⟨p, rfl, hb, q⟩ := h
  have hr : Room 1 _ := hr2.mono (by decide)
  refine ⟨_, pss_cons (ps_asg (pe_tup (pa_cons (pe_call G hr (by rfl) mG kG bG .nil pass0 (pa_cons (pv 0) (pa_cons pe_int pa_nil))) (pa_cons pe_non pa_nil)))
      (pg_tup rfl (pgs_cons (pg_name (i := 1) scRows.nd rfl (Or.inl rfl)) (pgs_cons (pg_name (i := 2) scRows.nd rfl (Or.inr rfl)) pgs_nil))))
    (pss_cons (ps_cut (ps_if (pt_cmpR op_lt (pv 1) pe_int (nomark _)) (pss_one (ps_set (i := 2) scRows.nd rfl (Or.inr rfl) (pe_call G1 hr2 (by rfl) m1 k1 b1 .nil pass0 (pa_cons (pv 0) pa_nil))))
      (pss_one (ps_if (pt_cmpR op_eq (pv 1) pe_int (nomark _)) (pss_one (ps_set (i := 2) scRows.nd rfl (Or.inr rfl) (pe_call G2 hr2 (by rfl) m2 k2 b2 .nil pass0 (pa_cons (pv 0) pa_nil))))
        (pss_one (ps_if (pt_cmpR op_eq (pv 1) pe_int (nomark _)) (pss_one (ps_set (i := 2) scRows.nd rfl (Or.inr rfl) (pe_call0 G3 hr (by rfl) m3 k3 b3 .nil pass0))) pss_nil))))))
    (pss_cons (ps_cut (ps_if (pt_cmp (pc_isN (pv 2))) (pss_cons (ps_set (i := 1) scRows.nd rfl (Or.inl rfl) (pe_call G hr (by rfl) mG kG bG .nil pass0 (pa_cons (pv 0) (pa_cons pe_int pa_nil))))
      (pss_one (ps_set (i := 2) scRows.nd rfl (Or.inr rfl) (pe_call G4 hr (by rfl) m4 k4 b4 .nil pass0 (pa_cons (pv 1) (pa_cons (pe_op op_add pe_int (pe_call G hr (by rfl) mG kG bG .nil pass0 (pa_cons (pv 0) (pa_cons
        (pe_ix ix_list (pe_lst (pa_cons pe_int (pa_cons pe_int (pa_cons pe_int pa_nil)))) (pe_call G hr (by rfl) mG kG bG .nil pass0 (pa_cons (pv 0) (pa_cons pe_int pa_nil))) (fun _ _ => rfl)) pa_nil)))) pa_nil)))))) pss_nil))
    (pss_cons (ps_set (i := 3) scRows.nd rfl (Or.inl rfl) (pe_call G hr (by rfl) mG kG bG .nil pass0 (pa_cons (pv 0) (pa_cons pe_int pa_nil))))
    (pss_cons (ps_cut (ps_if (pt_mo (pw_and (pt_cmpR op_lt (pv 3) pe_int (nomark _)) (pw_and1 (pt_cmpR op_lt (pe_callB call_len_seq (by rfl) M.len PySem.boot_len (pa_cons (pv 2) pa_nil)) pe_int (nomark _)))).pt)
      (pss_one (ps_set (i := 2) scRows.nd rfl (Or.inr rfl) (pe_call G5 hr (by rfl) m5 k5 b5 .nil pass0 (pa_cons (pv 2) (pa_cons (pv 3) pa_nil))))) pss_nil))
    (pss_cons (ps_set (i := 4) scRows.nd rfl (Or.inl rfl) (pe_call G4 hr (by rfl) m4 k4 b4 .nil pass0 (pa_cons (pe_call G hr (by rfl) mG kG bG .nil pass0 (pa_cons (pv 0) (pa_cons pe_int pa_nil)))
      (pa_cons (pe_op op_add pe_int (pe_call G hr (by rfl) mG kG bG .nil pass0 (pa_cons (pv 0) (pa_cons pe_int pa_nil)))) pa_nil))))
    (pss_cons (ps_cut (ps_if (pw_and (pt_cmpR op_eq (pe_call G hr (by rfl) mG kG bG .nil pass0 (pa_cons (pv 0) (pa_cons pe_int pa_nil))) pe_int (nomark _))
        (pw_and1 (pt_cmpR op_le (pe_op op_mul (pe_callB call_len_seq (by rfl) M.len PySem.boot_len (pa_cons (pv 2) pa_nil)) (pe_callB call_len_seq (by rfl) M.len PySem.boot_len (pa_cons (pv 4) pa_nil))) pe_int (nomark _)))).pt
      (pss_one (ps_set (i := 2) scRows.nd rfl (Or.inr rfl) (pe_call G6 hr (by rfl) m6 k6 b6 .nil pass0 (pa_cons (pv 2) (pa_cons (pv 4) pa_nil))))) pss_nil))
    (pss_cons (ps_set (i := 5) scRows.nd rfl (Or.inr rfl) (pe_listRg rfl (by rfl) M.list (prg_1 (by rfl) M.range (pe_callB call_len_seq (by rfl) M.len PySem.boot_len (pa_cons (pv 2) pa_nil)))))
    (pss_cons (ps_set (i := 6) scRows.nd rfl (Or.inr rfl) (pe_lc (own := [("k", 7)]) (g := gName 7) (tt := tYes) rfl scRows.nd (pi_range1 (by rfl) M.range (pa_cons (pe_callB call_len_seq (by rfl) M.len PySem.boot_len (pa_cons (pv 2) pa_nil)) pa_nil))
      (blkOk_by (N := nRows) (sc := defScope sRows) (by decide +kernel)) (fun _ _ _ _ _ => pg_name (i := 7) scRows.nd rfl (Or.inl rfl)) (fun _ _ _ _ _ => pts_nil)
      (fun _ _ _ _ _ => pe_bK (K := K) rfl (pe_bm PySem.F.plainAttrs_list PySem.F.slot_list_pop PySem.F.type_list_pop mt_popAt (pv 5) (pa_cons (pe_call G hr (by rfl) mG kG bG .nil pass0 (pa_cons (pv 0)
        (pa_cons (pe_callB (lenl (K := K) rfl) (by rfl) M.len PySem.boot_len (pa_cons (pv 5) pa_nil)) pa_nil))) pa_nil)))))
    (pss_one (ps_ret (pe_lc (own := [("a", 9)]) (g := gName 9) (tt := tYes) rfl scRows.nd (pi_list (pv 6))
      (blkOk_by (N := nRows) (sc := defScope sRows) (by decide +kernel)) (fun _ _ _ _ _ => pg_name (i := 9) scRows.nd rfl (Or.inr rfl)) (fun _ _ _ _ _ => pts_nil)
      (fun _ _ _ _ _ => pe_lc (own := [("b", 8)]) (g := gName 8) (tt := tYes) rfl scRows.nd (pil (K := K) rfl (pv 6))
        (blkOk_by (N := nRows) (sc := scOut) (by decide +kernel)) (fun _ _ _ _ _ => pg_name (i := 8) scRows.nd rfl (Or.inl rfl)) (fun _ _ _ _ _ => pts_nil)
        (fun _ _ _ _ _ => pe_bK (K := K) rfl (pe_bm PySem.F.plainAttrs_list PySem.F.slot_list_index PySem.F.type_list_index (mt_idx1 (K := K) rfl) (pv 6)
          (pa_cons (pe_ix (ixl (K := K) rfl) (pe_ix (ixl (K := K) rfl) (pv 2) (pv 9) (fun _ _ => rfl)) (pv 8) (fun _ _ => rfl)) pa_nil))))))))))))))), ?_⟩
  refine ⟨_, rfl, p, 10, rfl, hb, by decide, by decide, fun r J ra rb bJ sJ => ?_⟩
  refine ⟨(by show 2 ≤ sizeLine; decide), fun t ht => ⟨t, _, rfl, SqT.of upd_same, rfl, _, _, rfl, _, _, rfl, rfl, ?_⟩⟩
  have bx1 : Bx (upd J t (.tup [.int r, .non])) p := bJ.new ht
  have sx1 : Sx p H (upd J t (.tup [.int r, .non])) := sJ.trans (Sx.new ht)
  refine ⟨fun σ G => ∃ v x1, Bx G p ∧ Sx p H G ∧ (v = .non ∨ ∃ n f, RwAt H p G v n f) ∧ ∃ x3 x4 x5 x6 x7 x8 x9, σ = [some (.ref p), x1, some v, x3, x4, x5, x6, x7, x8, x9], ?_, ?_⟩
  · refine ⟨_, rfl, _, _, rfl, rfl, _, rfl, ite2 (fun c => ?_) (fun c => ?_)⟩
    · refine ⟨_, rfl, p, rfl, bx1, fun v G hv b s => ⟨v, _, b, sx1.trans s, ?_, _, _, _, _, _, _, _, rfl⟩⟩
      rcases hv with hv | ⟨n, f, h1, h2, h3, h4⟩
      · exact .inl hv
      · exact .inr ⟨n, f, RwAt.ofS bx1 sx1 s b h1 h2 h3 h4⟩
    · refine ⟨_, rfl, rfl, _, rfl, ite2 (fun c => ?_) (fun c => ?_)⟩
      · exact ⟨_, rfl, p, rfl, bx1, fun v G sh hs rw b s => ⟨v, _, b, sx1.trans s, .inr ⟨8, fgr sh, RwAt.ofS bx1 sx1 s b (by decide) (by decide) (asf_grid sh hs) rw⟩, _, _, _, _, _, _, _, rfl⟩⟩
      · refine ⟨_, rfl, rfl, _, rfl, ite2 (fun c => ?_) (fun c => ?_)⟩
        · exact ⟨rfl, fun v G rw s => ⟨v, _, bx1.same s, sx1.trans (Sx.of s), .inr ⟨7, fwd, RwAt.of bx1 sx1 s (by decide) (by decide) asf_words rw⟩, _, _, _, _, _, _, _, rfl⟩⟩
        · exact ⟨.non, _, bx1, sx1, .inl rfl, _, _, _, _, _, _, _, rfl⟩
  rintro _ G ⟨v, x1, b, sx, hv, x3, x4, x5, x6, x7, x8, x9, rfl⟩
  refine ⟨fun σ G => ∃ v x1 n f, RwAt H p G v n f ∧ ∃ x3 x4 x5 x6 x7 x8 x9, σ = [some (.ref p), x1, some v, x3, x4, x5, x6, x7, x8, x9], ?_, ?_⟩
  · refine ⟨_, rfl, _, rfl, ite2 (fun c => ?_) (fun c => ?_)⟩
    · refine ⟨_, rfl, p, 6, rfl, b, by decide, by decide, fun kd G1 ka kb b1 s1 => ?_⟩
      obtain ⟨kd, rfl⟩ := Int.eq_ofNat_of_zero_le ka
      refine ⟨_, rfl, _, rfl, (by show 3 ≤ sizeLine; decide), fun l hl => ⟨_, rfl, p, 3, rfl, b1.new hl, by decide, by decide, fun i G2 ia ib b2 s2 => ?_⟩⟩
      have nl : l ≠ p := b1.ne hl
      have el : G2 l = some (.lst [.int 7, .int 7, .int 16]) := s2 l _ nl upd_same
      obtain ⟨z, hz, z1, z2⟩ : ∃ z : Int, atI [V.int 7, .int 7, .int 16] i = some (.int z) ∧ 0 < z ∧ z ≤ 16 := by
        obtain ⟨i, rfl⟩ := Int.eq_ofNat_of_zero_le ia
        have i3 : i < 3 := by omega
        match i, i3 with
        | 0, _ => exact ⟨7, rfl, by decide, by decide⟩
        | 1, _ => exact ⟨7, rfl, by decide, by decide⟩
        | 2, _ => exact ⟨16, rfl, by decide, by decide⟩
      refine ⟨l, _, _, _, rfl, rfl, SqL.of el, hz, p, z, rfl, b2, z1, by omega, fun m G3 ma mb b3 s3 => ?_⟩
      obtain ⟨m, rfl⟩ := Int.eq_ofNat_of_zero_le ma
      refine ⟨_, _, rfl, rfl, kd, 1 + m, congrArg (fun z => [V.int (kd : Int), V.int z]) (by omega), by omega, by omega, by omega, fun v' G4 rw s4 => ?_⟩
      have sx3 : Sx p H G3 := ((sx.trans s1).trans (Sx.new hl)).trans (s2.trans s3)
      exact ⟨v', _, 1 + m, fpl kd (1 + m), RwAt.of b3 sx3 s4 (by omega) (by omega) (asf_plain kd (1 + m) (by omega)) rw, _, _, _, _, _, _, _, rfl⟩
    · rcases hv with rfl | ⟨n, f, hv⟩
      · exact absurd (decide_eq_true rfl) c
      · exact ⟨v, _, n, f, hv, _, _, _, _, _, _, _, rfl⟩
  clear b sx hv x1
  rintro _ G ⟨v, x1, n, f, h, x3, x4, x5, x6, x7, x8, x9, rfl⟩
  refine ⟨_, rfl, p, 5, rfl, h.bx, by decide, by decide, fun mo G1 ma mb b1 s1 => ?_⟩
  obtain ⟨mo, rfl⟩ := Int.eq_ofNat_of_zero_le ma
  have h1 := h.took hb s1 b1
  refine ⟨fun σ G => ∃ v x1 x3 n f, RwAt H p G v n f ∧ ∃ x4 x5 x6 x7 x8 x9, σ = [some (.ref p), x1, some v, x3, x4, x5, x6, x7, x8, x9], ?_, ?_⟩
  · obtain ⟨a, xs, rfl, hxs, lxs⟩ := h1.lst (K := K)
    refine ⟨fun b G' => G1 = G' ∧ (b = true → mo < 2 ∧ n < 16), ?_, ?_⟩
    · refine ⟨_, rfl, _, _, rfl, rfl, _, rfl, ite2 (fun c => ⟨_, rfl, a, xs, rfl, .inl hxs, _, _, rfl, rfl, _, rfl, rfl, fun d => ?_⟩) (fun c => ⟨rfl, fun z => by cases z⟩)⟩
      have c' : ((mo : Nat) : Int) < 2 := of_decide_eq_true c
      have d' : ((xs.length : Nat) : Int) < 16 := of_decide_eq_true d
      exact ⟨by omega, by omega⟩
    rintro bb _ ⟨rfl, hbb⟩
    refine ite2 (fun c => ?_) (fun c => ?_)
    · obtain ⟨c1, c2⟩ := hbb c
      exact ⟨_, rfl, _, rfl, .ref a, mo, n, f, rfl, c1, h1.n1, c2, h1.rows.same nw_to, fun v' G2 rw sm => ⟨v', _, _, n + 1, fex mo n f, RwAt.of h1.bx h1.sx sm (by omega) (by omega) (asf_extended h1.as) rw, _, _, _, _, _, _, rfl⟩⟩
    · exact ⟨.ref a, _, _, n, f, h1, _, _, _, _, _, _, rfl⟩
  clear h h1 b1 s1
  rintro _ G ⟨v, x1, x3, n, f, h, x4, x5, x6, x7, x8, x9, rfl⟩
  refine ⟨_, rfl, p, 6, rfl, h.bx, by decide, by decide, fun kd G1 ka kb b1 s1 => ?_⟩
  obtain ⟨kd, rfl⟩ := Int.eq_ofNat_of_zero_le ka
  refine ⟨_, rfl, p, 3, rfl, b1, by decide, by decide, fun m G2 ma mb b2 s2 => ?_⟩
  obtain ⟨m, rfl⟩ := Int.eq_ofNat_of_zero_le ma
  refine ⟨_, _, rfl, rfl, kd, 2 + m, congrArg (fun z => [V.int (kd : Int), V.int z]) (by omega), by omega, by omega, by omega, fun v2 G3 rw2 sm2 => ?_⟩
  have h2 := (h.took hb (s1.trans s2) b2).to hb sm2
  have o2 : RwAt H p G3 v2 (2 + m) (fpl kd (2 + m)) := RwAt.of b2 (h.sx.trans (s1.trans s2)) sm2 (by omega) (by omega) (asf_plain kd (2 + m) (by omega)) rw2
  refine ⟨fun σ G => ∃ v x1 x3 n f, RwAt H p G v n f ∧ ∃ x4 x5 x6 x7 x8 x9, σ = [some (.ref p), x1, some v, x3, x4, x5, x6, x7, x8, x9], ?_, ?_⟩
  · refine ⟨_, rfl, p, 3, rfl, h2.bx, by decide, by decide, fun r G4 ra rb b4 s4 => ?_⟩
    have h3 := h2.took hb s4 b4
    have o3 := o2.took hb s4 b4
    have stay : ∃ (v' : V) (x1' x3' : Option V) (n' : Nat) (f' : Nat → Nat → Nat), RwAt H p G4 v' n' f' ∧ ∃ x4' x5' x6' x7' x8' x9', ([some (.ref p), x1, some v, x3, some v2, x5, x6, x7, x8, x9] : L2.St) = [some (.ref p), x1', some v', x3', x4', x5', x6', x7', x8', x9'] := ⟨v, _, _, n, f, h3, _, _, _, _, _, _, rfl⟩
    obtain ⟨a, xs, rfl, hxs, lxs⟩ := h3.lst (K := K)
    obtain ⟨a2, xs2, rfl, hxs2, lxs2⟩ := o3.lst (K := K)
    have hn16 := h3.n16
    refine ⟨rfl, _, rfl, ite2 (fun c => ⟨_, rfl, a, xs, rfl, .inl hxs, _, rfl, a2, xs2, rfl, .inl hxs2, _, _, rfl, rfl, .inl ⟨by omega, by omega⟩, _, _, rfl, rfl, _, rfl, ite2 (fun d => ?_) (fun d => stay)⟩) (fun c => iteF stay)⟩
    have d' : ((xs.length : Nat) : Int) * ((xs2.length : Nat) : Int) ≤ 16 := of_decide_eq_true d
    rw [lxs, lxs2] at d'
    have hmul : n * (2 + m) ≤ 16 := by
      have e := Int.natCast_mul n (2 + m)
      omega
    refine ⟨_, rfl, _, rfl, .ref a, .ref a2, n, 2 + m, f, fpl kd (2 + m), rfl, h3.n1, o3.n1, hmul, h3.rows.same nw_to, o3.rows.same nw_to, fun v' G5 rw sm => ⟨v', _, _, n * (2 + m), fpr (2 + m) f (fpl kd (2 + m)), RwAt.of h3.bx h3.sx sm ?_ hmul (asf_pairs o3.n1 h3.as o3.as) rw, _, _, _, _, _, _, rfl⟩⟩
    exact Nat.mul_pos h3.n1 o3.n1
  clear h2 o2 h b1 s1 b2 s2 sm2 rw2
  rintro _ G4 ⟨v, x1, x3, n, f, h, x4, x5, x6, x7, x8, x9, rfl⟩
  obtain ⟨av, xs, rfl, hxs, lxs⟩ := h.lst (K := K)
  have n1 := h.n1
  have n16 := h.n16
  refine ⟨_, rfl, av, xs, rfl, .inl hxs, _, rfl, RgOk.of_le (by omega) (by omega) (by omega) (by omega), fun la hla => ?_⟩
  rw [lxs, rg_nv]
  have nla : la ≠ p := h.bx.ne hla
  have sla : Same G4 (upd G4 la (.lst (nv (List.range n)))) := Same.new hla _
  have hl := h.to hb sla
  obtain ⟨_, xs', e', hxs', lxs'⟩ := hl.lst (K := K)
  cases e'
  refine ⟨_, rfl, av, xs', rfl, .inl hxs', _, rfl, by omega, by omega, fun D hD => ?_⟩
  have nDp : D ≠ p := hl.bx.ne hD
  have nDl : la ≠ D := ne_of_none (show (upd G4 la (.lst (nv (List.range n)))) la = some _ from upd_same) hD
  have D4 : G4 D = none := sla.free hD
  rw [lxs']
  refine lc_range (lo := 0) (n := ((n : Nat) : Int).toNat) (fun i J => Bx J p ∧ Sx p G4 J ∧ ∃ od lf : List Nat, J la = some (.lst (nv lf)) ∧ J D = some (.lst (nv od)) ∧ (od ++ lf).Perm (List.range n) ∧ od.length = i)
    ⟨hl.bx.new hD, (Sx.of sla).trans (Sx.new hD), [], List.range n, by rw [upd_ne nDl]; exact upd_same, upd_same, List.Perm.refl _, rfl⟩ ?_ ?_
  · rintro i J hi ⟨bJ, sJ, od, lf, eL, eD, pm, lo⟩
    have hi' : i < n := by simpa using hi
    have ll : lf.length = n - i := by
      have := pm.length_eq
      rw [List.length_append, List.length_range, lo] at this
      omega
    refine ⟨rfl, _, rfl, Or.inl ⟨rfl, _, SqL.of eL⟩, _, rfl, _, rfl, la, _, rfl, .inl (SqL.of eL), p, _, rfl, bJ, ?_, ?_, fun r J1 ra rb b1 s1 => ?_⟩
    · rw [nv_len]; omega
    · rw [nv_len]; omega
    rw [nv_len] at rb
    obtain ⟨r, rfl⟩ := Int.eq_ofNat_of_zero_le ra
    have hr : r < lf.length := by omega
    have eL1 := s1 la _ nla eL
    have eD1 := s1 D _ nDp eD
    have sq : seqIndex? ((r : Nat) : Int) (nv lf).length = some r := by
      unfold seqIndex?
      have h0 : ¬ ((r : Nat) : Int) < 0 := by omega
      simp only [if_neg h0]
      rw [nv_len, if_pos (by simp; omega), Int.toNat_natCast]
    refine ⟨la, nv lf, _, r, .int ((lf[r] : Nat) : Int), rfl, rfl, eL1, by omega, by omega, sq, by unfold nv; rw [List.getElem?_map, List.getElem?_eq_getElem hr]; rfl, ?_⟩
    refine ⟨nv od, by rw [upd_ne nDl.symm]; exact eD1, by rw [nv_len, lo]; exact small1000 (by omega), (b1.at_ne nla).at_ne nDp, fun b o hbp e => ?_, od ++ [lf[r]], lf.eraseIdx r, ?_, ?_, ?_, by simp [lo]⟩
    · rw [upd_ne (ne_of_none e D4), upd_ne (ne_of_none e hla)]; exact s1 b o hbp (sJ b o hbp e)
    · rw [upd_ne nDl, upd_same, erase_nv]
    · rw [upd_same]; unfold nv; rw [List.map_append]; rfl
    · refine List.Perm.trans ?_ pm
      rw [List.append_assoc]
      exact (erase_pm (List.getElem?_eq_getElem hr)).append_left od
  rintro J ⟨bJ, sJ, o, lf, eL, eD, pm, lo⟩
  rw [Int.toNat_natCast] at lo
  have lf0 : lf = [] := by
    have := pm.length_eq
    rw [List.length_append, List.length_range, lo] at this
    exact List.eq_nil_of_length_eq_zero (by omega)
  subst lf0
  rw [List.append_nil] at pm
  have hJ := h.took hb sJ bJ
  obtain ⟨av', rs, e', eR, pr⟩ := id hJ.rows
  cases e'
  have eR' := nw_to _ _ eR
  have om : ∀ x, x ∈ o → x < n := fun x hx => List.mem_range.mp (pm.mem_iff.mp hx)
  have oi : ∀ x, x < n → x ∈ o := fun x hx => pm.mem_iff.mpr (List.mem_range.mpr hx)
  refine ⟨_, rfl, D, rfl, ⟨_, SqL.of eD⟩, fun D4 hD4 => ?_⟩
  refine lc_it (walk_list (xs := nv o)) (fun i G => Part J G D4 (rowsTo n (frn o f) i)) (Part.start (Same.refl J) hD4) (fun i G _ z => SqL.of (z.same _ _ eD)) ?_ ?_
  · rintro i x G1 G2 hi pa ⟨rfl, hx⟩
    rw [nv_len, lo] at hi
    obtain ⟨ai, hai, rfl⟩ := nv_at hx
    have an : ai < n := om ai (List.mem_of_getElem? hai)
    refine ⟨rfl, _, rfl, D, rfl, ⟨_, SqL.of (pa.same _ _ eD)⟩, fun D5 hD5 => ?_⟩
    refine lc_it (walk_list (xs := nv o)) (fun j G => Same G2 G ∧ G D5 = some (.lst ((rowTo (frn o f) i j).map V.int))) ⟨Same.new hD5 _, upd_same⟩ (fun j G _ z => SqL.of (z.1 _ _ (pa.same _ _ eD))) ?_ ?_
    · rintro j y G3 G4' hj ⟨sG, e5⟩ ⟨rfl, hy⟩
      rw [nv_len, lo] at hj
      obtain ⟨bj, hbj, rfl⟩ := nv_at hy
      have bn : bj < n := om bj (List.mem_of_getElem? hbj)
      have lrs : rs.length = n := by rw [pr.length, tab_len]
      obtain ⟨row, hrow, er⟩ := pair_at pr (List.getElem?_eq_getElem (show ai < rs.length by omega))
      rw [tab_row an] at hrow
      cases hrow
      have er' := sG _ _ (pa.same _ _ (nw_to _ _ er))
      have fl := hJ.as.lt ai bj an bn
      have gt : o.idxOf (f ai bj) < o.length := List.idxOf_lt_length_iff.mpr (oi _ fl)
      refine ⟨rfl, _, rfl, Or.inl ⟨rfl, _, SqL.of (sG _ _ (pa.same _ _ eD))⟩, _, rfl, _, rfl, av, _, _, _, rfl, rfl, SqL.of (sG _ _ (pa.same _ _ eR')), at_of (j := ai) rfl (by rw [List.getElem?_map, List.getElem?_eq_getElem (show ai < rs.length by omega)]; rfl), _, rfl, rs[ai], _, _, .int ((f ai bj : Nat) : Int), rfl, rfl, SqL.of er',
        at_of (j := bj) rfl (by rw [List.getElem?_map, List.getElem?_map, List.getElem?_range bn]; rfl), ?_⟩
      refine ⟨D, nv o, .int ((f ai bj : Nat) : Int), o.idxOf (f ai bj), .int ((f ai bj : Nat) : Int), rfl, rfl, SqL.of (sG _ _ (pa.same _ _ eD)), rfl, ?_, ?_, beq_self_eq_true _, fun m z' hm hz' => ?_, _, e5, by rw [rowTo_len]; exact small1000 (by omega), fun c ob ec => by rw [upd_ne (ne_of_none ec hD5)]; exact sG c ob ec, ?_⟩
      · unfold nv; rw [List.all_map]; exact List.all_eq_true.mpr fun _ _ => rfl
      · unfold nv; rw [List.getElem?_map, List.getElem?_eq_getElem gt, List.getElem_idxOf gt]; rfl
      · obtain ⟨w, hw, rfl⟩ := nv_at hz'
        have ne := idx_ahead1 hm hw
        exact beq_eq_false_iff_ne.mpr (by omega)
      · rw [upd_same, rowTo_next, List.map_append]
        refine congrArg (fun z => some (HO.lst (_ ++ [V.int z]))) ?_
        show ((o.idxOf (f ai bj) : Nat) : Int) = ((frn o f i j : Nat) : Int)
        unfold frn plc
        rw [List.getD_eq_getElem?_getD, hai, List.getD_eq_getElem?_getD, hbj]; rfl
    · rintro G3 ⟨sG, e5⟩
      rw [nv_len, lo] at e5
      obtain ⟨acc, ea, lacc, p1⟩ := pa.add sG hD5 e5
      refine ⟨acc, ea, by rw [lacc, rowsTo_len]; exact small1000 (by omega), ?_⟩
      rw [rowsTo_next]
      exact p1
  · rintro G1 pa
    rw [nv_len, lo] at pa
    have pa' : Part J G1 D4 (tab n (frn o f)) := pa
    exact q _ _ n (frn o f) (RwAt.of hJ.bx hJ.sx pa'.same n1 n16 (asf_renum hJ.as pm) pa'.fin)
end
end L

set_option Elab.async false
set_option linter.all false
set_option maxRecDepth 100000
set_option maxHeartbeats 4000000
/-! Own layer: len of an own instance; a call of a def held as a value. -/
namespace KX
open PySem PySem.Spec PyProof.Rows L2
section
open PySem.W
variable {M : Model} {A : Around} {E : Value → Shared → Prop} {s : Shared} {K : Frag}
/-- a special method of the text -/
theorem cspecF {self : Value} {name : PySem.Str} {f : Addr} {args : List Value} {Q : Option Value → Shared → Prop} (X : K.In s.heap) (sp : Looks M s.heap (specialOf self name) (some (.ref f))) (tf : typeIn K (.ref f) = some (.type "function"))
    (hc : wpAny M A (call (.ref f) (self :: args)) (fun v => Q (some v)) E s) : wpAny M A (callSpecial? self name args) Q E s := by
  simp only [callSpecial?]
  refine wpAny_bind (sp.here ?_)
  refine wpAny_holding (wpAny_bind ((bind_fn X self tf).here ?_))
  exact wpAny_bind (wpAny_mono hc (fun v s' h' => wpAny_pure h') fun _ _ h' => h')
end
section
variable {X : Cx} {CX : CXT} {k : Nat} {C f : Addr} {fd : FuncData} {sp : Sp}
def rLenOwn (C : Addr) (sp : Sp) : List V → Hp → VK → Prop := fun xs H Q => ∃ (p dx : Addr) (fs : List (Str × V)), xs = [.ref p] ∧ H p = some (.ins C dx fs) ∧ sp [.ref p] H (fun v H1 => ∃ n : Nat, v = .int (n : Int) ∧ (n : Int) < 2 ^ 63 ∧ Q (.int n) H1) (fun _ _ _ => False)
theorem call_lenOwn (hm : PySem.W.findIn X.K (.ref C) "__len__" = some (some (.ref f))) (tf : PySem.W.typeIn X.K (.ref f) = some (.type "function")) (F : FnOk X.prog X.w X.K X.mg X.base CX0 k f fd ["self"] sp) (hr : Room (k + 1) X.A) (hb : Binds X.K fd ["self"] []) :
    CallR X (.builtin "len") (rLenOwn C sp) := by
  intro pins s σ H xs us Q I r h
  obtain ⟨p, dx, fs, rfl, hp, q⟩ := h
  obtain ⟨u, rfl, rx⟩ := vals1 r
  cases rx
  obtain ⟨mA, J, _⟩ := ins_get I.hok hp
  obtain ⟨od, J, _⟩ := J.look
  have sp1 : PySem.W.Looks (model X.prog X.w) s.heap (specialOf (.ref p) "__len__") (some (.ref f)) := J.type.andThen (PySem.W.looks_findIn I.kIn hm)
  have hl := F.len _ _ _ _ q
  have r2 : Vals [V.ref p] [Value.ref p] := .cons rfl .nil
  have e0 : Env0 X.prog X.w X.K X.mg X.base X.A.in1 X.stack s H := I.env0.in1
  have run : wpAny (model X.prog X.w) X.A.in1 (call (.ref f) [.ref p]) (fun r s' => ∃ n u, r = .int n u ∧ 0 ≤ n ∧ n < 2 ^ 63 ∧ EP X pins σ Q (.int n s'.toks) { s' with toks := s'.toks + 1 }) X.xe s := by
    refine wpAny_call (codeAny_mono (F.run X.A.in1 X.stack s H ⟨[.ref p], []⟩ [.ref p] [.ref p] _ _ hr.in1 e0 (by
      have := hb s [.ref p] I.kIn rfl
      simpa using this) r2 q) fun o s' hq => ?_)
    match o, hq with
    | .error u, hq => exact hq.elim
    | .ok (.ret u), hq =>
      obtain ⟨v, H1, I1, rv, n, rfl, hn, q'⟩ := I.after hq
      obtain ⟨t, rfl⟩ := rv
      exact ⟨n, t, rfl, by omega, hn, .int n, H1, I1.tok _, ⟨_, rfl⟩, q'⟩
    | .ok .next, hq => exact hq.elim
    | .ok .brk, hq => exact hq.elim
    | .ok .cont, hq => exact hq.elim
  refine Calls.call_function_entry kind_len plain_len entry_len (args_len1 _) ?_
  unfold Builtin.«len»
  refine wpAny_bind (m := oneArg "len" _) (wpAny_pure ?_)
  refine wpAny_bind (m := callSpecial? (.ref p) (PySem.Str.ofString "__len__")) (cspecF I.kIn sp1 tf (wpAny_mono run (fun r s' hr => ?_) fun _ _ y => y))
  obtain ⟨n, u, rfl, h0, h1, hq⟩ := hr
  refine wpAny_bind (wpAny_holding (wpAny_pure ?_))
  refine wpAny_bind (wpAny_letGo ?_)
  show wpAny _ _ (if n < 0 then _ else _) _ _ _
  rw [if_neg (by omega)]
  show wpAny _ _ (if n ≥ 2 ^ 63 then _ else _) _ _ _
  rw [if_neg (by omega)]
  exact wpAny_bind (wpAny_mkInt (wpAny_pure ⟨_, rfl, hq⟩))
end
/-- e(..), e one of some defs -/
structure Hld (P : Program) (w : World) (K : PySem.W.Frag) (mg : Str → Option Value) (base : Heap) (k : Nat) (f : Addr) (sp : Sp) : Prop where
  ex : ∃ (fd : FuncData) (ps : List Str), FnOk P w K mg base CX0 k f fd ps sp ∧ PySem.W.keepIn K (.ref f) = true ∧ Binds K fd ps []
def tCallV (S : Addr → Sp → Prop) (te : TE) (t : TA) : TE := fun σ H Q => te σ H fun x H0 => ∃ f sp, x = .ref f ∧ S f sp ∧ t σ H0 fun vs H1 => sp vs H1 Q (fun _ _ _ => False)
theorem Hld.of {P : Program} {w : World} {K : PySem.W.Frag} {mg : Str → Option Value} {base : Heap} {j k : Nat} {f : Addr} {fd : FuncData} {ps : List Str} {sp : Sp} (F : FnOk P w K mg base CX0 j f fd ps sp) (h : j ≤ k) (hk : PySem.W.keepIn K (.ref f) = true) (hb : Binds K fd ps []) : Hld P w K mg base k f sp :=
  ⟨fd, ps, ⟨F.len, fun A out s H args us vs Q E hr => F.run A out s H args us vs Q E (hr.mono h)⟩, hk, hb⟩
section
variable {X : Cx} {k : Nat} {o e : Expr} {es : List Expr} {t : TA} {te : TE} {pos : Pos}
theorem pe_callV {S : Addr → Sp → Prop} (A : ∀ f sp, S f sp → Hld X.prog X.w X.K X.mg X.base k f sp) (hr : Room k X.A) (ho : PE X o te) (ha : PA X (e :: es) t)
    (ht : eval (.Call o (e :: es) [] pos) X.env = (do callWith pos (← eval o X.env) [] (backTo pos (starEach (e :: es) X.env)) (backToKw pos (keywordEach [] X.env))) := by rfl)
    (hst : starEach (e :: es) X.env = (false, eval e X.env) :: starEach es X.env := by rfl) (hpl : (backTo pos (starEach es X.env)).any (·.1) = false := by rfl) : PE X (.Call o (e :: es) [] pos) (tCallV S te t) := ⟨fun pins s σ H Q I h => by
  rw [ht]
  refine wpAny_bind (thn (ho.run pins s σ H _ I h) fun u s1 ⟨x, H1, I1, rx, f, sp, ex, hS, q⟩ => ?_)
  subst ex
  obtain rfl : u = Value.ref f := rx
  obtain ⟨fd, ps, F, hk, hb⟩ := (A f sp hS).ex
  refine PySem.W.callWith_K (h₀ := X.base) I.ok.mod.kin hk (thn (ha.run pos pins s1 σ H1 _ I1 q) fun us s2 ⟨vs, H2, I2, r, q2⟩ => ⟨I2.kIn, ?_⟩) hst hpl
  have q3 : sp (vs ++ []) H2 Q (fun _ _ _ => False) := by rw [List.append_nil]; exact q2
  exact run_fn (us := us) (vs := vs) F hr hb .nil (fun _ _ _ _ _ _ _ z => z.elim) I2 r q3⟩
end
end KX

set_option Elab.async false
set_option linter.all false
set_option maxRecDepth 100000
set_option maxHeartbeats 4000000
/-! Own layer: set(a list of whole numbers), to be sorted or walked. -/
namespace KX
open PySem PySem.Spec PyProof.Rows L2
/-- an empty set, as it is made -/
abbrev freshSet (w : World) : Obj := { cls := .type "set", dict := none, data := .set #[] 0 (.fresh 0 0 (!w.params.followText "set-order")) }
abbrev listIt (l : Addr) : Obj := { cls := .type "list_iterator", data := .fields #[.ref l, .int 0 0] }
section
variable {P : Program} {w : World} {A : Around} {E : Value → Shared → Prop} {st : Shared}
/-- what stands behind set(l) -/
def SetMade (w : World) (st : Shared) (ns : List Int) (h' : Heap) (c : Nat) : Prop := SetR w h' st.heap.objs.size (fun j => decide (j ∈ ns)) c ∧ c ≤ ns.length ∧ ∀ b o, st.heap.get? b = some o → h'.get? b = some o
theorem set_init_list {l : Addr} {items : Array Value} (ns : List Int) (hh : A.handled = none) (hl : st.heap.IsList l items) (hit : IntsAre items.toList ns) (hb : ns.length + 1 < scanBound) :
    codeAny (model P w) A (.call (.builtin "set.__init__") ⟨[.ref st.heap.objs.size, .ref l], []⟩) (wants (fun r s₂ => r = .none ∧ ∃ h' tk c, s₂ = { st with heap := h', toks := tk } ∧ SetMade w st ns h' c) E) { st with heap := st.heap.push (freshSet w) } := by
  have hz : items.size = ns.length := by
    have := IntsAre.length hit
    rwa [Array.length_toList] at this
  have e0 : (st.heap.push (freshSet w)).get? st.heap.objs.size = some (freshSet w) := Heap.get?_push_size _ rfl
  have ty : Shared.TypeIs { st with heap := st.heap.push (freshSet w) } (.ref st.heap.objs.size) "set" := ⟨_, e0, rfl⟩
  refine codeAny_call_builtin F.called_set.init.plain F.entry_set_init (check_set_init_1 ty ?_)
  obtain ⟨⟨lcls, ldict, ldata, lslots⟩, hol, hcl, nl, hdl⟩ := hl
  simp only at hcl hdl
  subst hcl; subst hdl
  have hol2 : (st.heap.push (freshSet w)).get? l = some { cls := .type "list", dict := ldict, data := .seq items nl, slots := lslots } := Heap.get?_push_of_some _ hol
  have q1 := F.sub_list_set
  have q2 := F.sub_list_frozenset
  have q3 : (Value.type "list" == Value.type "dict") = false := by decide
  have isl : (st.heap.push (freshSet w)).IsList l items := ⟨_, hol2, rfl, nl, rfl⟩
  unfold Builtin.«set.__init__» noKeywords Builtin.Frozenset.updateFrom
  generalize hPI : pyIter = walk
  wp_walk
  subst hPI
  refine wpAny_pyIter_list isl ?_
  refine wpAny_bind (wpAny_runValue ?_)
  have small : l < st.heap.objs.size := Heap.lt_size hol
  have sz1 : (st.heap.push (freshSet w)).objs.size = st.heap.objs.size + 1 := Heap.size_push ..
  have calm3 : A.in1.in1.handled = none := by simp [hh]
  have apart : l ≠ (st.heap.push (freshSet w)).objs.size := by rw [sz1]; exact Nat.ne_of_lt (Nat.lt_succ_of_lt small)
  have off : st.heap.objs.size ∉ [(st.heap.push (freshSet w)).objs.size, l] := by
    rw [sz1]; simp only [List.mem_cons, List.not_mem_nil, or_false, not_or]
    exact ⟨Nat.ne_of_lt (Nat.lt_succ_self _), Nat.ne_of_gt small⟩
  have vals : ∀ (i : Nat) (v : Value), items[i]? = some v → ∃ k t, ns[i]? = some k ∧ v = .int k t := fun i v hv => by
    have hi : i < ns.length := hz ▸ (Array.getElem?_eq_some_iff.mp hv).1
    obtain ⟨t, e⟩ := IntsAre.int_at hit i v (by rw [Array.getElem?_toList]; exact hv)
    rw [List.getD_eq_getElem?_getD, List.getElem?_eq_getElem hi] at e
    exact ⟨ns[i], t, List.getElem?_eq_getElem hi, e⟩
  refine set_update_ints ((Walks.list calm3 _ l apart items).toS) st.heap.objs.size off ns hz hb vals (items.size - 0) 0 _ (by omega) (Nat.zero_le _)
    ⟨⟨_, Heap.get?_push_size _ rfl, rfl, rfl⟩, isl.push _⟩ ?first ?last
  case first =>
    have keep : ((st.heap.push (freshSet w)).push (listIt l)).get? st.heap.objs.size = some (freshSet w) := Heap.get?_push_of_some _ e0
    exact ⟨0, Nat.le_refl 0, setR_new_at keep⟩
  case last =>
    rintro ⟨h', g2, d2, tk, os2⟩ c hm hc hR
    have e1 : g2 = st.gens := hm.gens
    have e2 : d2 = st.drawn := hm.drawn
    have e3 : os2 = st.os := hm.os
    subst e1; subst e2; subst e3
    show wpAny _ _ _ _ _ _
    refine wpAny_pure ?_
    show wpAny _ _ (ret Value.none) _ _ _
    rw [hz] at hc
    refine wpAny_pure ⟨rfl, h', tk, c, rfl, hR, hc, fun b o e => ?_⟩
    have hlt : b < st.heap.objs.size := Heap.lt_size e
    refine hm.heap b o ?_ (Heap.get?_push_of_some _ (Heap.get?_push_of_some _ e))
    simp only [List.mem_cons, List.not_mem_nil, or_false, not_or]
    exact ⟨Nat.ne_of_lt hlt, by rw [sz1]; exact Nat.ne_of_lt (Nat.lt_succ_of_lt hlt)⟩
theorem set_of_list {l : Addr} {items : Array Value} (ns : List Int) {Q : Value → Shared → Prop} (hh : A.handled = none) (hl : st.heap.IsList l items) (hit : IntsAre items.toList ns) (hb : ns.length + 1 < scanBound)
    (h : ∀ h' tk c, SetMade w st ns h' c → Q (.ref st.heap.objs.size) { st with heap := h', toks := tk }) : wpAny (model P w) A (call (.type "set") [.ref l]) Q E st := by
  obtain ⟨c0, tl, hmro⟩ := F.called_set.mro
  have m1 := F.called_set.made
  have m2 := F.called_set.sub
  refine wpAny_call (codeAny_of_tree ?_)
  show wpAny _ _ (callAny (.type "set") _) _ _ _
  refine wpAny_pure ⟨Code.quiet_builtin _ (by decide +kernel), codeAny_builtin F.entry_type_call ?_⟩
  rw [Around.under_plain (weight_type_call_type "set" [.ref l] []) rfl]
  have t1 := F.called_set.notType
  have t2 := F.called_set.canCreate
  have t3 := F.typeCall_set_1 (.ref l)
  repeat (any_goals (first | assumption | wp_step))
  refine codeAny_mono (code_set_led1 (.ref l) (E := E) (Q₁ := fun ob s₁ => ob = .ref st.heap.objs.size ∧ s₁ = { st with heap := st.heap.push (freshSet w) }) ⟨rfl, rfl⟩) fun r s₁ hr => ?_
  match r, hr with
  | .error e, hr => exact hr
  | .ok .next, hr => exact hr.elim
  | .ok .brk, hr => exact hr.elim
  | .ok .cont, hr => exact hr.elim
  | .ok (.ret ob), hr =>
    obtain ⟨rfl, rfl⟩ := hr
    have e0 : (st.heap.push (freshSet w)).get? st.heap.objs.size = some (freshSet w) := Heap.get?_push_size _ rfl
    have ty : Shared.TypeIs { st with heap := st.heap.push (freshSet w) } (.ref st.heap.objs.size) "set" := ⟨_, e0, rfl⟩
    have i1 := F.called_set.init.lookup
    have i2 := F.called_set.init.bind (.ref st.heap.objs.size)
    repeat (any_goals (first | assumption | wp_step))
    refine codeAny_mono (set_init_list (P := P) (w := w) (A := A.in1) (E := E) ns ?_ hl hit hb) fun r₂ s₂ hr₂ => ?_
    · simp [hh]
    match r₂, hr₂ with
    | .error e, hr₂ => exact hr₂
    | .ok .next, hr₂ => exact hr₂.elim
    | .ok .brk, hr₂ => exact hr₂.elim
    | .ok .cont, hr₂ => exact hr₂.elim
    | .ok (.ret rr), hr₂ =>
      obtain ⟨rfl, h', tk, c, rfl, made⟩ := hr₂
      repeat (any_goals (first | assumption | wp_step))
      exact h _ _ _ made
end
section
variable {X : Cx}
/-- set(l), l a list of whole numbers -/
def rSetL (K : PySem.W.Frag) (w : World) : List V → Hp → VK → Prop := fun xs H Q => ∃ (l : Addr) (ns : List Int), xs = [.ref l] ∧ SqL K H l (ns.map V.int) ∧ ns.length ≤ 4000 ∧
  ∀ p c, H p = none → c ≤ ns.length → Q (.ref p) (upd H p (SetO w p (fun j => decide (j ∈ ns)) c))
theorem ct_set (hc : X.calm = true) {K : PySem.W.Frag} (hK : X.K = K) {w : World} (hw : X.w = w) : CallR X (.type "set") (rSetL K w) := by
  subst hK; subst hw
  intro pins s σ H xs us Q I r h
  obtain ⟨l, ns, rfl, hS, hn, q⟩ := h
  obtain ⟨u, rfl, rx⟩ := vals1 r
  cases rx
  obtain ⟨its, rv, pl, hz⟩ := I.list hS
  refine set_of_list ns (I.ok.hd hc) pl.isList (by simpa using ints_of_vals rv) (by unfold scanBound; omega) fun h' tk c ⟨R, hc', k⟩ => ?_
  exact ⟨.ref s.heap.objs.size, _, I.laid (t' := tk) k (Nat.le_refl _) (setO_new R), rfl, q _ c (I.hok.fresh (Nat.le_refl _)) hc'⟩
end
end KX

set_option Elab.async false
set_option linter.all false
set_option maxRecDepth 100000
set_option maxHeartbeats 4000000
namespace L
open PySem L2 KX
abbrev sLen : Stmt := inClass (top 17) 1
abbrev sRowsM : Stmt := inClass (top 17) 3
theorem clist {X : Cx} {K : PySem.W.Frag} (hK : X.K = K) : CallR X (.type "list") (fun xs H Q => ∃ p ys, xs = [.ref p] ∧ (SqL K H p ys ∨ SqT K H p ys) ∧ ∀ l, H l = none → Q (.ref l) (upd H l (.lst ys))) := by subst hK; exact call_list_of
theorem fldK {X : Cx} {K : PySem.W.Frag} (hK : X.K = K) {e : Expr} {f : Str} {ta : TE} {pos : Pos} (he : PE X e ta) (hb : attributeBase e f X.env (eval e X.env) = eval e X.env) : PE X (.Attribute e f pos) (tFld K ta f) := by subst hK; exact pe_fld he hb
/-! ### lists of ints as data -/
def iD (m : List Int) : List PyData := m.map PyData.int
theorem iD_lay : ∀ m : List Int, PyData.canLayAll0 (iD m) = true
  | [] => by unfold iD; simp [PyData.canLayAll0]
  | x :: m => by
    have h := iD_lay m
    unfold iD at h ⊢
    simp [PyData.canLayAll0, PyData.canLay0, h]
theorem iD_depth : ∀ m : List Int, PyData.depthAll (iD m) = 0
  | [] => by unfold iD; simp [PyData.depthAll]
  | x :: m => by
    have h := iD_depth m
    unfold iD at h ⊢
    simp [PyData.depthAll, PyData.depth, h]
theorem iD_shaped (m : List Int) : SeqAt.shaped (.list (iD m)) = true := by
  have h2 : PyData.depth (.list (iD m)) = 1 := by simp only [PyData.depth, iD_depth m]
  have h1 : PyData.canLay0 (.list (iD m)) = true := by simp only [PyData.canLay0]; exact iD_lay m
  show (PyData.canLay0 (.list (iD m)) && decide (PyData.depth (.list (iD m)) ≤ 64)) = true
  rw [Bool.and_eq_true]
  exact ⟨h1, decide_eq_true (by omega)⟩
theorem iD_eqvAll : ∀ a b : List Int, PyData.eqvAll (iD a) (iD b) = decide (a = b)
  | [], [] => by unfold iD; simp [PyData.eqvAll]
  | [], _ :: _ => by unfold iD; simp [PyData.eqvAll]
  | _ :: _, [] => by unfold iD; simp [PyData.eqvAll]
  | x :: a, y :: b => by
    have h := iD_eqvAll a b
    unfold iD at h ⊢
    simp only [List.map_cons, PyData.eqvAll, PyData.eqv, h]
    by_cases e : x = y
    · subst e
      rw [show (x == x) = true from beq_self_eq_true _, Bool.true_and]
      by_cases e2 : a = b
      · subst e2; simp
      · rw [decide_eq_false e2, decide_eq_false fun z => e2 (List.cons.inj z).2]
    · rw [show (x == y) = false from beq_eq_false_iff_ne.mpr e, Bool.false_and, decide_eq_false fun z => e (List.cons.inj z).1]
theorem iD_eqv (a b : List Int) : PyData.eqv (.list (iD a)) (.list (iD b)) = decide (a = b) := by
  simp only [PyData.eqv]; exact iD_eqvAll a b
theorem dp_ints {K : PySem.W.Frag} {G : Hp} : ∀ m : List Int, DpAll K G (m.map V.int) (iD m)
  | [] => .nil
  | x :: m => .cons (.int _) (dp_ints m)
/-- the numbers 0 .. n-1 -/
def nums (n : Nat) : List Int := (List.range n).map fun i : Nat => ((i : Nat) : Int)
theorem rg_nums (n : Nat) : rgV 0 (n : Int) = (nums n).map V.int := by
  unfold rgV nums
  rw [Int.sub_zero, Int.toNat_natCast, List.map_map]
  exact List.map_congr_left fun x _ => by rw [Int.zero_add]; rfl
def spLenM (K : PySem.W.Frag) (C : Addr) : Sp := fun vs H Q _ => ∃ p tb, vs = [.ref p] ∧ TbA K C H p tb ∧ Q (.int tb.length) H
def spRowsM (K : PySem.W.Frag) (C : Addr) : Sp := fun vs H Q _ => ∃ p tb, vs = [.ref p] ∧ TbA K C H p tb ∧ tb.length ≤ 16 ∧ ∀ v H', RowsL (nw H H') v tb → Same H H' → Q v H'
section
variable {P : Program} {w : World} {K : PySem.W.Frag} {mg : Str → Option Value} {base : Heap} {f g gn : Addr} {fd gd gnd : FuncData} {C CE fE : Addr} {dE : FuncData}
theorem scLen : FnScope ["self"] ["self"] (defScope sLen) := ⟨rfl, rfl, rfl, by decide +kernel, rfl, by decide +kernel, by decide +kernel⟩
theorem ok_len (F : Fun K "__len__" "ProductTable.__len__" sLen f fd) (M : Mn mg) (T : CTx K mg C) : FnOk P w K mg base CX0 1 f fd ["self"] (spLenM K C) := by
  refine F.ok scLen (fun vs H Q E h => ?_) (fun cdv A outer s H vs Q E hr h => ?_)
  · obtain ⟨p, tb, rfl, _⟩ := h
    rfl
  obtain ⟨p, tb, rfl, ⟨dx, t, rs, hp, ht, pr⟩, q⟩ := h
  refine ⟨_, pss_one (ps_ret (pe_callB call_len_seq (by rfl) M.len PySem.boot_len (pa_cons (pe_fld (pv 0) rfl) pa_nil))), ?_⟩
  refine ⟨_, rfl, p, C, dx, _, _, rfl, hp, T.cl, T.nR, rfl, t, rs, rfl, .inr ht, ?_⟩
  rw [pr.length]
  exact q
theorem scRowsM : FnScope ["self", "row"] ["self"] (defScope sRowsM) := ⟨rfl, rfl, rfl, by decide +kernel, rfl, by decide +kernel, by decide +kernel⟩
theorem ok_rowsM (F : Fun K "rows" "ProductTable.rows" sRowsM f fd) (M : Mn mg) (T : CTx K mg C) : FnOk P w K mg base CX0 1 f fd ["self"] (spRowsM K C) := by
  refine F.ok scRowsM (fun vs H Q E h => ?_) (fun cdv A outer s H vs Q E hr h => ?_)
  · obtain ⟨p, tb, rfl, _⟩ := h
    rfl
  obtain ⟨p, tb, rfl, ⟨dx, t, rs, hp, ht, pr⟩, n16, q⟩ := h
  refine ⟨_, pss_one (ps_ret (pe_lc (own := [("row", 1)]) (g := gName 1) (tt := tYes) rfl scRowsM.nd (pi_tup (pe_fld (pv 0) rfl))
    (blkOk_by (N := ["self", "row"]) (sc := defScope sRowsM) (by decide +kernel)) (fun _ _ _ _ _ => pg_name (i := 1) scRowsM.nd rfl (Or.inl rfl)) (fun _ _ _ _ _ => pts_nil)
    (fun _ _ _ _ _ => pe_callTy (T := "list") (clist (K := K) rfl) (by rfl) M.list (by decide +kernel) (pa_cons (pv 1) pa_nil)))), ?_⟩
  refine ⟨_, rfl, p, C, dx, _, _, rfl, hp, T.cl, T.nR, rfl, t, rfl, ⟨_, ht⟩, fun D hD => ?_⟩
  refine lc_it (walk_tup (xs := rs)) (fun i J => Part H J D (tb.take i)) (Part.start (Same.refl H) hD) (fun i J _ z => Same.tup z.same ht) ?_ ?_
  · rintro i x J J1 hi pa ⟨rfl, hx⟩
    obtain ⟨row, hrow, r, rfl, hr1⟩ := pair_at pr hx
    refine ⟨rfl, _, rfl, r, _, rfl, .inr (Same.tup pa.same hr1), fun l hl => ?_⟩
    have hi' : i < tb.length := by rw [← pr.length]; exact hi
    obtain ⟨acc, ea, la, p1⟩ := pa.add (q := l) (row := row) (Same.new hl _) hl upd_same
    have tk : tb.take (i + 1) = tb.take i ++ [row] := by rw [List.take_add_one, hrow]; rfl
    refine ⟨acc, ea, by rw [la, List.length_take]; exact small1000 (by omega), ?_⟩
    rw [tk]
    exact p1
  · rintro J pa
    rw [pr.length, List.take_of_length_le (Nat.le_refl _)] at pa
    exact q _ _ pa.fin pa.same
theorem row_at {H : Hp} {rs : List V} {tb : List (List Int)} (pr : Paired (fun x row => ∃ r, x = V.ref r ∧ SqT K H r (row.map V.int)) rs tb) (S : Sqr tb) {a : Nat} (ha : a < tb.length) :
    ∃ r, rs[a]? = some (V.ref r) ∧ SqT K H r ((tb.getD a []).map V.int) ∧ ∀ b, b < tb.length → ((tb.getD a []).map V.int)[b]? = some (.int (mu tb a b)) := by
  have hrs : a < rs.length := by rw [pr.length]; exact ha
  obtain ⟨row, h1, r, e1, hr1⟩ := pair_at pr (List.getElem?_eq_getElem hrs)
  have er : tb.getD a [] = row := by rw [List.getD_eq_getElem?_getD, h1]; rfl
  have hl : row.length = tb.length := S.row row (List.mem_of_getElem? h1)
  refine ⟨r, (List.getElem?_eq_getElem hrs).trans (congrArg some e1), by rw [er]; exact hr1, fun b hb => ?_⟩
  unfold mu
  rw [er, List.getElem?_map, List.getElem?_eq_getElem (by omega), List.getD_eq_getElem?_getD, List.getElem?_eq_getElem (by omega)]; rfl
end
end L

set_option Elab.async false
set_option linter.all false
set_option maxRecDepth 100000
set_option maxHeartbeats 4000000
/-! Own layer: exception classes «class C(..): def __init__(self, f): self.f = f»: made, raised, read in the suite. -/
namespace KX
open PySem PySem.Spec PyProof.Rows L2
/-- __init__ of such a class -/
def spEi (K : PySem.W.Frag) (C : Addr) (f : Str) : Sp := fun vs H Q _ => ∃ (a : Addr) (v : V), vs = [.ref a, v] ∧ H a = some (exo a C none) ∧ OexC K C ∧ PySem.W.findIn K (.ref C) f = some none ∧
  ∀ dx, H dx = none → dx ≠ a → Q .non (upd (upd H dx (exd dx [(f, v)])) a (exo a C (some dx)))
theorem exo_ne {e C d : Addr} (H : Hp) {o : HO} : (upd H e o) d = none → d ≠ e := fun h z => by rw [z, upd_same] at h; cases h
theorem made_heap {H : Hp} {a C dx : Addr} {o1 o2 o3 o4 : HO} (ha : H a = none) (n : dx ≠ a) : upd (del (upd (upd (upd H a o1) dx o2) a o3) a) dx o4 = upd H dx o4 := by
  funext b
  by_cases h1 : b = dx
  · subst h1; rw [upd_same, upd_same]
  · rw [upd_ne h1, upd_ne h1]
    by_cases h2 : b = a
    · subst h2; rw [del_same, ha]
    · rw [del_ne h2, upd_ne h2, upd_ne h1, upd_ne h2]
section
variable {X : Cx}
/-- arguments by what is known of them -/
def tMoA (ta : TA) : TA := fun σ H Q => ∃ R : List V → Hp → Prop, ta σ H R ∧ ∀ vs H1, R vs H1 → Q vs H1
theorem pa_mo {es : List Expr} {ta : TA} (h : PA X es ta) : PA X es (tMoA ta) :=
  ⟨fun pos pins s σ H Q I ⟨R, h1, k⟩ => thn (h.run pos pins s σ H R I h1) fun us s1 ⟨vs, H1, I1, r, q⟩ => ⟨vs, H1, I1, r, k vs H1 q⟩⟩
/-- C(e) -/
def tMkV (C : Addr) (f : Str) (ta : TA) : L2.St → Hp → XK → Prop := fun σ H Q => ∃ R : List V → Hp → Prop, ta σ H R ∧ ∀ vs H1, R vs H1 → ∃ v, vs = [v] ∧ ∀ d, H1 d = none → Q (.ref C) (some d) (upd H1 d (.xd [(f, v)]))
theorem pmk_val {x f ps1 ps2 : Str} {C fI : Addr} {k : Nat} {fd : FuncData} {e : Expr} {ta : TA} {p pos : Pos} (T : OexC X.K C) (iC : PySem.W.findIn X.K (.ref C) "__init__" = some (some (.ref fI))) (tI : PySem.W.typeIn X.K (.ref fI) = some (.type "function"))
    (noF : PySem.W.findIn X.K (.ref C) f = some none) (F1 : FnOk X.prog X.w X.K X.mg X.base CX0 k fI fd [ps1, ps2] (spEi X.K C f)) (hr : Room (k + 1) X.A) (hb : Binds X.K fd [ps1, ps2] []) (hg : Gl X x) (hm : X.mg x = some (.ref C)) (ha : PA X [e] ta)
    (hdb : (x == ("__debug__" : Str)) = false := by decide) (he : starEach [e] X.env = (false, eval e X.env) :: starEach [] X.env := by rfl) (hpl : (backTo pos (starEach [] X.env)).any (·.1) = false := by rfl) :
    PMk X (.Call (.Name x p) [e] [] pos) (tMkV C f ta) := by
  intro pins s σ H Q I h
  obtain ⟨R, h1, kk⟩ := h
  refine pmk_oex T iC tI F1 hr hb .nil (fun _ _ _ _ _ _ _ z => z.elim) hg hm (pa_mo ha) hdb he hpl pins s σ H Q I ⟨R, h1, fun vs H1 r => ?_⟩
  obtain ⟨v, rfl, q⟩ := kk vs H1 r
  refine ⟨(by show 1 ≤ 1000; decide), fun a hn => ⟨a, v, rfl, upd_same, T, noF, fun dx hdx nd => ⟨rfl, dx, [(f, v)], upd_same, by rw [upd_ne nd]; exact upd_same, ?_, ?_⟩⟩⟩
  · rw [upd_ne nd] at hdx; exact hdx
  · rw [made_heap (C := C) hn nd]
    refine q dx ?_
    rw [upd_ne nd] at hdx; exact hdx
end
section
variable {X : Cx} {k : Nat} {f : Addr} {fd : FuncData} {ps ks : List Str} {sp : Sp} {E : L2.St → XK} {x : Str} {p pos : Pos} {e : Expr} {es : List Expr} {kws : List Keyword} {t tk : TA} {g : List Value → List Value → List Value} {gV : List V → List V → List V}
/-- f(e, .., k = v, ..) in a try: what it raises is taken with the slots as they are -/
def tCallKS (sp : Sp) (gV : List V → List V → List V) (E : L2.St → XK) (t tk : TA) : TE := fun σ H Q => t σ H fun vs H1 => tk σ H1 fun zs H2 => sp (gV vs zs) H2 Q (E σ)
theorem pe_callKS (F : FnOk X.prog X.w X.K X.mg X.base (L2.CX X.prog X.w) k f fd ps sp) (hr : Room k X.A) (hg : Gl X x) (hm : X.mg x = some (.ref f)) (hk : PySem.W.keepIn X.K (.ref f) = true) (hb : KBinds X.K fd ps ks g gV) (hx : ∀ σ, PassesAt (L2.CX X.prog X.w) X σ (E σ))
    (ha : PA X (e :: es) t) (hkw : PK X kws tk) (hall : (backToKw pos (keywordEach kws X.env)).all (·.1.isSome) = true := by rfl) (hks : (backToKw pos (keywordEach kws X.env)).filterMap (·.1) = ks := by rfl) (hdb : (x == ("__debug__" : Str)) = false := by decide)
    (he : starEach (e :: es) X.env = (false, eval e X.env) :: starEach es X.env := by rfl) (hpl : ((backTo pos (starEach (e :: es) X.env)).any (·.1) || (backToKw pos (keywordEach kws X.env)).any (·.1.isNone)) = false := by rfl) :
    PE X (.Call (.Name x p) (e :: es) kws pos) (tCallKS sp gV E t tk) := ⟨fun pins s σ H Q I h => by
  refine wpAny_Call_Name_kw (ld_glob I hg hm (PySem.W.callWith_KW (h₀ := X.base) I.ok.mod.kin hk hall (thn (ha.run pos pins s σ H _ I h) ?_) hpl he) hdb)
  rintro us s1 ⟨vs, H1, I1, r, q⟩
  refine thn (hkw.run pos pins s1 σ H1 _ I1 q) ?_
  rintro ws s2 ⟨zs, H2, I2, rz, q2⟩
  rw [hks]
  refine ⟨I2.kIn, ?_⟩
  have r2 := hb.rel r rz
  have hl : (g us ws).length = ps.length := by rw [← r2.length]; exact F.len _ _ _ _ q2
  refine wpAny_call (codeAny_mono (F.run X.A X.stack s2 H2 ⟨us, ks.zip ws⟩ (g us ws) (gV vs zs) Q (E σ) hr I2.env0 (hb.to s2 us ws I2.kIn hl) r2 q2) fun o s' hq => ?_)
  match o, hq with
  | .error u, hq => exact hx σ pins H2 s2 u s' I2 hq
  | .ok (.ret u), hq => exact I2.after hq
  | .ok .next, hq => exact hq.elim
  | .ok .brk, hq => exact hq.elim
  | .ok .cont, hq => exact hq.elim⟩
end
/-- what an exception class's makers and readers need of it -/
structure ETx (K : PySem.W.Frag) (mg : Str → Option Value) (x f : Str) (C fI : Addr) : Prop where
  ox : OexC K C
  xf : XfC K C
  iC : PySem.W.findIn K (.ref C) "__init__" = some (some (.ref fI))
  tI : PySem.W.typeIn K (.ref fI) = some (.type "function")
  noF : PySem.W.findIn K (.ref C) f = some none
  mgC : mg x = some (.ref C)
end KX

set_option Elab.async false
set_option linter.all false
set_option maxRecDepth 100000
set_option maxHeartbeats 4000000
namespace L
open PySem L2 KX
abbrev sChkTX : Stmt := top 18
abbrev sChkS : Stmt := top 20
section
variable {X : Cx} {op op' op3 : CmpOp} {r r' r3 : R2} {a b c d : Expr} {ta tb tc td : TE} {pos : Pos}
/-- a op1 b op2 c op3 d -/
def tChain3 (r r' r3 : R2) (ta tb tc td : TE) : TE := fun σ H Q => ta σ H fun x H1 => tb σ H1 fun y H2 => r x y H2 fun z H3 => ∃ k, z = .bl k ∧
  (if k = true then tc σ H3 fun u H4 => r' y u H4 fun z' H5 => ∃ k', z' = .bl k' ∧ (if k' = true then td σ H5 fun v H6 => r3 u v H6 Q else Q (.bl false) H5) else Q (.bl false) H3)
theorem pe_chain3 (ho : OpR X (compareOp op) r) (ho' : OpR X (compareOp op') r') (ho3 : OpR X (compareOp op3) r3) (ha : PE X a ta) (hb : PE X b tb) (hc : PE X c tc) (hd : PE X d td)
    (hm : PySem.lastMarks [op, op', op3] [b, c, d] = false := by with_unfolding_all rfl) : PE X (.Compare a [op, op', op3] [b, c, d] pos) (tChain3 r r' r3 ta tb tc td) := by
  refine ⟨fun pins s σ H Q I h => ?_⟩
  refine PyProof.Rows.Compare_chain (thn (ha.run pins s σ H _ I h) fun v s1 ⟨x, H1, I1, r1, q1⟩ => PyProof.Rows.chain_link (thn (hb.run pins s1 σ H1 _ I1 q1) fun u s2 ⟨y, H2, I2, r2, q2⟩ =>
    thn (ho pins s2 σ H2 x y v u _ I2 r1 r2 q2) fun e s3 ⟨z, H3, I3, rz, k, ek, q3⟩ => ?_)) hm
  subst ek
  cases rz
  refine PySem.wpAny_truthy_bool ?_
  cases k with
  | false => exact PyProof.Rows.ite_ff ⟨.bl false, H3, I3, rfl, q3⟩
  | true =>
    refine PyProof.Rows.ite_tt (PyProof.Rows.chain_link (thn (hc.run pins s3 σ H3 _ I3 q3) fun u' s4 ⟨w', H4, I4, r4, q4⟩ => thn (ho' pins s4 σ H4 y w' u u' _ I4 r2 r4 q4) fun e2 s5 ⟨z2, H5, I5, rz2, k2, ek2, q5⟩ => ?_))
    subst ek2
    cases rz2
    refine PySem.wpAny_truthy_bool ?_
    cases k2 with
    | false => exact PyProof.Rows.ite_ff ⟨.bl false, H5, I5, rfl, q5⟩
    | true => exact PyProof.Rows.ite_tt (PyProof.Rows.chain_last (thn (hd.run pins s5 σ H5 _ I5 q5) fun v' s6 ⟨x6, H6, I6, r6, q6⟩ => ho3 pins s6 σ H6 w' x6 u' v' Q I6 r4 r6 q6))
/-- a slice of a list or of a tuple -/
def rSlSq (K : PySem.W.Frag) : V → Option Int → Option Int → Hp → VK → Prop := fun x lo hi H Q => (∃ p xs, x = .ref p ∧ SqL K H p xs ∧ ∀ l H', Same H H' → SqL K H' l (cutV xs lo hi) → Q (.ref l) H') ∨
  ∃ p xs, x = .ref p ∧ SqT K H p xs ∧ ∀ l H', Same H H' → SqT K H' l (cutV xs lo hi) → Q (.ref l) H'
theorem sl_sq : SlR X (rSlSq X.K) := by
  intro pins s σ H x v vl vu lo hi sl Q I rx hs pl pu h
  rcases h with ⟨p, xs, rfl, h, q⟩ | ⟨p, xs, rfl, h, q⟩
  · exact sl_list pins s σ H _ v vl vu lo hi sl Q I rx hs pl pu ⟨p, xs, rfl, h, fun y hy => q _ _ (Same.new hy _) (SqL.of upd_same)⟩
  · refine sl_tupA pins s σ H _ v vl vu lo hi sl Q I rx hs pl pu ⟨p, xs, rfl, h, fun z => q _ _ (Same.refl H) ?_, fun _ y hy => q _ _ (Same.new hy _) (SqT.of upd_same)⟩
    have e : cutV xs lo hi = xs := by
      unfold cutV
      rw [z.1, z.2, Nat.sub_zero, List.drop_zero, List.take_length]
    rw [e]; exact h
/-- .. whichever it is -/
theorem rSlSq.of {K : PySem.W.Frag} {H : Hp} {x : V} {xs : List V} {lo hi : Option Int} {Q : VK} (h : Sq K H x xs) (q : ∀ y H', Same H H' → Sq K H' y (cutV xs lo hi) → Q y H') : rSlSq K x lo hi H Q := by
  obtain ⟨p, rfl, h | h⟩ := h
  · exact .inl ⟨p, xs, rfl, h, fun l H' s k => q _ H' s ⟨l, rfl, .inl k⟩⟩
  · exact .inr ⟨p, xs, rfl, h, fun l H' s k => q _ H' s ⟨l, rfl, .inr k⟩⟩
end
/-- no table -/
def NotT (K : PySem.W.Frag) (C : Addr) (H : Hp) (v : V) : Prop := ∃ t, TyX K H v t ∧ PySem.W.kitOne K t (.ref C) = some false
theorem NotT.same {K : PySem.W.Frag} {C : Addr} {H G : Hp} {v : V} (s : Same H G) (h : NotT K C H v) : NotT K C G v := let ⟨t, a, b⟩ := h; ⟨t, TyX.same s a, b⟩
structure CTi (K : PySem.W.Frag) (C : Addr) : Prop where
  ha : PySem.W.findIn K (.ref C) "__class__" = some (some (.builtin "object.__class__"))
  hn : PySem.W.specialIn K (.builtin "object.__class__") "__get__" = some (some (.builtin "getset_descriptor.__get__"))
  htk : PySem.W.takesIn K (.builtin "object.__class__") = some true
  hm : PySem.W.mroIn K C (.type "object") = some true
theorem kit_self (K : PySem.W.Frag) (C : Addr) : PySem.W.kitOne K (.ref C) (.ref C) = some true := by
  unfold PySem.W.kitOne
  rw [show ((Value.ref C) == (Value.ref C)) = true from beq_self_eq_true _, if_pos rfl]
theorem TbA.to {K : PySem.W.Frag} {C : Addr} {H J : Hp} {p : Addr} {tb : List (List Int)} (s : Same H J) (h : TbA K C H p tb) : TbA K C J p tb :=
  let ⟨dx, t, rs, hp, ht, pr⟩ := h.ob
  ⟨dx, t, rs, s _ _ hp, Same.tup s ht, L2.Paired.mapP pr fun _ _ ⟨r, e, hr⟩ => ⟨r, e, Same.tup s hr⟩⟩
theorem TbA.ty {K : PySem.W.Frag} {mg : Str → Option Value} {C : Addr} {H : Hp} {p : Addr} {tb : List (List Int)} (T : CTx K mg C) (Y : CTi K C) (h : TbA K C H p tb) : TyX K H (.ref p) (.ref C) :=
  let ⟨_, _, _, hp, _, _⟩ := h.ob
  .base (.ins hp T.cl Y.ha Y.hn Y.htk Y.hm)
def okS (n : Nat) : Option (List V) → Bool
  | some xs => decide ((1 : Int) ≤ (xs.length : Int)) && decide ((xs.length : Int) ≤ 2000) && xs.all (nb (n : Int))
  | none => false
/-- the bounds of a range -/
def rgB (n : Int) (x y : V) : Bool := match x, y with
  | .int a, .int b => decide (0 ≤ a) && decide (a < b) && decide (b ≤ n)
  | _, _ => false
/-- the product of some elements -/
def fld (tb : List (List Int)) : List Nat → Nat
  | [] => 0
  | w :: r => r.foldl (fun acc x => (mu tb acc x).toNat) w
theorem fld_lt {tb : List (List Int)} (S : Sqr tb) : ∀ {ws : List Nat}, (∀ x, x ∈ ws → x < tb.length) → ws ≠ [] → fld tb ws < tb.length
  | [], _, h => absurd rfl h
  | w :: r, h, _ => by
    have go : ∀ (r : List Nat) (a : Nat), a < tb.length → (∀ x, x ∈ r → x < tb.length) → r.foldl (fun acc x => (mu tb acc x).toNat) a < tb.length := fun r => by
      induction r with
      | nil => exact fun a ha _ => ha
      | cons y r ih =>
        intro a ha hr
        have hy := hr y List.mem_cons_self
        have e := S.el a y ha hy
        exact ih _ (show (mu tb a y).toNat < tb.length by omega) fun x hx => hr x (List.mem_cons_of_mem _ hx)
    exact go r w (h w List.mem_cons_self) fun x hx => h x (List.mem_cons_of_mem _ hx)
def spChkTX (K : PySem.W.Frag) (C CT : Addr) : Sp := fun vs H Q E => ∃ v, vs = [v] ∧ ((∃ p tb, v = .ref p ∧ TbA K C H p tb ∧ Q .non H) ∨ (NotT K C H v ∧ ∀ d, H d = none → E (.ref CT) (some d) (upd H d (.xd [("value", v)]))))
def spChkS (K : PySem.W.Frag) (C CS : Addr) : Sp := fun vs H Q E => ∃ p v tb o, vs = [.ref p, v] ∧ TbA K C H p tb ∧ tb.length ≤ 16 ∧ RowD K H v o ∧ (okS tb.length o = true → ∀ H', Same H H' → Q .non H') ∧
  (okS tb.length o = false → ∀ H' d, Same H H' → H' d = none → E (.ref CS) (some d) (upd H' d (.xd [("value", v)])))
def spIsRg (K : PySem.W.Frag) : Sp := fun vs H Q _ => ∃ x y n, vs = [x, y, .int n] ∧ Itm K H x ∧ Itm K H y ∧ Q (.bl (rgB n x y)) H
def spMultd (K : PySem.W.Frag) : Sp := fun vs H Q _ => ∃ (v u : V) (tb : List (List Int)) (ws : List Nat), vs = [v, u] ∧ RowsL H v tb ∧ Sqr tb ∧ Sq K H u (nv ws) ∧ ws ≠ [] ∧ (∀ x, x ∈ ws → x < tb.length) ∧ ∀ H', Same H H' → Q (.int (fld tb ws : Nat)) H'
section
variable {P : Program} {w : World} {K : PySem.W.Frag} {mg : Str → Option Value} {base : Heap} {f g gn fl g1 g2 g3 fE : Addr} {fd gd gnd dl d1 d2 d3 dE : FuncData} {C CT CS CR : Addr}
theorem scChkTX : FnScope ["table"] ["table"] (defScope sChkTX) := ⟨rfl, rfl, rfl, by decide +kernel, rfl, by decide +kernel, by decide +kernel⟩
theorem ok_chkTX (F : Fun K "check_table" "check_table" sChkTX f fd) (M : Mn mg) (T : CTx K mg C) (Y : CTi K C) (TE : ETx K mg "InvalidTable" "value" CT fE) (FE : FnOk P w K mg base CX0 1 fE dE ["self", "value"] (spEi K CT "value")) (bE : Binds K dE ["self", "value"] []) :
    FnOk P w K mg base (L2.CX P w) 3 f fd ["table"] (spChkTX K C CT) := by
  refine F.okX scChkTX (fun vs H Q E h => ?_) (fun cdv A outer s H vs Q E hr h => ?_)
  · obtain ⟨v, rfl, _⟩ := h
    rfl
  obtain ⟨v, rfl, h⟩ := h
  refine ⟨_, pss_one (ps_if (pt_not (pt_val (pe_callB call_isi (by rfl) M.isin (by decide +kernel) (pa_cons (pv 0) (pa_cons (pe_glob (v := .ref C) (by rfl) T.mgC rfl) pa_nil)))))
    (pss_one (ps_raise rfl (takes_of rfl rfl rfl rfl) (pmk_val TE.ox TE.iC TE.tI TE.noF FE hr bE (by rfl) TE.mgC (pa_cons (pv 0) pa_nil)))) pss_nil), ?_⟩
  rcases h with ⟨p, tb, rfl, ht, q⟩ | ⟨⟨t, ty, kt⟩, q⟩
  · exact ⟨_, rfl, _, .ref C, _, .ref C, true, rfl, .own C, ht.ty T Y, kit_self K C, _, rfl, iteF q⟩
  · exact ⟨_, rfl, _, .ref C, t, .ref C, false, rfl, .own C, ty, kt, _, rfl, iteT ⟨fun vs H1 => vs = [v] ∧ H1 = H, ⟨_, rfl, rfl, rfl⟩, by rintro _ _ ⟨rfl, rfl⟩; exact ⟨v, rfl, q⟩⟩⟩
theorem scChkS : FnScope ["table", "sequence"] ["table", "sequence"] (defScope sChkS) := ⟨rfl, rfl, rfl, by decide +kernel, rfl, by decide +kernel, by decide +kernel⟩
theorem ok_chkS (F : Fun K "check_sequence" "check_sequence" sChkS f fd) (M : Mn mg) (TE : ETx K mg "InvalidSequence" "value" CS fE) (FE : FnOk P w K mg base CX0 1 fE dE ["self", "value"] (spEi K CS "value")) (bE : Binds K dE ["self", "value"] [])
    (mL : ∃ t, mg "LONGEST_SEQUENCE" = some (.int 2000 t))
    (G : FnOk P w K mg base CX0 3 g gd ["value", "least", "most", "limit"] (spNumList K)) (bG : Binds K gd ["value", "least", "most", "limit"] []) (kG : PySem.W.keepIn K (.ref g) = true) (mG : mg "is_number_list" = some (.ref g))
    (GL : FnOk P w K mg base CX0 1 fl dl ["self"] (spLenM K C)) (bL : Binds K dl ["self"] []) (hL : PySem.W.findIn K (.ref C) "__len__" = some (some (.ref fl))) (tL : PySem.W.typeIn K (.ref fl) = some (.type "function")) :
    FnOk P w K mg base (L2.CX P w) 4 f fd ["table", "sequence"] (spChkS K C CS) := by
  obtain ⟨tL', mL⟩ := mL
  refine F.okX scChkS (fun vs H Q E h => ?_) (fun cdv A outer s H vs Q E hr h => ?_)
  · obtain ⟨p, v, tb, o, rfl, _⟩ := h
    rfl
  obtain ⟨p, v, tb, o, rfl, ht, n16, ho, q1, q2⟩ := h
  have hr2 : Room 2 _ := hr.mono (by decide)
  refine ⟨_, pss_one (ps_if (pt_not (pt_val (pe_call G hr (by rfl) mG kG bG .nil pass0 (pa_cons (pv 1) (pa_cons pe_int (pa_cons (pe_glob (v := .int 2000) (by rfl) mL ⟨_, rfl⟩) (pa_cons (pe_callB (call_lenOwn hL tL GL hr2 bL) (by rfl) M.len PySem.boot_len (pa_cons (pv 0) pa_nil)) pa_nil)))))))
    (pss_one (ps_raise rfl (takes_of rfl rfl rfl rfl) (pmk_val TE.ox TE.iC TE.tI TE.noF FE hr2 bE (by rfl) TE.mgC (pa_cons (pv 1) pa_nil)))) pss_nil), ?_⟩
  obtain ⟨dx, t, rs, hp, _, _⟩ := ht.ob
  refine ⟨_, rfl, _, rfl, p, dx, _, rfl, hp, p, tb, rfl, ht, tb.length, rfl, by omega, v, 1, 2000, tb.length, rfl, ?_⟩
  have fin : ∀ (b : Bool) (H' : Hp), okS tb.length o = b → Same H H' → (if (!b) = true then (tMkV CS "value" (tCons (tVar 1) tNil)) [some (.ref p), some v] H' E else Q .non H') := fun b H' e s => by
    cases b with
    | true => exact iteF (q1 e H' s)
    | false => exact iteT ⟨fun vs H1 => vs = [v] ∧ H1 = H', ⟨_, rfl, rfl, rfl⟩, by rintro _ _ ⟨rfl, rfl⟩; exact ⟨v, rfl, fun d hd => q2 e _ d s hd⟩⟩
  match o, ho with
  | some xs, ho => exact .inl ⟨xs, ho.1, ho.2.1, ho.2.2, fun H' s => ⟨_, rfl, fin _ H' rfl s⟩⟩
  | none, ho => exact .inr ⟨ho, fun H' s => ⟨_, rfl, fin false H' rfl s⟩⟩
end
end L

set_option Elab.async false
set_option linter.all false
set_option maxRecDepth 100000
set_option maxHeartbeats 4000000
namespace L
open PySem L2 KX
/-- two parts of a heap -/
def un (F G : Hp) : Hp := fun b => match F b with
  | some o => some o
  | none => G b
theorem un_l {F G : Hp} : Same F (un F G) := fun b o e => by unfold un; rw [e]
theorem un_n {F G : Hp} {b : Addr} (h : F b = none) : un F G b = G b := by unfold un; rw [h]
theorem un_to {F G J : Hp} (s1 : Same F J) (s2 : Same G J) : Same (un F G) J := fun b o e => by
  cases h : F b with
  | some o' =>
    have : un F G b = some o' := un_l _ _ h
    rw [this] at e
    cases e
    exact s1 _ _ h
  | none => rw [un_n h] at e; exact s2 _ _ e
/-- what is known of a part of the heap, when some more is new -/
theorem ext {F J J1 : Hp} (s : Same F J) (s1 : Same F J1) : ∃ F', Same F F' ∧ Same (nw J J1) F' ∧ Same F' J1 ∧ ∀ b, F b = none → J b ≠ none → F' b = none :=
  ⟨un F (nw J J1), un_l, fun b o e => by
    have h := nw_some e
    have hf : F b = none := by
      cases hf : F b with
      | none => rfl
      | some u => rw [s _ _ hf] at h; exact nomatch h.1
    rw [un_n hf]; exact e, un_to s1 nw_same, fun b h1 h2 => by
    rw [un_n h1]
    unfold nw
    cases hj : J b with
    | none => exact absurd hj h2
    | some u => rfl⟩
theorem fx {F J J' : Hp} {p : Addr} (s : Same F J) (n : F p = none) (x : Sx p J J') : Same F J' := fun b o e => x b o (ne_of_none e n) (s b o e)
theorem fu {F J : Hp} {t : Addr} {o : HO} (s : Same F J) (n : F t = none) : Same F (upd J t o) := fun b u e => by rw [upd_ne (ne_of_none e n)]; exact s b u e
theorem TbA.sx {K : PySem.W.Frag} {C : Addr} {H J : Hp} {p x : Addr} {tb : List (List Int)} (s : Sx p H J) (b : Bx H p) (h : TbA K C H x tb) : TbA K C J x tb := by
  obtain ⟨b0, b1, b2, eb, _⟩ := b
  have up : ∀ {r : Addr} {xs : List V}, SqT K H r xs → SqT K J r xs := fun {r xs} h => by
    rcases h with (h | ⟨o, h⟩) | h
    · exact .inl (.inl (s _ _ (fun z => by rw [z, eb] at h; cases h) h))
    · exact .inl (.inr ⟨o, s _ _ (fun z => by rw [z, eb] at h; cases h) h⟩)
    · exact .inr h
  obtain ⟨dx, t, rs, hp, ht, pr⟩ := h.ob
  exact ⟨dx, t, rs, s _ _ (fun z => by rw [z, eb] at hp; cases hp) hp, up ht, L2.Paired.mapP pr fun _ _ ⟨r, e, hr⟩ => ⟨r, e, up hr⟩⟩
/-- the heap but the box -/
def mn (p : Addr) (J : Hp) : Hp := fun b => if b = p then none else J b
theorem mn_same {p : Addr} {J : Hp} : Same (mn p J) J := fun b o e => by
  unfold mn at e
  by_cases h : b = p
  · rw [if_pos h] at e; cases e
  · rw [if_neg h] at e; exact e
theorem mn_p {p : Addr} {J : Hp} : mn p J p = none := if_pos rfl
theorem mn_sx {p : Addr} {J : Hp} : Sx p J (mn p J) := fun b o n e => by unfold mn; rw [if_neg n]; exact e
theorem mn_nw {p : Addr} {H J : Hp} (h : H p ≠ none) : Same (nw H J) (mn p J) := fun b o e => by
  have q := nw_some e
  exact mn_sx _ _ (fun z => h (z ▸ q.1)) q.2
end L

set_option Elab.async false
set_option linter.all false
set_option maxRecDepth 100000
set_option maxHeartbeats 4000000
set_option pp.maxSteps 400
namespace L
open PySem L2 KX
abbrev sChkE : Stmt := top 19
abbrev sPrd : Stmt := inClass (top 17) 4
abbrev sEiT : Stmt := inClass (top 3) 0
abbrev sEiS : Stmt := inClass (top 6) 0
abbrev sEiM : Stmt := inClass (top 8) 0
def spChkE (K : PySem.W.Frag) (C : Addr) : Sp := fun vs H Q _ => ∃ (p : Addr) (a : Nat) (tb : List (List Int)), vs = [.ref p, .int (a : Int)] ∧ TbA K C H p tb ∧ a < tb.length ∧ tb.length ≤ 16 ∧ Q .non H
def spPrd (K : PySem.W.Frag) (C : Addr) : Sp := fun vs H Q _ => ∃ (p : Addr) (a b : Nat) (tb : List (List Int)), vs = [.ref p, .int (a : Int), .int (b : Int)] ∧ TbA K C H p tb ∧ Sqr tb ∧ a < tb.length ∧ b < tb.length ∧ Q (.int (mu tb a b)) H
theorem mu_nat {tb : List (List Int)} (S : Sqr tb) {a b : Nat} (ha : a < tb.length) (hb : b < tb.length) : mu tb a b = (((mu tb a b).toNat : Nat) : Int) ∧ (mu tb a b).toNat < tb.length := by
  have := S.el a b ha hb
  omega
theorem row_g {tb : List (List Int)} (S : Sqr tb) {a b : Nat} (ha : a < tb.length) (hb : b < tb.length) : ((tb.getD a []).map V.int)[b]? = some (.int (mu tb a b)) := by
  have e : tb.getD a [] = tb[a] := by rw [List.getD_eq_getElem?_getD, List.getElem?_eq_getElem ha]; rfl
  have l := S.row _ (List.getElem_mem ha)
  unfold mu
  rw [e, List.getElem?_map, List.getD_eq_getElem?_getD (l := tb[a]), List.getElem?_eq_getElem (by omega)]; rfl
/-- a row by its place -/
theorem rw_at {G : Hp} {v : V} {ms : List (List Int)} {a : Nat} (h : RowsL G v ms) (ha : a < ms.length) : ∃ (l : Addr) (rs : List Addr) (r : Addr), v = .ref l ∧ G l = some (.lst (rs.map V.ref)) ∧ (rs.map V.ref)[a]? = some (.ref r) ∧ G r = some (.lst ((ms.getD a []).map V.int)) := by
  obtain ⟨l, rs, rfl, e, pr⟩ := h
  have hl : rs.length = ms.length := pr.length
  have h1 : rs[a]? = some rs[a] := List.getElem?_eq_getElem (by omega)
  obtain ⟨row, hrow, er⟩ := pair_at pr h1
  refine ⟨l, rs, rs[a], rfl, e, by rw [List.getElem?_map, h1]; rfl, ?_⟩
  rw [List.getD_eq_getElem?_getD, hrow]; exact er
/-- rows as a list -/
theorem RowsL.sq {G : Hp} {v : V} {tb : List (List Int)} (h : RowsL G v tb) : ∃ a xs, v = .ref a ∧ G a = some (.lst xs) ∧ xs.length = tb.length := by
  obtain ⟨a, rs, e, h1, pr⟩ := h
  exact ⟨a, _, e, h1, by rw [List.length_map]; exact pr.length⟩
section
variable {P : Program} {w : World} {K : PySem.W.Frag} {mg : Str → Option Value} {base : Heap} {f g gn fl g1 g2 g3 fE : Addr} {fd gd gnd dl d1 d2 d3 dE : FuncData} {C CT CS CR : Addr}
theorem scChkE : FnScope ["table", "element"] ["table", "element"] (defScope sChkE) := ⟨rfl, rfl, rfl, by decide +kernel, rfl, by decide +kernel, by decide +kernel⟩
theorem ok_chkE (F : Fun K "check_element" "check_element" sChkE f fd) (M : Mn mg) (G : FnOk P w K mg base CX0 2 g gd ["value", "limit"] (spBelow K)) (bG : Binds K gd ["value", "limit"] []) (kG : PySem.W.keepIn K (.ref g) = true) (mG : mg "is_number_below" = some (.ref g))
    (GL : FnOk P w K mg base CX0 1 fl dl ["self"] (spLenM K C)) (bL : Binds K dl ["self"] []) (hL : PySem.W.findIn K (.ref C) "__len__" = some (some (.ref fl))) (tL : PySem.W.typeIn K (.ref fl) = some (.type "function")) : FnOk P w K mg base CX0 3 f fd ["table", "element"] (spChkE K C) := by
  refine F.ok scChkE (fun vs H Q E h => ?_) (fun cdv A outer s H vs Q E hr h => ?_)
  · obtain ⟨p, a, tb, rfl, _⟩ := h
    rfl
  obtain ⟨p, a, tb, rfl, ht, ha, n16, q⟩ := h
  refine ⟨_, pss_one (ps_if (pt_not (pt_val (pe_call G hr (by rfl) mG kG bG .nil pass0 (pa_cons (pv 1) (pa_cons (pe_callB (call_lenOwn hL tL GL hr bL) (by rfl) M.len PySem.boot_len (pa_cons (pv 0) pa_nil)) pa_nil))))) pss_dead pss_nil), ?_⟩
  obtain ⟨dx, t, rs, hp, _, _⟩ := ht.ob
  refine ⟨_, rfl, _, rfl, p, dx, _, rfl, hp, p, tb, rfl, ht, tb.length, rfl, by omega, _, _, rfl, .inl ⟨_, rfl⟩, _, rfl, ?_⟩
  have e : nb (tb.length : Int) (.int (a : Int)) = true := by
    show (decide ((0 : Int) ≤ (a : Int)) && decide ((a : Int) < (tb.length : Int))) = true
    rw [decide_eq_true (by omega), decide_eq_true (by omega)]; rfl
  rw [e]
  exact iteF q
theorem scPrd : FnScope ["self", "first", "second"] ["self", "first", "second"] (defScope sPrd) := ⟨rfl, rfl, rfl, by decide +kernel, rfl, by decide +kernel, by decide +kernel⟩
theorem ok_prd (F : Fun K "product" "ProductTable.product" sPrd f fd) (T : CTx K mg C)
    (G2 : FnOk P w K mg base CX0 3 g2 d2 ["table", "element"] (spChkE K C)) (b2 : Binds K d2 ["table", "element"] []) (k2 : PySem.W.keepIn K (.ref g2) = true) (m2 : mg "check_element" = some (.ref g2)) :
    FnOk P w K mg base CX0 4 f fd ["self", "first", "second"] (spPrd K C) := by
  refine F.ok scPrd (fun vs H Q E h => ?_) (fun cdv A outer s H vs Q E hr h => ?_)
  · obtain ⟨p, a, b, tb, rfl, _⟩ := h
    rfl
  obtain ⟨p, a, b, tb, rfl, ht0, S, ha, hb, q⟩ := h
  refine ⟨_, pss_cons (ps_expr (pe_call G2 hr (by rfl) m2 k2 b2 .nil pass0 (pa_cons (pv 0) (pa_cons (pv 1) pa_nil))))
    (pss_cons (ps_expr (pe_call G2 hr (by rfl) m2 k2 b2 .nil pass0 (pa_cons (pv 0) (pa_cons (pv 2) pa_nil))))
    (pss_one (ps_ret (pe_ix ix_tup (pe_ix ix_tup (pe_fld (pv 0) rfl) (pv 1) (fun _ _ => rfl)) (pv 2) (fun _ _ => rfl))))), ?_⟩
  obtain ⟨dx, t, rs, hp, ht, pr⟩ := ht0.ob
  obtain ⟨r, h1, h2, h3⟩ := row_at pr S ha
  refine ⟨_, rfl, _, rfl, p, a, tb, rfl, ht0, ha, S.ge, _, rfl, _, rfl, p, b, tb, rfl, ht0, hb, S.ge, ?_⟩
  refine ⟨_, rfl, p, C, dx, _, _, rfl, hp, T.cl, T.nR, rfl, _, rfl, t, rs, _, _, rfl, rfl, ht, at_of (j := a) rfl h1, _, rfl, r, _, _, _, rfl, rfl, h2, at_of (j := b) rfl (h3 b hb), ?_⟩
  exact q
theorem scEiT : FnScope ["self", "value"] ["self", "value"] (defScope sEiT) := ⟨rfl, rfl, rfl, by decide +kernel, rfl, by decide +kernel, by decide +kernel⟩
theorem ok_eiT (F : Fun K "__init__" "InvalidTable.__init__" sEiT f fd) : FnOk P w K mg base CX0 1 f fd ["self", "value"] (spEi K C "value") := by
  refine F.ok scEiT (fun vs H Q E h => ?_) (fun cdv A outer s H vs Q E hr h => ?_)
  · obtain ⟨a, v, rfl, _⟩ := h
    rfl
  obtain ⟨a, v, rfl, ha, T, no, q⟩ := h
  exact ⟨_, pss_one (ps_ost (pv 0) (pv 1)), ⟨_, rfl, _, rfl, a, C, rfl, T, no, .inl ⟨ha, fun dx h1 h2 => q dx h1 h2⟩⟩⟩
theorem scEiS : FnScope ["self", "value"] ["self", "value"] (defScope sEiS) := ⟨rfl, rfl, rfl, by decide +kernel, rfl, by decide +kernel, by decide +kernel⟩
theorem ok_eiS (F : Fun K "__init__" "InvalidSequence.__init__" sEiS f fd) : FnOk P w K mg base CX0 1 f fd ["self", "value"] (spEi K C "value") := by
  refine F.ok scEiS (fun vs H Q E h => ?_) (fun cdv A outer s H vs Q E hr h => ?_)
  · obtain ⟨a, v, rfl, _⟩ := h
    rfl
  obtain ⟨a, v, rfl, ha, T, no, q⟩ := h
  exact ⟨_, pss_one (ps_ost (pv 0) (pv 1)), ⟨_, rfl, _, rfl, a, C, rfl, T, no, .inl ⟨ha, fun dx h1 h2 => q dx h1 h2⟩⟩⟩
theorem scEiM : FnScope ["self", "count"] ["self", "count"] (defScope sEiM) := ⟨rfl, rfl, rfl, by decide +kernel, rfl, by decide +kernel, by decide +kernel⟩
theorem ok_eiM (F : Fun K "__init__" "TooMany.__init__" sEiM f fd) : FnOk P w K mg base CX0 1 f fd ["self", "count"] (spEi K C "count") := by
  refine F.ok scEiM (fun vs H Q E h => ?_) (fun cdv A outer s H vs Q E hr h => ?_)
  · obtain ⟨a, v, rfl, _⟩ := h
    rfl
  obtain ⟨a, v, rfl, ha, T, no, q⟩ := h
  exact ⟨_, pss_one (ps_ost (pv 0) (pv 1)), ⟨_, rfl, _, rfl, a, C, rfl, T, no, .inl ⟨ha, fun dx h1 h2 => q dx h1 h2⟩⟩⟩
end
end L

set_option Elab.async false
set_option linter.all false
set_option maxRecDepth 100000
set_option maxHeartbeats 4000000
/-! Own layer: lists and tuples of data that repr shows in few signs. -/
namespace KX
open PySem PySem.Spec PyProof.Rows L2
theorem okAll {n W : Nat} : ∀ {ds : List PyData}, (∀ d, d ∈ ds → OkD n W d) → PyData.leavesShortAll 110 ds = true ∧ PyData.showableAll ds = true ∧ PyData.depthAll ds ≤ n ∧ PyData.weightAll ds ≤ ds.length * (W + 1)
  | [], _ => ⟨rfl, rfl, Nat.zero_le _, Nat.zero_le _⟩
  | d :: ds, h => by
    have hd := h d List.mem_cons_self
    obtain ⟨g2, g3, g4, g5⟩ := okAll (ds := ds) fun x hx => h x (List.mem_cons_of_mem _ hx)
    refine ⟨?_, ?_, ?_, ?_⟩
    · simp only [PyData.leavesShortAll, hd.short, g2, Bool.and_self]
    · simp only [PyData.showableAll, hd.shows, g3, Bool.and_self]
    · have := hd.deep
      simp only [PyData.depthAll]; omega
    · have := hd.wt
      simp only [PyData.weightAll, List.length_cons, Nat.succ_mul]; omega
theorem okLi {n W m : Nat} {ds : List PyData} (h : ∀ d, d ∈ ds → OkD n W d) (l : ds.length ≤ m) : OkD (n + 1) (m * (W + 1)) (.list ds) := by
  obtain ⟨g2, g3, g4, g5⟩ := okAll h
  have := Nat.mul_le_mul_right (W + 1) l
  exact ⟨by simpa only [PyData.leavesShort] using g2, by simpa only [PyData.showable] using g3, by simp only [PyData.depth]; omega, by simp only [PyData.weight]; omega⟩
theorem okTu {n W m : Nat} {ds : List PyData} (h : ∀ d, d ∈ ds → OkD n W d) (l : ds.length ≤ m) : OkD (n + 1) (m * (W + 1)) (.tuple ds) := by
  obtain ⟨g2, g3, g4, g5⟩ := okAll h
  have := Nat.mul_le_mul_right (W + 1) l
  exact ⟨by simpa only [PyData.leavesShort] using g2, by simpa only [PyData.showable] using g3, by simp only [PyData.depth]; omega, by simp only [PyData.weight]; omega⟩
/-- two items of unlike weights -/
theorem okL2 {n W : Nat} {a b : PyData} (h : OkD n W a) (k : OkD n W b) : OkD (n + 1) (2 * (W + 1)) (.list [a, b]) := okLi (fun d hd => by
  rcases List.mem_cons.mp hd with e | e
  · rw [e]; exact h
  · rw [List.mem_singleton.mp e]; exact k) (Nat.le_refl 2)
theorem okT2 {n W : Nat} {a b : PyData} (h : OkD n W a) (k : OkD n W b) : OkD (n + 1) (2 * (W + 1)) (.tuple [a, b]) := okTu (fun d hd => by
  rcases List.mem_cons.mp hd with e | e
  · rw [e]; exact h
  · rw [List.mem_singleton.mp e]; exact k) (Nat.le_refl 2)
end KX

set_option Elab.async false
set_option linter.all false
set_option maxRecDepth 100000
set_option maxHeartbeats 4000000
set_option pp.maxSteps 400
namespace L
open PySem L2 KX
/-- a class that is no builtin type's ancestor -/
structure CNb (K : PySem.W.Frag) (C : Addr) : Prop where
  ma : PySem.W.makesIn K C = true
  tt : PySem.W.typeIn K (.ref C) = some (.type "type")
theorem CNb.cl {K : PySem.W.Frag} {C : Addr} (h : CNb K C) : (PySem.W.clsIn K C).isSome = true := by
  have h := h.ma
  unfold PySem.W.makesIn at h
  unfold PySem.W.clsIn
  split at h
  · rename_i e
    rw [e]; rfl
  · exact nomatch h
theorem CNb.no {K : PySem.W.Frag} {C : Addr} (h : CNb K C) {T : String} (e : (fastBuiltinMro T).map (·.contains (.ref C)) = some false) : PySem.W.kitOne K (.type T) (.ref C) = some false := by
  unfold PySem.W.kitOne
  rw [show ((Value.type T) == (Value.ref C)) = false from rfl, if_neg Bool.false_ne_true]
  show (if ((PySem.W.clsIn K C).isSome && PySem.W.typeIn K (.ref C) == some (.type "type")) = true then PySem.W.subIn K (.type T) (.ref C) else none) = some false
  rw [h.cl, h.tt]
  have e2 : (some (Value.type "type") == some (Value.type "type")) = true := by rfl
  rw [e2]
  exact e
theorem notT_of {K : PySem.W.Frag} {C : Addr} (N : CNb K C) {H : Hp} {v : V} {d : PyData} (h : Dq H v d) : NotT K C H v := by
  cases h with
  | non => exact ⟨_, .base .non, N.no (by rfl)⟩
  | bl b => exact ⟨_, .base (.bl b), N.no (by rfl)⟩
  | int i => exact ⟨_, .base (.int i), N.no (by rfl)⟩
  | str x => exact ⟨_, .base (.str x), N.no (by rfl)⟩
  | lst e _ => exact ⟨_, .base (.lst e), N.no (by rfl)⟩
  | tup e _ => exact ⟨_, .base (.tup e), N.no (by rfl)⟩
  | dct e _ => exact ⟨_, .base (.dK e), N.no (by rfl)⟩
/-- a value that is no table, as data -/
def BV (K : PySem.W.Frag) (C : Addr) (H : Hp) (v : V) : Prop := NotT K C H v ∧ ∃ d, Dq H v d ∧ OkD 3 8000 d
theorem BV.same {K : PySem.W.Frag} {C : Addr} {H G : Hp} {v : V} (s : Same H G) (h : BV K C H v) : BV K C G v := ⟨h.1.same s, let ⟨d, a, b⟩ := h.2; ⟨d, Dq.same s _ _ a, b⟩⟩
theorem BV.of {K : PySem.W.Frag} {C : Addr} (N : CNb K C) {H : Hp} {v : V} {d : PyData} (h : Dq H v d) (ok : OkD 3 8000 d) : BV K C H v := ⟨notT_of N h, d, h, ok⟩
/-! rows as data -/
def rD (tb : List (List Int)) : List PyData := tb.map fun r => .list (iD r)
theorem rD_lay : ∀ tb : List (List Int), PyData.canLayAll0 (rD tb) = true
  | [] => by unfold rD; simp [PyData.canLayAll0]
  | r :: tb => by
    have h := rD_lay tb
    have h2 : PyData.canLay0 (.list (iD r)) = true := by simp only [PyData.canLay0]; exact iD_lay r
    show (PyData.canLay0 (.list (iD r)) && PyData.canLayAll0 (rD tb)) = true
    rw [h, h2]; rfl
theorem rD_depth : ∀ tb : List (List Int), PyData.depthAll (rD tb) ≤ 1
  | [] => by unfold rD; simp [PyData.depthAll]
  | r :: tb => by
    have h := rD_depth tb
    have h2 : PyData.depth (.list (iD r)) = 1 := by simp only [PyData.depth, iD_depth r]
    show max (PyData.depth (.list (iD r))) (PyData.depthAll (rD tb)) ≤ 1
    omega
theorem rD_shaped (tb : List (List Int)) : SeqAt.shaped (.list (rD tb)) = true := by
  have h2 : PyData.depth (.list (rD tb)) ≤ 2 := by simp only [PyData.depth]; have := rD_depth tb; omega
  have h1 : PyData.canLay0 (.list (rD tb)) = true := by simp only [PyData.canLay0]; exact rD_lay tb
  show (PyData.canLay0 (.list (rD tb)) && decide (PyData.depth (.list (rD tb)) ≤ 64)) = true
  rw [Bool.and_eq_true]
  exact ⟨h1, decide_eq_true (by omega)⟩
theorem rD_dp {K : PySem.W.Frag} {G : Hp} {rs : List Addr} {tb : List (List Int)} (h : Paired (fun r row => G r = some (.lst (row.map V.int))) rs tb) : DpAll K G (rs.map V.ref) (rD tb) := by
  induction h with
  | nil => exact .nil
  | cons h _ ih => exact .cons (.lst (SqL.of h) (dp_ints _)) ih
theorem RowsL.dp {K : PySem.W.Frag} {G : Hp} {v : V} {tb : List (List Int)} (h : RowsL G v tb) : Dp K G v (.list (rD tb)) := by
  obtain ⟨a, rs, rfl, e, pr⟩ := h
  exact .lst (SqL.of e) (rD_dp pr)
theorem rD_refl_all : ∀ tb : List (List Int), PyData.eqvAll (rD tb) (rD tb) = true
  | [] => by unfold rD; simp [PyData.eqvAll]
  | r :: tb => by
    have h := rD_refl_all tb
    have h2 := iD_eqv r r
    rw [decide_eq_true rfl] at h2
    show PyData.eqvAll (.list (iD r) :: rD tb) (.list (iD r) :: rD tb) = true
    simp only [PyData.eqvAll, h, h2, Bool.and_self]
theorem rD_refl (tb : List (List Int)) : PyData.eqv (.list (rD tb)) (.list (rD tb)) = true := by simp only [PyData.eqv]; exact rD_refl_all tb
theorem szl (n : Nat) (h : n ≤ 5000) : n ≤ sizeLine := Nat.le_trans h (by rw [sizeLine_eq]; omega)
/-- a table made of the rows at v -/
theorem init_at {K : PySem.W.Frag} {C : Addr} {H : Hp} {v : V} {tb : List (List Int)} {x dx : Addr} {Q : Hp → Prop} {E : XK} (R : RowsL H v tb) (T : Tb tb) (hx : H x = none) (hdx : H dx = none) (nex : dx ≠ x) (q : ∀ J, Same H J → TbA K C J x tb → Q J) :
    spInit K C (.ref x :: ([v] ++ [])) (upd (upd H dx (.own x)) x (.ins C dx [])) (fun u H2 => u = .non ∧ Q H2) E := by
  have sn : Same H (upd (upd H dx (.own x)) x (.ins C dx [])) := fun b o e => by rw [upd_ne (ne_of_none e hx), upd_ne (ne_of_none e hdx)]; exact e
  have nD : ∀ b, v = .ref b → b ≠ x := fun b e => by
    obtain ⟨_, _, e', ed, _⟩ := id R
    rw [e'] at e
    cases e
    exact ne_of_none ed hx
  exact ⟨x, dx, v, tb, rfl, upd_same, (R.same sn).rws, T.sq, T.as, nD, fun J tx kx => ⟨rfl, q J (fun b o e => kx b o (ne_of_none e hx) (sn b o e)) tx⟩⟩
theorem iteTt {c : Bool} {A B : Prop} (e : c = true) (h : A) : if c = true then A else B := by rw [if_pos e]; exact h
theorem iteFf {c : Bool} {A B : Prop} (e : c = false) (h : B) : if c = true then A else B := by rw [if_neg (by rw [e]; exact Bool.false_ne_true)]; exact h
end L

set_option Elab.async false
set_option linter.all false
set_option maxRecDepth 100000
set_option maxHeartbeats 4000000
/-! Own layer: enumerate over a tuple. -/
namespace PySem
theorem meets_enumerate_newT (l : Addr) (items : Array Value) :
    Meets (Builtin.«enumerate.__new__» ⟨[.type "enumerate", .ref l], []⟩) (fun _ R s => s.heap.IsTuple l items ∧
      R (.ok (.ret (.ref (s.heap.push { cls := .type "tuple_iterator", data := .fields #[.ref l, .int 0 0] }).objs.size)))
        { s with heap := (s.heap.push { cls := .type "tuple_iterator", data := .fields #[.ref l, .int 0 0] }).push { cls := .type "enumerate", data := .fields #[.none, .bool false, .ref s.heap.objs.size, rawInt 0, .none, .none] } }) :=
  .of_wp fun prog w A R s h => by
    obtain ⟨hp, g, d, tk, os⟩ := s; obtain ⟨hL, h⟩ := h
    have hsub := sub_enumerate
    replace hL : Heap.IsTuple (Shared.heap ⟨hp, g, d, tk, os⟩) l items := hL
    obtain ⟨o, hl, hc, n, hd⟩ := id hL
    wp_walk using wpAny_loadPart' hl
    refine wpAny_stack_any fun st => wpAny_pure ?_
    split
    · rename_i c _ _ _ _ _
      cases (c == Value.type "enumerate")
      · wp_walk using wpAny_loadPart' hl, wpAny_pyIter_tuple hL
        exact ⟨_, rfl, h⟩
      · wp_walk using wpAny_loadPart' hl, wpAny_pyIter_tuple hL
        exact ⟨_, rfl, h⟩
    · wp_walk using wpAny_loadPart' hl, wpAny_pyIter_tuple hL
      exact ⟨_, rfl, h⟩
section
variable {prog : Program} {w : World} {A : Around} {E : Value → Shared → Prop} {s : Shared}
theorem call_enumerate_tuple {l : Addr} {items : Array Value} {Q : Value → Shared → Prop} (hL : s.heap.IsTuple l items)
    (h : ∀ h', IsEnum h' (s.heap.objs.size + 1) s.heap.objs.size 0 .none → h'.IsTupleIter s.heap.objs.size l 0 → h'.objs.size = s.heap.objs.size + 2 →
      (∀ b o, s.heap.get? b = some o → h'.get? b = some o) → Q (.ref (s.heap.objs.size + 1)) { s with heap := h' }) :
    wpAny (model prog w) A (call (.type "enumerate") [.ref l]) Q E s := by
  refine callType_new F.called_enumerate (by decide) (F.typeCall_enumerate_1 _) (F.newCall_enumerate_1 _) (fun obj => F.args_object_init_2 obj _) F.entry_enumerate_new
    (meets_enumerate_newT l items) ⟨hL, ?_⟩
  have hz : (s.heap.push { cls := .type "tuple_iterator", data := .fields #[.ref l, .int 0 0] }).objs.size = s.heap.objs.size + 1 := Heap.size_push ..
  show _ ∧ _
  rw [hz]
  have he : IsEnum ((s.heap.push { cls := .type "tuple_iterator", data := .fields #[.ref l, .int 0 0] }).push
      { cls := .type "enumerate", data := .fields #[.none, .bool false, .ref s.heap.objs.size, rawInt 0, .none, .none] }) (s.heap.objs.size + 1) s.heap.objs.size 0 .none := by
    have := Heap.get?_push_size (s.heap.push { cls := .type "tuple_iterator", data := .fields #[.ref l, .int 0 0] })
      (o := { cls := .type "enumerate", data := .fields #[.none, .bool false, .ref s.heap.objs.size, rawInt 0, .none, .none] }) rfl
    rw [hz] at this; exact this
  refine ⟨⟨_, he, rfl⟩, h _ he ⟨_, Heap.get?_push_of_some _ (Heap.get?_push_size _ rfl), rfl, rfl⟩ (by rw [Heap.size_push, hz]) fun b o x => Heap.get?_push_of_some _ (Heap.get?_push_of_some _ x)⟩
theorem wpAny_pyNext_enum_endT {e it a : Addr} {i : Nat} {items : Array Value} {j : Int} {old : Value} {Q : Option Value → Shared → Prop} (hh : A.in1.handled = none)
    (he : IsEnum s.heap e it j old) (hit : s.heap.IsTupleIter it a i) (ht : s.heap.IsTuple a items) (hx : items[i]? = none)
    (hQ : ∀ h', Heap.ExtBut it s.heap h' → Q none { s with heap := h' }) : wpAny (model prog w) A (pyNext (.ref e)) Q E s := by
  have hT : s.TypeIs (.ref e) "enumerate" := ⟨_, he, rfl⟩
  unfold pyNext
  refine wpAny_bind (wpAny_attempt (wpAny_callSpecial?_slot (name := Str.ofString "__next__") hT F.slot_enumerate_next
    (wpAny_call_entry F.slot_enumerate_next hT F.entry_enumerate_next ?_ (F.args_enumerate_next_1 _))))
  show wpAny _ _ (field (.ref e) 2 >>= _) _ _ _
  refine wpAny_bind (wpAny_field he rfl (x := .ref it) rfl ?_)
  refine wpAny_bind (wpAny_nextOf_tuple_end hh hit ht hx fun h' x he' hx' => ?_)
  obtain ⟨o, ho, hc⟩ := hx'
  refine wpAny_bind (wpAny_isInstance (T := "StopIteration") (b := true) ⟨o, ho, hc⟩ isSubtype_stop ?_)
  exact wpAny_pure (hQ _ he')
end
end PySem
namespace KX
open PySem PySem.Spec PyProof.Rows L2
def IteT (K : PySem.W.Frag) (a : Addr) : It :=
  ⟨fun i H => ∃ (xs : List V) (x : V), SqT K H a xs ∧ xs[i]? = some x, fun i H v H' => ∃ T x, v = .ref T ∧ H T = none ∧ H' = upd H T (.tup [.int (i : Nat), x]) ∧ ∀ xs, SqT K H a xs → xs[i]? = some x, fun i H => ∃ xs : List V, SqT K H a xs ∧ xs.length ≤ i⟩
theorem tuple_injK {X : Cx} {pins : List (Addr × Obj)} {σ : L2.St} {H : Hp} {s : Shared} (I : Inv X pins σ H s) {a : Addr} {xs ys : List V} (h1 : SqT X.K H a xs) (h2 : SqT X.K H a ys) : xs = ys := by
  obtain ⟨its, rv, p, hz⟩ := I.tuple h1
  obtain ⟨its', rv', p', hz'⟩ := I.tuple h2
  have p1 : s.heap.IsTuple a its.toArray := p
  have p2 : s.heap.IsTuple a its'.toArray := p'
  obtain ⟨o, e1, _, n1, d1⟩ := p1
  obtain ⟨o', e2, _, n2, d2⟩ := p2
  rw [e1] at e2
  cases e2
  rw [d1] at d2
  injection d2 with d3 _
  have : its = its' := by simpa using congrArg Array.toList d3
  subst this
  exact rv.inj rv'
theorem turn_enumT {P : Program} {w : World} {K : PySem.W.Frag} {elts : List Expr} {kk : Nat} {tpos : Pos} (a e it : Addr) (hai : a ≠ it) :
    Turn P w K (.Tuple elts kk tpos) (IteT K a) [e, it] e (fun i h => (∃ old, IsEnum h e it ((i : Nat) : Int) old) ∧ h.IsTupleIter it a i ∧ e ≠ it ∧ e ≠ a) where
  mem := by simp
  obj := fun i h st b hb => by
    obtain ⟨⟨old, he⟩, ⟨o, ho, hc, hd⟩, _⟩ := st
    have e' : b = e ∨ b = it := by simpa using hb
    rcases e' with z | z
    · rw [z]; exact ⟨_, he, fun v q => nomatch q⟩
    · rw [z]; exact ⟨o, ho, fun v q => by rw [hd] at q; cases q⟩
  keep := fun i h h' st k => let ⟨⟨old, he⟩, hi, hne⟩ := st; ⟨⟨old, k e (by simp) _ he⟩, hi.at fun o q => k it (by simp) o q, hne⟩
  item := by
    intro X hP hw hK hc i pins s σ H E I hf st hg
    subst hP hw hK
    obtain ⟨⟨old, he⟩, hit, hne, hea⟩ := st
    obtain ⟨xs, x, hq, hx⟩ := hg
    obtain ⟨its, rv, p, hz⟩ := I.tuple hq
    obtain ⟨u, hu, ru⟩ := rv.get hx
    have hel : e < s.heap.objs.size := Heap.lt_size he
    have hil : it < s.heap.objs.size := by obtain ⟨_, q, _⟩ := hit; exact Heap.lt_size q
    have p' : s.heap.IsTuple a its.toArray := p
    have hlt : i < its.toArray.size := by
      have := (List.getElem?_eq_some_iff.mp hu).1
      simpa using this
    refine wpAny_pyNext_enum_itemD (Draws.tuple (prog := X.prog) (w := X.w) (A := X.A.in1) (I.ok.hd hc) it a hai its.toArray) he ⟨hit, p'⟩ hlt hne (by simp [hne, hea]) fun v h' tk hP ho hit' hT hsz hk => ?_
    have ev : v = u := by
      have h1 : its.toArray[i]? = some v := hP
      have h2 : its.toArray[i]? = some u := by simpa using hu
      rw [h1] at h2
      exact Option.some.inj h2
    subst ev
    refine ⟨_, rfl, wpAny_letOwnedTupleGo_enum (s := { s with heap := h', toks := tk + 1 }) ho fun h'' he' sb => ?_⟩
    have hT2 : h''.get? s.heap.objs.size = some { cls := .type "tuple", data := .seq #[.int i tk, v] } := (sb.2 _ (Nat.ne_of_gt hel)).trans hT
    have new : ObjOk X.prog X.w (upd H s.heap.objs.size (.tup [.int (i : Nat), x])) h'' s.heap.objs.size (.tup [.int (i : Nat), x]) :=
      ⟨by show 2 ≤ sizeLine; decide, [.int i tk, v], .cons ⟨_, rfl⟩ (.cons ru .nil), ⟨_, hT2, rfl, _, rfl⟩⟩
    have I1 : Inv X pins σ (upd H s.heap.objs.size (.tup [.int (i : Nat), x])) { s with heap := h'', toks := tk + 1 } :=
      I.turnedNew (ch := [e, it]) (fun b ob hb q => (sb.2 b (fun z => hb (by simp [z]))).trans (hk b ob (fun z => hb (by simp [z])) (fun z => hb (by simp [z])) q)) hf (Nat.le_refl _) new
    refine ⟨.ref s.heap.objs.size, _, I1, rfl, ⟨_, x, rfl, I.hok.fresh (Nat.le_refl _), rfl, fun ys hy => by rw [tuple_injK I hy hq]; exact hx⟩, ⟨⟨v, ?_⟩, hit'.1.at fun o q => (sb.2 it (Ne.symm hne)).trans q, hne, hea⟩, fun b hb => ?_⟩
    · have e1 : ((i + 1 : Nat) : Int) = (i : Int) + 1 := by omega
      rw [e1]; exact he'
    · have hb' : b < s.heap.objs.size := by
        have e' : b = e ∨ b = it := by simpa using hb
        rcases e' with z | z
        · rw [z]; exact hel
        · rw [z]; exact hil
      rw [upd_ne (Nat.ne_of_lt hb')]
      exact (hf b hb).1
  done := by
    intro X hP hw hK hc i pins s σ H E I hf st hg
    subst hP hw hK
    obtain ⟨⟨old, he⟩, hit, hne, hea⟩ := st
    obtain ⟨xs, hq, hx⟩ := hg
    obtain ⟨its, rv, p, hz⟩ := I.tuple hq
    obtain ⟨f0, f1, f2, f3, f4, f5⟩ := hf it (by simp)
    have hl := rv.length
    exact wpAny_pyNext_enum_endT (I.ok.hd hc) he hit (show s.heap.IsTuple a its.toArray from p) (by simp; omega) fun h' eb => ⟨rfl, I.turned (t' := s.toks) (fun b o hb q => eb b o hb q) f0 f1 f3 f4 f5⟩
  self := fun A i s Q E st h => let ⟨⟨_, he⟩, _⟩ := st; wpAny_pyIter_enum he h
/-- enumerate of a list or of a tuple -/
structure IEn (K : PySem.W.Frag) (ta : TA) (σ : L2.St) (H : Hp) (R : It → Hp → Prop) : Prop where
  ob : ta σ H fun vs H1 => ∃ a xs, vs = [.ref a] ∧ ((SqL K H1 a xs ∧ R (Ite K a) H1) ∨ (SqT K H1 a xs ∧ R (IteT K a) H1))
def iEnumS (K : PySem.W.Frag) (ta : TA) : TI := fun σ H R => IEn K ta σ H R
theorem pi_enumS {X : Cx} {e : Expr} {ta : TA} {p pos tpos : Pos} {elts : List Expr} {kk : Nat} (hg : Gl X "enumerate") (hm : X.mg "enumerate" = none) (ha : PA X [e] ta) (hs : starEach [e] X.env = [(false, eval e X.env)] := by rfl) :
    PI X (.Tuple elts kk tpos) (.Call (.Name "enumerate" p) [e] [] pos) (iEnumS X.K ta) := by
  refine ⟨fun pins s σ H R I h => ?_⟩
  refine Call_ (ld_blt I hg hm boot_enumerate (PyProof.Rows.callWith_type1 (thn (ha.run pos pins s σ H _ I h.ob) fun us s1 ⟨vs, H1, I1, r1, q1⟩ => ?_) hs rfl))
  obtain ⟨a, xs, ex, q1⟩ := q1
  subst ex
  cases r1 with
  | cons r rr =>
    cases rr
    cases r
    rcases q1 with ⟨hq, q⟩ | ⟨hq, q⟩
    · obtain ⟨its, rv, p', hz⟩ := I1.list hq
      refine call_enumerate_list p'.isList fun h' he hit hsz hk => wpAny_pyIter_enum he ?_
      have I2 : Inv X pins σ H1 { s1 with heap := h' } := I1.kept (t' := s1.toks) hk
      refine ⟨s1.heap.objs.size + 1, [s1.heap.objs.size + 1, s1.heap.objs.size], _, _, H1, rfl, I2, turn_enum a (s1.heap.objs.size + 1) s1.heap.objs.size, ⟨⟨.none, he⟩, hit, Nat.succ_ne_self _⟩, fun b hb => ?_, q⟩
      have e' : b = s1.heap.objs.size + 1 ∨ b = s1.heap.objs.size := by simpa using hb
      have hle : s1.heap.objs.size ≤ b := by
        rcases e' with z | z
        · rw [z]; exact Nat.le_add_right _ _
        · rw [z]; exact Nat.le_refl _
      exact I1.fpOk hle (I1.hok.fresh hle)
    · obtain ⟨its, rv, p', hz⟩ := I1.tuple hq
      have p2 : s1.heap.IsTuple a its.toArray := p'
      have hal : a < s1.heap.objs.size := by obtain ⟨_, e1, _⟩ := id p2; exact Heap.lt_size e1
      refine call_enumerate_tuple p2 fun h' he hit hsz hk => wpAny_pyIter_enum he ?_
      have I2 : Inv X pins σ H1 { s1 with heap := h' } := I1.kept (t' := s1.toks) hk
      refine ⟨s1.heap.objs.size + 1, [s1.heap.objs.size + 1, s1.heap.objs.size], _, _, H1, rfl, I2, turn_enumT a (s1.heap.objs.size + 1) s1.heap.objs.size (Nat.ne_of_lt hal), ⟨⟨.none, he⟩, hit, Nat.succ_ne_self _, (Nat.ne_of_lt (Nat.lt_succ_of_lt hal)).symm⟩, fun b hb => ?_, q⟩
      have e' : b = s1.heap.objs.size + 1 ∨ b = s1.heap.objs.size := by simpa using hb
      have hle : s1.heap.objs.size ≤ b := by
        rcases e' with z | z
        · rw [z]; exact Nat.le_add_right _ _
        · rw [z]; exact Nat.le_refl _
      exact I1.fpOk hle (I1.hok.fresh hle)
theorem walk_enumT {K : PySem.W.Frag} {a : Addr} {xs : List V} : Walk (IteT K a) xs.length (fun H => SqT K H a xs) (YPair (fun i => some (.int (i : Nat))) (fun i => xs[i]?)) := by
  refine ⟨fun i _ hi q => ⟨xs, xs[i], q, by simp [hi]⟩, fun _ q => ⟨xs, q, Nat.le_refl _⟩, fun i H v H' _ q y => ?_⟩
  obtain ⟨T, x, h1, h2, h3, h4⟩ := y
  exact ⟨T, .int (i : Nat), x, h1, h2, h3, rfl, h4 xs q⟩
end KX

set_option Elab.async false
set_option linter.all false
set_option maxRecDepth 100000
set_option maxHeartbeats 4000000
/-! Own layer: x is not True, x is not False of an int or a bool. -/
namespace KX
open PySem PySem.Spec PyProof.Rows L2
def rNotTr : V → V → Hp → VK → Prop := fun x y H Q => ∃ b, y = .bl b ∧ ((∃ i, x = .int i ∧ Q (.bl true) H) ∨ ∃ a, x = .bl a ∧ Q (.bl (!decide (a = b))) H)
theorem op_notTr {X : Cx} : OpR X (compareOp .IsNot) rNotTr := by
  intro pins s σ H x y v u Q I rx ry h
  obtain ⟨b, rfl, ⟨i, rfl, q⟩ | ⟨a, rfl, q⟩⟩ := h
  · cases (show u = Value.bool b from ry)
    obtain ⟨t, rfl⟩ : ∃ t, v = Value.int i t := rx
    exact wpAny_isNot_other rfl (fun z => nomatch z) ⟨.bl true, H, I, rfl, q⟩
  · cases (show v = Value.bool a from rx)
    cases (show u = Value.bool b from ry)
    by_cases e : a = b
    · subst e
      exact wpAny_isNot_self rfl ⟨.bl false, H, I, rfl, by simpa using q⟩
    · exact wpAny_isNot_other rfl (fun z => e (Value.bool.inj z)) ⟨.bl true, H, I, rfl, by simpa [e] using q⟩
end KX

set_option Elab.async false
set_option linter.all false
set_option maxRecDepth 100000
set_option maxHeartbeats 4000000
namespace L
open PySem L2 KX
theorem cut_nv (ws : List Nat) (i j : Nat) : cutV (nv ws) (some (i : Int)) (some (j : Int)) = nv ((ws.drop (min i ws.length)).take (min j ws.length - min i ws.length)) := by
  unfold cutV
  rw [HT.sIx_nat, HT.sIx_nat, nv_len]
  unfold nv
  rw [List.map_take, List.map_drop]
theorem cut_one (ws : List Nat) : cutV (nv ws) (some 1) none = nv (ws.drop 1) := by
  unfold cutV
  have e : HT.sIx (nv ws).length 0 (some 1) = min 1 ws.length := by rw [show (1 : Int) = ((1 : Nat) : Int) from rfl, HT.sIx_nat, nv_len]
  rw [e, HT.sIx_none, nv_len]
  unfold nv
  rw [← List.map_drop, ← List.map_take]
  refine congrArg (List.map _) ?_
  match ws with
  | [] => rfl
  | w :: r =>
    show (List.drop (min 1 (r.length + 1)) (w :: r)).take (r.length + 1 - min 1 (r.length + 1)) = r
    rw [Nat.min_eq_left (by omega)]
    show r.take (r.length + 1 - 1) = r
    rw [Nat.add_sub_cancel, List.take_length]
/-- the place of a range -/
def rng (ws : List Nat) (i j : Nat) : List Nat := (ws.drop i).take (j - i)
theorem rng_cut {ws : List Nat} {i j : Nat} (h1 : i < j) (h2 : j ≤ ws.length) : cutV (nv ws) (some (i : Int)) (some (j : Int)) = nv (rng ws i j) := by
  rw [cut_nv, Nat.min_eq_left (show i ≤ ws.length by omega), Nat.min_eq_left h2]; rfl
theorem rng_ne {ws : List Nat} {i j : Nat} (h1 : i < j) (h2 : j ≤ ws.length) : rng ws i j ≠ [] := fun z => by
  have := congrArg List.length z
  unfold rng at this
  rw [List.length_take, List.length_drop] at this
  have e : min (j - i) (ws.length - i) = 0 := this
  omega
theorem rng_mem {ws : List Nat} {i j x : Nat} (h : x ∈ rng ws i j) : x ∈ ws := List.mem_of_mem_drop (List.mem_of_mem_take h)
/-- the elements of a good sequence -/
theorem okS_nv {n : Nat} {xs : List V} (h : okS n (some xs) = true) : ∃ ws : List Nat, xs = nv ws ∧ (∀ x, x ∈ ws → x < n) ∧ 1 ≤ ws.length ∧ ws.length ≤ 2000 := by
  unfold okS at h
  obtain ⟨h1, h2⟩ := Bool.and_eq_true_iff.mp h
  obtain ⟨h3, h4⟩ := Bool.and_eq_true_iff.mp h1
  have go : ∀ xs : List V, xs.all (nb (n : Int)) = true → ∃ ws : List Nat, xs = nv ws ∧ ∀ x, x ∈ ws → x < n := fun xs => by
    induction xs with
    | nil => exact fun _ => ⟨[], rfl, fun _ z => nomatch z⟩
    | cons v xs ih =>
      intro h
      rw [List.all_cons, Bool.and_eq_true] at h
      obtain ⟨ws, e, hw⟩ := ih h.2
      obtain ⟨w, rfl⟩ : ∃ w : Nat, v = .int (w : Int) := by
        cases v with
        | int i =>
          obtain ⟨a, _⟩ := Bool.and_eq_true_iff.mp (show (decide (0 ≤ i) && decide (i < (n : Int))) = true from h.1)
          obtain ⟨w, rfl⟩ := Int.eq_ofNat_of_zero_le (of_decide_eq_true a)
          exact ⟨w, rfl⟩
        | _ => exact nomatch h.1
      have hw0 := of_decide_eq_true (Bool.and_eq_true_iff.mp (show (decide ((0 : Int) ≤ (w : Int)) && decide ((w : Int) < (n : Int))) = true from h.1)).2
      refine ⟨w :: ws, by rw [e]; rfl, fun x hx => ?_⟩
      rcases List.mem_cons.mp hx with e | e
      · rw [e]; omega
      · exact hw x e
  obtain ⟨ws, rfl, hw⟩ := go xs h2
  have l1 := of_decide_eq_true h3
  have l2 := of_decide_eq_true h4
  rw [nv_len] at l1 l2
  exact ⟨ws, rfl, hw, by omega, by omega⟩
/-- where a range ends -/
def endV (n : Nat) (e : V) : V := if e = .non then .int (n : Int) else e
def lenO : Option (List V) → Nat
  | some xs => xs.length
  | none => 0
def spEval (K : PySem.W.Frag) (C CT CS CR : Addr) : Sp := fun vs H Q E => ∃ t s b e, vs = [t, s, b, e] ∧
  ((NotT K C H t ∧ ∀ d, H d = none → E (.ref CT) (some d) (upd H d (.xd [("value", t)]))) ∨
  ∃ p tb o, t = .ref p ∧ TbA K C H p tb ∧ Sqr tb ∧ RowD K H s o ∧ Itm K H b ∧ (e = .non ∨ (e ≠ .non ∧ Itm K H e)) ∧
    (okS tb.length o = false → ∀ H' d, Same H H' → H' d = none → E (.ref CS) (some d) (upd H' d (.xd [("value", s)]))) ∧
    (okS tb.length o = true → rgB (lenO o) b (endV (lenO o) e) = false → ∀ H' t0 d, Same H H' → H t0 = none → H' t0 = some (.tup [b, e]) → H' d = none → E (.ref CR) (some d) (upd H' d (.xd [("bounds", .ref t0)]))) ∧
    (okS tb.length o = true → rgB (lenO o) b (endV (lenO o) e) = true → ∀ (ws : List Nat) (i j : Nat), o = some (nv ws) → (∀ x, x ∈ ws → x < tb.length) → i < j → j ≤ ws.length → b = .int (i : Int) → endV ws.length e = .int (j : Int) → ∀ H', Same H H' → Q (.int (fld tb (rng ws i j) : Nat)) H'))
section
variable {P : Program} {w : World} {K : PySem.W.Frag} {mg : Str → Option Value} {base : Heap} {f g gn fl g1 g2 g3 g4 g5 fE : Addr} {fd gd gnd dl d1 d2 d3 d4 d5 dE : FuncData} {C CT CS CR : Addr}
end
end L

set_option Elab.async false
set_option linter.all false
set_option maxRecDepth 100000
set_option maxHeartbeats 4000000
set_option pp.maxSteps 400
namespace L
open PySem L2 KX
abbrev sFi : Stmt := inClass (top 27) 0
abbrev sFrw : Stmt := inClass (top 27) 1
abbrev sFal : Stmt := inClass (top 27) 3
abbrev sFnd : Stmt := inClass (top 27) 4
abbrev nFnd : List Str := ["self", "start", "stop", "product", "pairs", "parted", "cut", "height", "rest", "places", "lowest", "cuts"]
structure HfX (K : PySem.W.Frag) (CF : Addr) : Prop where
  cl : Cls K CF
  n1 : NoAttr K CF "_sequence"
  n2 : NoAttr K CF "_rows"
  n3 : NoAttr K CF "_products"
  n4 : NoAttr K CF "_heights"
  n5 : NoAttr K CF "_cuts"
  n6 : NoAttr K CF "_runs"
/-- the product of d + 1 elements from i on -/
def pdn (tb : List (List Int)) (ws : List Nat) (i : Nat) : Nat → Nat
  | 0 => ws.getD i 0
  | d + 1 => (mu tb (pdn tb ws i d) (ws.getD (i + d + 1) 0)).toNat
/-- the product of the elements from i to before j -/
def pd (tb : List (List Int)) (ws : List Nat) (i j : Nat) : Nat := pdn tb ws i (j - i - 1)
theorem pd_one (tb : List (List Int)) (ws : List Nat) (i : Nat) : pd tb ws i (i + 1) = ws.getD i 0 := by
  unfold pd; rw [show i + 1 - i - 1 = 0 by omega]; rfl
theorem pd_succ (tb : List (List Int)) (ws : List Nat) {i j : Nat} (h : i < j) : pd tb ws i (j + 1) = (mu tb (pd tb ws i j) (ws.getD j 0)).toNat := by
  unfold pd
  rw [show j + 1 - i - 1 = (j - i - 1) + 1 by omega]
  show (mu tb _ (ws.getD (i + (j - i - 1) + 1) 0)).toNat = _
  rw [show i + (j - i - 1) + 1 = j by omega]
theorem pd_lt {tb : List (List Int)} (S : Sqr tb) {ws : List Nat} (hw : ∀ x, x ∈ ws → x < tb.length) {i j : Nat} (h : i < j) (hj : j ≤ ws.length) : pd tb ws i j < tb.length := by
  have at' : ∀ k, k < ws.length → ws.getD k 0 < tb.length := fun k hk => by
    rw [List.getD_eq_getElem?_getD, List.getElem?_eq_getElem hk]; exact hw _ (List.getElem_mem _)
  induction j with
  | zero => omega
  | succ j ih =>
    by_cases c : i = j
    · rw [← c, pd_one]; exact at' _ (by omega)
    · rw [pd_succ tb ws (by omega)]
      have := S.el _ _ (ih (by omega) (by omega)) (at' j (by omega))
      omega
/-- the product is that of two parts -/
theorem pd_cut {tb : List (List Int)} (T : Tb tb) {ws : List Nat} (hw : ∀ x, x ∈ ws → x < tb.length) {i c j : Nat} (h1 : i < c) (h2 : c < j) (hj : j ≤ ws.length) : pd tb ws i j = (mu tb (pd tb ws i c) (pd tb ws c j)).toNat := by
  have at' : ∀ k, k < ws.length → ws.getD k 0 < tb.length := fun k hk => by
    rw [List.getD_eq_getElem?_getD, List.getElem?_eq_getElem hk]; exact hw _ (List.getElem_mem _)
  induction j with
  | zero => omega
  | succ j ih =>
    by_cases e : c = j
    · rw [← e, pd_succ tb ws h1, pd_one]
    · rw [pd_succ tb ws (by omega), ih (by omega) (by omega), pd_succ tb ws (show c < j by omega)]
      have := T.as _ _ _ (pd_lt T.sq hw h1 (by omega)) (pd_lt T.sq hw (show c < j by omega) (by omega)) (at' j (by omega))
      unfold rt at this
      rw [this]
structure FA where
  (dx dp dh dc dr : Addr)
  (sv v1 : V)
/-- without the four dicts -/
def mn4 (s : FA) (H : Hp) : Hp := mn s.dp (mn s.dh (mn s.dc (mn s.dr H)))
theorem mn4_same {s : FA} {H : Hp} : Same (mn4 s H) H := mn_same.trans (mn_same.trans (mn_same.trans mn_same))
theorem mn4_none {s : FA} {H : Hp} : mn4 s H s.dp = none ∧ mn4 s H s.dh = none ∧ mn4 s H s.dc = none ∧ mn4 s H s.dr = none := by
  have k : ∀ {a b : Addr} {G : Hp}, G b = none → mn a G b = none := fun {a b G} h => by
    cases e : mn a G b with
    | none => rfl
    | some o => rw [mn_same _ _ e] at h; cases h
  exact ⟨mn_p, k mn_p, k (k mn_p), k (k (k mn_p))⟩
theorem mn4_of {s : FA} {H : Hp} {b : Addr} {o : HO} (e : H b = some o) (n1 : b ≠ s.dp) (n2 : b ≠ s.dh) (n3 : b ≠ s.dc) (n4 : b ≠ s.dr) : mn4 s H b = some o := mn_sx _ _ n1 (mn_sx _ _ n2 (mn_sx _ _ n3 (mn_sx _ _ n4 e)))
/-- all but the four dicts is as it was -/
def X4 (s : FA) (H J : Hp) : Prop := Same (mn4 s H) J
theorem X4.up {s : FA} {H J : Hp} (h : X4 s H J) : Same (mn4 s H) (mn4 s J) := fun b o e => by
  obtain ⟨n1, n2, n3, n4⟩ := mn4_none (s := s) (H := H)
  exact mn4_of (h _ _ e) (ne_of_none e n1) (ne_of_none e n2) (ne_of_none e n3) (ne_of_none e n4)
theorem X4.trans {s : FA} {H J G : Hp} (h : X4 s H J) (k : X4 s J G) : X4 s H G := h.up.trans k
def vN (n : Nat) : V := .int (n : Int)
def kT (i j : Nat) : List Key := [.inl (i : Int), .inl (j : Int)]
structure FinF (K : PySem.W.Frag) (CF : Addr) (F : Hp) (c : Addr) (s : FA) (tb : List (List Int)) (ws : List Nat) : Prop where
  ob : F c = some (.ins CF s.dx [("_sequence", s.sv), ("_rows", s.v1), ("_products", .ref s.dp), ("_heights", .ref s.dh), ("_cuts", .ref s.dc), ("_runs", .ref s.dr)])
  sq : Sq K F s.sv (nv ws)
  rw : RowsL F s.v1 tb
theorem FinF.same {K : PySem.W.Frag} {CF : Addr} {F G : Hp} {c : Addr} {s : FA} {tb : List (List Int)} {ws : List Nat} (e : Same F G) (h : FinF K CF F c s tb ws) : FinF K CF G c s tb ws := ⟨e _ _ h.ob, h.sq.same e, h.rw.same e⟩
/-- what the dicts tell of the parts in A; the runs' tuples stand in F -/
def DsOk (F : Hp) (tb : List (List Int)) (ws : List Nat) (A : Nat → Nat → Prop) (kp kh kr : List (List Key × V)) : Prop := ∀ i j, A i j → valV kp (kT i j) = some (vN (pd tb ws i j)) ∧ valV kh (kT i j) = some (vN (hgt (pd tb ws) i j)) ∧
  ∃ (t l : Addr) (ns : List Int), valV kr (kT i j) = some (.ref t) ∧ F t = some (.tup [vN (rnn (pd tb ws) i j), .ref l]) ∧ F l = some (.lst (ns.map V.int)) ∧ ns.length ≤ 1 + (j - i)
/-- a finder at c whose parts in A are done -/
structure FinS (K : PySem.W.Frag) (CF : Addr) (H : Hp) (c : Addr) (s : FA) (tb : List (List Int)) (ws : List Nat) (A : Nat → Nat → Prop) (B : Nat) : Prop where
  fr : FinF K CF (mn4 s H) c s tb ws
  ne : s.dp ≠ s.dh ∧ s.dp ≠ s.dc ∧ s.dp ≠ s.dr ∧ s.dh ≠ s.dc ∧ s.dh ≠ s.dr ∧ s.dc ≠ s.dr
  ds : ∃ kp kh kc kr, H s.dp = some (.dT kp) ∧ H s.dh = some (.dT kh) ∧ H s.dc = some (.dT kc) ∧ H s.dr = some (.dT kr) ∧ kp.length ≤ B ∧ kh.length ≤ B ∧ kc.length ≤ B ∧ kr.length ≤ B ∧ DsOk (mn4 s H) tb ws A kp kh kr
theorem DsOk.same {F G : Hp} {tb : List (List Int)} {ws : List Nat} {A : Nat → Nat → Prop} {kp kh kr : List (List Key × V)} (e : Same F G) (h : DsOk F tb ws A kp kh kr) : DsOk G tb ws A kp kh kr := fun i j a => by
  obtain ⟨h1, h2, t, l, ns, h3, h4, h5, h6⟩ := h i j a
  exact ⟨h1, h2, t, l, ns, h3, e _ _ h4, e _ _ h5, h6⟩
theorem dg {H : Hp} {d t : Addr} {kvs : List (List Key × V)} {a b : Nat} {x y : Int} {v : V} (e : H d = some (.dT kvs)) (et : H t = some (.tup [.int x, .int y])) (hx : x = (a : Int)) (hy : y = (b : Int)) (hv : valV kvs (kT a b) = some v) : DGet H d (.ref t) (some v) := by
  subst hx hy
  rw [← hv]
  exact DGet.t (k := kT a b) e et
theorem dpt {H : Hp} {d t : Addr} {kvs : List (List Key × V)} {a b : Nat} {x y : Int} {v : V} (e : H d = some (.dT kvs)) (et : H t = some (.tup [.int x, .int y])) (hx : x = (a : Int)) (hy : y = (b : Int)) (hl : kvs.length ≤ 100000) : DPut H d (.ref t) v (upd H d (.dT (putK kvs (kT a b) v))) := by
  subst hx hy
  exact DPut.t (k := kT a b) e et (Nat.lt_of_le_of_lt hl (by rw [sizeLine_eq]; decide))
theorem PairAt.same {H G : Hp} {v : V} {q : Int × List Int} (s : Same H G) (h : PairAt H v q) : PairAt G v q := let ⟨t, m, e, e1, e2⟩ := h; ⟨t, m, e, s _ _ e1, s _ _ e2⟩
theorem pairs_same {H G : Hp} {vs : List V} {ps : List (Int × List Int)} (s : Same H G) (h : Paired (PairAt H) vs ps) : Paired (PairAt G) vs ps := L2.Paired.mapP h fun _ _ z => PairAt.same s z
theorem PairAt.dT {H : Hp} {d : Addr} {k : List (List Key × V)} {o : HO} {v : V} {q : Int × List Int} (e : H d = some (.dT k)) (h : PairAt H v q) : PairAt (upd H d o) v q := by
  obtain ⟨t, m, rfl, e1, e2⟩ := h
  exact ⟨t, m, rfl, by rw [upd_ne (fun z => by rw [z, e] at e1; cases e1)]; exact e1, by rw [upd_ne (fun z => by rw [z, e] at e2; cases e2)]; exact e2⟩
theorem putK_le (kvs : List (List Key × V)) (k : List Key) (v : V) : (putK kvs k v).length ≤ kvs.length + 1 := by
  unfold putK
  split
  · rw [List.length_map]; exact Nat.le_succ _
  · rw [List.length_append]; exact Nat.le_refl _
theorem mn2_up {a1 a2 : Addr} {J J' : Hp} (s : ∀ b o, b ≠ a1 → b ≠ a2 → J b = some o → J' b = some o) : Same (mn a1 (mn a2 J)) (mn a1 (mn a2 J')) := fun b o e => by
  have h1 : b ≠ a1 := fun z => by rw [z, mn_p] at e; cases e
  have e1 := mn_same _ _ e
  have h2 : b ≠ a2 := fun z => by rw [z, mn_p] at e1; cases e1
  exact mn_sx _ _ h1 (mn_sx _ _ h2 (s _ _ h1 h2 (mn_same _ _ e1)))
theorem mn2_of {a1 a2 b : Addr} {J : Hp} {o : HO} (h1 : b ≠ a1) (h2 : b ≠ a2) (e : J b = some o) : mn a1 (mn a2 J) b = some o := mn_sx _ _ h1 (mn_sx _ _ h2 e)
/-- the pairs of the cuts below u with T -/
def Chr (T : Nat → Prop) (val : Nat → Nat) (i u L : Nat) (ps : List (Int × List Int)) : Prop := (∀ q, q ∈ ps → q.2.length ≤ L ∧ ∃ c, i < c ∧ c < u ∧ T c ∧ q.1 = ((val c : Nat) : Int)) ∧ ∀ c, i < c → c < u → T c → ∃ q, q ∈ ps ∧ q.1 = ((val c : Nat) : Int)
theorem Chr.nil {T : Nat → Prop} {val : Nat → Nat} {i L : Nat} : Chr T val i (i + 1) L [] := ⟨fun _ z => (nomatch z), fun c h1 h2 => by omega⟩
theorem Chr.app {T : Nat → Prop} {val : Nat → Nat} {i u L : Nat} {ps : List (Int × List Int)} {q : Int × List Int} (h : Chr T val i u L ps) (hi : i < u) (t : T u) (e : q.1 = ((val u : Nat) : Int)) (l : q.2.length ≤ L) : Chr T val i (u + 1) L (ps ++ [q]) := by
  refine ⟨fun z hz => ?_, fun c h1 h2 h3 => ?_⟩
  · rcases List.mem_append.mp hz with hz | hz
    · obtain ⟨g1, c, g2, g3, g4, g5⟩ := h.1 z hz
      exact ⟨g1, c, g2, by omega, g4, g5⟩
    · rw [List.mem_singleton.mp hz]
      exact ⟨l, u, hi, Nat.lt_succ_self _, t, e⟩
  · by_cases c' : c = u
    · subst c'
      exact ⟨q, List.mem_append.mpr (.inr (List.mem_singleton.mpr rfl)), e⟩
    · obtain ⟨z, g1, g2⟩ := h.2 c h1 (by omega) h3
      exact ⟨z, List.mem_append.mpr (.inl g1), g2⟩
theorem Chr.skip {T : Nat → Prop} {val : Nat → Nat} {i u L : Nat} {ps : List (Int × List Int)} (h : Chr T val i u L ps) (t : ¬ T u) : Chr T val i (u + 1) L ps := by
  refine ⟨fun z hz => ?_, fun c h1 h2 h3 => ?_⟩
  · obtain ⟨g1, c, g2, g3, g4, g5⟩ := h.1 z hz
    exact ⟨g1, c, g2, by omega, g4, g5⟩
  · by_cases c' : c = u
    · subst c'; exact absurd h3 t
    · exact h.2 c h1 (by omega) h3
/-- the list at a, its pairs -/
def PLs (a a1 a2 : Addr) (J : Hp) (m : Nat) (T : Nat → Prop) (val : Nat → Nat) (i u L : Nat) : Prop := ∃ vs ps, J a = some (.lst vs) ∧ Paired (PairAt (mn a1 (mn a2 J))) vs ps ∧ vs.length ≤ m ∧ Chr T val i u L ps
theorem PLs.to {a a1 a2 : Addr} {J J' : Hp} {m : Nat} {T : Nat → Prop} {val : Nat → Nat} {i u L : Nat} (h : PLs a a1 a2 J m T val i u L) (s : ∀ b o, b ≠ a1 → b ≠ a2 → J b = some o → J' b = some o) (e : ∀ vs, J a = some (.lst vs) → J' a = some (.lst vs)) : PLs a a1 a2 J' m T val i u L :=
  let ⟨vs, ps, h1, h2, h3, h4⟩ := h
  ⟨vs, ps, e _ h1, pairs_same (mn2_up s) h2, h3, h4⟩
theorem kT_inj {a b c d : Nat} (h : kT a b = kT c d) : a = c ∧ b = d := by
  unfold kT at h
  injection h with h1 h2
  injection h2 with h2 _
  injection h1 with h1
  injection h2 with h2
  omega
theorem paired_append {α β : Type} {R : α → β → Prop} : ∀ {as : List α} {bs : List β} {cs : List α} {ds : List β}, Paired R as bs → Paired R cs ds → Paired R (as ++ cs) (bs ++ ds)
  | _, _, _, _, .nil, k => k
  | _, _, _, _, .cons h t, k => .cons h (paired_append t k)
theorem mem_at {α : Type} {xs : List α} {x : α} {j : Nat} (h : xs[j]? = some x) : x ∈ xs := List.mem_of_getElem? h
theorem max_int (a b : Nat) : (if (b : Int) > (a : Int) then (b : Int) else (a : Int)) = ((max a b : Nat) : Int) := by
  split <;> omega
def spFnd (K : PySem.W.Frag) (CF : Addr) : Sp := fun vs H Q _ => ∃ (c : Addr) (i j : Nat) (s : FA) (tb : List (List Int)) (ws : List Nat) (A : Nat → Nat → Prop) (B : Nat), vs = [.ref c, .int (i : Int), .int (j : Int)] ∧ FinS K CF H c s tb ws A B ∧ Tb tb ∧
  (∀ x, x ∈ ws → x < tb.length) ∧ i + 2 ≤ j ∧ j ≤ ws.length ∧ ws.length ≤ 100 ∧ B ≤ 100000 ∧ (∀ a b, i ≤ a → a < b → b ≤ j → b - a < j - i → A a b) ∧
  ∀ H', FinS K CF H' c s tb ws (fun a b => A a b ∨ (a = i ∧ b = j)) (B + 1) → X4 s H H' → Q .non H'
section
variable {P : Program} {w : World} {K : PySem.W.Frag} {mg : Str → Option Value} {base : Heap} {f : Addr} {fd : FuncData} {CF : Addr}
theorem ixS {X : Cx} {K : PySem.W.Frag} (hK : X.K = K) : IxR X (rIx K) := by subst hK; exact ix_seq
theorem scFnd : FnScope nFnd ["self", "start", "stop"] (defScope sFnd) := ⟨rfl, rfl, rfl, by decide +kernel, rfl, by decide +kernel, by decide +kernel⟩
theorem ok_find (F : Fun K "_find" "HeightFinder._find" sFnd f fd) (M : Mn mg) (U : HfX K CF) : FnOk P w K mg base CX0 1 f fd ["self", "start", "stop"] (spFnd K CF) := by
  refine F.ok scFnd (fun vs H Q E h => ?_) (fun cdv A outer s H vs Q E hr h => ?_)
  · obtain ⟨c, i, j, s, tb, ws, A, B, rfl, _⟩ := h
    rfl
  obtain ⟨c, i, j, fa, tb, ws, A0, B, rfl, hf, TT, hw, hij, hjl, l100, hB, hA0, q⟩ := h
  have hu := hr.units
  have hu1 := Nat.lt_of_le_of_lt (Nat.add_le_add_left (show 1 ≤ 64 by decide) _) hu
  refine ⟨_, (pss_cons (ps_set (i := 3) scFnd.nd rfl (Or.inl rfl) (pe_ix (ixl (K := K) rfl) (pe_ix (ixl (K := K) rfl) (pe_fld (pv 0) rfl) (pe_dget (by exact hu1) (pe_fld (pv 0) rfl) (pe_tup (pa_cons (pv 1) (pa_cons (pe_op op_sub (pv 2) pe_int) pa_nil))) (fun _ _ => rfl)) (fun _ _ => rfl)) (pe_ix (ixS (K := K) rfl) (pe_fld (pv 0) rfl) (pe_op op_sub (pv 2) pe_int) (fun _ _ => rfl)) (fun _ _ => rfl))) (pss_cons (ps_dput (by exact hu1) (pe_fld (pv 0) rfl) (pe_tup (pa_cons (pv 1) (pa_cons (pv 2) pa_nil))) (pv 3) rfl) (pss_cons (ps_set (i := 4) scFnd.nd rfl (Or.inl rfl) (pe_lst pa_nil)) (pss_cons (ps_set (i := 5) scFnd.nd rfl (Or.inl rfl) (pe_lst pa_nil)) (pss_cons (ps_for PassesOwn.never rfl (pi_range2 (by rfl) M.range (pa_cons (pe_op op_add (pv 1) pe_int) (pa_cons (pv 2) pa_nil))) (pg_name (i := 6) scFnd.nd rfl (Or.inl rfl)) (pss_cons (ps_set (i := 7) scFnd.nd rfl (Or.inl rfl) (pe_dget (by exact hu1) (pe_fld (pv 0) rfl) (pe_tup (pa_cons (pv 1) (pa_cons (pv 6) pa_nil))) (fun _ _ => rfl))) (pss_cons (ps_expr (pe_bm PySem.F.plainAttrs_list PySem.F.slot_list_append PySem.F.type_list_append mt_append (pv 4) (pa_cons (pe_tup (pa_cons (pe_callB (call_max2 rfl) (by rfl) M.max (by decide +kernel) (pa_cons (pv 7) (pa_cons (pe_dget (by exact hu1) (pe_fld (pv 0) rfl) (pe_tup (pa_cons (pv 6) (pa_cons (pv 2) pa_nil))) (fun _ _ => rfl)) pa_nil))) (pa_cons (pe_lst (pa_cons (pv 1) (pa_cons (pv 6) (pa_cons (pv 2) pa_nil)))) pa_nil))) pa_nil))) (pss_one (ps_cut (ps_if (pw_and (pt_cmpR op_eq (pe_dget (by exact hu1) (pe_fld (pv 0) rfl) (pe_tup (pa_cons (pv 1) (pa_cons (pv 6) pa_nil))) (fun _ _ => rfl)) (pv 3) (nomark _)) (pw_and1 (pt_cmpR op_eq (pe_dget (by exact hu1) (pe_fld (pv 0) rfl) (pe_tup (pa_cons (pv 6) (pa_cons (pv 2) pa_nil))) (fun _ _ => rfl)) (pv 3) (nomark _)))).pt (pss_cons (ps_asg (pe_dget (by exact hu1) (pe_fld (pv 0) rfl) (pe_tup (pa_cons (pv 6) (pa_cons (pv 2) pa_nil))) (fun _ _ => rfl)) (pg_tup rfl (pgs_cons (pg_name (i := 8) scFnd.nd rfl (Or.inl rfl)) (pgs_cons (pg_name (i := 9) scFnd.nd rfl (Or.inl rfl)) pgs_nil)))) (pss_one (ps_expr (pe_bm PySem.F.plainAttrs_list PySem.F.slot_list_append PySem.F.type_list_append mt_append (pv 5) (pa_cons (pe_tup (pa_cons (pe_callB (call_max2 rfl) (by rfl) M.max (by decide +kernel) (pa_cons (pv 7) (pa_cons (pv 8) pa_nil))) (pa_cons (pe_op op_cat (pe_lst (pa_cons (pv 1) pa_nil)) (pv 9)) pa_nil))) pa_nil))))) pss_nil)))))) (pss_cons (ps_asg (pe_callB (call_minP (K := K) rfl rfl hu) (by rfl) M.min (by decide +kernel) (pa_cons (pe_op op_cat (pv 4) (pv 5)) pa_nil)) (pg_tup rfl (pgs_cons (pg_name (i := 10) scFnd.nd rfl (Or.inl rfl)) (pgs_cons (pg_name (i := 11) scFnd.nd rfl (Or.inl rfl)) pgs_nil)))) (pss_cons (ps_dput (by exact hu1) (pe_fld (pv 0) rfl) (pe_tup (pa_cons (pv 1) (pa_cons (pv 2) pa_nil))) (pe_op op_add (pv 10) pe_int) rfl) (pss_cons (ps_dput (by exact hu1) (pe_fld (pv 0) rfl) (pe_tup (pa_cons (pv 1) (pa_cons (pv 2) pa_nil))) (pv 11) rfl) (pss_one (ps_dput (by exact hu1) (pe_fld (pv 0) rfl) (pe_tup (pa_cons (pv 1) (pa_cons (pv 2) pa_nil))) (pe_callB (call_minP (K := K) rfl rfl hu) (by rfl) M.min (by decide +kernel) (pa_cons (pe_op op_cat (pv 5) (pe_lst (pa_cons (pe_tup (pa_cons (pe_op op_add (pv 10) pe_int) (pa_cons (pe_lst (pa_cons (pv 1) (pa_cons (pv 2) pa_nil))) pa_nil))) pa_nil))) pa_nil)) rfl)))))))))), ?_⟩
  obtain ⟨j', rfl⟩ : ∃ j', j = j' + 1 := ⟨j - 1, by omega⟩
  obtain ⟨fr, ⟨ne1, ne2, ne3, ne4, ne5, ne6⟩, kp, kh, kc, kr, ep, eh, ec, er, lp, lh, lc, lr, done⟩ := hf
  have S := TT.sq
  let FF : Hp := mn4 fa H
  have nFF : FF fa.dp = none ∧ FF fa.dh = none ∧ FF fa.dc = none ∧ FF fa.dr = none := mn4_none
  have sF : Same FF H := mn4_same
  have back : ∀ J, Same FF J → X4 fa H J := fun J h => h
  have fr : FinF K CF FF c fa tb ws := fr
  have done : DsOk FF tb ws A0 kp kh kr := done
  generalize FF = F at *
  obtain ⟨nF1, nF2, nF3, nF4⟩ := nFF
  have hat : ∀ k, k < ws.length → (nv ws)[k]? = some (V.int ((ws.getD k 0 : Nat) : Int)) := fun k hk => by
    unfold nv
    rw [List.getElem?_map, List.getElem?_eq_getElem hk, List.getD_eq_getElem?_getD, List.getElem?_eq_getElem hk]; rfl
  have hwk : ∀ k, k < ws.length → ws.getD k 0 < tb.length := fun k hk => by
    rw [List.getD_eq_getElem?_getD, List.getElem?_eq_getElem hk]; exact hw _ (List.getElem_mem _)
  have ejm : (((j' + 1 : Nat) : Int) - 1) = ((j' : Nat) : Int) := by omega
  -- the product
  obtain ⟨d1, d2, _⟩ := done i j' (hA0 i j' (Nat.le_refl _) (by omega) (by omega) (by omega))
  have pl : pd tb ws i j' < tb.length := pd_lt S hw (by omega) (by omega)
  obtain ⟨l0, rs0, r0, ev, el0, at0, er0⟩ := rw_at fr.rw pl
  refine ⟨_, rfl, c, CF, _, _, _, rfl, sF _ _ fr.ob, U.cl, U.n2, rfl, _, rfl, c, CF, _, _, _, rfl, sF _ _ fr.ob, U.cl, U.n3, rfl, _, rfl, _, rfl, _, _, rfl, rfl, szl _ (by simp), fun t1 h1 => ?_⟩
  have s1 := Same.new h1 (.tup [.int (i : Int), .int (((j' + 1 : Nat) : Int) - 1)])
  have sF1 := sF.trans s1
  refine ⟨fa.dp, _, rfl, dg (s1 _ _ ep) upd_same rfl ejm d1, l0, _, _, _, ev, rfl, SqL.of (sF1 _ _ el0), at_of (j := pd tb ws i j') rfl at0, ?_⟩
  refine ⟨_, rfl, c, CF, _, _, _, rfl, sF1 _ _ fr.ob, U.cl, U.n1, rfl, _, rfl, _, _, rfl, rfl, rix_of (fr.sq.same sF1) ejm (hat j' (by omega)) ?_⟩
  refine ⟨r0, _, _, _, rfl, rfl, SqL.of (sF1 _ _ er0), at_of (j := ws.getD j' 0) rfl (row_g S pl (hwk j' (by omega))), ?_⟩
  have emu : mu tb (pd tb ws i j') (ws.getD j' 0) = ((pd tb ws i (j' + 1) : Nat) : Int) := by
    rw [pd_succ tb ws (by omega)]
    have := S.el _ _ pl (hwk j' (by omega))
    omega
  rw [emu]
  -- its store
  refine ⟨_, rfl, _, rfl, c, CF, _, _, _, rfl, sF1 _ _ fr.ob, U.cl, U.n3, rfl, _, rfl, _, rfl, szl _ (by simp), fun t2 h2 => ?_⟩
  have s2 := Same.new h2 (.tup [.int (i : Int), .int ((j' + 1 : Nat) : Int)])
  refine ⟨fa.dp, _, rfl, dpt (a := i) (b := j' + 1) (s2 _ _ (s1 _ _ ep)) upd_same rfl rfl (by omega), ?_⟩
  have sF2 : Same F (upd (upd (upd H t1 (.tup [.int (i : Int), .int (((j' + 1 : Nat) : Int) - 1)])) t2 (.tup [.int (i : Int), .int ((j' + 1 : Nat) : Int)])) fa.dp (.dT (putK kp (kT i (j' + 1)) (.int ((pd tb ws i (j' + 1) : Nat) : Int))))) := fun b o e => by
    rw [upd_ne (ne_of_none e nF1)]; exact s2 _ _ (sF1 _ _ e)
  have ep2 : (upd (upd (upd H t1 (.tup [.int (i : Int), .int (((j' + 1 : Nat) : Int) - 1)])) t2 (.tup [.int (i : Int), .int ((j' + 1 : Nat) : Int)])) fa.dp (.dT (putK kp (kT i (j' + 1)) (.int ((pd tb ws i (j' + 1) : Nat) : Int))))) fa.dp = some (.dT (putK kp (kT i (j' + 1)) (.int ((pd tb ws i (j' + 1) : Nat) : Int)))) := upd_same
  have eh2 : (upd (upd (upd H t1 (.tup [.int (i : Int), .int (((j' + 1 : Nat) : Int) - 1)])) t2 (.tup [.int (i : Int), .int ((j' + 1 : Nat) : Int)])) fa.dp (.dT (putK kp (kT i (j' + 1)) (.int ((pd tb ws i (j' + 1) : Nat) : Int))))) fa.dh = some (.dT kh) := by rw [upd_ne ne1.symm]; exact s2 _ _ (s1 _ _ eh)
  have ec2 : (upd (upd (upd H t1 (.tup [.int (i : Int), .int (((j' + 1 : Nat) : Int) - 1)])) t2 (.tup [.int (i : Int), .int ((j' + 1 : Nat) : Int)])) fa.dp (.dT (putK kp (kT i (j' + 1)) (.int ((pd tb ws i (j' + 1) : Nat) : Int))))) fa.dc = some (.dT kc) := by rw [upd_ne ne2.symm]; exact s2 _ _ (s1 _ _ ec)
  have er2 : (upd (upd (upd H t1 (.tup [.int (i : Int), .int (((j' + 1 : Nat) : Int) - 1)])) t2 (.tup [.int (i : Int), .int ((j' + 1 : Nat) : Int)])) fa.dp (.dT (putK kp (kT i (j' + 1)) (.int ((pd tb ws i (j' + 1) : Nat) : Int))))) fa.dr = some (.dT kr) := by rw [upd_ne ne3.symm]; exact s2 _ _ (s1 _ _ er)
  generalize (upd (upd (upd H t1 (.tup [.int (i : Int), .int (((j' + 1 : Nat) : Int) - 1)])) t2 (.tup [.int (i : Int), .int ((j' + 1 : Nat) : Int)])) fa.dp (.dT (putK kp (kT i (j' + 1)) (.int ((pd tb ws i (j' + 1) : Nat) : Int))))) = G at sF2 ep2 eh2 ec2 er2 ⊢
  have done2 : DsOk F tb ws A0 (putK kp (kT i (j' + 1)) (.int ((pd tb ws i (j' + 1) : Nat) : Int))) kh kr := fun a b hab => by
    obtain ⟨g1, g2, g3⟩ := done a b hab
    refine ⟨?_, g2, g3⟩
    rw [valV_put]
    split
    · rename_i e
      obtain ⟨rfl, rfl⟩ := kT_inj e
      rfl
    · exact g1
  have lp2 : (putK kp (kT i (j' + 1)) (.int ((pd tb ws i (j' + 1) : Nat) : Int))).length ≤ B + 1 := Nat.le_trans (putK_le _ _ _) (by omega)
  have vp2 : valV (putK kp (kT i (j' + 1)) (.int ((pd tb ws i (j' + 1) : Nat) : Int))) (kT i (j' + 1)) = some (vN (pd tb ws i (j' + 1))) := by rw [valV_put, if_pos rfl]; rfl
  generalize (putK kp (kT i (j' + 1)) (.int ((pd tb ws i (j' + 1) : Nat) : Int))) = kp2 at ep2 done2 lp2 vp2
  clear done sF1 s1 s2 h1 h2 sF
  -- the two lists
  refine ⟨szl _ (by simp), fun a1 ha1 => ⟨szl _ (by simp), fun a2 ha2 => ?_⟩⟩
  have sg1 := Same.new ha1 (.lst [])
  have sg2 := Same.new ha2 (.lst [])
  have n12 : a1 ≠ a2 := ne_of_none upd_same ha2
  have ha2' : G a2 = none := sg1.free ha2
  let p := pd tb ws
  let v1 : Nat → Nat := fun c => max (hgt (pd tb ws) i c) (hgt (pd tb ws) c (j' + 1))
  let v2 : Nat → Nat := fun c => max (hgt (pd tb ws) i c) (rnn (pd tb ws) c (j' + 1))
  let T2 : Nat → Prop := fun c => pd tb ws i c = pd tb ws i (j' + 1) ∧ pd tb ws c (j' + 1) = pd tb ws i (j' + 1)
  refine ⟨_, rfl, _, _, rfl, rfl, _, rfl, _, _, rfl, ⟨by omega, by omega, by omega, by omega⟩, ?_⟩
  refine for_range (lo := (i : Int) + 1) (n := (((j' + 1 : Nat) : Int) - ((i : Int) + 1)).toNat) (fun m σ J => Same G J ∧ PLs a1 a1 a2 J m (fun _ => True) v1 i (i + 1 + m) 3 ∧ PLs a2 a1 a2 J m T2 v2 i (i + 1 + m) (1 + (j' + 1 - i)) ∧ ∃ x6 x7 x8 x9 x10 x11, σ = [some (.ref c), some (.int (i : Int)), some (.int ((j' + 1 : Nat) : Int)), some (.int ((pd tb ws i (j' + 1) : Nat) : Int)), some (.ref a1), some (.ref a2), x6, x7, x8, x9, x10, x11])
    ⟨sg1.trans sg2, ⟨[], [], sg2 _ _ upd_same, .nil, Nat.le_refl _, Chr.nil⟩, ⟨[], [], upd_same, .nil, Nat.le_refl _, Chr.nil⟩, _, _, _, _, _, _, rfl⟩ ?_ ?_
  · rintro m _ J hm ⟨sJ, q1, q2, x6, x7, x8, x9, x10, x11, rfl⟩
    have hcc : i + 1 + m < j' + 1 := by omega
    have ecc : (i : Int) + 1 + (m : Int) = ((i + 1 + m : Nat) : Int) := by omega
    have sFJ := sF2.trans sJ
    obtain ⟨dL1, dL2, _⟩ := done2 i (i + 1 + m) (hA0 i (i + 1 + m) (Nat.le_refl _) (by omega) (by omega) (by omega))
    obtain ⟨dR1, dR2, tr, lr', ns, dR3, etr, elr, lns⟩ := done2 (i + 1 + m) (j' + 1) (hA0 (i + 1 + m) (j' + 1) (by omega) (by omega) (Nat.le_refl _) (by omega))
    obtain ⟨vs1, ps1, e1, pr1, l1, c1⟩ := q1
    refine ⟨_, rfl, c, CF, _, _, _, rfl, sFJ _ _ fr.ob, U.cl, U.n4, rfl, _, rfl, _, rfl, szl _ (by simp), fun t3 h3 => ?_⟩
    have s3 := Same.new h3 (.tup [.int (i : Int), .int ((i : Int) + 1 + (m : Int))])
    refine ⟨fa.dh, _, rfl, dg (s3 _ _ (sJ _ _ eh2)) upd_same rfl ecc dL2, ?_⟩
    refine ⟨_, rfl, .inl ⟨rfl, _, SqL.of (s3 _ _ e1)⟩, _, rfl, _, rfl, c, CF, _, _, _, rfl, (sFJ.trans s3) _ _ fr.ob, U.cl, U.n4, rfl, _, rfl, _, rfl, szl _ (by simp), fun t4 h4 => ?_⟩
    have s4 := Same.new h4 (.tup [.int ((i : Int) + 1 + (m : Int)), .int ((j' + 1 : Nat) : Int)])
    refine ⟨fa.dh, _, rfl, dg (s4 _ _ (s3 _ _ (sJ _ _ eh2))) upd_same ecc rfl dR2, _, _, rfl, _, rfl, _, rfl, _, rfl, szl _ (by simp), fun x5 h5 => ⟨szl _ (by simp), fun t6 h6 => ?_⟩⟩
    rw [max_int] at *
    have s5 := Same.new h5 (.lst [.int (i : Int), .int ((i : Int) + 1 + (m : Int)), .int ((j' + 1 : Nat) : Int)])
    have s6 := Same.new h6 (.tup [.int ((max (hgt (pd tb ws) i (i + 1 + m)) (hgt (pd tb ws) (i + 1 + m) (j' + 1)) : Nat) : Int), .ref x5])
    have s36 := s3.trans (s4.trans (s5.trans s6))
    have e1' := s36 _ _ e1
    refine ⟨a1, vs1, _, rfl, rfl, e1', small1000 (by omega), ?_⟩
    have n5a : x5 ≠ a1 := fun z => by rw [z] at h5; rw [s4 _ _ (s3 _ _ e1)] at h5; cases h5
    have n6a : t6 ≠ a1 := fun z => by rw [z] at h6; rw [s5 _ _ (s4 _ _ (s3 _ _ e1))] at h6; cases h6
    obtain ⟨vs2, ps2, e2, pr2, l2, c2⟩ := q2
    have n5b : x5 ≠ a2 := fun z => by rw [z] at h5; rw [s4 _ _ (s3 _ _ e2)] at h5; cases h5
    have n6b : t6 ≠ a2 := fun z => by rw [z] at h6; rw [s5 _ _ (s4 _ _ (s3 _ _ e2))] at h6; cases h6
    have x5e := s6 _ _ (upd_same (a := x5) (o := .lst [.int (i : Int), .int ((i : Int) + 1 + (m : Int)), .int ((j' + 1 : Nat) : Int)]))
    have sA : ∀ b o, b ≠ a1 → b ≠ a2 → J b = some o → (upd (upd (upd (upd (upd J t3 (.tup [.int (i : Int), .int ((i : Int) + 1 + (m : Int))])) t4 (.tup [.int ((i : Int) + 1 + (m : Int)), .int ((j' + 1 : Nat) : Int)])) x5 (.lst [.int (i : Int), .int ((i : Int) + 1 + (m : Int)), .int ((j' + 1 : Nat) : Int)])) t6 (.tup [.int ((max (hgt (pd tb ws) i (i + 1 + m)) (hgt (pd tb ws) (i + 1 + m) (j' + 1)) : Nat) : Int), .ref x5])) a1 (.lst (vs1 ++ [.ref t6]))) b = some o := fun b o n1 n2 e => by rw [upd_ne n1]; exact s36 _ _ e
    have Q1 : PLs a1 a1 a2 (upd (upd (upd (upd (upd J t3 (.tup [.int (i : Int), .int ((i : Int) + 1 + (m : Int))])) t4 (.tup [.int ((i : Int) + 1 + (m : Int)), .int ((j' + 1 : Nat) : Int)])) x5 (.lst [.int (i : Int), .int ((i : Int) + 1 + (m : Int)), .int ((j' + 1 : Nat) : Int)])) t6 (.tup [.int ((max (hgt (pd tb ws) i (i + 1 + m)) (hgt (pd tb ws) (i + 1 + m) (j' + 1)) : Nat) : Int), .ref x5])) a1 (.lst (vs1 ++ [.ref t6]))) (m + 1) (fun _ => True) v1 i (i + 1 + (m + 1)) 3 :=
      ⟨_, _, upd_same, paired_append (pairs_same (mn2_up sA) pr1) (.cons (b := (((max (hgt (pd tb ws) i (i + 1 + m)) (hgt (pd tb ws) (i + 1 + m) (j' + 1)) : Nat) : Int), [(i : Int), (i : Int) + 1 + (m : Int), ((j' + 1 : Nat) : Int)])) ⟨t6, x5, rfl, mn2_of n6a n6b (by rw [upd_ne n6a]; exact upd_same), mn2_of n5a n5b (by rw [upd_ne n5a]; exact x5e)⟩ .nil), by rw [List.length_append]; simp; omega, c1.app (by omega) trivial rfl (by simp)⟩
    have Q2 : PLs a2 a1 a2 (upd (upd (upd (upd (upd J t3 (.tup [.int (i : Int), .int ((i : Int) + 1 + (m : Int))])) t4 (.tup [.int ((i : Int) + 1 + (m : Int)), .int ((j' + 1 : Nat) : Int)])) x5 (.lst [.int (i : Int), .int ((i : Int) + 1 + (m : Int)), .int ((j' + 1 : Nat) : Int)])) t6 (.tup [.int ((max (hgt (pd tb ws) i (i + 1 + m)) (hgt (pd tb ws) (i + 1 + m) (j' + 1)) : Nat) : Int), .ref x5])) a1 (.lst (vs1 ++ [.ref t6]))) m T2 v2 i (i + 1 + m) (1 + (j' + 1 - i)) :=
      PLs.to ⟨vs2, ps2, e2, pr2, l2, c2⟩ sA fun vs e => by rw [upd_ne n12.symm]; exact s36 _ _ e
    have sK : Same G (upd (upd (upd (upd (upd J t3 (.tup [.int (i : Int), .int ((i : Int) + 1 + (m : Int))])) t4 (.tup [.int ((i : Int) + 1 + (m : Int)), .int ((j' + 1 : Nat) : Int)])) x5 (.lst [.int (i : Int), .int ((i : Int) + 1 + (m : Int)), .int ((j' + 1 : Nat) : Int)])) t6 (.tup [.int ((max (hgt (pd tb ws) i (i + 1 + m)) (hgt (pd tb ws) (i + 1 + m) (j' + 1)) : Nat) : Int), .ref x5])) a1 (.lst (vs1 ++ [.ref t6]))) := fun b o e => sA b o (ne_of_none e ha1) (ne_of_none e ha2') (sJ _ _ e)
    generalize (upd (upd (upd (upd (upd J t3 (.tup [.int (i : Int), .int ((i : Int) + 1 + (m : Int))])) t4 (.tup [.int ((i : Int) + 1 + (m : Int)), .int ((j' + 1 : Nat) : Int)])) x5 (.lst [.int (i : Int), .int ((i : Int) + 1 + (m : Int)), .int ((j' + 1 : Nat) : Int)])) t6 (.tup [.int ((max (hgt (pd tb ws) i (i + 1 + m)) (hgt (pd tb ws) (i + 1 + m) (j' + 1)) : Nat) : Int), .ref x5])) a1 (.lst (vs1 ++ [.ref t6]))) = K1 at Q1 Q2 sK ⊢
    clear sA e1' s36 s6 s5 s4 s3 h6 h5 h4 h3 sFJ e1 e2 pr1 pr2 c1 c2 n5a n6a n5b n6b x5e
    have sFK := sF2.trans sK
    refine ⟨fun σ J => Same G J ∧ PLs a1 a1 a2 J (m + 1) (fun _ => True) v1 i (i + 1 + (m + 1)) 3 ∧ PLs a2 a1 a2 J (m + 1) T2 v2 i (i + 1 + (m + 1)) (1 + (j' + 1 - i)) ∧ ∃ x6 x7 x8 x9 x10 x11, σ = [some (.ref c), some (.int (i : Int)), some (.int ((j' + 1 : Nat) : Int)), some (.int ((pd tb ws i (j' + 1) : Nat) : Int)), some (.ref a1), some (.ref a2), x6, x7, x8, x9, x10, x11], ?_, fun _ _ h => h⟩
    have skip : ∀ {J : Hp}, Same K1 J → ¬ T2 (i + 1 + m) → Same G J ∧ PLs a1 a1 a2 J (m + 1) (fun _ => True) v1 i (i + 1 + (m + 1)) 3 ∧ PLs a2 a1 a2 J (m + 1) T2 v2 i (i + 1 + (m + 1)) (1 + (j' + 1 - i)) := fun {J} s nT => by
      obtain ⟨vs2, ps2, e2, pr2, l2, c2⟩ := Q2.to (fun b o _ _ e => s b o e) fun vs e => s _ _ e
      exact ⟨sK.trans s, Q1.to (fun b o _ _ e => s b o e) (fun vs e => s _ _ e), vs2, ps2, e2, pr2, by omega, c2.skip nT⟩
    refine ⟨_, rfl, c, CF, _, _, _, rfl, sFK _ _ fr.ob, U.cl, U.n3, rfl, _, rfl, _, rfl, szl _ (by simp), fun t7 h7 => ?_⟩
    have s7 := Same.new h7 (.tup [.int (i : Int), .int ((i : Int) + 1 + (m : Int))])
    refine ⟨fa.dp, _, rfl, dg (s7 _ _ (sK _ _ ep2)) upd_same rfl ecc dL1, _, rfl, rfl, _, rfl, ?_⟩
    have vinj : ∀ {a b : Nat}, V.int ((a : Nat) : Int) = V.int ((b : Nat) : Int) → a = b := fun {a b} e => by have := V.int.inj e; omega
    refine ite2 (fun cA => ?_) (fun cA => ?_)
    rotate_left
    · obtain ⟨g1, g2, g3⟩ := skip s7 fun z => cA (decide_eq_true (by show V.int _ = V.int _; rw [z.1]))
      exact iteF ⟨g1, g2, g3, _, _, _, _, _, _, rfl⟩
    have pA := vinj (of_decide_eq_true cA)
    refine ⟨_, rfl, c, CF, _, _, _, rfl, (sFK.trans s7) _ _ fr.ob, U.cl, U.n3, rfl, _, rfl, _, rfl, szl _ (by simp), fun t8 h8 => ?_⟩
    have s8 := Same.new h8 (.tup [.int ((i : Int) + 1 + (m : Int)), .int ((j' + 1 : Nat) : Int)])
    refine ⟨fa.dp, _, rfl, dg (s8 _ _ (s7 _ _ (sK _ _ ep2))) upd_same ecc rfl dR1, _, rfl, rfl, _, rfl, ?_⟩
    have s78 := s7.trans s8
    refine ite2 (fun cB => ?_) (fun cB => ?_)
    rotate_left
    · obtain ⟨g1, g2, g3⟩ := skip s78 fun z => cB (decide_eq_true (by show V.int _ = V.int _; rw [z.2]))
      exact ⟨g1, g2, g3, _, _, _, _, _, _, rfl⟩
    have pB := vinj (of_decide_eq_true cB)
    obtain ⟨vs2, ps2, e2, pr2, l2, c2⟩ := Q2
    refine ⟨_, rfl, c, CF, _, _, _, rfl, (sFK.trans s78) _ _ fr.ob, U.cl, U.n6, rfl, _, rfl, _, rfl, szl _ (by simp), fun t9 h9 => ?_⟩
    have s9 := Same.new h9 (.tup [.int ((i : Int) + 1 + (m : Int)), .int ((j' + 1 : Nat) : Int)])
    have s79 := s78.trans s9
    refine ⟨fa.dr, _, rfl, dg (s79 _ _ (sK _ _ er2)) upd_same ecc rfl dR3, tr, _, rfl, SqT.of ((sFK.trans s79) _ _ etr), rfl, _, _, rfl, _, _, rfl, rfl, ?_⟩
    refine ⟨_, rfl, .inl ⟨rfl, _, SqL.of (s79 _ _ e2)⟩, _, rfl, _, rfl, _, _, rfl, _, rfl, szl _ (by simp), fun y1 g1 => ⟨_, rfl, y1, lr', _, _, rfl, rfl, upd_same, (Same.new g1 _) _ _ ((sFK.trans s79) _ _ elr), szl _ (by rw [List.length_map]; simp; omega), fun y2 g2 => ⟨szl _ (by simp), fun y3 g3 => ?_⟩⟩⟩
    rw [max_int]
    have z1 := Same.new g1 (.lst [.int (i : Int)])
    have z2 := Same.new g2 (.lst ([.int (i : Int)] ++ ns.map V.int))
    have z3 := Same.new g3 (.tup [.int ((max (hgt (pd tb ws) i (i + 1 + m)) (rnn (pd tb ws) (i + 1 + m) (j' + 1)) : Nat) : Int), .ref y2])
    have z13 := s79.trans (z1.trans (z2.trans z3))
    have m2a : y2 ≠ a2 := fun z => by rw [z] at g2; rw [z1 _ _ (s79 _ _ e2)] at g2; cases g2
    have m3a : y3 ≠ a2 := fun z => by rw [z] at g3; rw [z2 _ _ (z1 _ _ (s79 _ _ e2))] at g3; cases g3
    obtain ⟨vs1, ps1, e1, pr1, l1, c1⟩ := Q1
    have m2b : y2 ≠ a1 := fun z => by rw [z] at g2; rw [z1 _ _ (s79 _ _ e1)] at g2; cases g2
    have m3b : y3 ≠ a1 := fun z => by rw [z] at g3; rw [z2 _ _ (z1 _ _ (s79 _ _ e1))] at g3; cases g3
    have y2e := z3 _ _ (upd_same (a := y2) (o := .lst ([.int (i : Int)] ++ ns.map V.int)))
    refine ⟨a2, vs2, _, rfl, rfl, z13 _ _ e2, small1000 (by omega), ?_⟩
    have sA : ∀ b o, b ≠ a1 → b ≠ a2 → K1 b = some o → (upd (upd (upd (upd (upd (upd (upd K1 t7 (.tup [.int (i : Int), .int ((i : Int) + 1 + (m : Int))])) t8 (.tup [.int ((i : Int) + 1 + (m : Int)), .int ((j' + 1 : Nat) : Int)])) t9 (.tup [.int ((i : Int) + 1 + (m : Int)), .int ((j' + 1 : Nat) : Int)])) y1 (.lst [.int (i : Int)])) y2 (.lst ([.int (i : Int)] ++ ns.map V.int))) y3 (.tup [.int ((max (hgt (pd tb ws) i (i + 1 + m)) (rnn (pd tb ws) (i + 1 + m) (j' + 1)) : Nat) : Int), .ref y2])) a2 (.lst (vs2 ++ [.ref y3]))) b = some o := fun b o n1 n2 e => by rw [upd_ne n2]; exact z13 _ _ e
    refine ⟨fun b o e => sA b o (ne_of_none e ha1) (ne_of_none e ha2') (sK _ _ e), PLs.to ⟨vs1, ps1, e1, pr1, l1, c1⟩ sA fun vs e => by rw [upd_ne n12]; exact z13 _ _ e, ?_, _, _, _, _, _, _, rfl⟩
    have y2n : upd (upd (upd (upd (upd (upd (upd K1 t7 (.tup [.int (i : Int), .int ((i : Int) + 1 + (m : Int))])) t8 (.tup [.int ((i : Int) + 1 + (m : Int)), .int ((j' + 1 : Nat) : Int)])) t9 (.tup [.int ((i : Int) + 1 + (m : Int)), .int ((j' + 1 : Nat) : Int)])) y1 (.lst [.int (i : Int)])) y2 (.lst ([.int (i : Int)] ++ ns.map V.int))) y3 (.tup [.int ((max (hgt (pd tb ws) i (i + 1 + m)) (rnn (pd tb ws) (i + 1 + m) (j' + 1)) : Nat) : Int), .ref y2])) a2 (.lst (vs2 ++ [.ref y3])) y2 = some (.lst (((i : Int) :: ns).map V.int)) := by rw [upd_ne m2a]; exact y2e
    exact ⟨_, _, upd_same, paired_append (pairs_same (mn2_up sA) pr2) (.cons (b := (((max (hgt (pd tb ws) i (i + 1 + m)) (rnn (pd tb ws) (i + 1 + m) (j' + 1)) : Nat) : Int), (i : Int) :: ns)) ⟨y3, y2, rfl, mn2_of m3b m3a (by rw [upd_ne m3a]; exact upd_same), mn2_of m2b m2a y2n⟩ .nil), by rw [List.length_append]; simp; omega, c2.app (by omega) ⟨pA, pB⟩ rfl (by show ns.length + 1 ≤ _; omega)⟩
  rintro _ J ⟨sJ, q1, q2, x6, x7, x8, x9, x10, x11, rfl⟩
  have eN : i + 1 + (((j' + 1 : Nat) : Int) - ((i : Int) + 1)).toNat = j' + 1 := by omega
  rw [eN] at q1 q2
  obtain ⟨vs1, ps1, e1, pr1, l1, c1⟩ := q1
  obtain ⟨vs2, ps2, e2, pr2, l2, c2⟩ := q2
  have sFJ := sF2.trans sJ
  -- the least
  refine ⟨_, rfl, _, rfl, a1, a2, vs1, vs2, rfl, rfl, e1, e2, szl _ (by omega), fun b1 hb1 => ?_⟩
  have u1 := Same.new hb1 (.lst (vs1 ++ vs2))
  have PJ : ∀ {v : V} {q : Int × List Int}, PairAt (mn a1 (mn a2 J)) v q → PairAt J v q := fun h => PairAt.same (mn_same.trans mn_same) h
  refine ⟨b1, vs1 ++ vs2, ps1 ++ ps2, rfl, SqL.of upd_same, pairs_same u1 (pairs_same (mn_same.trans mn_same) (paired_append pr1 pr2)), ?_, fun kx v qx hv hq least => ?_⟩
  · obtain ⟨z, hz, _⟩ := c1.2 (i + 1) (by omega) (by omega) trivial
    intro e
    have e0 := (List.append_eq_nil_iff.mp e).1
    have := pr1.length
    rw [e0] at this
    rw [List.eq_nil_of_length_eq_zero this.symm] at hz
    cases hz
  obtain ⟨q', hq', hat'⟩ := KX.paired_get (paired_append pr1 pr2) hv
  rw [hq] at hq'
  cases hq'
  obtain ⟨tq, mq, rfl, etq, emq⟩ := PJ hat'
  have ps1m : ∀ {z}, z ∈ ps1 → qx.1 ≤ z.1 := fun h => least _ (List.mem_append.mpr (.inl h))
  have ps2m : ∀ {z}, z ∈ ps2 → qx.1 ≤ z.1 := fun h => least _ (List.mem_append.mpr (.inr h))
  obtain ⟨low, elow, att⟩ : ∃ low : Nat, qx.1 = (low : Int) ∧ ((∃ c, i < c ∧ c < j' + 1 ∧ low = max (hgt (pd tb ws) i c) (hgt (pd tb ws) c (j' + 1))) ∨ ∃ c, i < c ∧ c < j' + 1 ∧ pd tb ws i c = pd tb ws i (j' + 1) ∧ pd tb ws c (j' + 1) = pd tb ws i (j' + 1) ∧ low = max (hgt (pd tb ws) i c) (rnn (pd tb ws) c (j' + 1))) := by
    rcases List.mem_append.mp (mem_at hq) with h | h
    · obtain ⟨_, c, g1, g2, _, e⟩ := c1.1 _ h
      exact ⟨v1 c, e, .inl ⟨c, g1, g2, rfl⟩⟩
    · obtain ⟨_, c, g1, g2, ⟨g3, g4⟩, e⟩ := c2.1 _ h
      exact ⟨v2 c, e, .inr ⟨c, g1, g2, g3, g4, rfl⟩⟩
  have hst : low + 1 = hgt (pd tb ws) i (j' + 1) := hgt_step (by omega) att (fun c g1 g2 => by
    obtain ⟨z, hz, ez⟩ := c1.2 c g1 g2 trivial
    have := ps1m hz
    have ez : z.1 = ((max (hgt (pd tb ws) i c) (hgt (pd tb ws) c (j' + 1)) : Nat) : Int) := ez
    omega) (fun c g1 g2 g3 g4 => by
    obtain ⟨z, hz, ez⟩ := c2.2 c g1 g2 ⟨g3, g4⟩
    have := ps2m hz
    have ez : z.1 = ((max (hgt (pd tb ws) i c) (rnn (pd tb ws) c (j' + 1)) : Nat) : Int) := ez
    omega)
  have e1h : qx.1 + 1 = ((hgt (pd tb ws) i (j' + 1) : Nat) : Int) := by omega
  refine ⟨tq, _, rfl, SqT.of (u1 _ _ etq), rfl, _, _, rfl, _, _, rfl, rfl, ?_⟩
  -- the height
  refine ⟨_, rfl, _, _, rfl, rfl, _, rfl, c, CF, _, _, _, rfl, (sFJ.trans u1) _ _ fr.ob, U.cl, U.n4, rfl, _, rfl, _, rfl, szl _ (by simp), fun t3 h3 => ?_⟩
  dsimp only
  rw [e1h]
  have u3 := Same.new h3 (.tup [.int (i : Int), .int ((j' + 1 : Nat) : Int)])
  have u13 := u1.trans u3
  refine ⟨fa.dh, _, rfl, dpt (a := i) (b := j' + 1) (u13 _ _ (sJ _ _ eh2)) upd_same rfl rfl (by omega), ?_⟩
  have eh3 := u13 _ _ (sJ _ _ eh2)
  have sF4 : Same F (upd (upd (upd J b1 (.lst (vs1 ++ vs2))) t3 (.tup [.int (i : Int), .int ((j' + 1 : Nat) : Int)])) fa.dh (.dT (putK kh (kT i (j' + 1)) (.int ((hgt (pd tb ws) i (j' + 1) : Nat) : Int))))) := fun b o e => by
    rw [upd_ne (ne_of_none e nF2)]; exact u13 _ _ (sFJ _ _ e)
  have ep4 : (upd (upd (upd J b1 (.lst (vs1 ++ vs2))) t3 (.tup [.int (i : Int), .int ((j' + 1 : Nat) : Int)])) fa.dh (.dT (putK kh (kT i (j' + 1)) (.int ((hgt (pd tb ws) i (j' + 1) : Nat) : Int))))) fa.dp = some (.dT kp2) := by rw [upd_ne ne1]; exact u13 _ _ (sJ _ _ ep2)
  have eh4 : (upd (upd (upd J b1 (.lst (vs1 ++ vs2))) t3 (.tup [.int (i : Int), .int ((j' + 1 : Nat) : Int)])) fa.dh (.dT (putK kh (kT i (j' + 1)) (.int ((hgt (pd tb ws) i (j' + 1) : Nat) : Int))))) fa.dh = some (.dT (putK kh (kT i (j' + 1)) (.int ((hgt (pd tb ws) i (j' + 1) : Nat) : Int)))) := upd_same
  have ec4 : (upd (upd (upd J b1 (.lst (vs1 ++ vs2))) t3 (.tup [.int (i : Int), .int ((j' + 1 : Nat) : Int)])) fa.dh (.dT (putK kh (kT i (j' + 1)) (.int ((hgt (pd tb ws) i (j' + 1) : Nat) : Int))))) fa.dc = some (.dT kc) := by rw [upd_ne ne4.symm]; exact u13 _ _ (sJ _ _ ec2)
  have er4 : (upd (upd (upd J b1 (.lst (vs1 ++ vs2))) t3 (.tup [.int (i : Int), .int ((j' + 1 : Nat) : Int)])) fa.dh (.dT (putK kh (kT i (j' + 1)) (.int ((hgt (pd tb ws) i (j' + 1) : Nat) : Int))))) fa.dr = some (.dT kr) := by rw [upd_ne ne5.symm]; exact u13 _ _ (sJ _ _ er2)
  have ea4 : (upd (upd (upd J b1 (.lst (vs1 ++ vs2))) t3 (.tup [.int (i : Int), .int ((j' + 1 : Nat) : Int)])) fa.dh (.dT (putK kh (kT i (j' + 1)) (.int ((hgt (pd tb ws) i (j' + 1) : Nat) : Int))))) a2 = some (.lst vs2) := by rw [upd_ne (ne_of_none eh2 ha2').symm]; exact u13 _ _ e2
  have pr4 : Paired (PairAt (upd (upd (upd J b1 (.lst (vs1 ++ vs2))) t3 (.tup [.int (i : Int), .int ((j' + 1 : Nat) : Int)])) fa.dh (.dT (putK kh (kT i (j' + 1)) (.int ((hgt (pd tb ws) i (j' + 1) : Nat) : Int)))))) vs2 ps2 := L2.Paired.mapP pr2 fun _ _ z => PairAt.dT eh3 (PairAt.same u13 (PJ z))
  generalize (upd (upd (upd J b1 (.lst (vs1 ++ vs2))) t3 (.tup [.int (i : Int), .int ((j' + 1 : Nat) : Int)])) fa.dh (.dT (putK kh (kT i (j' + 1)) (.int ((hgt (pd tb ws) i (j' + 1) : Nat) : Int))))) = J4 at sF4 ep4 eh4 ec4 er4 ea4 pr4 ⊢
  clear u13 u3 h3 eh3 u1 hb1
  -- the cuts
  refine ⟨_, rfl, _, rfl, c, CF, _, _, _, rfl, sF4 _ _ fr.ob, U.cl, U.n5, rfl, _, rfl, _, rfl, szl _ (by simp), fun t4 h4 => ?_⟩
  have w4 := Same.new h4 (.tup [.int (i : Int), .int ((j' + 1 : Nat) : Int)])
  have ec5 := w4 _ _ ec4
  refine ⟨fa.dc, _, rfl, dpt (a := i) (b := j' + 1) ec5 upd_same rfl rfl (by omega), ?_⟩
  have sF5 : Same F (upd (upd J4 t4 (.tup [.int (i : Int), .int ((j' + 1 : Nat) : Int)])) fa.dc (.dT (putK kc (kT i (j' + 1)) (.ref mq)))) := fun b o e => by
    rw [upd_ne (ne_of_none e nF3)]; exact w4 _ _ (sF4 _ _ e)
  have ep6 : (upd (upd J4 t4 (.tup [.int (i : Int), .int ((j' + 1 : Nat) : Int)])) fa.dc (.dT (putK kc (kT i (j' + 1)) (.ref mq)))) fa.dp = some (.dT kp2) := by rw [upd_ne ne2]; exact w4 _ _ ep4
  have eh6 : (upd (upd J4 t4 (.tup [.int (i : Int), .int ((j' + 1 : Nat) : Int)])) fa.dc (.dT (putK kc (kT i (j' + 1)) (.ref mq)))) fa.dh = some (.dT (putK kh (kT i (j' + 1)) (.int ((hgt (pd tb ws) i (j' + 1) : Nat) : Int)))) := by rw [upd_ne ne4]; exact w4 _ _ eh4
  have ec6 : (upd (upd J4 t4 (.tup [.int (i : Int), .int ((j' + 1 : Nat) : Int)])) fa.dc (.dT (putK kc (kT i (j' + 1)) (.ref mq)))) fa.dc = some (.dT (putK kc (kT i (j' + 1)) (.ref mq))) := upd_same
  have er6 : (upd (upd J4 t4 (.tup [.int (i : Int), .int ((j' + 1 : Nat) : Int)])) fa.dc (.dT (putK kc (kT i (j' + 1)) (.ref mq)))) fa.dr = some (.dT kr) := by rw [upd_ne ne6.symm]; exact w4 _ _ er4
  have ea6 : (upd (upd J4 t4 (.tup [.int (i : Int), .int ((j' + 1 : Nat) : Int)])) fa.dc (.dT (putK kc (kT i (j' + 1)) (.ref mq)))) a2 = some (.lst vs2) := by rw [upd_ne (ne_of_none ec2 ha2').symm]; exact w4 _ _ ea4
  have pr6 : Paired (PairAt (upd (upd J4 t4 (.tup [.int (i : Int), .int ((j' + 1 : Nat) : Int)])) fa.dc (.dT (putK kc (kT i (j' + 1)) (.ref mq))))) vs2 ps2 := L2.Paired.mapP pr4 fun _ _ z => PairAt.dT ec5 (PairAt.same w4 z)
  generalize (upd (upd J4 t4 (.tup [.int (i : Int), .int ((j' + 1 : Nat) : Int)])) fa.dc (.dT (putK kc (kT i (j' + 1)) (.ref mq)))) = J6 at sF5 ep6 eh6 ec6 er6 ea6 pr6 ⊢
  clear w4 h4 ec5 sF4 ep4 eh4 ec4 er4 ea4 pr4
  -- the runs
  refine ⟨_, rfl, _, rfl, _, _, rfl, rfl, _, rfl, _, rfl, szl _ (by simp), fun y1 g1 => ⟨szl _ (by simp), fun y2 g2 => ⟨szl _ (by simp), fun y3 g3 => ?_⟩⟩⟩
  dsimp only at g3 ⊢
  rw [e1h] at g3 ⊢
  have z1 := Same.new g1 (.lst [.int (i : Int), .int ((j' + 1 : Nat) : Int)])
  have z2 := Same.new g2 (.tup [.int ((hgt (pd tb ws) i (j' + 1) : Nat) : Int), .ref y1])
  have z3 := Same.new g3 (.lst [.ref y2])
  have z13 := z1.trans (z2.trans z3)
  refine ⟨a2, y3, vs2, [.ref y2], rfl, rfl, z13 _ _ ea6, upd_same, szl _ (by simp; omega), fun b2 hb2 => ?_⟩
  have z4 := Same.new hb2 (.lst (vs2 ++ [.ref y2]))
  have z14 := z13.trans z4
  refine ⟨b2, vs2 ++ [.ref y2], ps2 ++ [(((hgt (pd tb ws) i (j' + 1) : Nat) : Int), [(i : Int), ((j' + 1 : Nat) : Int)])], rfl, SqL.of upd_same, paired_append (pairs_same z14 pr6) (.cons ⟨y2, y1, rfl, z4 _ _ (z3 _ _ upd_same), z4 _ _ (z3 _ _ (z2 _ _ upd_same))⟩ .nil), by simp, fun ky vy qy hvy hqy least2 => ?_⟩
  obtain ⟨q', hq', hat''⟩ := KX.paired_get (paired_append (pairs_same z14 pr6) (.cons (b := (((hgt (pd tb ws) i (j' + 1) : Nat) : Int), [(i : Int), ((j' + 1 : Nat) : Int)])) (l₁ := []) (l₂ := []) ⟨y2, y1, rfl, z4 _ _ (z3 _ _ upd_same), z4 _ _ (z3 _ _ (z2 _ _ upd_same))⟩ .nil)) hvy
  rw [hqy] at hq'
  cases hq'
  have ps2m' : ∀ {z}, z ∈ ps2 → qy.1 ≤ z.1 := fun h => least2 _ (List.mem_append.mpr (.inl h))
  have lst2 : qy.1 ≤ ((hgt (pd tb ws) i (j' + 1) : Nat) : Int) := least2 _ (List.mem_append.mpr (.inr (List.mem_singleton.mpr rfl)))
  obtain ⟨rr, err, lqy, attr⟩ : ∃ rr : Nat, qy.1 = (rr : Int) ∧ qy.2.length ≤ 1 + (j' + 1 - i) ∧ (rr = hgt (pd tb ws) i (j' + 1) ∨ ∃ c, i < c ∧ c < j' + 1 ∧ pd tb ws i c = pd tb ws i (j' + 1) ∧ pd tb ws c (j' + 1) = pd tb ws i (j' + 1) ∧ rr = max (hgt (pd tb ws) i c) (rnn (pd tb ws) c (j' + 1))) := by
    rcases List.mem_append.mp (mem_at hqy) with h | h
    · obtain ⟨l, c, g1, g2, ⟨g3, g4⟩, e⟩ := c2.1 _ h
      exact ⟨v2 c, e, l, .inr ⟨c, g1, g2, g3, g4, rfl⟩⟩
    · rw [List.mem_singleton.mp h]
      exact ⟨_, rfl, (by show 2 ≤ _; omega), .inl rfl⟩
  have hrn : rr = rnn (pd tb ws) i (j' + 1) := rnn_step (by omega) attr (by omega) (fun c g1 g2 g3 g4 => by
    obtain ⟨z, hz, ez⟩ := c2.2 c g1 g2 ⟨g3, g4⟩
    have := ps2m' hz
    have ez : z.1 = ((max (hgt (pd tb ws) i c) (rnn (pd tb ws) c (j' + 1)) : Nat) : Int) := ez
    omega) run_lt
  have eqy : qy.1 = ((rnn (pd tb ws) i (j' + 1) : Nat) : Int) := by rw [err, hrn]
  refine ⟨_, rfl, c, CF, _, _, _, rfl, (sF5.trans z14) _ _ fr.ob, U.cl, U.n6, rfl, _, rfl, _, rfl, szl _ (by simp), fun t5 h5 => ?_⟩
  have z5 := Same.new h5 (.tup [.int (i : Int), .int ((j' + 1 : Nat) : Int)])
  have z15 := z14.trans z5
  have er7 := z15 _ _ er6
  refine ⟨fa.dr, _, rfl, dpt (a := i) (b := j' + 1) er7 upd_same rfl rfl (by omega), ?_⟩
  obtain ⟨ty, my, rfl, ety, emy⟩ := PairAt.dT (o := .dT (putK kr (kT i (j' + 1)) vy)) er7 (PairAt.same z5 hat'')
  have sFf : Same F (upd (upd (upd (upd (upd (upd J6 y1 (.lst [.int (i : Int), .int ((j' + 1 : Nat) : Int)])) y2 (.tup [.int ((hgt (pd tb ws) i (j' + 1) : Nat) : Int), .ref y1])) y3 (.lst [.ref y2])) b2 (.lst (vs2 ++ [.ref y2]))) t5 (.tup [.int (i : Int), .int ((j' + 1 : Nat) : Int)])) fa.dr (.dT (putK kr (kT i (j' + 1)) (.ref ty)))) := fun b o e => by
    rw [upd_ne (ne_of_none e nF4)]; exact z15 _ _ (sF5 _ _ e)
  have ep8 : (upd (upd (upd (upd (upd (upd J6 y1 (.lst [.int (i : Int), .int ((j' + 1 : Nat) : Int)])) y2 (.tup [.int ((hgt (pd tb ws) i (j' + 1) : Nat) : Int), .ref y1])) y3 (.lst [.ref y2])) b2 (.lst (vs2 ++ [.ref y2]))) t5 (.tup [.int (i : Int), .int ((j' + 1 : Nat) : Int)])) fa.dr (.dT (putK kr (kT i (j' + 1)) (.ref ty)))) fa.dp = some (.dT kp2) := by rw [upd_ne ne3]; exact z15 _ _ ep6
  have eh8 : (upd (upd (upd (upd (upd (upd J6 y1 (.lst [.int (i : Int), .int ((j' + 1 : Nat) : Int)])) y2 (.tup [.int ((hgt (pd tb ws) i (j' + 1) : Nat) : Int), .ref y1])) y3 (.lst [.ref y2])) b2 (.lst (vs2 ++ [.ref y2]))) t5 (.tup [.int (i : Int), .int ((j' + 1 : Nat) : Int)])) fa.dr (.dT (putK kr (kT i (j' + 1)) (.ref ty)))) fa.dh = some (.dT (putK kh (kT i (j' + 1)) (.int ((hgt (pd tb ws) i (j' + 1) : Nat) : Int)))) := by rw [upd_ne ne5]; exact z15 _ _ eh6
  have ec8 : (upd (upd (upd (upd (upd (upd J6 y1 (.lst [.int (i : Int), .int ((j' + 1 : Nat) : Int)])) y2 (.tup [.int ((hgt (pd tb ws) i (j' + 1) : Nat) : Int), .ref y1])) y3 (.lst [.ref y2])) b2 (.lst (vs2 ++ [.ref y2]))) t5 (.tup [.int (i : Int), .int ((j' + 1 : Nat) : Int)])) fa.dr (.dT (putK kr (kT i (j' + 1)) (.ref ty)))) fa.dc = some (.dT (putK kc (kT i (j' + 1)) (.ref mq))) := by rw [upd_ne ne6]; exact z15 _ _ ec6
  have er8 : (upd (upd (upd (upd (upd (upd J6 y1 (.lst [.int (i : Int), .int ((j' + 1 : Nat) : Int)])) y2 (.tup [.int ((hgt (pd tb ws) i (j' + 1) : Nat) : Int), .ref y1])) y3 (.lst [.ref y2])) b2 (.lst (vs2 ++ [.ref y2]))) t5 (.tup [.int (i : Int), .int ((j' + 1 : Nat) : Int)])) fa.dr (.dT (putK kr (kT i (j' + 1)) (.ref ty)))) fa.dr = some (.dT (putK kr (kT i (j' + 1)) (.ref ty))) := upd_same
  generalize (upd (upd (upd (upd (upd (upd J6 y1 (.lst [.int (i : Int), .int ((j' + 1 : Nat) : Int)])) y2 (.tup [.int ((hgt (pd tb ws) i (j' + 1) : Nat) : Int), .ref y1])) y3 (.lst [.ref y2])) b2 (.lst (vs2 ++ [.ref y2]))) t5 (.tup [.int (i : Int), .int ((j' + 1 : Nat) : Int)])) fa.dr (.dT (putK kr (kT i (j' + 1)) (.ref ty)))) = Jf at sFf ep8 eh8 ec8 er8 ety emy ⊢
  have sFm : Same F (mn4 fa Jf) := fun b o e => mn4_of (sFf _ _ e) (ne_of_none e nF1) (ne_of_none e nF2) (ne_of_none e nF3) (ne_of_none e nF4)
  have nd : ∀ {b : Addr} {o : HO}, Jf b = some o → (∀ k, o ≠ .dT k) → mn4 fa Jf b = some o := fun {b o} e no => mn4_of e (fun z => by rw [z, ep8] at e; exact no _ (Option.some.inj e).symm) (fun z => by rw [z, eh8] at e; exact no _ (Option.some.inj e).symm) (fun z => by rw [z, ec8] at e; exact no _ (Option.some.inj e).symm) (fun z => by rw [z, er8] at e; exact no _ (Option.some.inj e).symm)
  refine q Jf ⟨fr.same sFm, ⟨ne1, ne2, ne3, ne4, ne5, ne6⟩, kp2, _, _, _, ep8, eh8, ec8, er8, lp2, Nat.le_trans (putK_le _ _ _) (by omega), Nat.le_trans (putK_le _ _ _) (by omega), Nat.le_trans (putK_le _ _ _) (by omega), fun a b hab => ?_⟩ (back _ sFf)
  by_cases cc : a = i ∧ b = j' + 1
  · obtain ⟨rfl, rfl⟩ := cc
    refine ⟨vp2, by rw [valV_put, if_pos rfl]; rfl, ty, my, qy.2, by rw [valV_put, if_pos rfl], ?_, nd emy (fun k z => nomatch z), lqy⟩
    rw [eqy] at ety
    exact nd ety (fun k z => nomatch z)
  · obtain ⟨g1, g2, tt, ll, nn, g3, g4, g5, g6⟩ := done2 a b (hab.resolve_right cc)
    have nk : ¬ kT a b = kT i (j' + 1) := fun z => cc (kT_inj z)
    exact ⟨g1, by rw [valV_put, if_neg nk]; exact g2, tt, ll, nn, by rw [valV_put, if_neg nk]; exact g3, sFm _ _ g4, sFm _ _ g5, g6⟩
end
end L

set_option Elab.async false
set_option linter.all false
set_option maxRecDepth 100000
set_option maxHeartbeats 4000000
set_option pp.maxSteps 400
namespace L
open PySem L2 KX
abbrev nFrw : List Str := ["self", "count", "start", "stop"]
abbrev nFal : List Str := ["self", "count", "start", "element", "length"]
def scFrwO : Scope := { kind := .function, names := [(Str.ofString ".0", .local), (Str.ofString "start", .cell), (Str.ofString "range", .globalImplicit), (Str.ofString "count", .cell), (Str.ofString "self", .cell)], isGenerator := false, isCoroutine := false }
/-- the rows of heights -/
noncomputable def hrow (p : Nat → Nat → Nat) (i m : Nat) : List Int := (List.range m).map fun k => ((hgt p i (i + 1 + k) : Nat) : Int)
noncomputable def hts (p : Nat → Nat → Nat) (n m : Nat) : List (List Int) := (List.range m).map fun i => hrow p i (n - i)
/-- all parts -/
def All (n : Nat) (a b : Nat) : Prop := a < b ∧ b ≤ n
theorem FinS.sub {K : PySem.W.Frag} {CF : Addr} {H : Hp} {c : Addr} {s : FA} {tb : List (List Int)} {ws : List Nat} {A A' : Nat → Nat → Prop} {B B' : Nat} (h : FinS K CF H c s tb ws A B) (k : ∀ a b, A' a b → A a b) (l : B ≤ B') : FinS K CF H c s tb ws A' B' := by
  obtain ⟨fr, ne, kp, kh, kc, kr, e1, e2, e3, e4, l1, l2, l3, l4, d⟩ := h
  exact ⟨fr, ne, kp, kh, kc, kr, e1, e2, e3, e4, by omega, by omega, by omega, by omega, fun a b z => d a b (k a b z)⟩
theorem fin_put {K : PySem.W.Frag} {CF : Addr} {F J : Hp} {c : Addr} {s : FA} {tb : List (List Int)} {ws : List Nat} {A : Nat → Nat → Prop} {B i j : Nat} {kp kh kc kr : List (List Key × V)} {t l : Addr} {ns : List Int} (fr : FinF K CF F c s tb ws)
    (ne : s.dp ≠ s.dh ∧ s.dp ≠ s.dc ∧ s.dp ≠ s.dr ∧ s.dh ≠ s.dc ∧ s.dh ≠ s.dr ∧ s.dc ≠ s.dr) (nF : F s.dp = none ∧ F s.dh = none ∧ F s.dc = none ∧ F s.dr = none) (done : DsOk F tb ws A kp kh kr) (sF : Same F J)
    (l1 : kp.length ≤ B) (l2 : kh.length ≤ B) (l3 : kc.length ≤ B + 1) (l4 : kr.length ≤ B)
    (ep : J s.dp = some (.dT (putK kp (kT i j) (vN (pd tb ws i j))))) (eh : J s.dh = some (.dT (putK kh (kT i j) (vN (hgt (pd tb ws) i j))))) (ec : J s.dc = some (.dT kc)) (er : J s.dr = some (.dT (putK kr (kT i j) (.ref t))))
    (et : J t = some (.tup [vN (rnn (pd tb ws) i j), .ref l])) (el : J l = some (.lst (ns.map V.int))) (ln : ns.length ≤ 1 + (j - i)) : FinS K CF J c s tb ws (fun a b => A a b ∨ (a = i ∧ b = j)) (B + 1) := by
  obtain ⟨n1, n2, n3, n4⟩ := nF
  have sFm : Same F (mn4 s J) := fun b o e => mn4_of (sF _ _ e) (ne_of_none e n1) (ne_of_none e n2) (ne_of_none e n3) (ne_of_none e n4)
  have nd : ∀ {b : Addr} {o : HO}, J b = some o → (∀ k, o ≠ .dT k) → mn4 s J b = some o := fun {b o} e no => mn4_of e (fun z => by rw [z, ep] at e; exact no _ (Option.some.inj e).symm) (fun z => by rw [z, eh] at e; exact no _ (Option.some.inj e).symm) (fun z => by rw [z, ec] at e; exact no _ (Option.some.inj e).symm) (fun z => by rw [z, er] at e; exact no _ (Option.some.inj e).symm)
  refine ⟨fr.same sFm, ne, _, _, _, _, ep, eh, ec, er, Nat.le_trans (putK_le _ _ _) (by omega), Nat.le_trans (putK_le _ _ _) (by omega), l3, Nat.le_trans (putK_le _ _ _) (by omega), fun a b hab => ?_⟩
  by_cases cc : a = i ∧ b = j
  · obtain ⟨rfl, rfl⟩ := cc
    exact ⟨by rw [valV_put, if_pos rfl], by rw [valV_put, if_pos rfl], t, l, ns, by rw [valV_put, if_pos rfl], nd et (fun k z => nomatch z), nd el (fun k z => nomatch z), ln⟩
  · obtain ⟨g1, g2, tt, ll, nn, g3, g4, g5, g6⟩ := done a b (hab.resolve_right cc)
    have nk : ¬ kT a b = kT i j := fun z => cc (kT_inj z)
    exact ⟨by rw [valV_put, if_neg nk]; exact g1, by rw [valV_put, if_neg nk]; exact g2, tt, ll, nn, by rw [valV_put, if_neg nk]; exact g3, sFm _ _ g4, sFm _ _ g5, g6⟩
theorem ienum_f {K : PySem.W.Frag} {σ : L2.St} {F H : Hp} {R : It → Hp → Prop} {ta : TE} {v : V} {xs : List V} (h : Sq K F v xs) (sF : Same F H) (hta : ∀ Q : VK, Q v H → ta σ H Q)
    (key : ∀ J G, Walk J xs.length G (YPair (fun i => some (.int (i : Nat))) (fun i => xs[i]?)) → (∀ J', Same F J' → G J') → R J H) : IEn K (tCons ta tNil) σ H R := by
  obtain ⟨a, rfl, h | h⟩ := h
  · exact ⟨hta _ ⟨a, xs, rfl, .inl ⟨sF.seq h, key _ _ walk_enum fun J' s => s.seq h⟩⟩⟩
  · exact ⟨hta _ ⟨a, xs, rfl, .inr ⟨Same.tup sF h, key _ _ walk_enumT fun J' s => Same.tup s h⟩⟩⟩
def spFrw (K : PySem.W.Frag) (CF : Addr) : Sp := fun vs H Q _ => ∃ (c : Addr) (s : FA) (tb : List (List Int)) (ws : List Nat) (B : Nat), vs = [.ref c] ∧ FinS K CF H c s tb ws (All ws.length) B ∧ ws.length ≤ 100 ∧
  ∀ v H', RowsL (nw H H') v (hts (pd tb ws) ws.length ws.length) → Same H H' → Q v H'
def spFal (K : PySem.W.Frag) (CF : Addr) : Sp := fun vs H Q _ => ∃ (c : Addr) (s : FA) (tb : List (List Int)) (ws : List Nat), vs = [.ref c] ∧ FinS K CF H c s tb ws (fun _ _ => False) 0 ∧ Tb tb ∧ (∀ x, x ∈ ws → x < tb.length) ∧ ws.length ≤ 100 ∧
  ∀ H', FinS K CF H' c s tb ws (All ws.length) 100000 → X4 s H H' → Q .non H'
section
variable {P : Program} {w : World} {K : PySem.W.Frag} {mg : Str → Option Value} {base : Heap} {f f1 f2 : Addr} {fd d1 d2 : FuncData} {CF C : Addr}
theorem scFrw : FnScope nFrw ["self"] (defScope sFrw) := ⟨rfl, rfl, rfl, by decide +kernel, rfl, by decide +kernel, by decide +kernel⟩
theorem ok_frw (F : Fun K "rows" "HeightFinder.rows" sFrw f fd) (M : Mn mg) (U : HfX K CF) : FnOk P w K mg base CX0 1 f fd ["self"] (spFrw K CF) := by
  refine F.ok scFrw (fun vs H Q E h => ?_) (fun cdv A outer s H vs Q E hr h => ?_)
  · obtain ⟨c, s, tb, ws, B, rfl, _⟩ := h
    rfl
  obtain ⟨c, fa, tb, ws, B, rfl, hf, l100, q⟩ := h
  have hu := hr.units
  have hu1 : (A.deeper (PyProof.Rows.envOfC "HeightFinder.rows" (defScope sFrw) s.heap.objs.size f cdv)).units + 1 < cLine := by omega
  refine ⟨_, (pss_cons (ps_set (i := 1) scFrw.nd rfl (Or.inr rfl) (pe_callB call_len_seq (by rfl) M.len PySem.boot_len (pa_cons (pe_fld (pv 0) rfl) pa_nil))) (pss_one (ps_ret (pe_lc (own := [("start", 2)]) (g := gName 2) (tt := tYes) rfl scFrw.nd (pi_range1 (by rfl) M.range (pa_cons (pv 1) pa_nil)) (blkOk_by (N := nFrw) (sc := defScope sFrw) (by decide +kernel)) (fun _ _ _ _ _ => pg_name (i := 2) scFrw.nd rfl (Or.inr rfl)) (fun _ _ _ _ _ => pts_nil) (fun _ _ _ _ _ => (pe_lc (own := [("stop", 3)]) (g := gName 3) (tt := tYes) rfl scFrw.nd (pi_range2 (by rfl) M.range (pa_cons (pe_op op_add (pv 2) pe_int) (pa_cons (pe_op op_add (pv 1) pe_int) pa_nil))) (blkOk_by (N := nFrw) (sc := scFrwO) (by decide +kernel)) (fun _ _ _ _ _ => pg_name (i := 3) scFrw.nd rfl (Or.inl rfl)) (fun _ _ _ _ _ => pts_nil) (fun _ _ _ _ _ => (pe_dget (by exact hu1) (fldK (K := K) rfl (pv 0) rfl) (pe_tup (pa_cons (pv 2) (pa_cons (pv 3) pa_nil))) (fun _ _ => rfl))))))))), ?_⟩
  obtain ⟨fr, _, kp, kh, kc, kr, ep, eh, ec, er, lp, lh, lc, lr, done⟩ := hf
  have fr := fr.same (mn4_same (s := fa) (H := H))
  obtain ⟨sa, esv, hsq⟩ := id fr.sq
  refine ⟨_, rfl, c, CF, _, _, _, rfl, fr.ob, U.cl, U.n1, rfl, sa, _, by rw [esv], hsq, ?_⟩
  rw [nv_len]
  refine ⟨_, rfl, _, rfl, by omega, by omega, fun D hD => ?_⟩
  refine lc_range (lo := 0) (n := ((ws.length : Nat) : Int).toNat) (fun i J => Part H J D (hts (pd tb ws) ws.length i)) (Part.start (Same.refl H) hD) ?_ ?_
  · rintro i J hi pa
    have hi' : i < ws.length := by omega
    refine ⟨rfl, _, rfl, _, _, rfl, rfl, _, rfl, _, _, rfl, rfl, _, _, rfl, ⟨by omega, by omega, by omega, by omega⟩, fun D2 hD2 => ?_⟩
    refine lc_range (lo := (0 : Int) + (i : Int) + 1) (n := (((ws.length : Nat) : Int) + 1 - ((0 : Int) + (i : Int) + 1)).toNat) (fun k G => Same J G ∧ G D2 = some (.lst ((hrow (pd tb ws) i k).map V.int))) ⟨Same.new hD2 _, upd_same⟩ ?_ ?_
    · rintro k G hk ⟨sG, e2⟩
      have sHG := pa.same.trans sG
      obtain ⟨_, d2, _⟩ := done i (i + 1 + k) ⟨by omega, by omega⟩
      refine ⟨rfl, _, rfl, c, CF, _, _, _, rfl, sHG _ _ fr.ob, U.cl, U.n4, rfl, _, rfl, _, rfl, szl _ (by simp), fun t ht => ?_⟩
      have st := Same.new ht (.tup [.int ((0 : Int) + (i : Int)), .int ((0 : Int) + (i : Int) + 1 + (k : Int))])
      refine ⟨fa.dh, _, rfl, dg (a := i) (b := i + 1 + k) (st _ _ (sHG _ _ eh)) upd_same (by omega) (by omega) d2, _, st _ _ e2, ?_, fun b o eb => by rw [upd_ne (ne_of_none eb hD2)]; exact st _ _ (sG _ _ eb), ?_⟩
      · rw [List.length_map]; unfold hrow; rw [List.length_map, List.length_range]; exact small1000 (by omega)
      · rw [upd_same]; unfold hrow; rw [List.range_succ, List.map_append, List.map_append]; rfl
    · rintro G ⟨sG, e2⟩
      have en : (((ws.length : Nat) : Int) + 1 - ((0 : Int) + (i : Int) + 1)).toNat = ws.length - i := by omega
      rw [en] at e2
      obtain ⟨acc, ea, lacc, p1⟩ := pa.add sG hD2 e2
      refine ⟨acc, ea, ?_, ?_⟩
      · rw [lacc]; unfold hts; rw [List.length_map, List.length_range]; exact small1000 (by omega)
      · have e3 : hts (pd tb ws) ws.length (i + 1) = hts (pd tb ws) ws.length i ++ [hrow (pd tb ws) i (ws.length - i)] := by
          unfold hts; rw [List.range_succ, List.map_append]; rfl
        rw [e3]
        exact p1
  · rintro J pa
    rw [Int.toNat_natCast] at pa
    exact q _ _ pa.fin pa.same
theorem scFal : FnScope nFal ["self"] (defScope sFal) := ⟨rfl, rfl, rfl, by decide +kernel, rfl, by decide +kernel, by decide +kernel⟩
theorem ok_fal (F : Fun K "_find_all" "HeightFinder._find_all" sFal f fd) (M : Mn mg) (U : HfX K CF)
    (G1 : FnOk P w K mg base CX0 1 f1 d1 ["self", "start", "stop"] (spFnd K CF)) (b1 : Binds K d1 ["self", "start", "stop"] []) (h1 : Meth K CF "_find" f1) : FnOk P w K mg base CX0 2 f fd ["self"] (spFal K CF) := by
  refine F.ok scFal (fun vs H Q E h => ?_) (fun cdv A outer s H vs Q E hr h => ?_)
  · obtain ⟨c, s, tb, ws, rfl, _⟩ := h
    rfl
  obtain ⟨c, fa, tb, ws, rfl, hf, TT, hw, l100, q⟩ := h
  have hu := hr.units
  have hu1 := Nat.lt_of_le_of_lt (Nat.add_le_add_left (show 1 ≤ 64 by decide) _) hu
  refine ⟨_, (pss_cons (ps_set (i := 1) scFal.nd rfl (Or.inl rfl) (pe_callB call_len_seq (by rfl) M.len PySem.boot_len (pa_cons (pe_fld (pv 0) rfl) pa_nil))) (pss_cons (ps_for PassesOwn.never rfl (pi_enumS (by rfl) M.enum (pa_cons (pe_fld (pv 0) rfl) pa_nil)) (pg_tup rfl (pgs_cons (pg_name (i := 2) scFal.nd rfl (Or.inl rfl)) (pgs_cons (pg_name (i := 3) scFal.nd rfl (Or.inl rfl)) pgs_nil))) (pss_cons (ps_dput (by exact hu1) (pe_fld (pv 0) rfl) (pe_tup (pa_cons (pv 2) (pa_cons (pe_op op_add (pv 2) pe_int) pa_nil))) (pv 3) rfl) (pss_cons (ps_dput (by exact hu1) (pe_fld (pv 0) rfl) (pe_tup (pa_cons (pv 2) (pa_cons (pe_op op_add (pv 2) pe_int) pa_nil))) pe_int rfl) (pss_one (ps_dput (by exact hu1) (pe_fld (pv 0) rfl) (pe_tup (pa_cons (pv 2) (pa_cons (pe_op op_add (pv 2) pe_int) pa_nil))) (pe_tup (pa_cons pe_int (pa_cons (pe_lst (pa_cons (pv 2) (pa_cons (pe_op op_add (pv 2) pe_int) pa_nil))) pa_nil))) rfl))))) (pss_one (ps_for PassesOwn.never rfl (pi_range2 (by rfl) M.range (pa_cons pe_int (pa_cons (pe_op op_add (pv 1) pe_int) pa_nil))) (pg_name (i := 4) scFal.nd rfl (Or.inl rfl)) (pss_one (ps_for PassesOwn.never rfl (pi_range1 (by rfl) M.range (pa_cons (pe_op op_add (pe_op op_sub (pv 1) (pv 4)) pe_int) pa_nil)) (pg_name (i := 2) scFal.nd rfl (Or.inl rfl)) (pss_one (ps_expr (pe_meth (pv 0) U.cl h1 G1 hr b1 .nil pass0 (pa_cons (pv 2) (pa_cons (pe_op op_add (pv 2) (pv 4)) pa_nil))))))))))), ?_⟩
  have frH := hf.fr.same (mn4_same (s := fa) (H := H))
  obtain ⟨sa, esv, hsq⟩ := id frH.sq
  refine ⟨_, rfl, c, CF, _, _, _, rfl, frH.ob, U.cl, U.n1, rfl, sa, _, by rw [esv], hsq, ?_⟩
  rw [nv_len]
  refine ienum_f (F := mn4 fa H) (xs := nv ws) (v := fa.sv) hf.fr.sq mn4_same (fun Q q => ⟨_, rfl, c, CF, _, _, _, rfl, frH.ob, U.cl, U.n1, rfl, q⟩) fun J G wk gG => ?_
  rw [nv_len] at wk
  refine for_it wk (fun m σ J => FinS K CF J c fa tb ws (fun a b => b = a + 1 ∧ a < m) m ∧ X4 fa H J ∧ ∃ x2 x3 x4, σ = [some (.ref c), some (.int ((ws.length : Nat) : Int)), x2, x3, x4]) ⟨hf.sub (fun a b z => by omega) (Nat.le_refl _), mn4_same, _, _, _, rfl⟩ (fun m σ J _ z => gG J z.2.1) ?_ ?_
  · rintro m x σ J1 J2 hm ⟨hS, hX, x2, x3, x4, rfl⟩ ⟨T, y1, y2, rfl, hT, rfl, g1, g2⟩
    cases g1
    obtain ⟨a, ha, rfl⟩ := nv_at g2
    have hpa : pd tb ws m (m + 1) = a := by rw [pd_one, List.getD_eq_getElem?_getD, ha]; rfl
    obtain ⟨fr, ⟨ne1, ne2, ne3, ne4, ne5, ne6⟩, kp, kh, kc, kr, ep, eh, ec, er, lp, lh, lc, lr, done⟩ := hS
    have nF : (mn4 fa J1) fa.dp = none ∧ (mn4 fa J1) fa.dh = none ∧ (mn4 fa J1) fa.dc = none ∧ (mn4 fa J1) fa.dr = none := mn4_none
    have sF : Same (mn4 fa J1) J1 := mn4_same
    have hXF : ∀ {J : Hp}, Same (mn4 fa J1) J → X4 fa H J := fun h => X4.trans hX h
    generalize mn4 fa J1 = F at fr done nF sF hXF
    obtain ⟨n1, n2, n3, n4⟩ := id nF
    have sT := Same.new hT (.tup [.int ((m : Nat) : Int), .int (a : Int)])
    refine ⟨T, _, rfl, SqT.of upd_same, rfl, _, _, rfl, _, _, rfl, rfl, ?_⟩
    -- the product
    refine ⟨_, rfl, _, rfl, c, CF, _, _, _, rfl, (sF.trans sT) _ _ fr.ob, U.cl, U.n3, rfl, _, rfl, _, rfl, _, _, rfl, rfl, szl _ (by simp), fun t1 h1 => ?_⟩
    have s1 := sT.trans (Same.new h1 (.tup [.int (m : Int), .int ((m : Int) + 1)]))
    refine ⟨fa.dp, _, rfl, dpt (a := m) (b := m + 1) (s1 _ _ ep) upd_same rfl (by omega) (by omega), ?_⟩
    have sF2 : Same F (upd (upd (upd J1 T (.tup [.int ((m : Nat) : Int), .int (a : Int)])) t1 (.tup [.int (m : Int), .int ((m : Int) + 1)])) fa.dp (.dT (putK kp (kT m (m + 1)) (.int (a : Int))))) := fun b o e => by rw [upd_ne (ne_of_none e n1)]; exact s1 _ _ (sF _ _ e)
    have ep2 : (upd (upd (upd J1 T (.tup [.int ((m : Nat) : Int), .int (a : Int)])) t1 (.tup [.int (m : Int), .int ((m : Int) + 1)])) fa.dp (.dT (putK kp (kT m (m + 1)) (.int (a : Int))))) fa.dp = some (.dT (putK kp (kT m (m + 1)) (.int (a : Int)))) := upd_same
    have eh2 : (upd (upd (upd J1 T (.tup [.int ((m : Nat) : Int), .int (a : Int)])) t1 (.tup [.int (m : Int), .int ((m : Int) + 1)])) fa.dp (.dT (putK kp (kT m (m + 1)) (.int (a : Int))))) fa.dh = some (.dT kh) := by rw [upd_ne ne1.symm]; exact s1 _ _ eh
    have ec2 : (upd (upd (upd J1 T (.tup [.int ((m : Nat) : Int), .int (a : Int)])) t1 (.tup [.int (m : Int), .int ((m : Int) + 1)])) fa.dp (.dT (putK kp (kT m (m + 1)) (.int (a : Int))))) fa.dc = some (.dT kc) := by rw [upd_ne ne2.symm]; exact s1 _ _ ec
    have er2 : (upd (upd (upd J1 T (.tup [.int ((m : Nat) : Int), .int (a : Int)])) t1 (.tup [.int (m : Int), .int ((m : Int) + 1)])) fa.dp (.dT (putK kp (kT m (m + 1)) (.int (a : Int))))) fa.dr = some (.dT kr) := by rw [upd_ne ne3.symm]; exact s1 _ _ er
    generalize (upd (upd (upd J1 T (.tup [.int ((m : Nat) : Int), .int (a : Int)])) t1 (.tup [.int (m : Int), .int ((m : Int) + 1)])) fa.dp (.dT (putK kp (kT m (m + 1)) (.int (a : Int))))) = J3 at sF2 ep2 eh2 ec2 er2 ⊢
    -- the height
    refine ⟨_, rfl, c, CF, _, _, _, rfl, sF2 _ _ fr.ob, U.cl, U.n4, rfl, _, rfl, _, rfl, _, _, rfl, rfl, szl _ (by simp), fun t2 h2 => ?_⟩
    have s2 := Same.new h2 (.tup [.int (m : Int), .int ((m : Int) + 1)])
    refine ⟨fa.dh, _, rfl, dpt (a := m) (b := m + 1) (s2 _ _ eh2) upd_same rfl (by omega) (by omega), ?_⟩
    have sF4 : Same F (upd (upd J3 t2 (.tup [.int (m : Int), .int ((m : Int) + 1)])) fa.dh (.dT (putK kh (kT m (m + 1)) (.int 0)))) := fun b o e => by rw [upd_ne (ne_of_none e n2)]; exact s2 _ _ (sF2 _ _ e)
    have ep4 : (upd (upd J3 t2 (.tup [.int (m : Int), .int ((m : Int) + 1)])) fa.dh (.dT (putK kh (kT m (m + 1)) (.int 0)))) fa.dp = some (.dT (putK kp (kT m (m + 1)) (.int (a : Int)))) := by rw [upd_ne ne1]; exact s2 _ _ ep2
    have eh4 : (upd (upd J3 t2 (.tup [.int (m : Int), .int ((m : Int) + 1)])) fa.dh (.dT (putK kh (kT m (m + 1)) (.int 0)))) fa.dh = some (.dT (putK kh (kT m (m + 1)) (.int 0))) := upd_same
    have ec4 : (upd (upd J3 t2 (.tup [.int (m : Int), .int ((m : Int) + 1)])) fa.dh (.dT (putK kh (kT m (m + 1)) (.int 0)))) fa.dc = some (.dT kc) := by rw [upd_ne ne4.symm]; exact s2 _ _ ec2
    have er4 : (upd (upd J3 t2 (.tup [.int (m : Int), .int ((m : Int) + 1)])) fa.dh (.dT (putK kh (kT m (m + 1)) (.int 0)))) fa.dr = some (.dT kr) := by rw [upd_ne ne5.symm]; exact s2 _ _ er2
    generalize (upd (upd J3 t2 (.tup [.int (m : Int), .int ((m : Int) + 1)])) fa.dh (.dT (putK kh (kT m (m + 1)) (.int 0)))) = J4 at sF4 ep4 eh4 ec4 er4 ⊢
    -- the run
    refine ⟨_, rfl, _, rfl, _, _, rfl, rfl, szl _ (by simp), fun l hl => ⟨szl _ (by simp), fun t ht => ?_⟩⟩
    have w1 := Same.new hl (.lst [.int (m : Int), .int ((m : Int) + 1)])
    have w2 := Same.new ht (.tup [.int 0, .ref l])
    have w12 := w1.trans w2
    refine ⟨_, rfl, c, CF, _, _, _, rfl, (sF4.trans w12) _ _ fr.ob, U.cl, U.n6, rfl, _, rfl, _, rfl, _, _, rfl, rfl, szl _ (by simp), fun t3 h3 => ?_⟩
    have w3 := Same.new h3 (.tup [.int (m : Int), .int ((m : Int) + 1)])
    have w13 := w12.trans w3
    refine ⟨fa.dr, _, rfl, dpt (a := m) (b := m + 1) (w13 _ _ er4) upd_same rfl (by omega) (by omega), ?_⟩
    have elt := w3 _ _ (upd_same (H := upd J4 l (.lst [.int (m : Int), .int ((m : Int) + 1)])) (a := t) (o := .tup [.int 0, .ref l]))
    have ell := w3 _ _ (w2 _ _ (upd_same (H := J4) (a := l) (o := .lst [.int (m : Int), .int ((m : Int) + 1)])))
    have er5 := w13 _ _ er4
    have sFf : Same F (upd (upd (upd (upd J4 l (.lst [.int (m : Int), .int ((m : Int) + 1)])) t (.tup [.int 0, .ref l])) t3 (.tup [.int (m : Int), .int ((m : Int) + 1)])) fa.dr (.dT (putK kr (kT m (m + 1)) (.ref t)))) := fun b o e => by rw [upd_ne (ne_of_none e n4)]; exact w13 _ _ (sF4 _ _ e)
    refine ⟨(fin_put (i := m) (j := m + 1) (t := t) (l := l) (ns := [(m : Int), (m : Int) + 1]) fr ⟨ne1, ne2, ne3, ne4, ne5, ne6⟩ nF done sFf lp lh (Nat.le_trans lc (Nat.le_succ _)) lr ?_ ?_ ?_ upd_same ?_ ?_ (by show 2 ≤ _; omega)).sub (fun a b z => by omega) (Nat.le_refl _), hXF sFf, _, _, _, rfl⟩
    · rw [upd_ne ne3, hpa]; exact w13 _ _ ep4
    · rw [upd_ne ne5, hgt_one]; exact w13 _ _ eh4
    · rw [upd_ne ne6]; exact w13 _ _ ec4
    · rw [upd_ne (ne_of elt er5 fun z => nomatch z), rnn_one]; exact elt
    · rw [upd_ne (ne_of ell er5 fun z => nomatch z)]; exact ell
  rintro _ J ⟨hS, hX, x2, x3, x4, rfl⟩
  refine ⟨_, rfl, _, _, rfl, rfl, _, _, rfl, ⟨by decide, by decide, by omega, by omega⟩, ?_⟩
  refine for_range (lo := 2) (n := (((ws.length : Nat) : Int) + 1 - 2).toNat) (fun k σ J => FinS K CF J c fa tb ws (fun a b => a < b ∧ b ≤ ws.length ∧ b - a < 2 + k) (100 + k * 100) ∧ X4 fa H J ∧ ∃ x2 x3 x4, σ = [some (.ref c), some (.int ((ws.length : Nat) : Int)), x2, x3, x4])
    ⟨hS.sub (fun a b z => by omega) (by omega), hX, _, _, _, rfl⟩ ?_ ?_
  · rintro k _ J hk ⟨hS, hX, x2, x3, x4, rfl⟩
    refine ⟨_, rfl, _, rfl, _, _, rfl, rfl, _, _, rfl, rfl, _, rfl, by omega, by omega, ?_⟩
    refine for_range (lo := 0) (n := (((ws.length : Nat) : Int) - (2 + (k : Int)) + 1).toNat) (fun m σ J => FinS K CF J c fa tb ws (fun a b => a < b ∧ b ≤ ws.length ∧ (b - a < 2 + k ∨ (b - a = 2 + k ∧ a < m))) (100 + k * 100 + m) ∧ X4 fa H J ∧ ∃ x2 x3, σ = [some (.ref c), some (.int ((ws.length : Nat) : Int)), x2, x3, some (.int (2 + (k : Int)))])
      ⟨hS.sub (fun a b z => by omega) (Nat.le_refl _), hX, _, _, rfl⟩ ?_ ?_
    · rintro m _ J hm ⟨hS, hX, x2, x3, rfl⟩
      have e1 : (0 : Int) + (m : Int) = ((m : Nat) : Int) := by omega
      have e2 : (0 : Int) + (m : Int) + (2 + (k : Int)) = ((m + (2 + k) : Nat) : Int) := by omega
      refine ⟨_, rfl, c, fa.dx, _, rfl, (hS.fr.same mn4_same).ob, rfl, _, rfl, _, rfl, _, rfl, _, _, rfl, rfl, c, m, m + (2 + k), fa, tb, ws, _, _, (by show [V.ref c, V.int ((0 : Int) + (m : Int)), V.int ((0 : Int) + (m : Int) + (2 + (k : Int)))] = _; rw [e2, e1]), hS, TT, hw, by omega, by omega, l100, by omega, fun a b z1 z2 z3 z4 => by omega, fun J' hS' x' => ?_⟩
      exact ⟨hS'.sub (fun a b z => by omega) (by omega), X4.trans hX x', _, _, rfl⟩
    · rintro _ J ⟨hS, hX, x2, x3, rfl⟩
      exact ⟨hS.sub (fun a b z => by omega) (by omega), hX, _, _, _, rfl⟩
  · rintro _ J ⟨hS, hX, x2, x3, x4, rfl⟩
    exact q _ (hS.sub (fun a b z => by obtain ⟨z1, z2⟩ := z; omega) (by omega)) hX
end
end L

set_option Elab.async false
set_option linter.all false
set_option maxRecDepth 100000
set_option maxHeartbeats 4000000
set_option pp.maxSteps 400
namespace L
open PySem L2 KX
abbrev sChl : Stmt := top 28
abbrev sHt : Stmt := top 25
abbrev sMh : Stmt := top 26
theorem Sq.mnI {K : PySem.W.Frag} {H : Hp} {c C dx : Addr} {fs : List (Str × V)} {v : V} {xs : List V} (hc : H c = some (.ins C dx fs)) (h : Sq K H v xs) : Sq K (mn c H) v xs := by
  obtain ⟨a, rfl, h | h⟩ := h
  · refine ⟨a, rfl, .inl ?_⟩
    rcases h with (h | ⟨o, h⟩) | h
    · exact .inl (.inl (mn_sx _ _ (ne_of h hc fun z => nomatch z) h))
    · exact .inl (.inr ⟨o, mn_sx _ _ (ne_of h hc fun z => nomatch z) h⟩)
    · exact .inr h
  · refine ⟨a, rfl, .inr ?_⟩
    rcases h with (h | ⟨o, h⟩) | h
    · exact .inl (.inl (mn_sx _ _ (ne_of h hc fun z => nomatch z) h))
    · exact .inl (.inr ⟨o, mn_sx _ _ (ne_of h hc fun z => nomatch z) h⟩)
    · exact .inr h
theorem TbA.mnI {K : PySem.W.Frag} {C : Addr} {H : Hp} {p c CC dc : Addr} {fs : List (Str × V)} {tb : List (List Int)} (hc : H c = some (.ins CC dc fs)) (n : p ≠ c) (h : TbA K C H p tb) : TbA K C (mn c H) p tb := by
  have up : ∀ {r : Addr} {xs : List V}, SqT K H r xs → SqT K (mn c H) r xs := fun {r xs} h => by
    rcases h with (h | ⟨o, h⟩) | h
    · exact .inl (.inl (mn_sx _ _ (ne_of h hc fun z => nomatch z) h))
    · exact .inl (.inr ⟨o, mn_sx _ _ (ne_of h hc fun z => nomatch z) h⟩)
    · exact .inr h
  obtain ⟨dx, t, rs, hp, ht, pr⟩ := h.ob
  exact ⟨dx, t, rs, mn_sx _ _ n hp, up ht, L2.Paired.mapP pr fun _ _ ⟨r, e, hr⟩ => ⟨r, e, up hr⟩⟩
def spChkT0 (K : PySem.W.Frag) (C : Addr) : Sp := fun vs H Q _ => ∃ p tb, vs = [.ref p] ∧ TbA K C H p tb ∧ Q .non H
def spChkS0 (K : PySem.W.Frag) (C : Addr) : Sp := fun vs H Q _ => ∃ (p : Addr) (v : V) (tb : List (List Int)) (ws : List Nat), vs = [.ref p, v] ∧ TbA K C H p tb ∧ tb.length ≤ 16 ∧ Sq K H v (nv ws) ∧ (∀ x, x ∈ ws → x < tb.length) ∧ 1 ≤ ws.length ∧ ws.length ≤ 2000 ∧ ∀ H', Same H H' → Q .non H'
def spChl (K : PySem.W.Frag) : Sp := fun vs H Q _ => ∃ (v : V) (xs : List V), vs = [v] ∧ Sq K H v xs ∧ xs.length ≤ 40 ∧ Q .non H
def spFi (K : PySem.W.Frag) (C CF : Addr) : Sp := fun vs H Q _ => ∃ (c p dx : Addr) (sv : V) (tb : List (List Int)) (ws : List Nat), vs = [.ref c, .ref p, sv] ∧ H c = some (.ins CF dx []) ∧ p ≠ c ∧ TbA K C H p tb ∧ Tb tb ∧ Sq K H sv (nv ws) ∧ (∀ x, x ∈ ws → x < tb.length) ∧ ws.length ≤ 100 ∧
  ∀ s H', FinS K CF H' c s tb ws (All ws.length) 100000 → (∀ b o, b ≠ c → H b = some o → H' b = some o) → Q .non H'
def spHt (K : PySem.W.Frag) (C : Addr) : Sp := fun vs H Q _ => ∃ (p : Addr) (sv : V) (tb : List (List Int)) (ws : List Nat), vs = [.ref p, sv] ∧ TbA K C H p tb ∧ Tb tb ∧ Sq K H sv (nv ws) ∧ (∀ x, x ∈ ws → x < tb.length) ∧ 1 ≤ ws.length ∧ ws.length ≤ 40 ∧
  ∀ v H', RowsL (nw H H') v (hts (pd tb ws) ws.length ws.length) → Same H H' → Q v H'
def spMh (K : PySem.W.Frag) (C : Addr) : Sp := fun vs H Q _ => ∃ (p : Addr) (sv : V) (tb : List (List Int)) (ws : List Nat), vs = [.ref p, sv] ∧ TbA K C H p tb ∧ Tb tb ∧ Sq K H sv (nv ws) ∧ (∀ x, x ∈ ws → x < tb.length) ∧ 1 ≤ ws.length ∧ ws.length ≤ 40 ∧
  ∀ H', Same H H' → Q (.int ((hgt (pd tb ws) 0 ws.length : Nat) : Int)) H'
section
variable {P : Program} {w : World} {K : PySem.W.Frag} {mg : Str → Option Value} {base : Heap} {f f1 f2 f3 f4 fI g fl : Addr} {fd d1 d2 d3 d4 dI gd dl : FuncData} {CF C : Addr}
theorem ok_chkT0 (F : Fun K "check_table" "check_table" sChkTX f fd) (M : Mn mg) (T : CTx K mg C) (Y : CTi K C) : FnOk P w K mg base CX0 1 f fd ["table"] (spChkT0 K C) := by
  refine F.ok scChkTX (fun vs H Q E h => ?_) (fun cdv A outer s H vs Q E hr h => ?_)
  · obtain ⟨p, tb, rfl, _⟩ := h
    rfl
  obtain ⟨p, tb, rfl, ht, q⟩ := h
  refine ⟨_, pss_one (ps_if (pt_not (pt_val (pe_callB call_isi (by rfl) M.isin (by decide +kernel) (pa_cons (pv 0) (pa_cons (pe_glob (v := .ref C) (by rfl) T.mgC rfl) pa_nil))))) pss_dead pss_nil), ?_⟩
  exact ⟨_, rfl, _, .ref C, _, .ref C, true, rfl, .own C, ht.ty T Y, kit_self K C, _, rfl, iteF q⟩
theorem ok_chkS0 (F : Fun K "check_sequence" "check_sequence" sChkS f fd) (M : Mn mg)
    (mL : ∃ t, mg "LONGEST_SEQUENCE" = some (.int 2000 t))
    (G : FnOk P w K mg base CX0 3 g gd ["value", "least", "most", "limit"] (spNumList K)) (bG : Binds K gd ["value", "least", "most", "limit"] []) (kG : PySem.W.keepIn K (.ref g) = true) (mG : mg "is_number_list" = some (.ref g))
    (GL : FnOk P w K mg base CX0 1 fl dl ["self"] (spLenM K C)) (bL : Binds K dl ["self"] []) (hL : PySem.W.findIn K (.ref C) "__len__" = some (some (.ref fl))) (tL : PySem.W.typeIn K (.ref fl) = some (.type "function")) :
    FnOk P w K mg base CX0 4 f fd ["table", "sequence"] (spChkS0 K C) := by
  obtain ⟨tL', mL⟩ := mL
  refine F.ok scChkS (fun vs H Q E h => ?_) (fun cdv A outer s H vs Q E hr h => ?_)
  · obtain ⟨p, v, tb, ws, rfl, _⟩ := h
    rfl
  obtain ⟨p, v, tb, ws, rfl, ht, n16, hs, hw, l1, l2, q⟩ := h
  have hr2 : Room 2 _ := hr.mono (by decide)
  refine ⟨_, pss_one (ps_if (pt_not (pt_val (pe_call G hr (by rfl) mG kG bG .nil pass0 (pa_cons (pv 1) (pa_cons pe_int (pa_cons (pe_glob (v := .int 2000) (by rfl) mL ⟨_, rfl⟩) (pa_cons (pe_callB (call_lenOwn hL tL GL hr2 bL) (by rfl) M.len PySem.boot_len (pa_cons (pv 0) pa_nil)) pa_nil)))))))
    pss_dead pss_nil), ?_⟩
  obtain ⟨dx, t, rs, hp, _, _⟩ := ht.ob
  refine ⟨_, rfl, _, rfl, p, dx, _, rfl, hp, p, tb, rfl, ht, tb.length, rfl, by omega, v, 1, 2000, tb.length, rfl, .inl ⟨nv ws, hs, fun x hx => ?_, by rw [nv_len]; omega, fun H' s => ⟨_, rfl, ?_⟩⟩⟩
  · obtain ⟨y, _, rfl⟩ := List.mem_map.mp hx
    exact .inl ⟨_, rfl⟩
  · rw [nv_len]
    have e : (decide ((1 : Int) ≤ (ws.length : Int)) && decide ((ws.length : Int) ≤ 2000) && (nv ws).all (nb (tb.length : Int))) = true := by
      rw [decide_eq_true (by omega), decide_eq_true (by omega)]
      refine List.all_eq_true.mpr fun x hx => ?_
      obtain ⟨y, hy, rfl⟩ := List.mem_map.mp hx
      have := hw y hy
      show (decide ((0 : Int) ≤ (y : Int)) && decide ((y : Int) < (tb.length : Int))) = true
      rw [decide_eq_true (by omega), decide_eq_true (by omega)]; rfl
    rw [e]
    exact iteF (q H' s)
theorem scChl : FnScope ["sequence"] ["sequence"] (defScope sChl) := ⟨rfl, rfl, rfl, by decide +kernel, rfl, by decide +kernel, by decide +kernel⟩
theorem ok_chl (F : Fun K "_check_length" "_check_length" sChl f fd) (M : Mn mg) (mL : ∃ t, mg "_LONGEST" = some (.int 40 t)) : FnOk P w K mg base CX0 1 f fd ["sequence"] (spChl K) := by
  obtain ⟨tL', mL⟩ := mL
  refine F.ok scChl (fun vs H Q E h => ?_) (fun cdv A outer s H vs Q E hr h => ?_)
  · obtain ⟨v, xs, rfl, _⟩ := h
    rfl
  obtain ⟨v, xs, rfl, ⟨a, rfl, hs⟩, l40, q⟩ := h
  refine ⟨_, (pss_one (ps_if (pt_cmpR op_gt (pe_callB call_len_seq (by rfl) M.len PySem.boot_len (pa_cons (pv 0) pa_nil)) (pe_glob (v := .int 40) (by rfl) mL ⟨_, rfl⟩) (nomark _)) pss_dead pss_nil)), ?_⟩
  exact ⟨_, rfl, a, xs, rfl, hs, _, _, rfl, rfl, _, rfl, iteFf (decide_eq_false (by omega)) q⟩
theorem scFi : FnScope ["self", "table", "sequence"] ["self", "table", "sequence"] (defScope sFi) := ⟨rfl, rfl, rfl, by decide +kernel, rfl, by decide +kernel, by decide +kernel⟩
theorem ok_fi (F : Fun K "__init__" "HeightFinder.__init__" sFi f fd) (T : CTx K mg C) (U : HfX K CF)
    (G1 : FnOk P w K mg base CX0 2 f1 d1 ["self"] (spFal K CF)) (b1 : Binds K d1 ["self"] []) (h1 : Meth K CF "_find_all" f1)
    (G2 : FnOk P w K mg base CX0 1 f2 d2 ["self"] (spRowsM K C)) (b2 : Binds K d2 ["self"] []) (h2 : Meth K C "rows" f2) : FnOk P w K mg base CX0 3 f fd ["self", "table", "sequence"] (spFi K C CF) := by
  refine F.ok scFi (fun vs H Q E h => ?_) (fun cdv A outer s H vs Q E hr h => ?_)
  · obtain ⟨c, p, dx, sv, tb, ws, rfl, _⟩ := h
    rfl
  obtain ⟨c, p, dx, sv, tb, ws, rfl, hc, npc, ht, TT, hs, hw, l100, q⟩ := h
  have hr1 : Room 1 _ := hr.mono (by decide)
  refine ⟨_, (pss_cons (ps_fld (pv 0) (pv 2) rfl) (pss_cons (ps_fld (pv 0) (pe_meth0 (pv 1) T.cl h2 G2 hr1 b2 .nil pass0) rfl) (pss_cons (ps_fld (pv 0) pe_dnewT rfl) (pss_cons (ps_fld (pv 0) pe_dnewT rfl) (pss_cons (ps_fld (pv 0) pe_dnewT rfl) (pss_cons (ps_fld (pv 0) pe_dnewT rfl) (pss_one (ps_expr (pe_meth0 (pv 0) U.cl h1 G1 hr b1 .nil pass0))))))))), ?_⟩
  have S := TT.sq
  let FF : Hp := mn c H
  have nF : FF c = none := mn_p
  have sF : Same FF H := mn_same
  have htF : TbA K C FF p tb := ht.mnI hc npc
  have hsF : Sq K FF sv (nv ws) := hs.mnI hc
  have toF : ∀ b o, b ≠ c → H b = some o → FF b = some o := fun b o n e => mn_sx _ _ n e
  generalize FF = F at nF sF htF hsF toF
  have nx : ∀ {J : Hp} {o : HO}, Same F J → Same F (upd J c o) := fun h b o e => by rw [upd_ne (ne_of_none e nF)]; exact h _ _ e
  refine ⟨_, rfl, _, rfl, c, CF, dx, _, rfl, hc, U.cl, U.n1, (by show 0 < 1000; decide), ?_⟩
  have s1 := nx (o := .ins CF dx (putF (Str.ofString "_sequence") sv [])) sF
  have c1 : (upd H c (.ins CF dx (putF (Str.ofString "_sequence") sv []))) c = some (.ins CF dx [("_sequence", sv)]) := upd_same
  generalize upd H c (.ins CF dx (putF (Str.ofString "_sequence") sv [])) = H1 at s1 c1 ⊢
  have toG : ∀ b o, F b = some o → b ≠ c := fun b o e => ne_of_none e nF
  obtain ⟨dt, tt, rst, hpF, _, _⟩ := htF.ob
  refine ⟨_, rfl, p, dt, _, rfl, s1 _ _ hpF, rfl, p, tb, rfl, htF.to s1, S.ge, fun v1 J2 R1 s2 => ?_⟩
  have c2 := s2 _ _ c1
  refine ⟨_, rfl, c, CF, dx, _, rfl, c2, U.cl, U.n2, (by show 1 < 1000; decide), ?_⟩
  let FF2 : Hp := mn c J2
  have nF2 : FF2 c = none := mn_p
  have sF2 : Same FF2 J2 := mn_same
  have sFF2 : Same F FF2 := fun b o e => mn_sx _ _ (toG b o e) (s2 _ _ (s1 _ _ e))
  have R2 : RowsL FF2 v1 tb := R1.same fun b o e => by
    obtain ⟨z1, z2⟩ := nw_some e
    exact mn_sx _ _ (fun z => by rw [z, c1] at z1; cases z1) z2
  have hs2 : Sq K FF2 sv (nv ws) := hsF.same sFF2
  generalize FF2 = F2 at nF2 sF2 sFF2 R2 hs2
  have nx2 : ∀ {J : Hp} {o : HO}, Same F2 J → Same F2 (upd J c o) := fun h b o e => by rw [upd_ne (ne_of_none e nF2)]; exact h _ _ e
  have s3 := nx2 (o := .ins CF dx (putF (Str.ofString "_rows") v1 [("_sequence", sv)])) sF2
  have c3 : (upd J2 c (.ins CF dx (putF (Str.ofString "_rows") v1 [("_sequence", sv)]))) c = some (.ins CF dx [("_sequence", sv), ("_rows", v1)]) := upd_same
  generalize upd J2 c (.ins CF dx (putF (Str.ofString "_rows") v1 [("_sequence", sv)])) = J3 at s3 c3 ⊢
  refine fun a1 g1 => ⟨_, rfl, c, CF, dx, _, rfl, (Same.new g1 (.dT [])) _ _ c3, U.cl, U.n3, (by show 2 < 1000; decide), ?_⟩
  have sK1 : Same F2 (upd (upd J3 a1 (.dT [])) c (.ins CF dx (putF (Str.ofString "_products") (.ref a1) [("_sequence", sv), ("_rows", v1)]))) := nx2 (s3.trans (Same.new g1 _))
  have cK1 : (upd (upd J3 a1 (.dT [])) c (.ins CF dx (putF (Str.ofString "_products") (.ref a1) [("_sequence", sv), ("_rows", v1)]))) c = some (.ins CF dx [("_sequence", sv), ("_rows", v1), ("_products", .ref a1)]) := upd_same
  have nc1 : c ≠ a1 := ne_of_none c3 g1
  have nf1 : F2 a1 = none := s3.free g1
  have e1_K1 : (upd (upd J3 a1 (.dT [])) c (.ins CF dx (putF (Str.ofString "_products") (.ref a1) [("_sequence", sv), ("_rows", v1)]))) a1 = some (.dT []) := by rw [upd_ne nc1.symm]; exact upd_same
  generalize upd (upd J3 a1 (.dT [])) c (.ins CF dx (putF (Str.ofString "_products") (.ref a1) [("_sequence", sv), ("_rows", v1)])) = K1 at sK1 cK1 e1_K1 ⊢
  refine fun a2 g2 => ⟨_, rfl, c, CF, dx, _, rfl, (Same.new g2 (.dT [])) _ _ cK1, U.cl, U.n4, (by show 3 < 1000; decide), ?_⟩
  have sK2 : Same F2 (upd (upd K1 a2 (.dT [])) c (.ins CF dx (putF (Str.ofString "_heights") (.ref a2) [("_sequence", sv), ("_rows", v1), ("_products", .ref a1)]))) := nx2 (sK1.trans (Same.new g2 _))
  have cK2 : (upd (upd K1 a2 (.dT [])) c (.ins CF dx (putF (Str.ofString "_heights") (.ref a2) [("_sequence", sv), ("_rows", v1), ("_products", .ref a1)]))) c = some (.ins CF dx [("_sequence", sv), ("_rows", v1), ("_products", .ref a1), ("_heights", .ref a2)]) := upd_same
  have nc2 : c ≠ a2 := ne_of_none cK1 g2
  have nf2 : F2 a2 = none := sK1.free g2
  have e2_K2 : (upd (upd K1 a2 (.dT [])) c (.ins CF dx (putF (Str.ofString "_heights") (.ref a2) [("_sequence", sv), ("_rows", v1), ("_products", .ref a1)]))) a2 = some (.dT []) := by rw [upd_ne nc2.symm]; exact upd_same
  have nn12 : a1 ≠ a2 := ne_of_none e1_K1 g2
  have e1_K2 : (upd (upd K1 a2 (.dT [])) c (.ins CF dx (putF (Str.ofString "_heights") (.ref a2) [("_sequence", sv), ("_rows", v1), ("_products", .ref a1)]))) a1 = some (.dT []) := by rw [upd_ne nc1.symm]; exact (Same.new g2 _) _ _ e1_K1
  generalize upd (upd K1 a2 (.dT [])) c (.ins CF dx (putF (Str.ofString "_heights") (.ref a2) [("_sequence", sv), ("_rows", v1), ("_products", .ref a1)])) = K2 at sK2 cK2 e1_K2 e2_K2 ⊢
  refine fun a3 g3 => ⟨_, rfl, c, CF, dx, _, rfl, (Same.new g3 (.dT [])) _ _ cK2, U.cl, U.n5, (by show 4 < 1000; decide), ?_⟩
  have sK3 : Same F2 (upd (upd K2 a3 (.dT [])) c (.ins CF dx (putF (Str.ofString "_cuts") (.ref a3) [("_sequence", sv), ("_rows", v1), ("_products", .ref a1), ("_heights", .ref a2)]))) := nx2 (sK2.trans (Same.new g3 _))
  have cK3 : (upd (upd K2 a3 (.dT [])) c (.ins CF dx (putF (Str.ofString "_cuts") (.ref a3) [("_sequence", sv), ("_rows", v1), ("_products", .ref a1), ("_heights", .ref a2)]))) c = some (.ins CF dx [("_sequence", sv), ("_rows", v1), ("_products", .ref a1), ("_heights", .ref a2), ("_cuts", .ref a3)]) := upd_same
  have nc3 : c ≠ a3 := ne_of_none cK2 g3
  have nf3 : F2 a3 = none := sK2.free g3
  have e3_K3 : (upd (upd K2 a3 (.dT [])) c (.ins CF dx (putF (Str.ofString "_cuts") (.ref a3) [("_sequence", sv), ("_rows", v1), ("_products", .ref a1), ("_heights", .ref a2)]))) a3 = some (.dT []) := by rw [upd_ne nc3.symm]; exact upd_same
  have nn13 : a1 ≠ a3 := ne_of_none e1_K2 g3
  have e1_K3 : (upd (upd K2 a3 (.dT [])) c (.ins CF dx (putF (Str.ofString "_cuts") (.ref a3) [("_sequence", sv), ("_rows", v1), ("_products", .ref a1), ("_heights", .ref a2)]))) a1 = some (.dT []) := by rw [upd_ne nc1.symm]; exact (Same.new g3 _) _ _ e1_K2
  have nn23 : a2 ≠ a3 := ne_of_none e2_K2 g3
  have e2_K3 : (upd (upd K2 a3 (.dT [])) c (.ins CF dx (putF (Str.ofString "_cuts") (.ref a3) [("_sequence", sv), ("_rows", v1), ("_products", .ref a1), ("_heights", .ref a2)]))) a2 = some (.dT []) := by rw [upd_ne nc2.symm]; exact (Same.new g3 _) _ _ e2_K2
  generalize upd (upd K2 a3 (.dT [])) c (.ins CF dx (putF (Str.ofString "_cuts") (.ref a3) [("_sequence", sv), ("_rows", v1), ("_products", .ref a1), ("_heights", .ref a2)])) = K3 at sK3 cK3 e1_K3 e2_K3 e3_K3 ⊢
  refine fun a4 g4 => ⟨_, rfl, c, CF, dx, _, rfl, (Same.new g4 (.dT [])) _ _ cK3, U.cl, U.n6, (by show 5 < 1000; decide), ?_⟩
  have sK4 : Same F2 (upd (upd K3 a4 (.dT [])) c (.ins CF dx (putF (Str.ofString "_runs") (.ref a4) [("_sequence", sv), ("_rows", v1), ("_products", .ref a1), ("_heights", .ref a2), ("_cuts", .ref a3)]))) := nx2 (sK3.trans (Same.new g4 _))
  have cK4 : (upd (upd K3 a4 (.dT [])) c (.ins CF dx (putF (Str.ofString "_runs") (.ref a4) [("_sequence", sv), ("_rows", v1), ("_products", .ref a1), ("_heights", .ref a2), ("_cuts", .ref a3)]))) c = some (.ins CF dx [("_sequence", sv), ("_rows", v1), ("_products", .ref a1), ("_heights", .ref a2), ("_cuts", .ref a3), ("_runs", .ref a4)]) := upd_same
  have nc4 : c ≠ a4 := ne_of_none cK3 g4
  have nf4 : F2 a4 = none := sK3.free g4
  have e4_K4 : (upd (upd K3 a4 (.dT [])) c (.ins CF dx (putF (Str.ofString "_runs") (.ref a4) [("_sequence", sv), ("_rows", v1), ("_products", .ref a1), ("_heights", .ref a2), ("_cuts", .ref a3)]))) a4 = some (.dT []) := by rw [upd_ne nc4.symm]; exact upd_same
  have nn14 : a1 ≠ a4 := ne_of_none e1_K3 g4
  have e1_K4 : (upd (upd K3 a4 (.dT [])) c (.ins CF dx (putF (Str.ofString "_runs") (.ref a4) [("_sequence", sv), ("_rows", v1), ("_products", .ref a1), ("_heights", .ref a2), ("_cuts", .ref a3)]))) a1 = some (.dT []) := by rw [upd_ne nc1.symm]; exact (Same.new g4 _) _ _ e1_K3
  have nn24 : a2 ≠ a4 := ne_of_none e2_K3 g4
  have e2_K4 : (upd (upd K3 a4 (.dT [])) c (.ins CF dx (putF (Str.ofString "_runs") (.ref a4) [("_sequence", sv), ("_rows", v1), ("_products", .ref a1), ("_heights", .ref a2), ("_cuts", .ref a3)]))) a2 = some (.dT []) := by rw [upd_ne nc2.symm]; exact (Same.new g4 _) _ _ e2_K3
  have nn34 : a3 ≠ a4 := ne_of_none e3_K3 g4
  have e3_K4 : (upd (upd K3 a4 (.dT [])) c (.ins CF dx (putF (Str.ofString "_runs") (.ref a4) [("_sequence", sv), ("_rows", v1), ("_products", .ref a1), ("_heights", .ref a2), ("_cuts", .ref a3)]))) a3 = some (.dT []) := by rw [upd_ne nc3.symm]; exact (Same.new g4 _) _ _ e3_K3
  generalize upd (upd K3 a4 (.dT [])) c (.ins CF dx (putF (Str.ofString "_runs") (.ref a4) [("_sequence", sv), ("_rows", v1), ("_products", .ref a1), ("_heights", .ref a2), ("_cuts", .ref a3)])) = K4 at sK4 cK4 e1_K4 e2_K4 e3_K4 e4_K4 ⊢
  let fa : FA := ⟨dx, a1, a2, a3, a4, sv, v1⟩
  have sK : Same F2 (mn4 fa K4) := fun b o e => mn4_of (sK4 _ _ e) (ne_of_none e nf1) (ne_of_none e nf2) (ne_of_none e nf3) (ne_of_none e nf4)
  have hS : FinS K CF K4 c fa tb ws (fun _ _ => False) 0 := ⟨⟨mn4_of cK4 nc1 nc2 nc3 nc4, hs2.same sK, R2.same sK⟩, ⟨nn12, nn13, nn14, nn23, nn24, nn34⟩, [], [], [], [], e1_K4, e2_K4, e3_K4, e4_K4, Nat.le_refl _, Nat.le_refl _, Nat.le_refl _, Nat.le_refl _, fun _ _ z => z.elim⟩
  exact ⟨_, rfl, c, dx, _, rfl, cK4, rfl, c, fa, tb, ws, rfl, hS, TT, hw, l100, fun H' hS' x' => q fa H' hS' fun b o n e => x' _ _ (sK _ _ (sFF2 _ _ (toF b o n e)))⟩
theorem scHt : FnScope ["table", "sequence"] ["table", "sequence"] (defScope sHt) := ⟨rfl, rfl, rfl, by decide +kernel, rfl, by decide +kernel, by decide +kernel⟩
theorem ok_ht (F : Fun K "height_table" "height_table" sHt f fd) (U : HfX K CF) (mF : mg "HeightFinder" = some (.ref CF))
    (G1 : FnOk P w K mg base CX0 1 f1 d1 ["table"] (spChkT0 K C)) (b1 : Binds K d1 ["table"] []) (k1 : PySem.W.keepIn K (.ref f1) = true) (m1 : mg "check_table" = some (.ref f1))
    (G2 : FnOk P w K mg base CX0 4 f2 d2 ["table", "sequence"] (spChkS0 K C)) (b2 : Binds K d2 ["table", "sequence"] []) (k2 : PySem.W.keepIn K (.ref f2) = true) (m2 : mg "check_sequence" = some (.ref f2))
    (G3 : FnOk P w K mg base CX0 1 f3 d3 ["sequence"] (spChl K)) (b3 : Binds K d3 ["sequence"] []) (k3 : PySem.W.keepIn K (.ref f3) = true) (m3 : mg "_check_length" = some (.ref f3))
    (G4 : FnOk P w K mg base CX0 1 f4 d4 ["self"] (spFrw K CF)) (b4 : Binds K d4 ["self"] []) (h4 : Meth K CF "rows" f4)
    (MI : Mk K CF fI) (GI : FnOk P w K mg base CX0 3 fI dI ["self", "table", "sequence"] (spFi K C CF)) (bI : Binds K dI ["self", "table", "sequence"] []) : FnOk P w K mg base CX0 5 f fd ["table", "sequence"] (spHt K C) := by
  refine F.ok scHt (fun vs H Q E h => ?_) (fun cdv A outer s H vs Q E hr h => ?_)
  · obtain ⟨p, sv, tb, ws, rfl, _⟩ := h
    rfl
  obtain ⟨p, sv, tb, ws, rfl, ht, TT, hs, hw, l1, l40, q⟩ := h
  have hr1 : Room 1 _ := hr.mono (by decide)
  refine ⟨_, (pss_cons (ps_expr (pe_call G1 hr1 (by rfl) m1 k1 b1 .nil pass0 (pa_cons (pv 0) pa_nil))) (pss_cons (ps_expr (pe_call G2 hr (by rfl) m2 k2 b2 .nil pass0 (pa_cons (pv 0) (pa_cons (pv 1) pa_nil)))) (pss_cons (ps_expr (pe_call G3 hr1 (by rfl) m3 k3 b3 .nil pass0 (pa_cons (pv 1) pa_nil))) (pss_one (ps_ret (pe_meth0 (pe_make MI GI hr (by rfl) mF bI .nil pass0 (pa_cons (pv 0) (pa_cons (pv 1) pa_nil))) U.cl h4 G4 hr1 b4 .nil pass0)))))), ?_⟩
  have S := TT.sq
  refine ⟨_, rfl, p, tb, rfl, ht, _, rfl, _, rfl, p, sv, tb, ws, rfl, ht, S.ge, hs, hw, l1, by omega, fun H1 s1 => ⟨_, rfl, sv, nv ws, rfl, hs.same s1, by rw [nv_len]; omega, _, rfl, _, rfl, fun c e hc he ne => ?_⟩⟩
  have sc : Same H1 (upd (upd H1 e (.own c)) c (.ins CF e [])) := fun b o x => by rw [upd_ne (ne_of_none x hc), upd_ne (ne_of_none x he)]; exact x
  obtain ⟨dt, tt, rst, hpF, _, _⟩ := (ht.to s1).ob
  refine ⟨c, p, e, sv, tb, ws, rfl, upd_same, ne_of_none hpF hc, (ht.to s1).to sc, TT, (hs.same s1).same sc, hw, by omega, fun fa J hS kx => ⟨rfl, ?_⟩⟩
  have sHJ : Same H J := fun b o x => kx b o (ne_of_none (s1 _ _ x) hc) (sc _ _ (s1 _ _ x))
  exact ⟨c, fa.dx, _, rfl, (hS.fr.same mn4_same).ob, rfl, c, fa, tb, ws, 100000, rfl, hS, by omega, fun v H' R s => q v H' (R.same fun b o x => by
    obtain ⟨z1, z2⟩ := nw_some x
    rw [nw_at]
    · exact z2
    · cases hb : H b with
      | none => rfl
      | some o' => rw [sHJ _ _ hb] at z1; cases z1) (sHJ.trans s)⟩
theorem scMh : FnScope ["table", "sequence"] ["table", "sequence"] (defScope sMh) := ⟨rfl, rfl, rfl, by decide +kernel, rfl, by decide +kernel, by decide +kernel⟩
theorem ok_mh (F : Fun K "minimal_height" "minimal_height" sMh f fd)
    (G1 : FnOk P w K mg base CX0 5 f1 d1 ["table", "sequence"] (spHt K C)) (b1 : Binds K d1 ["table", "sequence"] []) (k1 : PySem.W.keepIn K (.ref f1) = true) (m1 : mg "height_table" = some (.ref f1)) : FnOk P w K mg base CX0 6 f fd ["table", "sequence"] (spMh K C) := by
  refine F.ok scMh (fun vs H Q E h => ?_) (fun cdv A outer s H vs Q E hr h => ?_)
  · obtain ⟨p, sv, tb, ws, rfl, _⟩ := h
    rfl
  obtain ⟨p, sv, tb, ws, rfl, ht, TT, hs, hw, l1, l40, q⟩ := h
  refine ⟨_, (pss_one (ps_ret (pe_ix (ixl (K := K) rfl) (pe_ix (ixl (K := K) rfl) (pe_call G1 hr (by rfl) m1 k1 b1 .nil pass0 (pa_cons (pv 0) (pa_cons (pv 1) pa_nil))) pe_int (fun _ _ => rfl)) (pe_un un_neg pe_int) (fun _ _ => rfl)))), ?_⟩
  refine ⟨_, rfl, _, rfl, p, sv, tb, ws, rfl, ht, TT, hs, hw, l1, l40, fun v H' R s => ?_⟩
  have lh : (hts (pd tb ws) ws.length ws.length).length = ws.length := by unfold hts; rw [List.length_map, List.length_range]
  obtain ⟨l, rs, r, rfl, el, at0, er⟩ := rw_at (R.same nw_to) (a := 0) (by omega)
  have e0 : (hts (pd tb ws) ws.length ws.length).getD 0 [] = hrow (pd tb ws) 0 ws.length := by
    unfold hts
    rw [List.getD_eq_getElem?_getD, List.getElem?_map, List.getElem?_range (by omega)]; rfl
  rw [e0] at er
  have lr : (hrow (pd tb ws) 0 ws.length).length = ws.length := by unfold hrow; rw [List.length_map, List.length_range]
  have el0 : ((hrow (pd tb ws) 0 ws.length).map V.int)[ws.length - 1]? = some (.int ((hgt (pd tb ws) 0 ws.length : Nat) : Int)) := by
    unfold hrow
    rw [List.getElem?_map, List.getElem?_map, List.getElem?_range (by omega)]
    show some (V.int ((hgt (pd tb ws) 0 (0 + 1 + (ws.length - 1)) : Nat) : Int)) = _
    rw [show 0 + 1 + (ws.length - 1) = ws.length by omega]
  have am : atI ((hrow (pd tb ws) 0 ws.length).map V.int) (-1) = some (.int ((hgt (pd tb ws) 0 ws.length : Nat) : Int)) := by
    have e : ixN ((hrow (pd tb ws) 0 ws.length).map V.int).length (-1) = some (ws.length - 1) := by
      rw [List.length_map, lr]
      unfold ixN
      rw [if_neg (by omega), if_pos (by omega)]
      congr 1
      omega
    unfold atI
    rw [e]
    exact el0
  exact ⟨l, _, _, _, rfl, rfl, SqL.of el, at_of (j := 0) rfl at0, _, rfl, r, _, _, _, rfl, rfl, SqL.of er, am, q H' s⟩
end
end L

set_option Elab.async false
set_option linter.all false
set_option maxRecDepth 100000
set_option maxHeartbeats 2000000
/-! Heights of related sequences: those of a part, of a renumbered table, of the mirrored table. -/
namespace L
/-- the products of two sequences are alike, the second from s on -/
def Alike (p' p : Nat → Nat → Nat) (n s : Nat) : Prop := ∀ i j a b, i < j → j ≤ n → a < b → b ≤ n → (p' i j = p' a b ↔ p (i + s) (j + s) = p (a + s) (b + s))
theorem run_pos {p : Nat → Nat → Nat} {S : Nat → Nat → Prop} {e i j : Nat} (lt : ∀ a b, S a b → a < b) (h : RunOf p S e i j) : i < j := by
  induction h with
  | one h _ => exact lt _ _ h
  | cons h1 _ _ _ _ _ ih => omega
theorem run_congr {p' p : Nat → Nat → Nat} {n s : Nat} (al : Alike p' p n s) {S' S : Nat → Nat → Prop} (lt : ∀ a b, S' a b → a < b) (hS : ∀ a b, b ≤ n → S' a b → S (a + s) (b + s)) {i0 j0 : Nat} (h0 : i0 < j0) (hn : j0 ≤ n) {i j : Nat} (h : RunOf p' S' (p' i0 j0) i j) :
    j ≤ n → RunOf p S (p (i0 + s) (j0 + s)) (i + s) (j + s) := by
  induction h with
  | one h1 h2 => exact fun hj => .one (hS _ _ hj h1) ((al _ _ _ _ (lt _ _ h1) hj h0 hn).mp h2)
  | @cons i c j h1 h2 h3 h4 h5 h6 ih =>
    intro hj
    have hc := run_pos lt h6
    exact .cons (by omega) (hS _ _ (by omega) h2) ((al _ _ _ _ h1 (by omega) h0 hn).mp h3) ((al _ _ _ _ hc hj h0 hn).mp h4) ((al _ _ _ _ (by omega) hj h0 hn).mp h5) (ih hj)
theorem run_congr' {p' p : Nat → Nat → Nat} {n s : Nat} (al : Alike p' p n s) {S' S : Nat → Nat → Prop} (lt : ∀ a b, S a b → a < b) (hS : ∀ a b, b ≤ n → S (a + s) (b + s) → S' a b) {i0 j0 : Nat} (h0 : i0 < j0) (hn : j0 ≤ n) {x y : Nat} (h : RunOf p S (p (i0 + s) (j0 + s)) x y) :
    ∀ i j, x = i + s → y = j + s → j ≤ n → RunOf p' S' (p' i0 j0) i j := by
  induction h with
  | @one x y h1 h2 =>
    rintro i j rfl rfl hj
    have := lt _ _ h1
    exact .one (hS _ _ hj h1) ((al _ _ _ _ (by omega) hj h0 hn).mpr h2)
  | @cons x c y h1 h2 h3 h4 h5 h6 ih =>
    rintro i j rfl rfl hj
    have hc := run_pos lt h6
    obtain ⟨d, rfl⟩ : ∃ d, c = d + s := ⟨c - s, by omega⟩
    exact .cons (by omega) (hS _ _ (by omega) h2) ((al _ _ _ _ (by omega) (by omega) h0 hn).mpr h3) ((al _ _ _ _ (by omega) hj h0 hn).mpr h4) ((al _ _ _ _ (by omega) hj h0 hn).mpr h5) (ih d j rfl rfl hj)
theorem can_congr {p' p : Nat → Nat → Nat} {n s : Nat} (al : Alike p' p n s) : ∀ (t i j : Nat), j ≤ n → (Can p' t i j ↔ Can p t (i + s) (j + s))
  | 0, i, j, _ => by show j = i + 1 ↔ j + s = i + s + 1; omega
  | t + 1, i, j, hj => by
    have ih := can_congr al t
    constructor
    · rintro (h | ⟨c, h1, h2, h3, h4⟩ | ⟨c, h1, h2, h3, h4, h5, h6⟩)
      · exact .inl (by omega)
      · exact .inr (.inl ⟨c + s, by omega, by omega, (ih _ _ (by omega)).mp h3, (ih _ _ hj).mp h4⟩)
      · exact .inr (.inr ⟨c + s, by omega, by omega, (al _ _ _ _ h1 (by omega) (by omega) hj).mp h3, (al _ _ _ _ h2 hj (by omega) hj).mp h4, (ih _ _ (by omega)).mp h5,
          run_congr al (fun _ _ z => z.lt) (fun a b hb z => (ih a b hb).mp z) (by omega) hj h6 hj⟩)
    · rintro (h | ⟨c, h1, h2, h3, h4⟩ | ⟨c, h1, h2, h3, h4, h5, h6⟩)
      · exact .inl (by omega)
      · obtain ⟨d, rfl⟩ : ∃ d, c = d + s := ⟨c - s, by omega⟩
        exact .inr (.inl ⟨d, by omega, by omega, (ih _ _ (by omega)).mpr h3, (ih _ _ hj).mpr h4⟩)
      · obtain ⟨d, rfl⟩ : ∃ d, c = d + s := ⟨c - s, by omega⟩
        exact .inr (.inr ⟨d, by omega, by omega, (al _ _ _ _ (by omega) (by omega) (by omega) hj).mpr h3, (al _ _ _ _ (by omega) hj (by omega) hj).mpr h4, (ih _ _ (by omega)).mpr h5,
          run_congr' al (fun _ _ z => z.lt) (fun a b hb z => (ih a b hb).mpr z) (by omega) hj h6 d j rfl rfl hj⟩)
theorem hgt_congr {p' p : Nat → Nat → Nat} {n s : Nat} (al : Alike p' p n s) {i j : Nat} (h : i < j) (hj : j ≤ n) : hgt p' i j = hgt p (i + s) (j + s) :=
  Nat.le_antisymm ((can_iff h).mp ((can_congr al _ i j hj).mpr (hgt_lst (p := p) (by omega)).1)) ((can_iff (by omega)).mp ((can_congr al _ i j hj).mp (hgt_lst (p := p') h).1))
/-! the mirrored sequence -/
/-- a run's parts, from the left or from the right: where e is idempotent it is the same -/
theorem run_snoc {p : Nat → Nat → Nat} {S : Nat → Nat → Prop} {op : Nat → Nat → Nat} {n e : Nat} (lt : ∀ a b, S a b → a < b) (hp : ∀ i c j, i < c → c < j → j ≤ n → p i j = op (p i c) (p c j)) (ee : op e e = e) {i c : Nat} (h : RunOf p S e i c) :
    ∀ j, c < j → j ≤ n → S c j → p c j = e → RunOf p S e i j := by
  induction h with
  | @one i c h1 h2 => exact fun j hc hj h3 h4 => .cons (lt _ _ h1) h1 h2 h4 (by rw [hp i c j (lt _ _ h1) hc hj, h2, h4, ee]) (.one h3 h4)
  | @cons i d c h1 h2 h3 h4 h5 h6 ih =>
    intro j hc hj h7 h8
    have hd := run_pos lt h6
    exact .cons h1 h2 h3 (by rw [hp d c j hd hc hj, h4, h8, ee]) (by rw [hp i c j (by omega) hc hj, h5, h8, ee]) (ih j hc hj h7 h8)
theorem run_split {p : Nat → Nat → Nat} {S : Nat → Nat → Prop} {op : Nat → Nat → Nat} {n e : Nat} (lt : ∀ a b, S a b → a < b) (hp : ∀ i c j, i < c → c < j → j ≤ n → p i j = op (p i c) (p c j)) (ee : op e e = e) {a b d : Nat} (h : RunOf p S e a b) (hb : b < d) (hd : d ≤ n) (h1 : S b d) (h2 : p b d = e) :
    ∃ c, a < c ∧ c < d ∧ S a c ∧ p a c = e ∧ p c d = e ∧ RunOf p S e c d := by
  cases h with
  | one g1 g2 => exact ⟨b, lt _ _ g1, hb, g1, g2, h2, .one h1 h2⟩
  | @cons _ c _ g1 g2 g3 g4 g5 g6 =>
    have hc := run_pos lt g6
    exact ⟨c, g1, by omega, g2, g3, by rw [hp c b d hc hb hd, g4, h2, ee], run_snoc lt hp ee g6 d hb hd h1 h2⟩
/-- the products of the mirrored sequence -/
def Mirr (p' p : Nat → Nat → Nat) (n : Nat) : Prop := ∀ i j, i < j → j ≤ n → p' i j = p (n - j) (n - i)
theorem run_mirr {p' p : Nat → Nat → Nat} {n e : Nat} (mi : Mirr p' p n) {S' S : Nat → Nat → Prop} {op : Nat → Nat → Nat} (lt : ∀ a b, S a b → a < b) (lt' : ∀ a b, S' a b → a < b) (hS : ∀ a b, a < b → b ≤ n → S' a b → S (n - b) (n - a)) (hp : ∀ i c j, i < c → c < j → j ≤ n → p i j = op (p i c) (p c j)) (ee : op e e = e) {i j : Nat} (h : RunOf p' S' e i j) :
    j ≤ n → RunOf p S e (n - j) (n - i) := by
  induction h with
  | one h1 h2 => exact fun hj => .one (hS _ _ (lt' _ _ h1) hj h1) (by rw [← mi _ _ (lt' _ _ h1) hj]; exact h2)
  | @cons i c j h1 h2 h3 h4 h5 h6 ih =>
    intro hj
    have hc := run_pos lt' h6
    exact run_snoc lt hp ee (ih hj) (n - i) (by omega) (by omega) (hS _ _ h1 (by omega) h2) (by rw [← mi _ _ h1 (by omega)]; exact h3)
theorem can_mirr {p' p : Nat → Nat → Nat} {n : Nat} {op op' : Nat → Nat → Nat} (mi : Mirr p' p n) (hp : ∀ i c j, i < c → c < j → j ≤ n → p i j = op (p i c) (p c j)) (hp' : ∀ i c j, i < c → c < j → j ≤ n → p' i j = op' (p' i c) (p' c j)) (ho : ∀ x, op' x x = op x x) :
    ∀ (t i j : Nat), i < j → j ≤ n → Can p' t i j → Can p t (n - j) (n - i)
  | 0, i, j, _, hj, h => by
    have h : j = i + 1 := h
    show n - i = n - j + 1
    omega
  | t + 1, i, j, hij, hj, h => by
    have ih := can_mirr mi hp hp' ho t
    rcases h with h | ⟨c, h1, h2, h3, h4⟩ | ⟨c, h1, h2, h3, h4, h5, h6⟩
    · exact .inl (by omega)
    · exact .inr (.inl ⟨n - c, by omega, by omega, ih c j h2 hj h4, ih i c h1 (by omega) h3⟩)
    · have ee : op (p' i j) (p' i j) = p' i j := by
        have k := hp' i c j h1 h2 hj
        rw [h3, h4, ho] at k
        exact k.symm
      have m0 := mi i j hij hj
      have r := run_mirr mi (S := Can p t) (fun _ _ z => z.lt) (fun _ _ z => z.lt) (fun a b hab hb z => ih a b hab hb z) hp ee h6 hj
      obtain ⟨d, k1, k2, k3, k4, k5, k6⟩ := run_split (fun _ _ z => z.lt) hp ee r (by omega) (by omega) (ih i c h1 (by omega) h5) (by rw [← mi i c h1 (by omega)]; exact h3)
      rw [m0] at k4 k5 k6
      exact .inr (.inr ⟨d, k1, k2, k4, k5, k3, k6⟩)
theorem hgt_mirr {p' p : Nat → Nat → Nat} {n : Nat} {op op' : Nat → Nat → Nat} (mi : Mirr p' p n) (hp : ∀ i c j, i < c → c < j → j ≤ n → p i j = op (p i c) (p c j)) (hp' : ∀ i c j, i < c → c < j → j ≤ n → p' i j = op' (p' i c) (p' c j)) (ho : ∀ x, op' x x = op x x) {i j : Nat} (h : i < j) (hj : j ≤ n) : hgt p' i j = hgt p (n - j) (n - i) := by
  have mi' : Mirr p p' n := fun a b h1 h2 => by
    rw [mi (n - b) (n - a) (by omega) (by omega), show n - (n - a) = a by omega, show n - (n - b) = b by omega]
  refine Nat.le_antisymm ((can_iff h).mp ?_) ((can_iff (by omega)).mp (can_mirr mi hp hp' ho _ i j h hj (hgt_lst (p := p') h).1))
  have k := can_mirr mi' hp' hp (fun x => (ho x).symm) _ (n - j) (n - i) (by omega) (by omega) (hgt_lst (p := p) (i := n - j) (j := n - i) (by omega)).1
  rw [show n - (n - i) = i by omega, show n - (n - j) = j by omega] at k
  exact k
/-- a sequence in two parts -/
theorem hgt_cat {p : Nat → Nat → Nat} {i c j : Nat} (h1 : i < c) (h2 : c < j) : hgt p i j ≤ max (hgt p i c) (hgt p c j) + 1 :=
  hgt_le (.inr (.inl ⟨c, h1, h2, hgt_can h1 (Nat.le_max_left _ _), hgt_can h2 (Nat.le_max_right _ _)⟩))
end L

set_option Elab.async false
set_option linter.all false
set_option maxRecDepth 100000
set_option maxHeartbeats 4000000
/-! Own layer: set(a list of whole numbers), with how many it holds. -/
namespace KX
open PySem PySem.Spec PyProof.Rows L2
theorem nodup_le : ∀ {l L : List Int}, l.Nodup → (∀ x, x ∈ l → x ∈ L) → l.length ≤ L.length
  | [], _, _, _ => Nat.zero_le _
  | x :: l, L, nd, h => by
    obtain ⟨h1, h2⟩ := List.nodup_cons.mp nd
    have hx := h x List.mem_cons_self
    have q := nodup_le (l := l) (L := L.erase x) h2 fun y hy => (List.mem_erase_of_ne (fun e : y = x => h1 (by rw [← e]; exact hy))).mpr (h y (List.mem_cons_of_mem _ hy))
    rw [List.length_erase_of_mem hx] at q
    have := List.length_pos_of_mem hx
    simp only [List.length_cons]; omega
theorem SetR_le {w : World} {h : Heap} {a : Addr} {S : Int → Bool} {n : Nat} (R : SetR w h a S n) {L : List Int} (hL : ∀ k, S k = true → k ∈ L) : n ≤ L.length := by
  obtain ⟨o, es, ep, t, _, _, _, _, nd, hm, _, _, hn, _⟩ := R
  have := nodup_le nd fun k hk => hL k ((hm k).mpr hk)
  rw [List.length_map, Array.length_toList, hn] at this
  exact this
theorem SetR_ge {w : World} {h : Heap} {a : Addr} {S : Int → Bool} {n : Nat} (R : SetR w h a S n) {L : List Int} (nd : L.Nodup) (hL : ∀ k, k ∈ L → S k = true) : L.length ≤ n := by
  obtain ⟨o, es, ep, t, _, _, _, _, _, hm, _, _, hn, _⟩ := R
  have := nodup_le nd fun k hk => (hm k).mp (hL k hk)
  rw [List.length_map] at this
  have e : es.toList.length = es.size := Array.length_toList
  omega
section
variable {X : Cx}
/-- len(s), s a set of whole numbers -/
def rLenSet (w : World) : List V → Hp → VK → Prop := fun xs H Q => ∃ (p : Addr) (S : Int → Bool) (n : Nat), xs = [.ref p] ∧ H p = some (SetO w p S n) ∧ Q (.int n) H
theorem call_lenSet {w : World} (hw : X.w = w) : CallR X (.builtin "len") (rLenSet w) := by
  subst hw
  intro pins s σ H xs us Q I r h
  obtain ⟨p, S, n, rfl, hp, q⟩ := h
  obtain ⟨u, rfl, rx⟩ := vals1 r
  cases rx
  obtain ⟨o, es, ep, t, ho, hex, hd, _, _, _, hb, hf, hn, _⟩ := setO_get I hp
  refine call_len_set ho hex hd hf (by unfold scanBound at hb; omega) ⟨.int n, H, I.tok _, ⟨_, by rw [hn]⟩, q⟩
/-- set(l), l a list of whole numbers -/
def rSetN (K : PySem.W.Frag) (w : World) : List V → Hp → VK → Prop := fun xs H Q => ∃ (l : Addr) (ns : List Int), xs = [.ref l] ∧ SqL K H l (ns.map V.int) ∧ ns.length ≤ 4000 ∧
  ∀ p c, H p = none → (∀ L : List Int, (∀ k, k ∈ ns → k ∈ L) → c ≤ L.length) → (∀ L : List Int, L.Nodup → (∀ k, k ∈ L → k ∈ ns) → L.length ≤ c) → Q (.ref p) (upd H p (SetO w p (fun j => decide (j ∈ ns)) c))
theorem ct_setN (hc : X.calm = true) {K : PySem.W.Frag} (hK : X.K = K) {w : World} (hw : X.w = w) : CallR X (.type "set") (rSetN K w) := by
  subst hK; subst hw
  intro pins s σ H xs us Q I r h
  obtain ⟨l, ns, rfl, hS, hn, q⟩ := h
  obtain ⟨u, rfl, rx⟩ := vals1 r
  cases rx
  obtain ⟨its, rv, pl, hz⟩ := I.list hS
  refine set_of_list ns (I.ok.hd hc) pl.isList (by simpa using ints_of_vals rv) (by unfold scanBound; omega) fun h' tk c ⟨R, hc', k⟩ => ?_
  exact ⟨.ref s.heap.objs.size, _, I.laid (t' := tk) k (Nat.le_refl _) (setO_new R), rfl, q _ c (I.hok.fresh (Nat.le_refl _)) (fun L hL => SetR_le R fun k hk => hL k (of_decide_eq_true hk)) fun L nd hL => SetR_ge R nd fun k hk => decide_eq_true (hL k hk)⟩
end
end KX

set_option Elab.async false
set_option linter.all false
set_option maxRecDepth 100000
set_option maxHeartbeats 4000000
set_option pp.maxSteps 400
namespace L
open PySem L2 KX
/-! products of generators -/
inductive Gn (tb : List (List Int)) (dd : List Nat) : Nat → Prop
  | one {g : Nat} : g ∈ dd → Gn tb dd g
  | cons {a g : Nat} : Gn tb dd a → g ∈ dd → Gn tb dd (mu tb a g).toNat
theorem mu_lt {tb : List (List Int)} (S : Sqr tb) {a b : Nat} (ha : a < tb.length) (hb : b < tb.length) : (mu tb a b).toNat < tb.length := by
  have := S.el a b ha hb
  omega
theorem mu_as {tb : List (List Int)} (TT : Tb tb) {a b c : Nat} (ha : a < tb.length) (hb : b < tb.length) (hc : c < tb.length) : (mu tb (mu tb a b).toNat c).toNat = (mu tb a (mu tb b c).toNat).toNat := by
  have := TT.as a b c ha hb hc
  unfold rt at this
  rw [this]
theorem Gn.lt {tb : List (List Int)} {dd : List Nat} (S : Sqr tb) (hd : ∀ x, x ∈ dd → x < tb.length) {b : Nat} (h : Gn tb dd b) : b < tb.length := by
  induction h with
  | one h => exact hd _ h
  | cons _ h ih => exact mu_lt S ih (hd _ h)
theorem gen_cl {tb : List (List Int)} (TT : Tb tb) {dd os : List Nat} (hd : ∀ x, x ∈ dd → x < tb.length) (ho : ∀ x, x ∈ os → x < tb.length) (hr : ∀ a g, a ∈ os → g ∈ dd → (mu tb a g).toNat ∈ os) {b : Nat} (hb : Gn tb dd b) :
    ∀ a, a ∈ os → (mu tb a b).toNat ∈ os := by
  induction hb with
  | one h => exact fun a ha => hr a _ ha h
  | @cons b g h1 h2 ih =>
    intro a ha
    rw [← mu_as TT (ho a ha) (h1.lt TT.sq hd) (hd g h2)]
    exact hr _ _ (ih a ha) h2
theorem nat_ints : ∀ {ns : List Int}, (∀ k, k ∈ ns → 0 ≤ k) → ∃ dd : List Nat, ns = dd.map fun x : Nat => (x : Int)
  | [], _ => ⟨[], rfl⟩
  | k :: ns, h => by
    obtain ⟨dd, e⟩ := nat_ints (ns := ns) fun j hj => h j (List.mem_cons_of_mem _ hj)
    have h0 := h k List.mem_cons_self
    exact ⟨k.toNat :: dd, by rw [e, List.map_cons, show ((k.toNat : Nat) : Int) = k by omega]⟩
theorem mem_cast {dd : List Nat} {x : Nat} : ((x : Int) ∈ dd.map fun y : Nat => (y : Int)) ↔ x ∈ dd := by
  constructor
  · intro h
    obtain ⟨y, h1, h2⟩ := List.mem_map.mp h
    have : y = x := by omega
    exact this ▸ h1
  · exact fun h => List.mem_map.mpr ⟨x, h, rfl⟩
theorem nd_cast {dd : List Nat} (h : (dd.map fun y : Nat => (y : Int)).Nodup) : dd.Nodup := (List.pairwise_map.mp h).imp fun ne e => ne (by rw [e])
theorem nd_le {l : List Nat} {n : Nat} (nd : l.Nodup) (h : ∀ x, x ∈ l → x < n) : l.length ≤ n := by
  have := nodup_le (l := l.map fun y : Nat => (y : Int)) (L := (List.range n).map fun y : Nat => (y : Int)) (List.pairwise_map.mpr (nd.imp fun ne e => ne (by omega))) fun k hk => by
    obtain ⟨y, h1, rfl⟩ := List.mem_map.mp hk
    exact List.mem_map.mpr ⟨y, List.mem_range.mpr (h y h1), rfl⟩
  rw [List.length_map, List.length_map, List.length_range] at this
  exact this
theorem nv_ints (a : List Nat) : nv a = (a.map fun x : Nat => (x : Int)).map V.int := by unfold nv; rw [List.map_map]; rfl
theorem nv_snoc (xs : List Nat) (x : Nat) : nv (xs ++ [x]) = nv xs ++ [.int (x : Int)] := by unfold nv; rw [List.map_append]; rfl
theorem nv_emp : ∀ W : List Nat, (!(nv W).isEmpty) = !W.isEmpty
  | [] => rfl
  | _ :: _ => rfl
theorem nv_flat (l : List Nat) : (nv l).all flatV = true := by unfold nv; rw [List.all_map]; exact List.all_eq_true.mpr fun _ _ => rfl
theorem inV_nv (m : Nat) : ∀ l : List Nat, inV (.int (m : Int)) (nv l) = decide (m ∈ l)
  | [] => rfl
  | x :: l => by
    have h := inV_nv m l
    have e : inV (.int (m : Int)) (nv (x :: l)) = (((x : Int) == (m : Int)) || inV (.int (m : Int)) (nv l)) := rfl
    rw [e, h]
    by_cases hx : m = x
    · subst hx; simp
    · have : ¬ (x : Int) = (m : Int) := by omega
      simp [hx, this]
def muG (i : Nat) (σ : L2.St) (J : Hp) : Nat := match σ.getD i none with
  | some (.ref a) => match J a with
    | some (.lst xs) => xs.length
    | _ => 0
  | _ => 0
theorem muG_of {i : Nat} {σ : L2.St} {J : Hp} {a : Addr} {xs : List V} (h : σ.getD i none = some (.ref a)) (e : J a = some (.lst xs)) : muG i σ J = xs.length := by
  unfold muG
  rw [h]
  show (match J a with | some (.lst xs) => xs.length | _ => 0) = _
  rw [e]
abbrev sGen : Stmt := inClass (top 17) 8
abbrev nGen : List Str := ["self", "generators", "distinct", "reached", "waiting", "row", "generator"]
theorem csorted {X : Cx} (hc : X.calm = true) {w : World} (hw : X.w = w) : CallR X (.builtin "sorted") (rSortedSet w) := by subst hw; exact cr_sortedSet hc
/-- closed: with the generators, and under products with them -/
def spGen (K : PySem.W.Frag) (C : Addr) : Sp := fun vs H Q _ => ∃ (p l : Addr) (tb : List (List Int)) (ws : List Nat), vs = [.ref p, .ref l] ∧ TbA K C H p tb ∧ Tb tb ∧ SqL K H l (nv ws) ∧ (∀ x, x ∈ ws → x < tb.length) ∧ 1 ≤ ws.length ∧ ws.length ≤ 63 ∧
  ∀ D H' os, Same H H' → H D = none → H' D = some (.lst (nv os)) → os.Nodup → (∀ x, x ∈ ws → x ∈ os) → (∀ x, x ∈ os → x < tb.length) → (∀ a b, a ∈ os → b ∈ os → (mu tb a b).toNat ∈ os) → Q (.ref D) H'
section
variable {P : Program} {w : World} {K : PySem.W.Frag} {mg : Str → Option Value} {base : Heap} {f f1 : Addr} {fd d1 : FuncData} {C : Addr}
theorem scGen : FnScope nGen ["self", "generators"] (defScope sGen) := ⟨rfl, rfl, rfl, by decide +kernel, rfl, by decide +kernel, by decide +kernel⟩
theorem ok_gen (F : Fun K "generated" "ProductTable.generated" sGen f fd) (M : Mn mg) (T : CTx K mg C) (mS : mg "set" = none) (mO : mg "sorted" = none)
    (G1 : FnOk P w K mg base CX0 4 f1 d1 ["table", "sequence"] (spChkS0 K C)) (b1 : Binds K d1 ["table", "sequence"] []) (k1 : PySem.W.keepIn K (.ref f1) = true) (m1 : mg "check_sequence" = some (.ref f1)) : FnOk P w K mg base CX0 5 f fd ["self", "generators"] (spGen K C) := by
  refine F.ok scGen (fun vs H Q E h => ?_) (fun cdv A outer s H vs Q E hr h => ?_)
  · obtain ⟨p, l, tb, ws, rfl, _⟩ := h
    rfl
  obtain ⟨p, l, tb, ws, rfl, ht, TT, hl, hw, l1, l2, q⟩ := h
  refine ⟨_, (pss_cons (ps_expr (pe_call G1 hr (by rfl) m1 k1 b1 .nil pass0 (pa_cons (pv 0) (pa_cons (pv 1) pa_nil)))) (pss_cons (ps_set (i := 2) scGen.nd rfl (Or.inl rfl) (pe_callB (csorted (w := w) rfl rfl) (by rfl) mO (by decide +kernel) (pa_cons (pe_callTy (T := "set") (ct_set (K := K) (w := w) rfl rfl rfl) (by rfl) mS (by decide +kernel) (pa_cons (pv 1) pa_nil)) pa_nil))) (pss_cons (ps_set (i := 3) scGen.nd rfl (Or.inl rfl) (pe_callTy (clist (K := K) rfl) (by rfl) M.list (by decide +kernel) (pa_cons (pv 2) pa_nil))) (pss_cons (ps_set (i := 4) scGen.nd rfl (Or.inl rfl) (pe_callTy (clist (K := K) rfl) (by rfl) M.list (by decide +kernel) (pa_cons (pv 2) pa_nil))) (pss_cons (ps_while PassesOwn.never (pt_mo (pt_truth (pv 4) (fun _ => rfl))) (pss_cons (ps_set (i := 5) scGen.nd rfl (Or.inl rfl) (pe_ix (ixt (K := K) rfl) (pe_fld (pv 0) rfl) (pe_bm0 PySem.F.plainAttrs_list PySem.F.slot_list_pop PySem.F.type_list_pop mt_pop (pv 4)) (fun _ _ => rfl))) (pss_one (ps_for PassesOwn.never rfl (pi_list (pv 2)) (pg_name (i := 6) scGen.nd rfl (Or.inl rfl)) (pss_one (ps_if (pt_cmpR op_notIn_seq (pe_ix (ixt (K := K) rfl) (pv 5) (pv 6) (fun _ _ => rfl)) (pv 3) (by rfl)) (pss_cons (ps_expr (pe_bm PySem.F.plainAttrs_list PySem.F.slot_list_append PySem.F.type_list_append mt_append (pv 3) (pa_cons (pe_ix (ixt (K := K) rfl) (pv 5) (pv 6) (fun _ _ => rfl)) pa_nil))) (pss_one (ps_expr (pe_bm PySem.F.plainAttrs_list PySem.F.slot_list_append PySem.F.type_list_append mt_append (pv 4) (pa_cons (pe_ix (ixt (K := K) rfl) (pv 5) (pv 6) (fun _ _ => rfl)) pa_nil))))) pss_nil)))))) (pss_one (ps_ret (pe_callB cr_sorted (by rfl) mO (by decide +kernel) (pa_cons (pv 3) pa_nil))))))))), ?_⟩
  have S := TT.sq
  have n16 := S.ge
  refine ⟨_, rfl, _, rfl, p, .ref l, tb, ws, rfl, ht, n16, ⟨l, rfl, .inl hl⟩, hw, l1, by omega, fun H1 s1 => ?_⟩
  refine ⟨_, rfl, l, ws.map (fun x : Nat => (x : Int)), rfl, by rw [← nv_ints]; exact s1.seq hl, by rw [List.length_map]; omega, fun ps c hps hc => ?_⟩
  rw [List.length_map] at hc
  refine ⟨ps, _, c, rfl, upd_same, by omega, fun ns D0 pw mem len hD0 => ?_⟩
  have mem' : ∀ k, k ∈ ns ↔ k ∈ ws.map (fun x : Nat => (x : Int)) := fun k => (mem k).trans decide_eq_true_iff
  obtain ⟨dd, rfl⟩ := nat_ints (ns := ns) fun k hk => by
    obtain ⟨y, _, rfl⟩ := List.mem_map.mp ((mem' k).mp hk)
    omega
  have hdw : ∀ x, x ∈ dd ↔ x ∈ ws := fun x => mem_cast.symm.trans ((mem' x).trans mem_cast)
  have ndd : dd.Nodup := nd_cast (pw.imp fun h e => by omega)
  have dlt : ∀ x, x ∈ dd → x < tb.length := fun x hx => hw x ((hdw x).mp hx)
  rw [← nv_ints]
  have s2 : Same H (upd (upd H1 ps (SetO w ps (fun j => decide (j ∈ ws.map (fun x : Nat => (x : Int)))) c)) D0 (.lst (nv dd))) := (s1.trans (Same.new hps _)).trans (Same.new hD0 _)
  have eD : (upd (upd H1 ps (SetO w ps (fun j => decide (j ∈ ws.map (fun x : Nat => (x : Int)))) c)) D0 (.lst (nv dd))) D0 = some (.lst (nv dd)) := upd_same
  generalize upd (upd H1 ps (SetO w ps (fun j => decide (j ∈ ws.map (fun x : Nat => (x : Int)))) c)) D0 (.lst (nv dd)) = H2 at s2 eD ⊢
  refine ⟨_, rfl, D0, nv dd, rfl, .inl (SqL.of eD), fun rc hrc => ?_⟩
  refine ⟨_, rfl, D0, nv dd, rfl, .inl (SqL.of (Same.new hrc _ _ _ eD)), fun wt hwt => ?_⟩
  have eR0 : (upd H2 rc (.lst (nv dd))) rc = some (.lst (nv dd)) := upd_same
  have nrw : rc ≠ wt := ne_of_none eR0 hwt
  have hwt2 : H2 wt = none := (Same.new hrc _).free hwt
  obtain ⟨dx, t, rs, hp, htt, pr⟩ := (ht.to s2).ob
  have h64 : ∀ os : List Nat, os.Nodup → (∀ x, x ∈ os → x < tb.length ∧ Gn tb dd x) → os.length ≤ tb.length := fun os nd ho => nd_le nd fun x hx => (ho x hx).1
  dsimp only [gName, tSeq]
  change tWhile _ _ _ [some (.ref p), some (.ref l), some (.ref D0), some (.ref rc), some (.ref wt), none, none] _
  refine while_by (fun σ J => ∃ os wa x5 x6, σ = [some (.ref p), some (.ref l), some (.ref D0), some (.ref rc), some (.ref wt), x5, x6] ∧ Same H2 J ∧ J rc = some (.lst (nv os)) ∧ J wt = some (.lst (nv wa)) ∧ os.Nodup ∧ (∀ x, x ∈ dd → x ∈ os) ∧
      (∀ x, x ∈ os → x < tb.length ∧ Gn tb dd x) ∧ (∀ x, x ∈ wa → x ∈ os) ∧ (∀ a g, a ∈ os → a ∉ wa → g ∈ dd → (mu tb a g).toNat ∈ os) ∧ wa.length ≤ os.length)
    (fun σ J => (tb.length - muG 3 σ J) * 17 + muG 4 σ J)
    ⟨dd, dd, _, _, rfl, (Same.new hrc _).trans (Same.new hwt _), by rw [upd_ne nrw]; exact eR0, upd_same, ndd, fun _ h => h, fun x hx => ⟨dlt x hx, .one hx⟩, fun _ h => h, fun a g h1 h2 => absurd h1 h2, Nat.le_refl _⟩ ?_ ?_
  rotate_left
  · rintro σ H Q Q' k ⟨R, h, r⟩
    exact ⟨R, h, fun x H1 z => k _ _ (r x H1 z)⟩
  rintro _ J ⟨os, wa, x5, x6, rfl, sJ, eR, eW, nd, hds, hos, hwa, hcl, lwa⟩
  refine ⟨fun b G1 => J = G1 ∧ b = !wa.isEmpty, ⟨_, rfl, _, .inl ⟨_, SqL.of eW, rfl⟩, rfl, nv_emp _⟩, ?_⟩
  rintro _ _ ⟨rfl, rfl⟩
  have los := h64 os nd hos
  rcases List.eq_nil_or_concat wa with rfl | ⟨wb, x, rfl⟩
  · refine iteF ⟨_, rfl, rc, os.map (fun x : Nat => (x : Int)), rfl, SqL.of (by rw [← nv_ints]; exact eR), by rw [List.length_map]; omega, fun ns' D pm pw' hD => ?_⟩
    obtain ⟨fs, rfl⟩ := nat_ints (ns := ns') fun k hk => by
      obtain ⟨y, _, rfl⟩ := List.mem_map.mp (pm.mem_iff.mp hk)
      omega
    have hf : ∀ x, x ∈ fs ↔ x ∈ os := fun x => mem_cast.symm.trans (pm.mem_iff.trans mem_cast)
    have ndf : fs.Nodup := nd_cast (pm.symm.nodup (List.pairwise_map.mpr (nd.imp fun ne e => ne (by omega))))
    have sall : Same H J := s2.trans sJ
    refine q D _ fs (sall.trans (Same.new hD _)) (sall.free hD) (by rw [← nv_ints]; exact upd_same) ndf (fun x hx => (hf x).mpr (hds x ((hdw x).mpr hx))) (fun x hx => (hos x ((hf x).mp hx)).1) fun a b ha hb => ?_
    rw [hf] at ha hb ⊢
    exact gen_cl TT dlt (fun x hx => (hos x hx).1) (fun a g ha hg => hcl a g ha (List.not_mem_nil) hg) (hos b hb).2 a ha
  have ne : (!(wb.concat x).isEmpty) = true := by rw [List.concat_eq_append]; cases wb <;> rfl
  rw [List.concat_eq_append] at eW hwa hcl lwa ⊢
  rw [List.length_append] at lwa
  have lwa : wb.length + 1 ≤ os.length := lwa
  refine iteTt (by rw [← List.concat_eq_append]; exact ne) ?_
  have hx := hos x (hwa x (by simp))
  obtain ⟨r, h1, h2, h3⟩ := row_at pr S hx.1
  refine ⟨_, rfl, p, C, dx, _, _, rfl, sJ _ _ hp, T.cl, T.nR, rfl, _, rfl, .inl ⟨rfl, _, SqL.of eW⟩, wt, nv (wb ++ [x]), .int (x : Int), rfl, rfl, eW, by rw [nv_snoc, List.length_append]; simp, ?_⟩
  have s5 : Same H2 (upd J wt (.lst (nv (wb ++ [x])).dropLast)) := fun b o e => by rw [upd_ne (ne_of_none e hwt2)]; exact sJ _ _ e
  have eR5 : (upd J wt (.lst (nv (wb ++ [x])).dropLast)) rc = some (.lst (nv os)) := by rw [upd_ne nrw]; exact eR
  have eW5 : (upd J wt (.lst (nv (wb ++ [x])).dropLast)) wt = some (.lst (nv wb)) := by rw [upd_same, nv_snoc, List.dropLast_concat]
  generalize upd J wt (.lst (nv (wb ++ [x])).dropLast) = J5 at s5 eR5 eW5 ⊢
  refine ⟨t, rs, _, _, rfl, rfl, Same.tup s5 htt, at_of (j := x) rfl h1, ?_⟩
  refine ⟨_, rfl, D0, rfl, ⟨_, SqL.of (s5 _ _ eD)⟩, ?_⟩
  refine for_it (walk_list (xs := nv dd)) (fun k σ G => Same H2 G ∧ ∃ o2 w2 x6, σ = [some (.ref p), some (.ref l), some (.ref D0), some (.ref rc), some (.ref wt), some (.ref r), x6] ∧ G rc = some (.lst (nv o2)) ∧ G wt = some (.lst (nv w2)) ∧ o2.Nodup ∧ (∀ y, y ∈ os → y ∈ o2) ∧
      (∀ y, y ∈ o2 → y < tb.length ∧ Gn tb dd y) ∧ (∀ y, y ∈ w2 → y ∈ o2) ∧ (∀ y, y ∈ wb → y ∈ w2) ∧ (∀ y, y ∈ o2 → y ∈ os ∨ y ∈ w2) ∧ o2.length + wb.length = os.length + w2.length ∧ wb.length ≤ w2.length ∧ ∀ g, g ∈ dd.take k → (mu tb x g).toNat ∈ o2)
    ⟨s5, os, wb, _, rfl, eR5, eW5, nd, fun _ h => h, hos, fun y hy => hwa y (by simp [hy]), fun _ h => h, fun y hy => .inl hy, rfl, Nat.le_refl _, fun g hg => by simp at hg⟩
    (fun k σ G _ z => SqL.of (z.1 _ _ eD)) ?_ ?_
  · rintro k y _ G G' hk ⟨sG, o2, w2, x6, rfl, e1, e2, nd2, ho, hlt, hw2, hwb, hor, hln, hwl, hg⟩ ⟨rfl, hy⟩
    obtain ⟨g, hgk, rfl⟩ := nv_at hy
    have gd : g ∈ dd := List.mem_of_getElem? hgk
    have gl := dlt g gd
    have m := mu_lt S hx.1 gl
    have em := S.el x g hx.1 gl
    generalize hm : (mu tb x g).toNat = mm at m
    have em' : mu tb x g = (mm : Int) := by omega
    have h3' := h3 g gl
    rw [em'] at h3'
    have lo2 := h64 o2 nd2 hlt
    have tk : ∀ z, z ∈ dd.take (k + 1) → z ∈ dd.take k ∨ z = g := fun z hz => by
      rw [List.take_add_one, hgk] at hz
      simpa using hz
    refine ⟨_, rfl, _, rfl, r, _, _, _, rfl, rfl, Same.tup sG h2, at_of (j := g) rfl h3', _, rfl, rc, _, rfl, .inl (SqL.of e1), rfl, nv_flat _, ?_⟩
    show ∃ k, V.bl (!inV (.int (mm : Int)) (nv o2)) = .bl k ∧ _
    rw [inV_nv]
    refine ⟨_, rfl, ite2 (fun c => ?_) (fun c => ?_)⟩
    · have hmm : mm ∉ o2 := by simpa using c
      refine ⟨_, rfl, .inl ⟨rfl, _, SqL.of e1⟩, _, rfl, _, rfl, r, _, _, _, rfl, rfl, Same.tup sG h2, at_of (j := g) rfl h3', rc, _, _, rfl, rfl, e1, by rw [nv_len]; exact small1000 (by omega), ?_⟩
      have sG2 : Same H2 (upd G' rc (.lst (nv o2 ++ [.int (mm : Int)]))) := fun b o e => by rw [upd_ne (ne_of_none e hrc)]; exact sG _ _ e
      have e1' : (upd G' rc (.lst (nv o2 ++ [.int (mm : Int)]))) rc = some (.lst (nv (o2 ++ [mm]))) := by rw [upd_same, nv_snoc]
      have e2' : (upd G' rc (.lst (nv o2 ++ [.int (mm : Int)]))) wt = some (.lst (nv w2)) := by rw [upd_ne nrw.symm]; exact e2
      generalize upd G' rc (.lst (nv o2 ++ [.int (mm : Int)])) = G2 at sG2 e1' e2' ⊢
      refine ⟨_, rfl, .inl ⟨rfl, _, SqL.of e2'⟩, _, rfl, _, rfl, r, _, _, _, rfl, rfl, Same.tup sG2 h2, at_of (j := g) rfl h3', wt, _, _, rfl, rfl, e2', by rw [nv_len]; exact small1000 (by omega), ?_⟩
      refine ⟨fun b o e => by rw [upd_ne (ne_of_none e hwt2)]; exact sG2 _ _ e, o2 ++ [mm], w2 ++ [mm], _, rfl, by rw [upd_ne nrw]; exact e1', by rw [upd_same, nv_snoc], ?_, fun y hy => List.mem_append_left _ (ho y hy), fun y hy => ?_, fun y hy => ?_, fun y hy => List.mem_append_left _ (hwb y hy), fun y hy => ?_, ?_, by rw [List.length_append]; exact Nat.le_add_right_of_le hwl, fun z hz => ?_⟩
      · exact List.nodup_append.mpr ⟨nd2, by simp, fun a ha b hb => by
          have : b = mm := by simpa using hb
          intro e
          exact hmm (by rw [← this, ← e]; exact ha)⟩
      · rcases List.mem_append.mp hy with h | h
        · exact hlt y h
        · have : y = mm := by simpa using h
          rw [this]
          exact ⟨m, by rw [← hm]; exact .cons hx.2 gd⟩
      · rcases List.mem_append.mp hy with h | h
        · exact List.mem_append_left _ (hw2 y h)
        · exact List.mem_append_right _ h
      · rcases List.mem_append.mp hy with h | h
        · exact (hor y h).imp id fun h => List.mem_append_left _ h
        · exact .inr (List.mem_append_right _ h)
      · rw [List.length_append, List.length_append]; simp; omega
      · rcases tk z hz with h | h
        · exact List.mem_append_left _ (hg z h)
        · rw [h, hm]; simp
    · have hmm : mm ∈ o2 := by simpa using c
      refine ⟨sG, o2, w2, _, rfl, e1, e2, nd2, ho, hlt, hw2, hwb, hor, hln, hwl, fun z hz => ?_⟩
      rcases tk z hz with h | h
      · exact hg z h
      · rw [h, hm]; exact hmm
  · rintro _ G ⟨sG, o2, w2, x6, rfl, e1, e2, nd2, ho, hlt, hw2, hwb, hor, hln, hwl, hg⟩
    rw [nv_len, List.take_length] at hg
    have lo2 := h64 o2 nd2 hlt
    refine ⟨⟨o2, w2, _, _, rfl, sG, e1, e2, nd2, fun y hy => ho y (hds y hy), hlt, hw2, fun a g ha hna hgd => ?_, by omega⟩, ?_⟩
    · rcases hor a ha with h | h
      · by_cases hax : a = x
        · rw [hax]; exact hg g hgd
        · exact ho _ (hcl a g h (fun z => by
            rcases List.mem_append.mp z with z | z
            · exact hna (hwb a z)
            · exact hax (by simpa using z)) hgd)
      · exact absurd h hna
    · rw [muG_of (a := rc) rfl e1, muG_of (a := wt) rfl e2, muG_of (a := rc) rfl eR, muG_of (a := wt) rfl eW, nv_len, nv_len, nv_len, nv_len, List.length_append]
      show (tb.length - o2.length) * 17 + w2.length < (tb.length - os.length) * 17 + (wb.length + 1)
      have : os.length ≤ o2.length := by omega
      omega
end
end L

set_option Elab.async false
set_option linter.all false
set_option maxRecDepth 100000
set_option maxHeartbeats 4000000
/-! Own layer: == and != of two instances of one class of the text, != of lists whose items are the same. -/
namespace KX
open PySem PySem.Spec PyProof.Rows L2
section
open PySem.W PySem.SeqAt
variable {prog : Program} {w : World} {A : Around} {E : Value → Shared → Prop} {s : Shared} {K : Frag} {x y C L f : Addr} {h₀ : Heap} {m : Str → Option Value} {ox : Obj} {od : Option Obj}
theorem ifBound_objNe {M : Model} {args : List Value} {Q : Option Value → Shared → Prop} (X : K.In s.heap) (I : InstAt s.heap x ox C od) (hs : findIn K (.ref C) "__ne__" = some (some (.builtin "object.__ne__")))
    (h : wpAny M A (call (.builtin "object.__ne__") (.ref x :: args)) (fun v => Q (some v)) E s) : wpAny M A (callSpecialIfBound? (.ref x) "__ne__" args) Q E s := by
  simp only [callSpecialIfBound?, bindSpecialIfBound?]
  refine wpAny_holding (wpAny_bind (wpAny_bind (wpAny_bind (I.type.here ((looks_findIn X hs).here ?_)))))
  refine wpAny_bind (wpAny_askSetting (wpAny_ite ?_))
  have fin : wpAny M A (call (.builtin "object.__ne__") ([.ref x] ++ args) >>= fun v => pure (some v)) Q E s := wpAny_bind (wpAny_mono h (fun v s' h' => wpAny_pure h') fun _ _ h' => h')
  split
  · exact wpAny_bind (wpAny_of_eq (F.cmp_object.ne.bind _) (wpAny_pure (by exact fin)))
  · exact wpAny_tryCatch (wpAny_bind (wpAny_of_eq (F.cmp_object.ne.bind _) (wpAny_pure (by exact fin))))
theorem entry_ne {Q : Fin → Shared → Prop} (hu : A.units < cLine) (X : K.In s.heap) (I : InstAt s.heap x ox C od) (hs : findIn K (.ref C) "__eq__" = some (some (.ref f))) (hf : isFn K (.ref f) = true)
    (hc : wpAny (model prog w) A (call (.ref f) [.ref x, .ref y]) (fun v s' => ∃ b, v = .bool b ∧ Q (.done (.ret (.bool (!b)))) s') E s) :
    wpAny (model prog w) A (Builtin.«object.__ne__» ⟨[.ref x, .ref y], []⟩) Q E s := by
  unfold Builtin.«object.__ne__»
  repeat (first
    | with_reducible refine wpAny_cRoomFor hu ?_
    | (refine wpAny_bind (m := callSpecialIfBound? (.ref x) (Str.ofString "__eq__") [.ref y])
        (ifBound_K X I hs hf (wpAny_mono hc (fun r s' hr => by
          obtain ⟨b, rfl, hq⟩ := hr
          repeat (first | exact hq | exact wpAny_pure hq | exact wpAny_truthy_bool hq | (refine wpAny_bind (m := truthy (.bool _)) (wpAny_truthy_bool ?_)) | wp_step)) fun _ _ e => e)))
    | wp_step)
theorem call_objNe {Q : Value → Shared → Prop} (hu : A.in1.units < cLine) (X : K.In s.heap) (I : InstAt s.heap x ox C od) (hm : mroIn K C (.type "object") = some true) (hs : findIn K (.ref C) "__eq__" = some (some (.ref f))) (hf : isFn K (.ref f) = true)
    (hc : wpAny (model prog w) A.in1 (call (.ref f) [.ref x, .ref y]) (fun v s' => ∃ b, v = .bool b ∧ Q (.bool (!b)) s') E s) : wpAny (model prog w) A (call (.builtin "object.__ne__") [.ref x, .ref y]) Q E s := by
  refine wpAny_call (codeAny_call_builtin F.cmp_object.ne.plain F.cmpEntry_ne (check_slot F.cmpKind_ne F.cmpSplit_ne (I.type.andThen (looks_mroIn X hm)) (F.cmpArgs_ne _ _) (entry_ne hu X I hs hf (wpAny_mono hc (fun v s' hv => ?_) fun _ _ e => e))))
  obtain ⟨b, rfl, hq⟩ := hv
  first | exact ⟨b, rfl, hq⟩ | exact ⟨b, rfl, _, rfl, hq⟩
theorem ne_own {Q : Value → Shared → Prop} (hu : A.in1.units < cLine) (hu0 : A.units < cLine) (X : K.In s.heap) (I : InstAt s.heap x ox C od) (hy : Looks (model prog w) s.heap (typeOf (.ref y)) (.ref C)) (hm : mroIn K C (.type "object") = some true)
    (hne : findIn K (.ref C) "__ne__" = some (some (.builtin "object.__ne__"))) (hs : findIn K (.ref C) "__eq__" = some (some (.ref f))) (hf : isFn K (.ref f) = true)
    (hc : wpAny (model prog w) A.in1 (call (.ref f) [.ref x, .ref y]) (fun v s' => ∃ b, v = .bool b ∧ Q (.bool (!b)) s') E s) : wpAny (model prog w) A (richCompare .NotEq (.ref x) (.ref y)) Q E s := by
  have one : wpAny (model prog w) A (tryCompare (.ref x) "__ne__" (.ref y)) (fun r s' => ∃ v, r = some v ∧ Q v s') E s := by
    unfold tryCompare
    refine wpAny_bind (ifBound_objNe X I hne (call_objNe hu X I hm hs hf (wpAny_mono hc (fun v s' hv => ?_) fun _ _ e => e)))
    obtain ⟨b, rfl, hq⟩ := hv
    exact ⟨b, rfl, wpAny_pure ⟨_, rfl, hq⟩⟩
  unfold richCompare
  simp only [oneThing_ref]
  rw [cmpInfo_NotEq]
  dsimp only
  refine wpAny_holding (wpAny_bind (wpAny_cRoomFor hu0 ?_))
  refine wpAny_bind (I.type.here (wpAny_bind (hy.here ?_)))
  rw [show (Value.ref C != Value.ref C) = false from by simp]
  simp only [Bool.false_eq_true, if_false]
  refine wpAny_bind (wpAny_pure ?_)
  simp only [Bool.false_eq_true, if_false]
  refine wpAny_bind (wpAny_mono one (fun r s' z => ?_) fun _ _ e => e)
  obtain ⟨v, rfl, hq⟩ := z
  exact wpAny_pure hq
end
section
variable {X : Cx} {k : Nat} {C f : Addr} {fd : FuncData} {ps : List Str} {sp : Sp}
/-- x == y, x != y of two instances: what the text's own == promises -/
def rEqO (C : Addr) (sp : Sp) : R2 := fun x y H Q => ∃ a b dx dy fs gs, x = .ref a ∧ y = .ref b ∧ H a = some (.ins C dx fs) ∧ H b = some (.ins C dy gs) ∧ sp [.ref a, .ref b] H (fun v H1 => ∃ c, v = .bl c ∧ Q (.bl c) H1) (fun _ _ _ => False)
def rNeO (C : Addr) (sp : Sp) : R2 := fun x y H Q => ∃ a b dx dy fs gs, x = .ref a ∧ y = .ref b ∧ H a = some (.ins C dx fs) ∧ H b = some (.ins C dy gs) ∧ sp [.ref a, .ref b] H (fun v H1 => ∃ c, v = .bl c ∧ Q (.bl (!c)) H1) (fun _ _ _ => False)
theorem op_eqO (F : FnOk X.prog X.w X.K X.mg X.base CX0 k f fd ps sp) (hr : Room k X.A) (hs : PySem.W.findIn X.K (.ref C) "__eq__" = some (some (.ref f))) (hf : PySem.W.isFn X.K (.ref f) = true) (hb : Binds X.K fd ps []) : OpR X (compareOp .Eq) (rEqO C sp) := by
  intro pins s σ H x y v u Q I rx ry h
  obtain ⟨a, b, dx, dy, fs, gs, rfl, rfl, ha, hb', q⟩ := h
  cases rx
  cases ry
  obtain ⟨mA, J, _⟩ := ins_get I.hok ha
  obtain ⟨mB, J', _⟩ := ins_get I.hok hb'
  obtain ⟨od, J, _⟩ := J.look
  obtain ⟨od', J', _⟩ := J'.look
  obtain ⟨m, hF⟩ := I.fr
  have hl := F.len _ _ _ _ q
  have r2 : Vals [V.ref a, V.ref b] [Value.ref a, Value.ref b] := .cons rfl (.cons rfl .nil)
  show wpAny (model X.prog X.w) X.A (richCompare .Eq (.ref a) (.ref b)) (EP X pins σ Q) X.xe s
  refine PySem.W.cmp_K (op := .Eq) (tb := .ref C) hr.units0 hF I.ok.mod.kin J J'.type (by simp [PySem.W.notFirst]) hs hf ?_
  refine wpAny_call (codeAny_mono (F.run X.A X.stack s H ⟨[.ref a, .ref b], []⟩ [.ref a, .ref b] [.ref a, .ref b] _ _ hr I.env0 (by
    have := hb s [.ref a, .ref b] I.kIn (by simpa using hl)
    simpa using this) r2 q) fun o s' hq => ?_)
  match o, hq with
  | .error u, hq => exact hq.elim
  | .ok (.ret u), hq =>
    obtain ⟨v, H1, I1, rv, c, rfl, q'⟩ := I.after hq
    obtain rfl : u = Value.bool c := rv
    exact ⟨.bl c, H1, I1, rfl, q'⟩
  | .ok .next, hq => exact hq.elim
  | .ok .brk, hq => exact hq.elim
  | .ok .cont, hq => exact hq.elim
theorem op_neO (F : FnOk X.prog X.w X.K X.mg X.base CX0 k f fd ps sp) (hr : Room (k + 1) X.A) (hm : PySem.W.mroIn X.K C (.type "object") = some true) (hne : PySem.W.findIn X.K (.ref C) "__ne__" = some (some (.builtin "object.__ne__")))
    (hs : PySem.W.findIn X.K (.ref C) "__eq__" = some (some (.ref f))) (hf : PySem.W.isFn X.K (.ref f) = true) (hb : Binds X.K fd ps []) : OpR X (compareOp .NotEq) (rNeO C sp) := by
  intro pins s σ H x y v u Q I rx ry h
  obtain ⟨a, b, dx, dy, fs, gs, rfl, rfl, ha, hb', q⟩ := h
  cases rx
  cases ry
  obtain ⟨mA, J, _⟩ := ins_get I.hok ha
  obtain ⟨mB, J', _⟩ := ins_get I.hok hb'
  obtain ⟨od, J, _⟩ := J.look
  obtain ⟨od', J', _⟩ := J'.look
  have hl := F.len _ _ _ _ q
  have r2 : Vals [V.ref a, V.ref b] [Value.ref a, Value.ref b] := .cons rfl (.cons rfl .nil)
  show wpAny (model X.prog X.w) X.A (richCompare .NotEq (.ref a) (.ref b)) (EP X pins σ Q) X.xe s
  refine ne_own hr.in1.units0 hr.units0 I.kIn J J'.type hm hne hs hf ?_
  refine wpAny_call (codeAny_mono (F.run X.A.in1 X.stack s H ⟨[.ref a, .ref b], []⟩ [.ref a, .ref b] [.ref a, .ref b] _ _ hr.in1 I.env0.in1 (by
    have := hb s [.ref a, .ref b] I.kIn (by simpa using hl)
    simpa using this) r2 q) fun o s' hq => ?_)
  match o, hq with
  | .error u, hq => exact hq.elim
  | .ok (.ret u), hq =>
    obtain ⟨v, H1, I1, rv, c, rfl, q'⟩ := I.after hq
    obtain rfl : u = Value.bool c := rv
    exact ⟨c, rfl, .bl (!c), H1, I1, rfl, q'⟩
  | .ok .next, hq => exact hq.elim
  | .ok .brk, hq => exact hq.elim
  | .ok .cont, hq => exact hq.elim
/-- a value that is equal to itself at sight -/
def sameV : V → Bool
  | .non | .bl _ | .int _ | .str _ | .ref _ => true
  | _ => false
/-- xs != ys of two lists with the very same items -/
def rNeS (K : PySem.W.Frag) : R2 := fun x y H Q => ∃ a b xs, x = .ref a ∧ y = .ref b ∧ SqL K H a xs ∧ SqL K H b xs ∧ xs.all sameV = true ∧ Q (.bl false) H
theorem op_neS (hu : X.A.units + 64 < cLine) : OpR X (compareOp .NotEq) (rNeS X.K) := by
  intro pins s σ H x y v u Q I rx ry h
  obtain ⟨a, b, xs, rfl, rfl, ha, hb, hx, q⟩ := h
  cases rx
  cases ry
  obtain ⟨its, rv, ⟨⟨cls, dd, data, sl⟩, n, ho, hc, hd, hdat⟩, hz⟩ := I.list ha
  obtain ⟨its2, rv2, ⟨⟨cls2, dd2, data2, sl2⟩, n2, ho2, hc2, hd2, hdat2⟩, hz2⟩ := I.list hb
  simp only at hc hd hdat hc2 hd2 hdat2
  subst hc hdat hc2 hdat2
  show wpAny (model X.prog X.w) X.A (richCompare .NotEq (.ref a) (.ref b)) (EP X pins σ Q) X.xe s
  have hsz : its.toArray.size = its2.toArray.size := by rw [List.size_toArray, List.size_toArray, ← rv.length, ← rv2.length]
  refine wpAny_richCompare_same_room (op := .NotEq) ⟨_, ho, rfl⟩ ⟨_, ho2, rfl⟩ F.slot_list_ne (GQ.call_here F.slot_list_ne ⟨_, ho, rfl⟩ F.entry_list_ne (F.args_list_ne_2 _ _) ?_) (by omega)
  refine PySem.SeqAt.list_neAt a b its.toArray its2.toArray n n2 dd dd2 sl sl2 hsz (fun _ => true) X.prog X.w X.A _ s ⟨ho, ho2, fun j h1 h2 => ?_, ?_⟩
  · have k1 : j < its.length := by simpa using h1
    have k2 : j < its2.length := by simpa using h2
    have kx : j < xs.length := by rw [rv.length]; exact k1
    obtain ⟨u1, e1, r1⟩ := rv.get (List.getElem?_eq_getElem kx)
    obtain ⟨u2, e2, r2⟩ := rv2.get (List.getElem?_eq_getElem kx)
    have g1 : its.toArray[j] = u1 := by
      rw [List.getElem?_eq_getElem k1] at e1
      simpa using Option.some.inj e1
    have g2 : its2.toArray[j] = u2 := by
      rw [List.getElem?_eq_getElem k2] at e2
      simpa using Option.some.inj e2
    rw [g1, g2]
    have hxj := List.all_eq_true.mp hx _ (List.getElem_mem kx)
    generalize xs[j] = z at r1 r2 hxj
    have flat : flatV z = true → eqV z z = true → SeqAt.EqAt X.A.in1 s u1 u2 true := fun f e => by
      have := eqAt_V (A := X.A.in1) (s := s) r1 r2 f f
      rw [e] at this
      exact this
    cases z with
    | non => exact flat rfl rfl
    | bl b => exact flat rfl (by cases b <;> rfl)
    | int i => exact flat rfl (beq_self_eq_true _)
    | str x => exact flat rfl (beq_self_eq_true _)
    | ref p =>
      cases r1
      cases r2
      exact SeqAt.EqAt.same (A := X.A.in1) (s := s) (.ref p)
    | _ => cases hxj
  · have e : (!(List.range its.toArray.size).all fun _ => true) = false := by
      rw [List.all_eq_true.mpr fun _ _ => rfl]; rfl
    rw [e]
    exact ⟨(fun z => nomatch z), .bl false, H, I, rfl, q⟩
end
section
variable {X : Cx} {CX : CXT} {k : Nat} {f C : Addr} {fd : FuncData} {ps : List Str} {sp : Sp} {E : L2.St → XK} {m : Str} {pos apos : Pos} {e o : Expr} {es : List Expr} {ta : TE} {t : TA}
/-- o.m(e, ..) in a try: what it raises is taken with the slots as they are -/
def tMethS (C : Addr) (m : Str) (sp : Sp) (E : L2.St → XK) (ta : TE) (t : TA) : TE := fun σ H Q => ta σ H fun x H1 => ∃ (a dx : Addr) (fs : List (Str × V)), x = .ref a ∧ H1 a = some (.ins C dx fs) ∧ fs.lookup m = none ∧ t σ H1 fun vs H2 => sp (.ref a :: vs) H2 Q (E σ)
theorem pe_methS {pl : Sem Bool} (he : PE X o ta) (c : Cls X.K C) (hm : Meth X.K C m f) (F : FnOk X.prog X.w X.K X.mg X.base CX k f fd ps sp) (hr : Room k X.A) (hb : Binds X.K fd ps []) (hx : ∀ σ, PassesAt CX X σ (E σ)) (ha : PA X (e :: es) t)
    (hst : starEach (e :: es) X.env = (false, eval e X.env) :: starEach es X.env := by rfl) (hpl : (backTo pos (starEach es X.env)).any (·.1) = false := by rfl)
    (ht : eval (.Call (.Attribute o m apos) (e :: es) [] pos) X.env = (do
      let ov ← eval o X.env
      standAt apos.atName
      let (f, first) ← holding [ov] (getMethod ov m pl)
      callWith pos f first (backTo pos (starEach (e :: es) X.env)) (backToKw pos (keywordEach [] X.env))) := by rfl) :
    PE X (.Call (.Attribute o m apos) (e :: es) [] pos) (tMethS C m sp E ta t) := by
  refine ⟨fun pins s σ H Q I h => ?_⟩
  refine PySem.W.methodCall_KW (pl := pl) (thn (he.run pins s σ H _ I h) fun u s1 ⟨x, H1, I1, rx, a, dx, fs, ex, ea, l, q⟩ => ?_) ht
  subst ex
  obtain rfl : u = Value.ref a := rx
  refine getmeth_ok I1 ea c hm l ?_
  refine PySem.W.callWith_K (first := [.ref a]) (h₀ := X.base) I.ok.mod.kin hm.kp (thn (ha.run pos pins s1 σ H1 _ I1 q) fun us s2 ⟨vs, H2, I2, r, q2⟩ => ⟨I2.kIn, ?_⟩) hst hpl
  exact run_fnS (us := .ref a :: us) (vs := .ref a :: vs) F hr hb (hx σ) I2 (.cons rfl r) q2
end
section
variable {X : Cx}
theorem flat_intsT (ns : List Int) : (ns.map V.int).all flatV = true := by
  rw [List.all_map]
  exact List.all_eq_true.mpr fun _ _ => rfl
/-- t.index(i), t a tuple of whole numbers: the first place -/
def rIndexT (K : PySem.W.Frag) : V → List V → Hp → VK → Prop := fun x xs H Q => ∃ (p : Addr) (ns : List Int) (i : Int) (j : Nat), x = .ref p ∧ xs = [.int i] ∧ SqT K H p (ns.map V.int) ∧ ns[j]? = some i ∧ (∀ m, m < j → ns[m]? ≠ some i) ∧ Q (.int (j : Nat)) H
theorem mt_tidx {K : PySem.W.Frag} (hK : X.K = K) : MtR X "tuple.index" (rIndexT K) := by
  subst hK
  intro pins s σ H x xs v us Q I rx rs h
  obtain ⟨p, ys, z, j, rfl, rfl, hq, hy, hno, q⟩ := h
  cases rx
  obtain ⟨u, rfl, t, rfl⟩ := vals1 rs
  obtain ⟨its, r, pl, hz⟩ := I.tuple hq
  obtain ⟨⟨cls, dd, dt, sl⟩, ho, hc, n, hd⟩ := pl
  simp only at hc hd
  subst hc
  subst hd
  have hl : its.toArray.size = ys.length := by rw [List.size_toArray, ← r.length, List.length_map]
  have hj : j < its.toArray.size := by rw [hl]; exact (List.getElem?_eq_some_iff.mp hy).1
  have at' : ∀ (m : Nat) (hm : m < its.toArray.size), ∃ y t', ys[m]? = some y ∧ its.toArray[m] = Value.int y t' := fun m hm => by
    have hm' : m < ys.length := by rw [← hl]; exact hm
    obtain ⟨w, hw, t', hw'⟩ := r.get (i := m) (x := .int ys[m]) (by simp [hm'])
    refine ⟨ys[m], t', List.getElem?_eq_getElem hm', ?_⟩
    have e := (List.getElem?_eq_some_iff.mp hw).2
    rw [← hw', ← e]
    simp
  refine call_meets PySem.F.slot_tuple_index ⟨_, ho, rfl⟩ PySem.F.entry_tuple_index (PySem.F.args_tuple_index_2 _ _) (TI.tuple_indexAt p its.toArray n dd sl (.int z t) (eqU (.int z)) j hj ?_ ?_)
    ⟨ho, fun w hw => mem_eqAt (x := .int z) ⟨t, rfl⟩ rfl r (flat_intsT ys) w (by simpa using hw), ⟨.int (j : Nat), H, I.tok _, ⟨_, rfl⟩, q⟩⟩
  · obtain ⟨y, t', h1, h2⟩ := at' j hj
    rw [hy] at h1
    cases h1
    rw [h2]
    show (z == z) = true
    exact beq_self_eq_true z
  · intro m hm hmj
    obtain ⟨y, t', h1, h2⟩ := at' m hm
    rw [h2]
    show (y == z) = false
    exact beq_eq_false_iff_ne.mpr fun e => hno m hmj (e ▸ h1)
end
/-! ### a tuple whose object is known: it has no attributes of its own -/
def TupF (H : Hp) (a : Addr) (xs : List V) : Prop := ∃ ob : Obj, H a = some (.frz ob (.tup xs)) ∧ ob.dict = none
theorem TupF.sq {K : PySem.W.Frag} {H : Hp} {a : Addr} {xs : List V} (h : TupF H a xs) : SqT K H a xs := let ⟨ob, e, _⟩ := h; .inl (.inr ⟨ob, e⟩)
theorem TupF.ext {H J : Hp} {a : Addr} {xs : List V} (s : ∀ b o, H b = some o → J b = some o) (h : TupF H a xs) : TupF J a xs := let ⟨ob, e, n⟩ := h; ⟨ob, s _ _ e, n⟩
section
variable {X : Cx} {o e : Expr} {es : List Expr} {to : TE} {t : TA} {name : Str} {apos cpos : Pos} {id : String} {r : V → List V → Hp → VK → Prop}
theorem call_tuple_F {K : PySem.W.Frag} (hK : X.K = K) : CallR X (.type "tuple") (fun xs H Q => ∃ p ys, xs = [.ref p] ∧ SqL K H p ys ∧ ∀ (l : Addr) (ob : Obj), H l = none → ob.dict = none → Q (.ref l) (upd H l (.frz ob (.tup ys)))) := by
  subst hK
  intro pins s σ H xs us Q I r h
  obtain ⟨p, ys, rfl, hq, q⟩ := h
  obtain ⟨u, rfl, rx⟩ := vals1 r
  cases rx
  obtain ⟨its, r', pl, hz⟩ := I.list hq
  have hlen := r'.length
  refine call_tuple_list pl.isList (fun h' kp => ?_) (by simp only [List.size_toArray] <;> omega)
  have I1 : Inv X pins σ H { s with heap := h' } := I.kept (t' := s.toks) kp
  have I2 : Inv X pins σ (upd H h'.objs.size (.frz { cls := .type "tuple", data := .seq its.toArray } (.tup ys))) { s with heap := h'.push { cls := .type "tuple", data := .seq its.toArray } } :=
    I1.laid (t' := s.toks) (fun b o e => Heap.get?_push_of_some _ e) (Nat.le_refl _) (show ObjOk X.prog X.w _ _ _ (.frz _ (.tup ys)) from ⟨Heap.get?_push_size _ rfl, hz, its, r', IsTup.new _ _⟩)
  exact ⟨.ref h'.objs.size, _, I2, rfl, q _ _ (I1.hok.fresh (Nat.le_refl _)) rfl⟩
def tBT (r : V → List V → Hp → VK → Prop) (to : TE) (t : TA) : TE := fun σ H Q => to σ H fun x H1 => (∃ p xs, x = .ref p ∧ TupF H1 p xs) ∧ t σ H1 fun vs H2 => r x vs H2 Q
theorem pe_bmT (pa : PlainAttrs "tuple") (slot : Slot "tuple" name id) (hty : typeOf (.builtin id) = pure (.type "method_descriptor")) (hm : MtR X id r) (ho : PE X o to) (ha : PA X (e :: es) t)
    (hbase : attributeBase o name X.env (eval o X.env) = eval o X.env := by rfl)
    (hfew : ((backTo cpos (starEach (e :: es) X.env)).all (fun x => !x.1) && (backToKw cpos (keywordEach [] X.env)).all (fun x => x.1.isSome)
      && decide ((e :: es).length + ([] : List Keyword).length + (if ([] : List Keyword).isEmpty then 0 else 1) < 30)) = true := by rfl)
    (hline : (apos.endLine == cpos.line) = true := by rfl) (hs : starEach (e :: es) X.env = (false, eval e X.env) :: starEach es X.env := by rfl) (hplain : (backTo cpos (starEach es X.env)).any (·.1) = false := by rfl) :
    PE X (.Call (.Attribute o name apos) (e :: es) [] cpos) (tBT r to t) := by
  refine ⟨fun pins s σ H Q I h => ?_⟩
  refine wpAny_Call_method_late hbase hfew hline rfl (thn (ho.run pins s σ H _ I h) fun v s1 ⟨x, H1, I1, r1, ⟨p, xs, ex, ob, hF, hd⟩, q1⟩ => ?_)
  subst ex
  cases r1
  obtain ⟨e1, _, its, _, o', e2, hc, _⟩ := (show ObjOk X.prog X.w H1 s1.heap p (.frz ob (.tup xs)) from I1.hok p _ hF)
  rw [e1] at e2
  cases e2
  refine ⟨"tuple", id, pa, slot, hty, ⟨ob, e1, hc⟩, fun a ea => ?_, ?_⟩
  · cases ea
    exact ⟨ob, e1, hd⟩
  have hA := ha.run cpos pins s1 σ H1 _ I1 q1
  rw [hs] at hA ⊢
  refine Calls.callWith_builtin (by show (false || (backTo cpos (starEach es X.env)).any (·.1)) = false; rw [hplain] <;> rfl) (Calls.evalArgs_plain ?_)
  exact thn hA fun us s2 ⟨vs, H2, I2, r2, q2⟩ => hm pins s2 σ H2 (.ref p) vs _ us Q I2 rfl r2 q2
end
end KX

set_option Elab.async false
set_option linter.all false
set_option maxRecDepth 100000
set_option maxHeartbeats 4000000
/-! Own layer: set(a tuple of whole numbers), with how many it holds. -/
namespace KX
open PySem PySem.Spec PyProof.Rows L2
section
variable {X : Cx}
def rSetT (K : PySem.W.Frag) (w : World) : List V → Hp → VK → Prop := fun xs H Q => ∃ (l : Addr) (ns : List Int), xs = [.ref l] ∧ SqT K H l (ns.map V.int) ∧ ns.length ≤ 4000 ∧
  ∀ p c, H p = none → (∀ L : List Int, (∀ k, k ∈ ns → k ∈ L) → c ≤ L.length) → (∀ L : List Int, L.Nodup → (∀ k, k ∈ L → k ∈ ns) → L.length ≤ c) → Q (.ref p) (upd H p (SetO w p (fun j => decide (j ∈ ns)) c))
theorem ct_setT (hc : X.calm = true) {K : PySem.W.Frag} (hK : X.K = K) {w : World} (hw : X.w = w) : CallR X (.type "set") (rSetT K w) := by
  subst hK; subst hw
  intro pins s σ H xs us Q I r h
  obtain ⟨l, ns, rfl, hS, hn, q⟩ := h
  obtain ⟨u, rfl, rx⟩ := vals1 r
  cases rx
  obtain ⟨its, rv, pt, hz⟩ := I.tuple hS
  refine call_set_tupI ns (I.ok.hd hc) (show s.heap.IsTuple l its.toArray from pt) (by simpa using ints_of_vals rv) (by unfold scanBound; omega) fun h' tk c R hc' k => ?_
  exact ⟨.ref s.heap.objs.size, _, I.laid (t' := tk) k (Nat.le_refl _) (setO_new R), rfl, q _ c (I.hok.fresh (Nat.le_refl _)) (fun L hL => SetR_le R fun k hk => hL k (of_decide_eq_true hk)) fun L nd hL => SetR_ge R nd fun k hk => decide_eq_true (hL k hk)⟩
end
end KX

set_option Elab.async false
set_option linter.all false
set_option maxRecDepth 100000
set_option maxHeartbeats 4000000
set_option pp.maxSteps 400
namespace L
open PySem L2 KX
abbrev sTo : Stmt := inClass (top 17) 11
abbrev sRen : Stmt := inClass (top 17) 10
abbrev sSub : Stmt := inClass (top 17) 9
abbrev nTo : List Str := ["self", "originals", "a", "b"]
def scToO : Scope := { kind := .function, names := [(Str.ofString ".0", .local), (Str.ofString "a", .cell), (Str.ofString "originals", .cell), (Str.ofString "self", .cell)], isGenerator := false, isCoroutine := false }
/-! a closed part of the elements -/
structure Cl (tb : List (List Int)) (o : List Nat) : Prop where
  le : 1 ≤ o.length
  nd : o.Nodup
  lt : ∀ x, x ∈ o → x < tb.length
  cl : ∀ a b, a ∈ o → b ∈ o → (mu tb a b).toNat ∈ o
def sub (tb : List (List Int)) (o : List Nat) : List (List Int) := tab o.length (frn o fun a b => (mu tb a b).toNat)
theorem get_in {o : List Nat} {i : Nat} (h : i < o.length) : o.getD i 0 ∈ o := by
  rw [List.getD_eq_getElem?_getD, List.getElem?_eq_getElem h]; exact List.getElem_mem _
theorem idx_lt {o : List Nat} {x : Nat} (h : x ∈ o) : o.idxOf x < o.length := List.idxOf_lt_length_iff.mpr h
theorem idx_back {o : List Nat} {x : Nat} (h : x ∈ o) : o.getD (o.idxOf x) 0 = x := by
  rw [List.getD_eq_getElem?_getD, List.getElem?_eq_getElem (idx_lt h), Option.getD_some]; exact List.getElem_idxOf _
theorem Cl.asf {tb : List (List Int)} {o : List Nat} (TT : Tb tb) (c : Cl tb o) : Asf o.length (frn o fun a b => (mu tb a b).toNat) := by
  refine ⟨fun a b ha hb => idx_lt (c.cl _ _ (get_in ha) (get_in hb)), fun x y z hx hy hz => ?_⟩
  have h1 := c.cl _ _ (get_in hx) (get_in hy)
  have h2 := c.cl _ _ (get_in hy) (get_in hz)
  unfold frn plc
  rw [idx_back h1, idx_back h2]
  dsimp only
  rw [mu_as TT (c.lt _ (get_in hx)) (c.lt _ (get_in hy)) (c.lt _ (get_in hz))]
theorem Cl.n16 {tb : List (List Int)} {o : List Nat} (TT : Tb tb) (c : Cl tb o) : o.length ≤ 16 := Nat.le_trans (nd_le c.nd c.lt) TT.sq.ge
theorem sub_tb {tb : List (List Int)} {o : List Nat} (TT : Tb tb) (c : Cl tb o) : Tb (sub tb o) := tab_tb c.le (c.n16 TT) (c.asf TT)
theorem sub_len (tb : List (List Int)) (o : List Nat) : (sub tb o).length = o.length := tab_len _ _
theorem sub_mu {tb : List (List Int)} {o : List Nat} {i j : Nat} (hi : i < o.length) (hj : j < o.length) : mu (sub tb o) i j = ((o.idxOf (mu tb (o.getD i 0) (o.getD j 0)).toNat : Nat) : Int) := tab_mu hi hj
theorem cl_perm {tb : List (List Int)} {o : List Nat} (S : Sqr tb) (pm : o.Perm (List.range tb.length)) : Cl tb o where
  le := by rw [pm.length_eq, List.length_range]; exact S.le
  nd := pm.symm.nodup List.nodup_range
  lt x h := List.mem_range.mp (pm.mem_iff.mp h)
  cl a b ha hb := pm.mem_iff.mpr (List.mem_range.mpr (mu_lt S (List.mem_range.mp (pm.mem_iff.mp ha)) (List.mem_range.mp (pm.mem_iff.mp hb))))
def spTo (K : PySem.W.Frag) (C : Addr) : Sp := fun vs H Q _ => ∃ (p l : Addr) (tb : List (List Int)) (o : List Nat), vs = [.ref p, .ref l] ∧ TbA K C H p tb ∧ Tb tb ∧ SqL K H l (nv o) ∧ Cl tb o ∧
  ∀ x H', H x = none → TbA K C H' x (sub tb o) → Same H H' → Q (.ref x) H'
def spRen (K : PySem.W.Frag) (C : Addr) : Sp := fun vs H Q _ => ∃ (p l : Addr) (tb : List (List Int)) (o : List Nat), vs = [.ref p, .ref l] ∧ TbA K C H p tb ∧ Tb tb ∧ SqL K H l (nv o) ∧ o.Perm (List.range tb.length) ∧
  ∀ x H', H x = none → TbA K C H' x (sub tb o) → Same H H' → Q (.ref x) H'
def spSub (K : PySem.W.Frag) (C : Addr) : Sp := fun vs H Q _ => ∃ (p l : Addr) (tb : List (List Int)) (ws : List Nat), vs = [.ref p, .ref l] ∧ TbA K C H p tb ∧ Tb tb ∧ SqL K H l (nv ws) ∧ (∀ x, x ∈ ws → x < tb.length) ∧ 1 ≤ ws.length ∧ ws.length ≤ 63 ∧
  ∀ t x D H' o, H t = none → H' t = some (.tup [.ref x, .ref D]) → TbA K C H' x (sub tb o) → H' D = some (.lst (nv o)) → Cl tb o → (∀ y, y ∈ ws → y ∈ o) → Same H H' → Q (.ref t) H'
section
variable {P : Program} {w : World} {K : PySem.W.Frag} {mg : Str → Option Value} {base : Heap} {f g gn fl g1 g2 fI fE : Addr} {fd gd gnd dl d1 d2 dI dE : FuncData} {C CO : Addr}
theorem scTo : FnScope nTo ["self", "originals"] (defScope sTo) := ⟨rfl, rfl, rfl, by decide +kernel, rfl, by decide +kernel, by decide +kernel⟩
theorem ok_to (F : Fun K "_table_of" "ProductTable._table_of" sTo f fd) (M : Mn mg) (T : CTx K mg C)
    (MI : Mk K C fI) (GI : FnOk P w K mg base CX0 5 fI dI ["self", "rows"] (spInit K C)) (bI : Binds K dI ["self", "rows"] []) :
    FnOk P w K mg base CX0 7 f fd ["self", "originals"] (spTo K C) := by
  refine F.ok scTo (fun vs H Q E h => ?_) (fun cdv A outer s H vs Q E hr h => ?_)
  · obtain ⟨p, l, tb, o, rfl, _⟩ := h
    rfl
  obtain ⟨p, l, tb, o, rfl, ht, TT, el, c, q⟩ := h
  refine ⟨_, pss_one (ps_ret (pe_make MI GI hr (by rfl) T.mgC bI .nil pass0 (pa_cons (pe_lc (own := [("a", 2)]) (g := gName 2) (tt := tYes) rfl scTo.nd (pi_list (pv 1))
        (blkOk_by (N := nTo) (sc := defScope sTo) (by decide +kernel)) (fun _ _ _ _ _ => pg_name (i := 2) scTo.nd rfl (Or.inr rfl)) (fun _ _ _ _ _ => pts_nil)
        (fun _ _ _ _ _ => pe_lc (own := [("b", 3)]) (g := gName 3) (tt := tYes) rfl scTo.nd (pil (K := K) rfl (pv 1))
          (blkOk_by (N := nTo) (sc := scToO) (by decide +kernel)) (fun _ _ _ _ _ => pg_name (i := 3) scTo.nd rfl (Or.inl rfl)) (fun _ _ _ _ _ => pts_nil)
          (fun _ _ _ _ _ => pe_bK (K := K) rfl (pe_bm PySem.F.plainAttrs_list PySem.F.slot_list_index PySem.F.type_list_index (mt_idx1 (K := K) rfl) (pv 1)
            (pa_cons (pe_ix (ixt (K := K) rfl) (pe_ix (ixt (K := K) rfl) (fldK (K := K) rfl (pv 0) rfl) (pv 2) (fun _ _ => rfl)) (pv 3) (fun _ _ => rfl)) pa_nil))))) pa_nil))), ?_⟩
  have S := TT.sq
  have n16 := c.n16 TT
  obtain ⟨dx, t, rs, hp, htt, pr⟩ := ht.ob
  refine ⟨_, rfl, l, rfl, ⟨_, el⟩, fun D hD => ?_⟩
  refine lc_it (walk_list (xs := nv o)) (fun i G => Part H G D (rowsTo o.length (frn o fun a b => (mu tb a b).toNat) i)) (Part.start (Same.refl H) hD) (fun i G _ z => z.same.seq el) ?_ ?_
  · rintro i x G1 G2 hi pa ⟨rfl, hx⟩
    rw [nv_len] at hi
    obtain ⟨ai, hai, rfl⟩ := nv_at hx
    have ao : ai ∈ o := List.mem_of_getElem? hai
    have an : ai < tb.length := c.lt ai ao
    refine ⟨rfl, _, rfl, l, rfl, ⟨_, pa.same.seq el⟩, fun D5 hD5 => ?_⟩
    refine lc_it (walk_list (xs := nv o)) (fun j G => Same G2 G ∧ G D5 = some (.lst ((rowTo (frn o fun a b => (mu tb a b).toNat) i j).map V.int))) ⟨Same.new hD5 _, upd_same⟩ (fun j G _ z => (pa.same.trans z.1).seq el) ?_ ?_
    · rintro j y G3 G4' hj ⟨sG, e5⟩ ⟨rfl, hy⟩
      rw [nv_len] at hj
      obtain ⟨bj, hbj, rfl⟩ := nv_at hy
      have bo : bj ∈ o := List.mem_of_getElem? hbj
      have bn : bj < tb.length := c.lt bj bo
      obtain ⟨r, h1, h2, h3⟩ := row_at pr S an
      have ee := S.el ai bj an bn
      have gt : o.idxOf (mu tb ai bj).toNat < o.length := idx_lt (c.cl ai bj ao bo)
      have sH := pa.same.trans sG
      refine ⟨rfl, _, rfl, Or.inl ⟨rfl, _, sH.seq el⟩, _, rfl, p, C, dx, _, _, rfl, sH _ _ hp, T.cl, T.nR, rfl, _, rfl, t, rs, _, _, rfl, rfl, Same.tup sH htt, at_of (j := ai) rfl h1, _, rfl, r, _, _, _, rfl, rfl, Same.tup sH h2, at_of (j := bj) rfl (h3 bj bn), ?_⟩
      have em : mu tb ai bj = (((mu tb ai bj).toNat : Nat) : Int) := by omega
      rw [em]
      refine ⟨l, nv o, .int (((mu tb ai bj).toNat : Nat) : Int), o.idxOf (mu tb ai bj).toNat, .int (((mu tb ai bj).toNat : Nat) : Int), rfl, rfl, sH.seq el, rfl, ?_, ?_, beq_self_eq_true _, fun m z' hm hz' => ?_, _, e5, by rw [rowTo_len]; exact small1000 (by omega), fun c ob ec => by rw [upd_ne (ne_of_none ec hD5)]; exact sG c ob ec, ?_⟩
      · unfold nv; rw [List.all_map]; exact List.all_eq_true.mpr fun _ _ => rfl
      · unfold nv; rw [List.getElem?_map, List.getElem?_eq_getElem gt, List.getElem_idxOf gt]; rfl
      · obtain ⟨w, hw, rfl⟩ := nv_at hz'
        have ne := idx_ahead1 hm hw
        exact beq_eq_false_iff_ne.mpr (by omega)
      · rw [upd_same, rowTo_next, List.map_append]
        refine congrArg (fun z => some (HO.lst (_ ++ [V.int z]))) ?_
        show ((o.idxOf (mu tb ai bj).toNat : Nat) : Int) = ((frn o (fun a b => (mu tb a b).toNat) i j : Nat) : Int)
        unfold frn plc
        rw [List.getD_eq_getElem?_getD, hai, List.getD_eq_getElem?_getD, hbj]; rfl
    · rintro G3 ⟨sG, e5⟩
      rw [nv_len] at e5
      obtain ⟨acc, ea, lacc, p1⟩ := pa.add sG hD5 e5
      refine ⟨acc, ea, by rw [lacc, rowsTo_len]; exact small1000 (by omega), ?_⟩
      rw [rowsTo_next]
      exact p1
  rintro G1 pa
  rw [nv_len] at pa
  have pa' : Part H G1 D (sub tb o) := pa
  have TR := sub_tb TT c
  refine fun y dy hy hdy ney => ?_
  have sn : Same G1 (upd (upd G1 dy (.own y)) y (.ins C dy [])) := fun b o e => by rw [upd_ne (ne_of_none e hy), upd_ne (ne_of_none e hdy)]; exact e
  have RC : RowsL G1 (.ref D) (sub tb o) := pa'.fin.same nw_same
  have nD1 : ∀ b, V.ref D = .ref b → b ≠ y := fun b e => by
    obtain ⟨_, _, e', ed, _⟩ := id RC
    cases e'
    cases e
    exact ne_of_none ed hy
  refine ⟨y, dy, .ref D, sub tb o, rfl, upd_same, (RC.same sn).rws, TR.sq, TR.as, nD1, fun J5 tc kc => ⟨rfl, ?_⟩⟩
  have s45 : Same G1 J5 := fun b o e => kc b o (ne_of_none e hy) (sn b o e)
  exact q y J5 (pa'.same.free hy) tc (pa'.same.trans s45)
theorem scRen : FnScope ["self", "order", "size"] ["self", "order"] (defScope sRen) := ⟨rfl, rfl, rfl, by decide +kernel, rfl, by decide +kernel, by decide +kernel⟩
theorem ok_ren (F : Fun K "renumbered" "ProductTable.renumbered" sRen f fd) (M : Mn mg) (T : CTx K mg C) (mS : mg "set" = none)
    (G1 : FnOk P w K mg base CX0 3 g1 d1 ["value", "least", "most", "limit"] (spNumList K)) (b1 : Binds K d1 ["value", "least", "most", "limit"] []) (k1 : PySem.W.keepIn K (.ref g1) = true) (m1 : mg "is_number_list" = some (.ref g1))
    (G2 : FnOk P w K mg base CX0 7 g2 d2 ["self", "originals"] (spTo K C)) (b2 : Binds K d2 ["self", "originals"] []) (h2 : Meth K C "_table_of" g2) :
    FnOk P w K mg base CX0 8 f fd ["self", "order"] (spRen K C) := by
  refine F.ok scRen (fun vs H Q E h => ?_) (fun cdv A outer s H vs Q E hr h => ?_)
  · obtain ⟨p, l, tb, o, rfl, _⟩ := h
    rfl
  obtain ⟨p, l, tb, o, rfl, ht, TT, hl, pm, q⟩ := h
  have hr3 : Room 3 _ := hr.mono (by decide)
  have S := TT.sq
  have n16 := S.ge
  obtain ⟨dx, t, rs, hp, htt, pr⟩ := ht.ob
  have lt : ∀ x, x ∈ o → x < tb.length := (cl_perm S pm).lt
  have lo : o.length = tb.length := by rw [pm.length_eq, List.length_range]
  have numb : (nv o).all (nb (tb.length : Int)) = true := List.all_eq_true.mpr fun x hx => by
    obtain ⟨y, hy, rfl⟩ := List.mem_map.mp hx
    have := lt y hy
    show (decide ((0 : Int) ≤ (y : Int)) && decide ((y : Int) < (tb.length : Int))) = true
    rw [decide_eq_true (by omega), decide_eq_true (by omega)]; rfl
  have itm : ∀ x, x ∈ nv o → Itm K H x := fun x hx => by
    obtain ⟨y, _, rfl⟩ := List.mem_map.mp hx
    exact .inl ⟨_, rfl⟩
  refine ⟨_, pss_cons (ps_set (i := 2) scRen.nd rfl (Or.inl rfl) (pe_callB call_len_seq (by rfl) M.len PySem.boot_len (pa_cons (pe_fld (pv 0) rfl) pa_nil)))
    (pss_cons (ps_if (pt_mo (pw_or (pt_not (pt_val (pe_call G1 hr3 (by rfl) m1 k1 b1 .nil pass0 (pa_cons (pv 1) (pa_cons (pv 2) (pa_cons (pv 2) (pa_cons (pv 2) pa_nil)))))))
        (pw_or1 (pt_cmpR op_lt (pe_callB (call_lenSet (w := w) rfl) (by rfl) M.len PySem.boot_len (pa_cons (pe_callTy (T := "set") (ct_setN (K := K) (w := w) rfl rfl rfl) (by rfl) mS (by decide +kernel) (pa_cons (pv 1) pa_nil)) pa_nil)) (pv 2) (nomark _)))).pt)
      pss_dead pss_nil)
    (pss_one (ps_ret (pe_meth (pv 0) T.cl h2 G2 hr b2 .nil pass0 (pa_cons (pv 1) pa_nil))))), ?_⟩
  refine ⟨_, rfl, p, C, dx, _, _, rfl, hp, T.cl, T.nR, rfl, t, rs, rfl, .inr htt, ?_⟩
  rw [pr.length]
  refine ⟨fun b G => b = false ∧ Same H G, ?_, ?_⟩
  · refine ⟨_, rfl, _, rfl, _, rfl, _, rfl, .ref l, _, _, _, rfl, .inl ⟨nv o, ⟨l, rfl, .inl hl⟩, itm, by rw [nv_len]; omega, fun H1 s1 => ?_⟩⟩
    rw [nv_len, lo, decide_eq_true (Int.le_refl _), numb]
    refine ⟨true, rfl, iteF ⟨_, rfl, l, o.map fun x : Nat => (x : Int), rfl, by rw [← nv_ints]; exact s1.seq hl, by rw [List.length_map]; omega, fun p2 c hp2 _ hge => ⟨p2, _, c, rfl, upd_same, _, rfl, _, _, rfl, rfl, _, rfl, ?_, s1.trans (Same.new hp2 _)⟩⟩⟩
    have hc := hge (o.map fun x : Nat => (x : Int)) ?_ fun k hk => hk
    · rw [List.length_map, lo] at hc
      exact decide_eq_false (by omega)
    · exact List.pairwise_map.mpr ((cl_perm S pm).nd.imp fun ne e => ne (by omega))
  rintro _ G1 ⟨rfl, sG⟩
  exact iteF ⟨_, rfl, p, dx, _, rfl, sG _ _ hp, rfl, _, rfl, p, l, tb, o, rfl, ht.to sG, TT, sG.seq hl, cl_perm S pm, fun x H' nx tx sx => q x H' (sG.free nx) tx (sG.trans sx)⟩
theorem scSub : FnScope ["self", "generators", "originals"] ["self", "generators"] (defScope sSub) := ⟨rfl, rfl, rfl, by decide +kernel, rfl, by decide +kernel, by decide +kernel⟩
theorem ok_sub (F : Fun K "subtable" "ProductTable.subtable" sSub f fd) (M : Mn mg) (T : CTx K mg C)
    (G1 : FnOk P w K mg base CX0 5 g1 d1 ["self", "generators"] (spGen K C)) (b1 : Binds K d1 ["self", "generators"] []) (h1 : Meth K C "generated" g1)
    (G2 : FnOk P w K mg base CX0 7 g2 d2 ["self", "originals"] (spTo K C)) (b2 : Binds K d2 ["self", "originals"] []) (h2 : Meth K C "_table_of" g2) :
    FnOk P w K mg base CX0 8 f fd ["self", "generators"] (spSub K C) := by
  refine F.ok scSub (fun vs H Q E h => ?_) (fun cdv A outer s H vs Q E hr h => ?_)
  · obtain ⟨p, l, tb, o, rfl, _⟩ := h
    rfl
  obtain ⟨p, l, tb, ws, rfl, ht, TT, hl, hw, l1, l2, q⟩ := h
  have hr5 : Room 5 _ := hr.mono (by decide)
  obtain ⟨dx, t, rs, hp, htt, pr⟩ := ht.ob
  refine ⟨_, pss_cons (ps_set (i := 2) scSub.nd rfl (Or.inl rfl) (pe_meth (pv 0) T.cl h1 G1 hr5 b1 .nil pass0 (pa_cons (pv 1) pa_nil)))
    (pss_one (ps_ret (pe_tup (pa_cons (pe_meth (pv 0) T.cl h2 G2 hr b2 .nil pass0 (pa_cons (pv 2) pa_nil)) (pa_cons (pv 2) pa_nil))))), ?_⟩
  refine ⟨_, rfl, p, dx, _, rfl, hp, rfl, _, rfl, p, l, tb, ws, rfl, ht, TT, hl, hw, l1, l2, fun D H1 o s1 hD eD nd hin hlt hcl => ?_⟩
  have c : Cl tb o := ⟨by
    cases hws : ws with
    | nil => rw [hws] at l1; simp at l1
    | cons a r => exact List.length_pos_of_mem (hin a (by rw [hws]; exact List.mem_cons_self)), nd, hlt, hcl⟩
  refine ⟨_, rfl, p, dx, _, rfl, s1 _ _ hp, rfl, _, rfl, p, D, tb, o, rfl, ht.to s1, TT, SqL.of eD, c, fun x H2 nx tx s2 => ⟨_, rfl, szl _ (by simp), fun tt htt2 => ?_⟩⟩
  have s3 := Same.new htt2 (.tup [.ref x, .ref D])
  exact q tt x D _ o ((s1.trans s2).free htt2) upd_same (tx.to s3) (s3 _ _ (s2 _ _ eD)) c hin ((s1.trans s2).trans s3)
end
end L

set_option Elab.async false
set_option linter.all false
set_option maxRecDepth 100000
set_option maxHeartbeats 4000000
set_option pp.maxSteps 400
namespace L
open PySem L2 KX
/-! heights in a renumbered table or part, of a range, of the mirrored sequence -/
theorem getD_map {o ws : List Nat} {j : Nat} (h : j < ws.length) : (ws.map o.idxOf).getD j 0 = o.idxOf (ws.getD j 0) := by
  rw [List.getD_eq_getElem?_getD, List.getD_eq_getElem?_getD, List.getElem?_map, List.getElem?_eq_getElem h]; rfl
theorem pd_sub {tb : List (List Int)} {o ws : List Nat} (c : Cl tb o) (hw : ∀ x, x ∈ ws → x ∈ o) {i : Nat} : ∀ k, i + k < ws.length →
    pd tb ws i (i + k + 1) ∈ o ∧ pd (sub tb o) (ws.map o.idxOf) i (i + k + 1) = o.idxOf (pd tb ws i (i + k + 1))
  | 0, h => by
    show pd tb ws i (i + 1) ∈ o ∧ pd (sub tb o) (ws.map o.idxOf) i (i + 1) = o.idxOf (pd tb ws i (i + 1))
    rw [pd_one, pd_one, getD_map (show i < ws.length from h)]
    exact ⟨hw _ (get_in h), rfl⟩
  | k + 1, h => by
    obtain ⟨h1, h2⟩ := pd_sub c hw (i := i) k (by omega)
    have hj := hw _ (get_in (o := ws) (i := i + k + 1) h)
    have hk : i + k + 1 < ws.length := by omega
    rw [show i + (k + 1) + 1 = i + k + 1 + 1 by omega, pd_succ tb ws (show i < i + k + 1 by omega), pd_succ (sub tb o) _ (show i < i + k + 1 by omega), h2, getD_map hk, sub_mu (idx_lt h1) (idx_lt hj), idx_back h1, idx_back hj]
    exact ⟨c.cl _ _ h1 hj, by rw [Int.toNat_natCast]⟩
theorem pd_sub' {tb : List (List Int)} {o ws : List Nat} (c : Cl tb o) (hw : ∀ x, x ∈ ws → x ∈ o) {i j : Nat} (h : i < j) (hj : j ≤ ws.length) : pd tb ws i j ∈ o ∧ pd (sub tb o) (ws.map o.idxOf) i j = o.idxOf (pd tb ws i j) := by
  have := pd_sub c hw (i := i) (j - i - 1) (by omega)
  rw [show i + (j - i - 1) + 1 = j by omega] at this
  exact this
theorem al_sub {tb : List (List Int)} {o ws : List Nat} (c : Cl tb o) (hw : ∀ x, x ∈ ws → x ∈ o) : Alike (pd (sub tb o) (ws.map o.idxOf)) (pd tb ws) ws.length 0 := by
  intro i j a b h1 h2 h3 h4
  obtain ⟨m1, e1⟩ := pd_sub' c hw h1 h2
  obtain ⟨m2, e2⟩ := pd_sub' c hw h3 h4
  rw [e1, e2, Nat.add_zero, Nat.add_zero, Nat.add_zero, Nat.add_zero]
  constructor
  · intro e
    rw [← idx_back m1, ← idx_back m2, e]
  · exact fun e => by rw [e]
theorem hts_congr {p' p : Nat → Nat → Nat} {n s m : Nat} (al : Alike p' p n 0) : hts p' n n = hts p n n := by
  unfold hts
  refine List.map_congr_left fun i hi => ?_
  have hi := List.mem_range.mp hi
  unfold hrow
  refine List.map_congr_left fun k hk => ?_
  have hk := List.mem_range.mp hk
  have := hgt_congr al (i := i) (j := i + 1 + k) (by omega) (by omega)
  rw [this]; rfl
theorem hts_sub {tb : List (List Int)} {o ws : List Nat} (c : Cl tb o) (hw : ∀ x, x ∈ ws → x ∈ o) : hts (pd (sub tb o) (ws.map o.idxOf)) ws.length ws.length = hts (pd tb ws) ws.length ws.length := hts_congr (s := 0) (m := 0) (al_sub c hw)
theorem pd_part {tb : List (List Int)} {ws vs : List Nat} {s : Nat} (hv : ∀ k, k < vs.length → vs.getD k 0 = ws.getD (k + s) 0) {i : Nat} : ∀ k, i + k < vs.length → pd tb vs i (i + k + 1) = pd tb ws (i + s) (i + k + 1 + s)
  | 0, h => by
    show pd tb vs i (i + 1) = _
    rw [show i + 0 + 1 + s = i + s + 1 by omega, pd_one, pd_one, hv i h]
  | k + 1, h => by
    have ih := pd_part (tb := tb) hv (i := i) k (by omega)
    rw [show i + (k + 1) + 1 = i + k + 1 + 1 by omega, show i + k + 1 + 1 + s = i + k + 1 + s + 1 by omega, pd_succ tb vs (show i < i + k + 1 by omega), pd_succ tb ws (show i + s < i + k + 1 + s by omega), ih, hv (i + k + 1) (by omega)]
theorem pd_part' {tb : List (List Int)} {ws vs : List Nat} {s : Nat} (hv : ∀ k, k < vs.length → vs.getD k 0 = ws.getD (k + s) 0) {i j : Nat} (h : i < j) (hj : j ≤ vs.length) : pd tb vs i j = pd tb ws (i + s) (j + s) := by
  have := pd_part (tb := tb) hv (i := i) (j - i - 1) (by omega)
  rw [show i + (j - i - 1) + 1 = j by omega] at this
  exact this
theorem al_part {tb : List (List Int)} {ws vs : List Nat} {s : Nat} (hv : ∀ k, k < vs.length → vs.getD k 0 = ws.getD (k + s) 0) : Alike (pd tb vs) (pd tb ws) vs.length s := by
  intro i j a b h1 h2 h3 h4
  rw [pd_part' hv h1 h2, pd_part' hv h3 h4]
/-- the table, its products the other way round -/
def trn (tb : List (List Int)) : List (List Int) := tab tb.length fun a b => (mu tb b a).toNat
theorem trn_len (tb : List (List Int)) : (trn tb).length = tb.length := tab_len _ _
theorem trn_mu {tb : List (List Int)} (S : Sqr tb) {a b : Nat} (ha : a < tb.length) (hb : b < tb.length) : mu (trn tb) a b = mu tb b a := by
  unfold trn
  rw [tab_mu ha hb]
  have := S.el b a hb ha
  omega
theorem trn_tb {tb : List (List Int)} (TT : Tb tb) : Tb (trn tb) := by
  refine tab_tb TT.sq.le TT.sq.ge ⟨fun a b ha hb => mu_lt TT.sq hb ha, fun a b c ha hb hc => ?_⟩
  exact (mu_as TT hc hb ha).symm
theorem trn_sq {tb : List (List Int)} (x : Nat) : (mu (trn tb) x x).toNat = (mu tb x x).toNat := by
  by_cases h : x < tb.length
  · unfold trn
    rw [tab_mu h h, Int.toNat_natCast]
  · unfold mu
    rw [List.getD_eq_getElem?_getD (l := trn tb), List.getElem?_eq_none (by rw [trn_len]; omega), List.getD_eq_getElem?_getD (l := tb), List.getElem?_eq_none (by omega)]
theorem pd_trn {tb : List (List Int)} (TT : Tb tb) {ws : List Nat} (hw : ∀ x, x ∈ ws → x < tb.length) {i : Nat} : ∀ k, i + k < ws.length → pd (trn tb) ws.reverse i (i + k + 1) = pd tb ws (ws.length - (i + k + 1)) (ws.length - i)
  | 0, h => by
    show pd (trn tb) ws.reverse i (i + 1) = _
    rw [pd_one, show ws.length - i = ws.length - (i + 0 + 1) + 1 by omega, pd_one, List.getD_eq_getElem?_getD, List.getD_eq_getElem?_getD, List.getElem?_reverse (by omega), show ws.length - (i + 0 + 1) = ws.length - 1 - i by omega]
  | k + 1, h => by
    have ih := pd_trn TT hw (i := i) k (by omega)
    have S := TT.sq
    have e1 : ws.reverse.getD (i + k + 1) 0 = ws.getD (ws.length - (i + (k + 1) + 1)) 0 := by
      rw [List.getD_eq_getElem?_getD, List.getD_eq_getElem?_getD, List.getElem?_reverse (by omega), show ws.length - 1 - (i + k + 1) = ws.length - (i + (k + 1) + 1) by omega]
    have l1 : ws.getD (ws.length - (i + (k + 1) + 1)) 0 < tb.length := hw _ (get_in (by omega))
    have l2 := pd_lt S hw (i := ws.length - (i + k + 1)) (j := ws.length - i) (by omega) (by omega)
    rw [show i + (k + 1) + 1 = i + k + 1 + 1 by omega, pd_succ _ _ (by omega), ih, show i + k + 1 + 1 = i + (k + 1) + 1 by omega, e1, trn_mu S l2 l1]
    rw [pd_cut TT hw (i := ws.length - (i + (k + 1) + 1)) (c := ws.length - (i + k + 1)) (j := ws.length - i) (by omega) (by omega) (by omega)]
    rw [show ws.length - (i + k + 1) = ws.length - (i + (k + 1) + 1) + 1 by omega, pd_one]
theorem mir_trn {tb : List (List Int)} (TT : Tb tb) {ws : List Nat} (hw : ∀ x, x ∈ ws → x < tb.length) : Mirr (pd (trn tb) ws.reverse) (pd tb ws) ws.length := by
  intro i j h1 h2
  have := pd_trn TT hw (i := i) (j - i - 1) (by omega)
  rw [show i + (j - i - 1) + 1 = j by omega] at this
  exact this
theorem hgt_trn {tb : List (List Int)} (TT : Tb tb) {ws : List Nat} (hw : ∀ x, x ∈ ws → x < tb.length) {i j : Nat} (h : i < j) (hj : j ≤ ws.length) : hgt (pd (trn tb) ws.reverse) i j = hgt (pd tb ws) (ws.length - j) (ws.length - i) := by
  refine hgt_mirr (op := fun a b => (mu tb a b).toNat) (op' := fun a b => (mu (trn tb) a b).toNat) (mir_trn TT hw) (fun i c j h1 h2 h3 => pd_cut TT hw h1 h2 h3) (fun i c j h1 h2 h3 => ?_) (fun x => trn_sq x) h hj
  exact pd_cut (trn_tb TT) (fun x hx => by rw [trn_len]; exact hw x (List.mem_reverse.mp hx)) h1 h2 (by rw [List.length_reverse]; exact h3)
/-- two sequences, one behind the other -/
theorem hgt_two {tb : List (List Int)} {ws vs : List Nat} (h1 : 1 ≤ ws.length) (h2 : 1 ≤ vs.length) : hgt (pd tb (ws ++ vs)) 0 (ws ++ vs).length ≤ max (hgt (pd tb ws) 0 ws.length) (hgt (pd tb vs) 0 vs.length) + 1 := by
  have e1 := hgt_congr (al_part (tb := tb) (ws := ws ++ vs) (vs := ws) (s := 0) fun k hk => by rw [List.getD_eq_getElem?_getD, List.getD_eq_getElem?_getD, Nat.add_zero, List.getElem?_append_left hk]) (i := 0) (j := ws.length) (by omega) (Nat.le_refl _)
  have e2 := hgt_congr (al_part (tb := tb) (ws := ws ++ vs) (vs := vs) (s := ws.length) fun k hk => by rw [List.getD_eq_getElem?_getD, List.getD_eq_getElem?_getD, List.getElem?_append_right (by omega), Nat.add_sub_cancel]) (i := 0) (j := vs.length) (by omega) (Nat.le_refl _)
  have h := hgt_cat (p := pd tb (ws ++ vs)) (i := 0) (c := ws.length) (j := (ws ++ vs).length) (by omega) (by rw [List.length_append]; omega)
  rw [e1, e2, Nat.zero_add, Nat.zero_add, Nat.add_zero]
  rw [List.length_append, Nat.add_comm ws.length vs.length] at h ⊢
  exact h
end L

set_option Elab.async false
set_option linter.all false
set_option maxRecDepth 100000
set_option maxHeartbeats 4000000
set_option pp.maxSteps 400
namespace L
open PySem L2 KX
abbrev sOrd : Stmt := top 41
abbrev sEl : Stmt := top 42
abbrev nEl : List Str := ["box", "table", "sequence", "due", "order", "number", "part", "originals", "i", "a"]
theorem pm_len {n : Nat} {o : List Nat} (hp : o.Perm (List.range n)) : o.length = n := by rw [hp.length_eq, List.length_range]
theorem pm_lt {n : Nat} {o : List Nat} (hp : o.Perm (List.range n)) {x : Nat} (h : x ∈ o) : x < n := List.mem_range.mp (hp.mem_iff.mp h)
theorem pm_mem {n : Nat} {o : List Nat} (hp : o.Perm (List.range n)) {x : Nat} (h : x < n) : x ∈ o := hp.mem_iff.mpr (List.mem_range.mpr h)
theorem pm_nd {n : Nat} {o : List Nat} (hp : o.Perm (List.range n)) : o.Nodup := hp.symm.nodup List.nodup_range
def spOrd : Sp := fun vs H Q _ => ∃ (p : Addr) (n : Nat), vs = [.ref p, .int (n : Int)] ∧ Bx H p ∧ n ≤ 16 ∧ ∀ D H' o, Bx H' p → Sx p H H' → H D = none → H' D = some (.lst (nv o)) → o.Perm (List.range n) → Q (.ref D) H'
def spEl (K : PySem.W.Frag) (C : Addr) : Sp := fun vs H Q _ => ∃ (p x l : Addr) (due : V) (tb : List (List Int)) (ws : List Nat), vs = [.ref p, .ref x, .ref l, due] ∧ Bx H p ∧ TbA K C (mn p H) x tb ∧ Tb tb ∧ mn p H l = some (.lst (nv ws)) ∧ (∀ y, y ∈ ws → y < tb.length) ∧ 1 ≤ ws.length ∧ ws.length ≤ 20 ∧
  RowsL (mn p H) due (hts (pd tb ws) ws.length ws.length) ∧ ∀ H', Bx H' p → Sx p H H' → Q (.bl true) H'
theorem paired_ix {α β : Type} {R : α → β → Prop} : ∀ {as : List α} {bs : List β}, as.length = bs.length → (∀ (j : Nat) x y, as[j]? = some x → bs[j]? = some y → R x y) → Paired R as bs
  | [], [], _, _ => .nil
  | a :: as, b :: bs, h, f => .cons (f 0 a b rfl rfl) (paired_ix (by simpa using h) fun j x y h1 h2 => f (j + 1) x y (by simpa using h1) (by simpa using h2))
/-- element and place -/
def plD (o : List Nat) : List (Key × V) := o.zipIdx.map fun q : Nat × Nat => ((Sum.inl (q.1 : Int) : Key), V.int (q.2 : Int))
theorem plD_at {o : List Nat} {j a : Nat} (h : o[j]? = some a) : (plD o)[j]? = some (Sum.inl (a : Int), .int (j : Int)) := by
  unfold plD
  rw [List.getElem?_map, List.getElem?_zipIdx, h]
  simp
theorem plD_len (o : List Nat) : (plD o).length = o.length := by unfold plD; rw [List.length_map, List.length_zipIdx]
theorem plD_keys : ∀ (o : List Nat) (k : Nat), ((o.zipIdx k).map fun q : Nat × Nat => ((Sum.inl (q.1 : Int) : Key), V.int (q.2 : Int))).map (·.1) = o.map fun x : Nat => (Sum.inl (x : Int) : Key)
  | [], _ => rfl
  | x :: o, k => by
    rw [List.zipIdx_cons, List.map_cons, List.map_cons, plD_keys o (k + 1)]; rfl
theorem plD_nd {o : List Nat} (h : o.Nodup) : ((plD o).map (·.1)).Nodup := by
  unfold plD
  rw [plD_keys]
  refine List.pairwise_map.mpr (h.imp fun ne e => ne ?_)
  have := Sum.inl.inj e
  omega
theorem plD_val {o : List Nat} (h : o.Nodup) {x : Nat} (hx : x ∈ o) : valV (plD o) (Sum.inl (x : Int)) = some (.int ((o.idxOf x : Nat) : Int)) := by
  have l := List.idxOf_lt_length_iff.mpr hx
  have e : (plD o)[o.idxOf x]? = some (Sum.inl (x : Int), .int ((o.idxOf x : Nat) : Int)) := plD_at (by rw [List.getElem?_eq_getElem l, List.getElem_idxOf])
  exact val_nodup (plD_nd h) _ (List.mem_of_getElem? e)
theorem merge_app : ∀ {more acc : List (Key × V)}, ((acc ++ more).map (·.1)).Nodup → mergeK acc more = acc ++ more
  | [], acc, _ => by rw [List.append_nil]; rfl
  | kv :: more, acc, h => by
    have hn : valV acc kv.1 = none := by
      cases hv : valV acc kv.1 with
      | none => rfl
      | some x =>
        exfalso
        have hm := valV_in hv
        rw [List.map_append, List.map_cons] at h
        have := List.nodup_append.mp h
        exact this.2.2 _ hm _ List.mem_cons_self rfl
    show mergeK (putK acc kv.1 kv.2) more = _
    rw [putK_new kv.2 hn]
    have e : acc ++ [(kv.1, kv.2)] ++ more = acc ++ kv :: more := by rw [List.append_assoc]; rfl
    rw [merge_app (by rw [e]; exact h), e]
section
variable {P : Program} {w : World} {K : PySem.W.Frag} {mg : Str → Option Value} {base : Heap} {f g gn g1 g2 g3 g4 fl f1 f2 f3 f4 : Addr} {fd gd gnd d1 d2 d3 d4 dl : FuncData} {C : Addr}
theorem scOrd : FnScope ["box", "n", "left", "k"] ["box", "n"] (defScope sOrd) := ⟨rfl, rfl, rfl, by decide +kernel, rfl, by decide +kernel, by decide +kernel⟩
theorem ok_ord (F : Fun K "_law_order" "_law_order" sOrd f fd) (M : Mn mg) (G : FnOk P w K mg base CX0 1 g gd ["box", "size"] spTake) (bG : Binds K gd ["box", "size"] []) (kG : PySem.W.keepIn K (.ref g) = true) (mG : mg "_law_take" = some (.ref g)) :
    FnOk P w K mg base CX0 2 f fd ["box", "n"] spOrd := by
  refine F.ok scOrd (fun vs H Q E h => ?_) (fun cdv A outer s H vs Q E hr h => ?_)
  · obtain ⟨p, n, rfl, _⟩ := h
    rfl
  obtain ⟨p, n, rfl, hb, n16, q⟩ := h
  refine ⟨_, pss_cons (ps_set (i := 2) scOrd.nd rfl (Or.inr rfl) (pe_listRg rfl (by rfl) M.list (prg_1 (by rfl) M.range (pv 1))))
    (pss_one (ps_ret (pe_lc (own := [("k", 3)]) (g := gName 3) (tt := tYes) rfl scOrd.nd (pi_range1 (by rfl) M.range (pa_cons (pv 1) pa_nil))
      (blkOk_by (N := ["box", "n", "left", "k"]) (sc := defScope sOrd) (by decide +kernel)) (fun _ _ _ _ _ => pg_name (i := 3) scOrd.nd rfl (Or.inl rfl)) (fun _ _ _ _ _ => pts_nil)
      (fun _ _ _ _ _ => pe_bK (K := K) rfl (pe_bm PySem.F.plainAttrs_list PySem.F.slot_list_pop PySem.F.type_list_pop mt_popAt (pv 2) (pa_cons (pe_call G hr (by rfl) mG kG bG .nil pass0 (pa_cons (pv 0)
        (pa_cons (pe_callB (lenl (K := K) rfl) (by rfl) M.len PySem.boot_len (pa_cons (pv 2) pa_nil)) pa_nil))) pa_nil)))))), ?_⟩
  refine ⟨_, rfl, _, rfl, RgOk.of_le (by decide) (by omega) (by decide) (by omega), fun la hla => ?_⟩
  rw [rg_nv]
  have nla : la ≠ p := hb.ne hla
  have sla := Same.new hla (.lst (nv (List.range n)))
  have bx := hb.same sla
  have eL0 : (upd H la (.lst (nv (List.range n)))) la = some (.lst (nv (List.range n))) := upd_same
  generalize upd H la (.lst (nv (List.range n))) = H1 at sla bx eL0 ⊢
  refine ⟨_, rfl, _, rfl, by omega, by omega, fun D hD => ?_⟩
  have nDp : D ≠ p := bx.ne hD
  have nDl : la ≠ D := ne_of_none eL0 hD
  have D4 : H D = none := sla.free hD
  refine lc_range (lo := 0) (n := ((n : Nat) : Int).toNat) (fun i J => Bx J p ∧ Sx p H J ∧ ∃ od lf : List Nat, J la = some (.lst (nv lf)) ∧ J D = some (.lst (nv od)) ∧ (od ++ lf).Perm (List.range n) ∧ od.length = i)
    ⟨bx.new hD, (Sx.of sla).trans (Sx.new hD), [], List.range n, by rw [upd_ne nDl]; exact eL0, upd_same, List.Perm.refl _, rfl⟩ ?_ ?_
  · rintro i J hi ⟨bJ, sJ, od, lf, eL, eD, pm, lo⟩
    have hi' : i < n := by simpa using hi
    have ll : lf.length = n - i := by
      have := pm.length_eq
      rw [List.length_append, List.length_range, lo] at this
      omega
    refine ⟨rfl, _, rfl, Or.inl ⟨rfl, _, SqL.of eL⟩, _, rfl, _, rfl, la, _, rfl, .inl (SqL.of eL), p, _, rfl, bJ, ?_, ?_, fun r J1 ra rb b1 s1 => ?_⟩
    · rw [nv_len]; omega
    · rw [nv_len]; omega
    rw [nv_len] at rb
    obtain ⟨r, rfl⟩ := Int.eq_ofNat_of_zero_le ra
    have hr : r < lf.length := by omega
    have eL1 := s1 la _ nla eL
    have eD1 := s1 D _ nDp eD
    have sq : seqIndex? ((r : Nat) : Int) (nv lf).length = some r := by
      unfold seqIndex?
      have h0 : ¬ ((r : Nat) : Int) < 0 := by omega
      simp only [if_neg h0]
      rw [nv_len, if_pos (by simp; omega), Int.toNat_natCast]
    refine ⟨la, nv lf, _, r, .int ((lf[r] : Nat) : Int), rfl, rfl, eL1, by omega, by omega, sq, by unfold nv; rw [List.getElem?_map, List.getElem?_eq_getElem hr]; rfl, ?_⟩
    refine ⟨nv od, by rw [upd_ne nDl.symm]; exact eD1, by rw [nv_len, lo]; exact small1000 (by omega), (b1.at_ne nla).at_ne nDp, fun b o hbp e => ?_, od ++ [lf[r]], lf.eraseIdx r, ?_, ?_, ?_, by simp [lo]⟩
    · rw [upd_ne (ne_of_none e D4), upd_ne (ne_of_none e hla)]; exact s1 b o hbp (sJ b o hbp e)
    · rw [upd_ne nDl, upd_same, erase_nv]
    · rw [upd_same]; unfold nv; rw [List.map_append]; rfl
    · refine List.Perm.trans ?_ pm
      rw [List.append_assoc]
      exact (erase_pm (List.getElem?_eq_getElem hr)).append_left od
  rintro J ⟨bJ, sJ, o, lf, eL, eD, pm, lo⟩
  rw [Int.toNat_natCast] at lo
  have lf0 : lf = [] := by
    have := pm.length_eq
    rw [List.length_append, List.length_range, lo] at this
    exact List.eq_nil_of_length_eq_zero (by omega)
  subst lf0
  rw [List.append_nil] at pm
  exact q D J o bJ sJ D4 eD pm
theorem scEl : FnScope nEl ["box", "table", "sequence", "due"] (defScope sEl) := ⟨rfl, rfl, rfl, by decide +kernel, rfl, by decide +kernel, by decide +kernel⟩
theorem ok_el (F : Fun K "_law_elsewhere_right" "_law_elsewhere_right" sEl f fd) (M : Mn mg) (T : CTx K mg C)
    (G1 : FnOk P w K mg base CX0 2 f1 d1 ["box", "n"] spOrd) (b1 : Binds K d1 ["box", "n"] []) (k1 : PySem.W.keepIn K (.ref f1) = true) (m1 : mg "_law_order" = some (.ref f1))
    (G2 : FnOk P w K mg base CX0 5 f2 d2 ["table", "sequence"] (spHt K C)) (b2 : Binds K d2 ["table", "sequence"] []) (k2 : PySem.W.keepIn K (.ref f2) = true) (m2 : mg "height_table" = some (.ref f2))
    (G3 : FnOk P w K mg base CX0 8 g3 d3 ["self", "order"] (spRen K C)) (b3 : Binds K d3 ["self", "order"] []) (h3 : Meth K C "renumbered" g3)
    (G4 : FnOk P w K mg base CX0 8 g4 d4 ["self", "generators"] (spSub K C)) (b4 : Binds K d4 ["self", "generators"] []) (h4 : Meth K C "subtable" g4)
    (GL : FnOk P w K mg base CX0 1 fl dl ["self"] (spLenM K C)) (bL : Binds K dl ["self"] []) (hL : PySem.W.findIn K (.ref C) "__len__" = some (some (.ref fl))) (tL : PySem.W.typeIn K (.ref fl) = some (.type "function")) :
    FnOk P w K mg base CX0 9 f fd ["box", "table", "sequence", "due"] (spEl K C) := by
  refine F.ok scEl (fun vs H Q E h => ?_) (fun cdv A outer s H vs Q E hr h => ?_)
  · obtain ⟨p, x, l, due, tb, ws, rfl, _⟩ := h
    rfl
  obtain ⟨p, x, l, due, tb, ws, rfl, hb, hx, TT, hl, hw, l1, l20, hR, q⟩ := h
  have hr1 : Room 1 _ := hr.mono (by decide)
  have hr2 : Room 2 _ := hr.mono (by decide)
  have hr5 : Room 5 _ := hr.mono (by decide)
  have hr8 : Room 8 _ := hr.mono (by decide)
  have hu := hr.units
  have hu1 : (A.deeper (PyProof.Rows.envOfC "_law_elsewhere_right" (defScope sEl) s.heap.objs.size f cdv)).units + 1 < cLine := by omega
  refine ⟨_, (pss_cons (ps_set (i := 4) scEl.nd rfl (Or.inl rfl) (pe_call G1 hr2 (by rfl) m1 k1 b1 .nil pass0 (pa_cons (pv 0) (pa_cons (pe_callB (call_lenOwn hL tL GL hr2 bL) (by rfl) M.len PySem.boot_len (pa_cons (pv 1) pa_nil)) pa_nil)))) (pss_cons (ps_set (i := 5) scEl.nd rfl (Or.inr rfl) (pe_callTy (call_dictP rfl) (by rfl) M.dict (by decide +kernel) (pa_cons (pe_lc (own := [("i", 8), ("a", 9)]) (g := gTup _ 2 (gCons (gName 8) (gCons (gName 9) gNil))) (tt := tYes) rfl scEl.nd (pi_enumS (by rfl) M.enum (pa_cons (pv 4) pa_nil)) (blkOk_by (N := nEl) (sc := defScope sEl) (by decide +kernel)) (fun _ _ _ _ _ => (pg_tup rfl (pgs_cons (pg_name (i := 8) scEl.nd rfl (Or.inl rfl)) (pgs_cons (pg_name (i := 9) scEl.nd rfl (Or.inl rfl)) pgs_nil)))) (fun _ _ _ _ _ => pts_nil) (fun _ _ _ _ _ => (pe_tup (pa_cons (pv 9) (pa_cons (pv 8) pa_nil))))) pa_nil))) (pss_cons (ps_if (pt_cmpR (op_neD hu) (pe_call G2 hr5 (by rfl) m2 k2 b2 .nil pass0 (pa_cons (pe_meth (pv 1) T.cl h3 G3 hr8 b3 .nil pass0 (pa_cons (pv 4) pa_nil)) (pa_cons (pe_lc (own := [("a", 9)]) (g := gName 9) (tt := tYes) rfl scEl.nd (pi_list (pv 2)) (blkOk_by (N := nEl) (sc := defScope sEl) (by decide +kernel)) (fun _ _ _ _ _ => (pg_name (i := 9) scEl.nd rfl (Or.inl rfl))) (fun _ _ _ _ _ => pts_nil) (fun _ _ _ _ _ => (pe_dget (by exact hu1) (pv 5) (pv 9) (fun _ _ => rfl)))) pa_nil))) (pv 3) (nomark _)) (pss_one (ps_ret pe_bl)) pss_nil) (pss_cons (ps_asg (pe_meth (pv 1) T.cl h4 G4 hr8 b4 .nil pass0 (pa_cons (pv 2) pa_nil)) (pg_tup rfl (pgs_cons (pg_name (i := 6) scEl.nd rfl (Or.inl rfl)) (pgs_cons (pg_name (i := 7) scEl.nd rfl (Or.inr rfl)) pgs_nil)))) (pss_one (ps_ret (pe_cmpR (op_eqD hu) (pe_call G2 hr5 (by rfl) m2 k2 b2 .nil pass0 (pa_cons (pv 6) (pa_cons (pe_lc (own := [("a", 9)]) (g := gName 9) (tt := tYes) rfl scEl.nd (pi_list (pv 2)) (blkOk_by (N := nEl) (sc := defScope sEl) (by decide +kernel)) (fun _ _ _ _ _ => (pg_name (i := 9) scEl.nd rfl (Or.inl rfl))) (fun _ _ _ _ _ => pts_nil) (fun _ _ _ _ _ => (pe_bK (K := K) rfl (pe_bm PySem.F.plainAttrs_list PySem.F.slot_list_index PySem.F.type_list_index (mt_idx1 (K := K) rfl) (pv 7) (pa_cons (pv 9) pa_nil))))) pa_nil))) (pv 3) (nomark _)))))))), ?_⟩
  have S := TT.sq
  have n16 := S.ge
  let FF : Hp := mn p H
  have nF : FF p = none := mn_p
  have sF0 : Same FF H := mn_same
  have back : ∀ J, Same FF J → Sx p H J := fun J h b o n e => h _ _ (mn_sx _ _ n e)
  have hx : TbA K C FF x tb := hx
  have hl : FF l = some (.lst (nv ws)) := hl
  have hR : RowsL FF due (hts (pd tb ws) ws.length ws.length) := hR
  generalize FF = F at nF sF0 back hx hR hl
  obtain ⟨dx, t, rs, hpx, htt, pr⟩ := hx.ob
  refine ⟨_, rfl, _, rfl, x, dx, _, rfl, sF0 _ _ hpx, x, tb, rfl, hx.to sF0, tb.length, rfl, by omega, p, tb.length, rfl, hb, n16, fun D H1 o b1 x1 hD eD pm => ?_⟩
  have sF1 : Same F H1 := fx sF0 nF x1
  have c := cl_perm S pm
  have lo := pm_len pm
  have nd := pm_nd pm
  have hin : ∀ y, y ∈ ws → y ∈ o := fun y hy => pm_mem pm (hw y hy)
  have tk : ∀ {q : List Nat} {i a : Nat}, ws[i]? = some a → nv ((ws.take (i + 1)).map q.idxOf) = nv ((ws.take i).map q.idxOf) ++ [.int ((q.idxOf a : Nat) : Int)] := fun {q i a} h => by
    rw [List.take_add_one, h]
    unfold nv
    simp
  have sml : ∀ {q : List Nat} {i : Nat}, (nv ((ws.take i).map q.idxOf)).length < sizeLine := fun {q i} => small1000 (by rw [nv_len, List.length_map, List.length_take]; omega)
  refine ⟨_, rfl, D, _, rfl, .inl ⟨SqL.of eD, fun D1 hD1 => ?_⟩⟩
  refine lc_it walk_enum (fun j G => Same H1 G ∧ ∃ ps : List Addr, G D1 = some (.lst (ps.map V.ref)) ∧ ps.length = j ∧ ∀ (i : Nat) T, ps[i]? = some T → T ≠ D1 ∧ ∃ a : Nat, o[i]? = some a ∧ G T = some (.tup [.int (a : Int), .int (i : Int)])) ⟨Same.new hD1 _, [], upd_same, rfl, fun i T h => by simp at h⟩ (fun j G _ z => SqL.of (z.1 _ _ eD)) ?_ ?_
  · rintro j y G1 G2 hj ⟨sG, ps, eD1, lp, hps⟩ ⟨T, y1, y2, rfl, hT, rfl, g1, g2⟩
    cases g1
    obtain ⟨a, ha, rfl⟩ := nv_at g2
    have u1 := Same.new hT (.tup [.int (j : Nat), .int (a : Int)])
    have nDT : D1 ≠ T := ne_of_none eD1 hT
    refine ⟨T, _, rfl, SqT.of upd_same, rfl, _, _, rfl, _, _, rfl, rfl, rfl, _, rfl, _, rfl, szl _ (by simp), fun T2 hT2 => ?_⟩
    have u2 := Same.new hT2 (.tup [.int (a : Int), .int (j : Int)])
    have nDT2 : D1 ≠ T2 := ne_of_none (u1 _ _ eD1) hT2
    rw [nv_len] at hj
    refine ⟨_, u2 _ _ (u1 _ _ eD1), by rw [List.length_map, lp]; exact small1000 (by omega), fun b o e => by rw [upd_ne (ne_of_none e hD1)]; exact u2 _ _ (u1 _ _ (sG _ _ e)), ps ++ [T2], by rw [upd_same, List.map_append]; rfl, by rw [List.length_append, lp]; rfl, fun i T' hi => ?_⟩
    by_cases hlt : i < ps.length
    · rw [List.getElem?_append_left hlt] at hi
      obtain ⟨n1, a', e1, e2⟩ := hps i T' hi
      exact ⟨n1, a', e1, by rw [upd_ne n1]; exact u2 _ _ (u1 _ _ e2)⟩
    · rw [List.getElem?_append_right (by omega)] at hi
      have hi0 : i - ps.length = 0 := by
        cases hk : i - ps.length with
        | zero => rfl
        | succ m => rw [hk] at hi; simp at hi
      rw [hi0] at hi
      have e : T2 = T' := Option.some.inj hi
      subst e
      have ij : i = j := by omega
      subst ij
      exact ⟨nDT2.symm, a, ha, by rw [upd_ne nDT2.symm]; exact upd_same⟩
  rintro J ⟨sJ, ps, eD1, lp, hps⟩
  rw [nv_len] at lp
  refine ⟨D1, ps, plD o, rfl, SqL.of eD1, paired_ix (by rw [lp, plD_len]) (fun j T kv hT hkv => ?_), fun d hd => ?_⟩
  · obtain ⟨_, a, e1, e2⟩ := hps j T hT
    rw [plD_at e1] at hkv
    cases hkv
    exact SqT.of e2
  have hmg : mergeK [] (plD o) = plD o := merge_app (acc := []) (plD_nd nd)
  rw [hmg]
  have sd := Same.new hd (.dK (plD o))
  have ed : (upd J d (.dK (plD o))) d = some (.dK (plD o)) := upd_same
  have sH := sJ.trans sd
  generalize upd J d (.dK (plD o)) = J1 at ed sH ⊢
  have sF2 := sF1.trans sH
  refine ⟨_, rfl, x, dx, _, rfl, sF2 _ _ hpx, rfl, _, rfl, x, D, tb, o, rfl, hx.to sF2, TT, SqL.of (sH _ _ eD), pm, fun y H2 hy ty s2 => ?_⟩
  have sF3 := sF2.trans s2
  refine ⟨_, rfl, l, rfl, ⟨_, SqL.of (sF3 _ _ hl)⟩, fun D5 hD5 => ?_⟩
  refine lc_it (walk_list (xs := nv ws)) (fun i G => Same H2 G ∧ G D5 = some (.lst (nv ((ws.take i).map o.idxOf)))) ⟨Same.new hD5 _, upd_same⟩ (fun i G _ z => SqL.of (z.1 _ _ (sF3 _ _ hl))) ?_ ?_
  · rintro i y0 G G' hi ⟨sG, e5⟩ ⟨rfl, hy0⟩
    obtain ⟨a, ha, rfl⟩ := nv_at hy0
    have gd : DGet G' d (.int (a : Int)) (some (.int ((o.idxOf a : Nat) : Int))) := by
      have := DGet.k (k := Sum.inl ((a : Nat) : Int)) (sG _ _ (s2 _ _ ed))
      rw [plD_val nd (hin a (List.mem_of_getElem? ha))] at this
      exact this
    exact ⟨rfl, _, rfl, _, rfl, d, _, rfl, gd, _, e5, sml, fun b ob ec => by rw [upd_ne (ne_of_none ec hD5)]; exact sG b ob ec, by rw [upd_same, tk ha]⟩
  rintro G ⟨sG, e5⟩
  rw [nv_len, List.take_length] at e5
  have sF4 := sF3.trans sG
  have lm : ∀ q : List Nat, (ws.map q.idxOf).length = ws.length := fun q => List.length_map _
  have mlt : ∀ {q : List Nat}, (∀ y, y ∈ ws → y ∈ q) → ∀ z, z ∈ ws.map q.idxOf → z < (sub tb q).length := fun {q} hq z hz => by
    obtain ⟨y, h1, rfl⟩ := List.mem_map.mp hz
    rw [sub_len]
    exact idx_lt (hq y h1)
  refine ⟨y, .ref D5, sub tb o, ws.map o.idxOf, rfl, ty.to sG, sub_tb TT c, ⟨D5, rfl, .inl (SqL.of e5)⟩, mlt hin, by rw [lm]; exact l1, by rw [lm]; omega, fun v H3 R3 s3 => ?_⟩
  rw [lm, hts_sub c hin] at R3
  have sF5 := sF4.trans s3
  refine ⟨_, rfl, _, _, (R3.same nw_same).dp, (hR.same sF5).dp, rD_shaped _, rD_shaped _, _, rfl, ?_⟩
  rw [rD_refl]
  refine iteF ?_
  refine ⟨_, rfl, x, dx, _, rfl, sF5 _ _ hpx, rfl, _, rfl, x, l, tb, ws, rfl, hx.to sF5, TT, SqL.of (sF5 _ _ hl), hw, l1, by omega, fun t4 y4 D4 H4 o4 ht4 e4 ty4 eD4 c4 hin4 s4 => ?_⟩
  have sF6 := sF5.trans s4
  refine ⟨t4, _, rfl, SqT.of e4, rfl, _, _, rfl, _, _, rfl, rfl, ?_⟩
  refine ⟨_, rfl, _, rfl, l, rfl, ⟨_, SqL.of (sF6 _ _ hl)⟩, fun D6 hD6 => ?_⟩
  refine lc_it (walk_list (xs := nv ws)) (fun i G => Same H4 G ∧ G D6 = some (.lst (nv ((ws.take i).map o4.idxOf)))) ⟨Same.new hD6 _, upd_same⟩ (fun i G _ z => SqL.of (z.1 _ _ (sF6 _ _ hl))) ?_ ?_
  · rintro i y0 G7 G' hi ⟨sG7, e6⟩ ⟨rfl, hy0⟩
    obtain ⟨a, ha, rfl⟩ := nv_at hy0
    have ao := hin4 a (List.mem_of_getElem? ha)
    have gt := idx_lt ao
    have eD4' := sG7 _ _ eD4
    refine ⟨rfl, _, rfl, Or.inl ⟨rfl, _, SqL.of eD4'⟩, _, rfl, D4, nv o4, .int (a : Int), o4.idxOf a, .int (a : Int), rfl, rfl, SqL.of eD4', rfl, nv_flat _, ?_, beq_self_eq_true _, fun m z' hm hz' => ?_, _, e6, sml, fun b ob ec => by rw [upd_ne (ne_of_none ec hD6)]; exact sG7 b ob ec, by rw [upd_same, tk ha]⟩
    · unfold nv; rw [List.getElem?_map, List.getElem?_eq_getElem gt, List.getElem_idxOf gt]; rfl
    · obtain ⟨w, hw, rfl⟩ := nv_at hz'
      have ne := idx_ahead1 hm hw
      exact beq_eq_false_iff_ne.mpr (by omega)
  rintro G7 ⟨sG7, e6⟩
  rw [nv_len, List.take_length] at e6
  have sF7 := sF6.trans sG7
  refine ⟨y4, .ref D6, sub tb o4, ws.map o4.idxOf, rfl, ty4.to sG7, sub_tb TT c4, ⟨D6, rfl, .inl (SqL.of e6)⟩, mlt hin4, by rw [lm]; exact l1, by rw [lm]; omega, fun v8 H8 R8 s8 => ?_⟩
  rw [lm, hts_sub c4 hin4] at R8
  have sF8 := sF7.trans s8
  refine ⟨_, rfl, _, _, (R8.same nw_same).dp, (hR.same sF8).dp, rD_shaped _, rD_shaped _, ?_⟩
  rw [rD_refl]
  have s1 : Same H1 H8 := ((((((sH.trans s2).trans sG).trans s3).trans s4).trans sG7).trans s8)
  exact q H8 (b1.same s1) (x1.trans (Sx.of s1))
end
end L

set_option Elab.async false
set_option linter.all false
set_option maxRecDepth 100000
set_option maxHeartbeats 4000000
set_option pp.maxSteps 400
namespace L
open PySem L2 KX
abbrev sMi : Stmt := top 43
abbrev nMi : List Str := ["rows", "sequence", "due", "n", "turned", "found", "i", "a", "row", "j"]
def scMiO : Scope := { kind := .function, names := [(Str.ofString ".0", .local), (Str.ofString "a", .cell), (Str.ofString "rows", .cell)], isGenerator := false, isCoroutine := false }
def spMi (K : PySem.W.Frag) : Sp := fun vs H Q _ => ∃ (l : Addr) (v due : V) (tb : List (List Int)) (ws : List Nat), vs = [v, .ref l, due] ∧ RowsL H v tb ∧ Tb tb ∧ H l = some (.lst (nv ws)) ∧ (∀ y, y ∈ ws → y < tb.length) ∧ 1 ≤ ws.length ∧ ws.length ≤ 20 ∧
  RowsL H due (hts (pd tb ws) ws.length ws.length) ∧ ∀ H', Same H H' → Q (.bl true) H'
theorem nv_rev (ws : List Nat) : (nv ws).reverse = nv ws.reverse := by unfold nv; rw [List.map_reverse]
theorem hts_at {p : Nat → Nat → Nat} {n a k : Nat} (h : a + k < n) : (((hts p n n).getD a []).map V.int)[k]? = some (.int ((hgt p a (a + 1 + k) : Nat) : Int)) := by
  unfold hts hrow
  have e : ((List.range n).map fun i => (List.range (n - i)).map fun k => ((hgt p i (i + 1 + k) : Nat) : Int)).getD a [] = (List.range (n - a)).map fun k => ((hgt p a (a + 1 + k) : Nat) : Int) := by
    rw [List.getD_eq_getElem?_getD, List.getElem?_map, List.getElem?_range (by omega)]; rfl
  rw [e, List.getElem?_map, List.getElem?_map, List.getElem?_range (by omega)]; rfl
section
variable {P : Program} {w : World} {K : PySem.W.Frag} {mg : Str → Option Value} {base : Heap} {f f1 fI : Addr} {fd d1 dI : FuncData} {C : Addr}
theorem scMi : FnScope nMi ["rows", "sequence", "due"] (defScope sMi) := ⟨rfl, rfl, rfl, by decide +kernel, rfl, by decide +kernel, by decide +kernel⟩
theorem ok_mi (F : Fun K "_law_mirrored_right" "_law_mirrored_right" sMi f fd) (M : Mn mg) (T : CTx K mg C)
    (MI : Mk K C fI) (GI : FnOk P w K mg base CX0 5 fI dI ["self", "rows"] (spInit K C)) (bI : Binds K dI ["self", "rows"] [])
    (G1 : FnOk P w K mg base CX0 5 f1 d1 ["table", "sequence"] (spHt K C)) (b1 : Binds K d1 ["table", "sequence"] []) (k1 : PySem.W.keepIn K (.ref f1) = true) (m1 : mg "height_table" = some (.ref f1)) :
    FnOk P w K mg base CX0 7 f fd ["rows", "sequence", "due"] (spMi K) := by
  refine F.ok scMi (fun vs H Q E h => ?_) (fun cdv A outer s H vs Q E hr h => ?_)
  · obtain ⟨l, v, due, tb, ws, rfl, _⟩ := h
    rfl
  obtain ⟨l, v, due, tb, ws, rfl, hv, TT, hl, hw, l1, l20, hR, q⟩ := h
  have hr5 : Room 5 _ := hr.mono (by decide)
  have hr6 : Room 6 _ := hr.mono (by decide)
  have hu := hr.units
  refine ⟨_, (pss_cons (ps_set (i := 3) scMi.nd rfl (Or.inr rfl) (pe_callB (lenl (K := K) rfl) (by rfl) M.len PySem.boot_len (pa_cons (pv 1) pa_nil))) (pss_cons (ps_set (i := 4) scMi.nd rfl (Or.inl rfl) (pe_make MI GI hr6 (by rfl) T.mgC bI .nil pass0 (pa_cons (pe_lc (own := [("a", 7)]) (g := gName 7) (tt := tYes) rfl scMi.nd (pi_range1 (by rfl) M.range (pa_cons (pe_callB (lenl (K := K) rfl) (by rfl) M.len PySem.boot_len (pa_cons (pv 0) pa_nil)) pa_nil)) (blkOk_by (N := nMi) (sc := defScope sMi) (by decide +kernel)) (fun _ _ _ _ _ => (pg_name (i := 7) scMi.nd rfl (Or.inr rfl))) (fun _ _ _ _ _ => pts_nil) (fun _ _ _ _ _ => (pe_lc (own := [("row", 8)]) (g := gName 8) (tt := tYes) rfl scMi.nd (pil (K := K) rfl (pv 0)) (blkOk_by (N := nMi) (sc := scMiO) (by decide +kernel)) (fun _ _ _ _ _ => (pg_name (i := 8) scMi.nd rfl (Or.inl rfl))) (fun _ _ _ _ _ => pts_nil) (fun _ _ _ _ _ => (pe_ix (ixl (K := K) rfl) (pv 8) (pv 7) (fun _ _ => rfl)))))) pa_nil))) (pss_cons (ps_set (i := 5) scMi.nd rfl (Or.inr rfl) (pe_call G1 hr5 (by rfl) m1 k1 b1 .nil pass0 (pa_cons (pv 4) (pa_cons (pe_revL (pv 1)) pa_nil)))) (pss_cons (ps_for PassesOwn.never rfl (pi_range1 (by rfl) M.range (pa_cons (pv 3) pa_nil)) (pg_name (i := 6) scMi.nd rfl (Or.inr rfl)) (pss_one (ps_if (pt_cmpR (op_neD hu) (pe_lc (own := [("j", 9)]) (g := gName 9) (tt := tYes) rfl scMi.nd (pi_range2 (by rfl) M.range (pa_cons (pe_op op_add (pv 6) pe_int) (pa_cons (pe_op op_add (pv 3) pe_int) pa_nil))) (blkOk_by (N := nMi) (sc := defScope sMi) (by decide +kernel)) (fun _ _ _ _ _ => (pg_name (i := 9) scMi.nd rfl (Or.inl rfl))) (fun _ _ _ _ _ => pts_nil) (fun _ _ _ _ _ => (pe_ix (ixl (K := K) rfl) (pe_ix (ixl (K := K) rfl) (pv 5) (pe_op op_sub (pv 3) (pv 9)) (fun _ _ => rfl)) (pe_op op_sub (pe_op op_sub (pv 9) (pv 6)) pe_int) (fun _ _ => rfl)))) (pe_ix (ixl (K := K) rfl) (pv 2) (pv 6) (fun _ _ => rfl)) (nomark _)) (pss_one (ps_ret pe_bl)) pss_nil))) (pss_one (ps_ret pe_bl)))))), ?_⟩
  have S := TT.sq
  have n16 := S.ge
  obtain ⟨av, rs, rfl, ev, pr⟩ := id hv
  have lrs : rs.length = tb.length := pr.length
  refine ⟨_, rfl, l, _, rfl, .inl (SqL.of hl), ?_⟩
  rw [nv_len]
  refine ⟨_, rfl, av, _, rfl, .inl (SqL.of ev), ?_⟩
  rw [List.length_map, lrs]
  refine ⟨_, rfl, by omega, by omega, fun D hD => ?_⟩
  refine lc_range (lo := 0) (n := ((tb.length : Nat) : Int).toNat) (fun i G => Part H G D (rowsTo tb.length (fun a b => (mu tb b a).toNat) i)) (Part.start (Same.refl H) hD) ?_ ?_
  · rintro i G2 hi pa
    have hi' : i < tb.length := by omega
    refine ⟨rfl, _, rfl, av, rfl, ⟨_, SqL.of (pa.same _ _ ev)⟩, fun D5 hD5 => ?_⟩
    refine lc_it (walk_list (xs := rs.map V.ref)) (fun j G => Same G2 G ∧ G D5 = some (.lst ((rowTo (fun a b => (mu tb b a).toNat) i j).map V.int))) ⟨Same.new hD5 _, upd_same⟩ (fun j G _ z => SqL.of (z.1 _ _ (pa.same _ _ ev))) ?_ ?_
    · rintro j y G3 G4' hj ⟨sG, e5⟩ ⟨rfl, hy⟩
      rw [List.length_map, lrs] at hj
      rw [List.getElem?_map] at hy
      obtain ⟨r, hr0, rfl⟩ := Option.map_eq_some_iff.mp hy
      obtain ⟨row, hrow, er⟩ := pair_at pr hr0
      have eg : tb.getD j [] = row := by rw [List.getD_eq_getElem?_getD, hrow]; rfl
      have g := row_g S hj hi'
      rw [eg] at g
      have ee := S.el j i hj hi'
      refine ⟨rfl, _, rfl, _, rfl, r, _, _, _, rfl, rfl, SqL.of (sG _ _ (pa.same _ _ er)), at_of (j := i) (by omega) g, _, e5, by rw [rowTo_len]; exact small1000 (by omega), fun c ob ec => by rw [upd_ne (ne_of_none ec hD5)]; exact sG c ob ec, ?_⟩
      rw [upd_same, rowTo_next, List.map_append]
      refine congrArg (fun z => some (HO.lst (_ ++ [V.int z]))) ?_
      show mu tb j i = (((mu tb j i).toNat : Nat) : Int)
      omega
    · rintro G3 ⟨sG, e5⟩
      rw [List.length_map, lrs] at e5
      obtain ⟨acc, ea, lacc, p1⟩ := pa.add sG hD5 e5
      refine ⟨acc, ea, by rw [lacc, rowsTo_len]; exact small1000 (by omega), ?_⟩
      rw [rowsTo_next]
      exact p1
  rintro G1 pa
  rw [Int.toNat_natCast] at pa
  have pa' : Part H G1 D (trn tb) := pa
  have TR := trn_tb TT
  refine fun y dy hy hdy ney => ?_
  have sn : Same G1 (upd (upd G1 dy (.own y)) y (.ins C dy [])) := fun b o e => by rw [upd_ne (ne_of_none e hy), upd_ne (ne_of_none e hdy)]; exact e
  have RC : RowsL G1 (.ref D) (trn tb) := pa'.fin.same nw_same
  have nD1 : ∀ b, V.ref D = .ref b → b ≠ y := fun b e => by
    obtain ⟨_, _, e', ed, _⟩ := id RC
    cases e'
    cases e
    exact ne_of_none ed hy
  refine ⟨y, dy, .ref D, trn tb, rfl, upd_same, (RC.same sn).rws, TR.sq, TR.as, nD1, fun J5 tc kc => ⟨rfl, ?_⟩⟩
  have s45 : Same H J5 := pa'.same.trans fun b o e => kc b o (ne_of_none e hy) (sn b o e)
  refine ⟨_, rfl, _, rfl, l, nv ws, rfl, SqL.of (s45 _ _ hl), fun D6 hD6 => ?_⟩
  have s6 := Same.new hD6 (.lst (nv ws).reverse)
  have lr : ws.reverse.length = ws.length := List.length_reverse
  refine ⟨y, .ref D6, trn tb, ws.reverse, rfl, tc.to s6, TR, ⟨D6, rfl, .inl (SqL.of (by rw [upd_same, nv_rev]))⟩, fun z hz => by rw [trn_len]; exact hw z (List.mem_reverse.mp hz), by rw [lr]; exact l1, by rw [lr]; omega, fun v6 H6 R6 s7 => ?_⟩
  rw [lr] at R6
  have s8 : Same H H6 := (s45.trans s6).trans s7
  have RD := R6.same nw_same
  refine ⟨_, rfl, _, rfl, by omega, by omega, ?_⟩
  refine for_range (lo := 0) (n := ((ws.length : Nat) : Int).toNat) (fun i σ G => Same H6 G ∧ ∃ x6 x7 x8 x9, σ = [some (.ref av), some (.ref l), some due, some (.int ((ws.length : Nat) : Int)), some (.ref y), some v6, x6, x7, x8, x9]) ⟨Same.refl _, _, _, _, _, rfl⟩ ?_ ?_
  rotate_left
  · rintro _ G ⟨sG, x6, x7, x8, x9, rfl⟩
    exact q G (s8.trans sG)
  rintro i _ G hi ⟨sG, x6, x7, x8, x9, rfl⟩
  have hi' : i < ws.length := by omega
  refine ⟨_, rfl, _, _, rfl, rfl, _, rfl, _, _, rfl, rfl, _, _, rfl, ⟨by omega, by omega, by omega, by omega⟩, fun D7 hD7 => ?_⟩
  refine lc_range (lo := (0 : Int) + (i : Int) + 1) (n := (((ws.length : Nat) : Int) + 1 - ((0 : Int) + (i : Int) + 1)).toNat) (fun k G2 => Same G G2 ∧ G2 D7 = some (.lst ((hrow (pd tb ws) i k).map V.int))) ⟨Same.new hD7 _, upd_same⟩ ?_ ?_
  · rintro k G2 hk ⟨sG2, e7⟩
    have hk' : i + 1 + k ≤ ws.length := by omega
    have lh : (hts (pd (trn tb) ws.reverse) ws.length ws.length).length = ws.length := by unfold hts; rw [List.length_map, List.length_range]
    obtain ⟨lf, rs', r, rfl, p1, p2, p3⟩ := rw_at ((RD.same sG).same sG2) (a := ws.length - (i + 1 + k)) (by rw [lh]; omega)
    have g := hts_at (p := pd (trn tb) ws.reverse) (n := ws.length) (a := ws.length - (i + 1 + k)) (k := k) (by omega)
    rw [show ws.length - (i + 1 + k) + 1 + k = ws.length - i by omega, hgt_trn TT hw (by omega) (by omega), show ws.length - (ws.length - i) = i by omega, show ws.length - (ws.length - (i + 1 + k)) = i + 1 + k by omega] at g
    refine ⟨rfl, _, rfl, _, rfl, _, rfl, _, _, rfl, rfl, lf, _, _, _, rfl, rfl, SqL.of p1, at_of (j := ws.length - (i + 1 + k)) (by omega) p2, _, rfl, _, rfl, _, _, rfl, rfl, _, _, rfl, rfl, r, _, _, _, rfl, rfl, SqL.of p3, at_of (j := k) (by omega) g, _, e7, ?_, fun c ob ec => by rw [upd_ne (ne_of_none ec hD7)]; exact sG2 c ob ec, ?_⟩
    · rw [List.length_map]; unfold hrow; rw [List.length_map, List.length_range]; exact small1000 (by omega)
    · rw [upd_same]; unfold hrow; rw [List.range_succ, List.map_append, List.map_append]; rfl
  rintro G2 ⟨sG2, e7⟩
  have en : (((ws.length : Nat) : Int) + 1 - ((0 : Int) + (i : Int) + 1)).toNat = ws.length - i := by omega
  rw [en] at e7
  have lh : (hts (pd tb ws) ws.length ws.length).length = ws.length := by unfold hts; rw [List.length_map, List.length_range]
  obtain ⟨lf, rs', r, rfl, p1, p2, p3⟩ := rw_at (hR.same ((s8.trans sG).trans sG2)) (a := i) (by rw [lh]; exact hi')
  rw [show (hts (pd tb ws) ws.length ws.length).getD i [] = hrow (pd tb ws) i (ws.length - i) by
    unfold hts
    rw [List.getD_eq_getElem?_getD, List.getElem?_map, List.getElem?_range hi']; rfl] at p3
  refine ⟨_, rfl, _, rfl, lf, _, _, _, rfl, rfl, SqL.of p1, at_of (j := i) (by omega) p2, _, _, .lst (SqL.of e7) (dp_ints _), .lst (SqL.of p3) (dp_ints _), iD_shaped _, iD_shaped _, _, rfl, ?_⟩
  rw [iD_eqv, decide_eq_true rfl]
  exact iteF ⟨sG.trans sG2, _, _, _, _, rfl⟩
end
end L

set_option Elab.async false
set_option linter.all false
set_option maxRecDepth 100000
set_option maxHeartbeats 4000000
namespace L
open PySem L2 KX
abbrev sSeq : Stmt := top 40
abbrev nSeq : List Str := ["box", "size", "most", "n", "some", "way", "k"]
def spSeq : Sp := fun vs H Q _ => ∃ (p : Addr) (sz mo : Nat), vs = [.ref p, .int (sz : Int), .int (mo : Int)] ∧ Bx H p ∧ 0 < sz ∧ sz ≤ 16 ∧ 0 < mo ∧ mo ≤ 900 ∧
  ∀ (ws : List Nat) (r : Addr) (H' : Hp), Bx H' p → Sx p H H' → H r = none → H' r = some (.lst (nv ws)) → (∀ x, x ∈ ws → x < sz) → 1 ≤ ws.length → ws.length ≤ mo → Q (.ref r) H'
theorem cut_to (ws : List Nat) (n : Nat) : cutV (nv ws) none (some (n : Int)) = nv (ws.take n) := by
  unfold cutV
  rw [HT.sIx_none, HT.sIx_nat, nv_len, List.drop_zero, Nat.sub_zero]
  unfold nv
  rw [← List.map_take]
  refine congrArg (List.map _) ?_
  by_cases h : n ≤ ws.length
  · rw [Nat.min_eq_left h]
  · rw [Nat.min_eq_right (by omega), List.take_length, List.take_of_length_le (by omega)]
theorem rep_nv (n : Nat) (ws : List Nat) : (List.replicate n (nv ws)).flatten = nv (List.replicate n ws).flatten := by
  unfold nv
  rw [List.map_flatten, List.map_replicate]
theorem rep_mem {n x : Nat} {ws : List Nat} (h : x ∈ (List.replicate n ws).flatten) : x ∈ ws := by
  obtain ⟨l, h1, h2⟩ := List.mem_flatten.mp h
  rw [(List.mem_replicate.mp h1).2] at h2
  exact h2
theorem rep_len (n : Nat) (ws : List Nat) : (List.replicate n ws).flatten.length = n * ws.length := by
  rw [List.length_flatten, List.map_replicate, List.sum_replicate_nat]
theorem nv_one {ws : List Nat} {i : Nat} (h : i < ws.length) : (nv ws)[i]? = some (.int ((ws[i] : Nat) : Int)) := by
  unfold nv
  rw [List.getElem?_map, List.getElem?_eq_getElem h]; rfl
section
variable {P : Program} {w : World} {K : PySem.W.Frag} {mg : Str → Option Value} {base : Heap} {f g gn fl g1 g2 g3 g4 g5 fE : Addr} {fd gd gnd dl d1 d2 d3 d4 d5 dE : FuncData} {C CT CS CR : Addr}
theorem scSeq : FnScope nSeq ["box", "size", "most"] (defScope sSeq) := ⟨rfl, rfl, rfl, by decide +kernel, rfl, by decide +kernel, by decide +kernel⟩
theorem ok_seq (F : Fun K "_law_sequence" "_law_sequence" sSeq f fd) (M : Mn mg) (G : FnOk P w K mg base CX0 1 g gd ["box", "size"] spTake) (bG : Binds K gd ["box", "size"] []) (kG : PySem.W.keepIn K (.ref g) = true) (mG : mg "_law_take" = some (.ref g)) :
    FnOk P w K mg base CX0 2 f fd ["box", "size", "most"] spSeq := by
  refine F.ok scSeq (fun vs H Q E h => ?_) (fun cdv A outer s H vs Q E hr h => ?_)
  · obtain ⟨p, sz, mo, rfl, _⟩ := h
    rfl
  obtain ⟨p, sz, mo, rfl, hb, z0, z16, m0, m1, q⟩ := h
  refine ⟨_, pss_cons (ps_set (i := 3) scSeq.nd rfl (Or.inl rfl) (pe_op op_add pe_int (pe_call G hr (by rfl) mG kG bG .nil pass0 (pa_cons (pv 0) (pa_cons (pv 2) pa_nil)))))
    (pss_cons (ps_set (i := 4) scSeq.nd rfl (Or.inr rfl) (pe_lc (own := [("k", 6)]) (g := gName 6) (tt := tYes) rfl scSeq.nd (pi_range1 (by rfl) M.range (pa_cons pe_int pa_nil)) (blkOk_by (N := nSeq) (sc := defScope sSeq) (by decide +kernel))
      (fun _ _ _ _ _ => pg_name (i := 6) scSeq.nd rfl (Or.inl rfl)) (fun _ _ _ _ _ => pts_nil) (fun _ _ _ _ _ => pe_call G hr (by rfl) mG kG bG .nil pass0 (pa_cons (pv 0) (pa_cons (pv 1) pa_nil)))))
    (pss_cons (ps_set (i := 5) scSeq.nd rfl (Or.inl rfl) (pe_call G hr (by rfl) mG kG bG .nil pass0 (pa_cons (pv 0) (pa_cons pe_int pa_nil))))
    (pss_cons (ps_if (pt_cmpR op_eq (pv 5) pe_int (nomark _)) (pss_one (ps_ret (pe_lc (own := [("k", 6)]) (g := gName 6) (tt := tYes) rfl scSeq.nd (pi_range1 (by rfl) M.range (pa_cons (pv 3) pa_nil)) (blkOk_by (N := nSeq) (sc := defScope sSeq) (by decide +kernel))
      (fun _ _ _ _ _ => pg_name (i := 6) scSeq.nd rfl (Or.inl rfl)) (fun _ _ _ _ _ => pts_nil) (fun _ _ _ _ _ => pe_call G hr (by rfl) mG kG bG .nil pass0 (pa_cons (pv 0) (pa_cons (pv 1) pa_nil)))))) pss_nil)
    (pss_cons (ps_if (pt_cmpR op_eq (pv 5) pe_int (nomark _)) (pss_one (ps_ret (pe_lc (own := [("k", 6)]) (g := gName 6) (tt := tYes) rfl scSeq.nd (pi_range1 (by rfl) M.range (pa_cons (pv 3) pa_nil)) (blkOk_by (N := nSeq) (sc := defScope sSeq) (by decide +kernel))
      (fun _ _ _ _ _ => pg_name (i := 6) scSeq.nd rfl (Or.inl rfl)) (fun _ _ _ _ _ => pts_nil) (fun _ _ _ _ _ => pe_ix (ixl (K := K) rfl) (pv 4) (pe_call G hr (by rfl) mG kG bG .nil pass0 (pa_cons (pv 0) (pa_cons pe_int pa_nil))) (fun _ _ => rfl))))) pss_nil)
    (pss_cons (ps_if (pt_cmpR op_eq (pv 5) pe_int (nomark _)) (pss_one (ps_ret (pe_op op_rep (pe_lst (pa_cons (pe_ix ix_list (pv 4) pe_int (fun _ _ => rfl)) pa_nil)) (pv 3)))) pss_nil)
    (pss_cons (ps_if (pt_cmpR op_eq (pv 5) pe_int (nomark _)) (pss_one (ps_ret (pe_slice sl_list (pe_op op_rep (pe_slice sl_list (pv 4) po_none (po_some (pe_op op_add pe_int (pe_call G hr (by rfl) mG kG bG .nil pass0 (pa_cons (pv 0) (pa_cons pe_int pa_nil)))))) (pv 3)) po_none (po_some (pv 3))))) pss_nil)
    (pss_one (ps_ret (pe_slice sl_list (pe_op op_cat (pe_lst (pa_cons (pe_ix ix_list (pv 4) pe_int (fun _ _ => rfl)) pa_nil)) (pe_lc (own := [("k", 6)]) (g := gName 6) (tt := tYes) rfl scSeq.nd (pi_range1 (by rfl) M.range (pa_cons (pv 3) pa_nil)) (blkOk_by (N := nSeq) (sc := defScope sSeq) (by decide +kernel))
      (fun _ _ _ _ _ => pg_name (i := 6) scSeq.nd rfl (Or.inl rfl)) (fun _ _ _ _ _ => pts_nil) (fun _ _ _ _ _ => pe_ix (ixl (K := K) rfl) (pv 4) (pe_op op_add pe_int (pe_call G hr (by rfl) mG kG bG .nil pass0 (pa_cons (pv 0) (pa_cons pe_int pa_nil)))) (fun _ _ => rfl)))) po_none (po_some (pv 3))))))))))), ?_⟩
  refine ⟨_, rfl, _, rfl, p, _, rfl, hb, by omega, by omega, fun n0 H1 na nb b1 s1 => ⟨_, _, rfl, rfl, ?_⟩⟩
  obtain ⟨n0, rfl⟩ := Int.eq_ofNat_of_zero_le na
  obtain ⟨n, en⟩ : ∃ n : Nat, n = 1 + n0 := ⟨_, rfl⟩
  have ei : (1 : Int) + (n0 : Int) = (n : Int) := by omega
  show gName 3 (V.int ((1 : Int) + (n0 : Int))) _ _ _
  rw [ei]
  have n1 : 1 ≤ n := by omega
  have nm : n ≤ mo := by omega
  refine ⟨4, rfl, by decide, by decide, fun D hD => ?_⟩
  have nDp : D ≠ p := b1.ne hD
  refine lc_range (lo := 0) (n := Int.toNat 4) (fun i J => Bx J p ∧ Sx p H1 J ∧ ∃ ds : List Nat, J D = some (.lst (nv ds)) ∧ ds.length = i ∧ ∀ x, x ∈ ds → x < sz) ⟨b1.new hD, Sx.new hD, [], upd_same, rfl, fun _ z => nomatch z⟩ ?_ ?_
  · rintro i J hi ⟨bJ, sJ, ds, eD, ld, hd⟩
    refine ⟨rfl, _, rfl, _, rfl, p, _, rfl, bJ, by omega, by omega, fun r J1 ra rb bJ1 sJ1 => ?_⟩
    obtain ⟨r, rfl⟩ := Int.eq_ofNat_of_zero_le ra
    have hi4 : i < 4 := hi
    refine ⟨_, sJ1 _ _ nDp eD, by rw [nv_len, ld]; exact small1000 (by omega), bJ1.at_ne nDp, fun b o hbp e => ?_, ds ++ [r], by rw [upd_same]; unfold nv; rw [List.map_append]; rfl, by rw [List.length_append, ld]; rfl, fun x hx => ?_⟩
    · rw [upd_ne (ne_of_none e hD)]; exact sJ1 b o hbp (sJ b o hbp e)
    · rcases List.mem_append.mp hx with h | h
      · exact hd x h
      · rw [List.mem_singleton.mp h]; omega
  rintro H2 ⟨b2, s2, so, eS, l4, hso⟩
  have l4' : so.length = 4 := l4
  refine ⟨_, rfl, p, 5, rfl, b2, by decide, by decide, fun way H3 wa wb b3 s3 => ?_⟩
  have eS3 := s3 _ _ nDp eS
  have sxA : Sx p H H3 := (s1.trans s2).trans s3
  have HD : H D = none := s1.free b1 hD
  obtain ⟨way, rfl⟩ := Int.eq_ofNat_of_zero_le wa
  -- a list of n drawn elements
  refine ⟨_, rfl, rfl, _, rfl, ?_⟩
  refine ite2 (fun c => ?_) (fun c0 => ⟨_, rfl, rfl, _, rfl, ?_⟩)
  · refine ⟨_, rfl, _, rfl, by omega, by omega, fun D2 hD2 => ?_⟩
    have nD2 : D2 ≠ p := b3.ne hD2
    refine lc_range (lo := 0) (n := ((n : Nat) : Int).toNat) (fun i J => Bx J p ∧ Sx p H3 J ∧ ∃ ds : List Nat, J D2 = some (.lst (nv ds)) ∧ ds.length = i ∧ ∀ x, x ∈ ds → x < sz) ⟨b3.new hD2, Sx.new hD2, [], upd_same, rfl, fun _ z => nomatch z⟩ ?_ ?_
    · rintro i J hi ⟨bJ, sJ, ds, eD, ld, hd⟩
      refine ⟨rfl, _, rfl, _, rfl, p, _, rfl, bJ, by omega, by omega, fun r J1 ra rb bJ1 sJ1 => ?_⟩
      obtain ⟨r, rfl⟩ := Int.eq_ofNat_of_zero_le ra
      have hin : i < n := by simpa using hi
      refine ⟨_, sJ1 _ _ nD2 eD, by rw [nv_len, ld]; exact small1000 (by omega), bJ1.at_ne nD2, fun b o hbp e => ?_, ds ++ [r], by rw [upd_same]; unfold nv; rw [List.map_append]; rfl, by rw [List.length_append, ld]; rfl, fun x hx => ?_⟩
      · rw [upd_ne (ne_of_none e hD2)]; exact sJ1 b o hbp (sJ b o hbp e)
      · rcases List.mem_append.mp hx with h | h
        · exact hd x h
        · rw [List.mem_singleton.mp h]; omega
    · rintro J ⟨bJ, sJ, ds, eD, ld, hd⟩
      rw [Int.toNat_natCast] at ld
      exact q ds D2 J bJ (sxA.trans sJ) (sxA.free b3 hD2) eD hd (by omega) (by omega)
  refine ite2 (fun c => ?_) (fun c1 => ⟨_, rfl, rfl, _, rfl, ?_⟩)
  · refine ⟨_, rfl, _, rfl, by omega, by omega, fun D2 hD2 => ?_⟩
    have nD2 : D2 ≠ p := b3.ne hD2
    refine lc_range (lo := 0) (n := ((n : Nat) : Int).toNat) (fun i J => Bx J p ∧ Sx p H3 J ∧ ∃ ds : List Nat, J D2 = some (.lst (nv ds)) ∧ ds.length = i ∧ ∀ x, x ∈ ds → x < sz) ⟨b3.new hD2, Sx.new hD2, [], upd_same, rfl, fun _ z => nomatch z⟩ ?_ ?_
    · rintro i J hi ⟨bJ, sJ, ds, eD, ld, hd⟩
      have hin : i < n := by simpa using hi
      refine ⟨rfl, _, rfl, _, rfl, p, 2, rfl, bJ, by decide, by decide, fun r J1 ra rb bJ1 sJ1 => ?_⟩
      obtain ⟨r, rfl⟩ := Int.eq_ofNat_of_zero_le ra
      have hr4 : r < so.length := by omega
      refine ⟨D, _, _, _, rfl, rfl, SqL.of (sJ1 _ _ nDp (sJ _ _ nDp eS3)), at_of (j := r) rfl (nv_one hr4), ?_⟩
      refine ⟨_, sJ1 _ _ nD2 eD, by rw [nv_len, ld]; exact small1000 (by omega), bJ1.at_ne nD2, fun b o hbp e => ?_, ds ++ [so[r]], by rw [upd_same]; unfold nv; rw [List.map_append]; rfl, by rw [List.length_append, ld]; rfl, fun x hx => ?_⟩
      · rw [upd_ne (ne_of_none e hD2)]; exact sJ1 b o hbp (sJ b o hbp e)
      · rcases List.mem_append.mp hx with h | h
        · exact hd x h
        · rw [List.mem_singleton.mp h]; exact hso _ (List.getElem_mem hr4)
    · rintro J ⟨bJ, sJ, ds, eD, ld, hd⟩
      rw [Int.toNat_natCast] at ld
      exact q ds D2 J bJ (sxA.trans sJ) (sxA.free b3 hD2) eD hd (by omega) (by omega)
  have h0 : 0 < so.length := by omega
  refine ite2 (fun c => ?_) (fun c2 => ⟨_, rfl, rfl, _, rfl, ?_⟩)
  · refine ⟨_, rfl, D, _, _, _, rfl, rfl, SqL.of eS3, at_of (j := 0) rfl (nv_one h0), (by show 1 ≤ sizeLine; decide), fun l1 hl1 => ?_⟩
    have t1 := Same.new hl1 (.lst [.int ((so[0] : Nat) : Int)])
    have e1 : (upd H3 l1 (.lst [.int ((so[0] : Nat) : Int)])) l1 = some (.lst (nv [so[0]])) := upd_same
    refine ⟨_, rfl, l1, (n : Int), _, rfl, rfl, e1, by omega, by omega, by rw [nv_len, Int.toNat_natCast, sizeLine_eq]; show 1 * n ≤ _; omega, fun l2 hl2 => ?_⟩
    rw [Int.toNat_natCast, rep_nv]
    have t2 := Same.new hl2 (.lst (nv (List.replicate n [so[0]]).flatten))
    have tt := t1.trans t2
    refine q (List.replicate n [so[0]]).flatten l2 _ ((b3.new hl1).new hl2) (sxA.trans (Sx.of tt)) (sxA.free b3 (t1.free hl2)) upd_same (fun x hx => ?_) (by rw [rep_len]; show 1 ≤ n * 1; omega) (by rw [rep_len]; show n * 1 ≤ mo; omega)
    have := rep_mem hx
    rw [List.mem_singleton.mp this]; exact hso _ (List.getElem_mem h0)
  refine ite2 (fun c => ?_) (fun c3 => ?_)
  · refine ⟨_, rfl, _, rfl, p, 3, rfl, b3, by decide, by decide, fun r H4 ra rb b4 s4 => ⟨_, _, rfl, rfl, ?_⟩⟩
    obtain ⟨r, rfl⟩ := Int.eq_ofNat_of_zero_le ra
    have e2r : (2 : Int) + (r : Int) = ((2 + r : Nat) : Int) := by omega
    refine ⟨(2 : Int) + (r : Int), rfl, ?_⟩
    rw [e2r]
    refine ⟨D, _, rfl, SqL.of (s4 _ _ nDp eS3), fun l1 hl1 => ?_⟩
    rw [cut_to]
    have t1 := Same.new hl1 (.lst (nv (so.take (2 + r))))
    have lt1 : (so.take (2 + r)).length ≤ 4 := by rw [List.length_take]; omega
    have lt2 : 1 ≤ (so.take (2 + r)).length := by rw [List.length_take]; omega
    refine ⟨_, rfl, l1, (n : Int), _, rfl, rfl, upd_same, by omega, by omega, ?_, fun l2 hl2 => ?_⟩
    · rw [nv_len, Int.toNat_natCast, sizeLine_eq]
      have := Nat.mul_le_mul (show (so.take (2 + r)).length ≤ 4 from lt1) (show n ≤ 1000 by omega)
      omega
    rw [Int.toNat_natCast, rep_nv]
    have t2 := Same.new hl2 (.lst (nv (List.replicate n (so.take (2 + r))).flatten))
    have b5 := (b4.same t1).same t2
    refine ⟨_, rfl, (n : Int), rfl, l2, _, rfl, SqL.of upd_same, fun l3 hl3 => ?_⟩
    rw [cut_to]
    have t3 := Same.new hl3 (.lst (nv ((List.replicate n (so.take (2 + r))).flatten.take n)))
    have ll : n ≤ (List.replicate n (so.take (2 + r))).flatten.length := by
      rw [rep_len]
      have := Nat.mul_le_mul_left n lt2
      omega
    refine q _ l3 _ (b5.new hl3) ((sxA.trans s4).trans (Sx.of ((t1.trans t2).trans t3))) ((sxA.trans s4).free b4 ((t1.trans t2).free hl3)) upd_same (fun x hx => hso x (List.mem_of_mem_take (rep_mem (List.mem_of_mem_take hx)))) ?_ ?_
    · rw [List.length_take]; omega
    · rw [List.length_take]; omega
  · refine ⟨_, rfl, D, _, _, _, rfl, rfl, SqL.of eS3, at_of (j := 0) rfl (nv_one h0), (by show 1 ≤ sizeLine; decide), fun l1 hl1 => ?_⟩
    have t1 := Same.new hl1 (.lst [.int ((so[0] : Nat) : Int)])
    have e1 : (upd H3 l1 (.lst [.int ((so[0] : Nat) : Int)])) l1 = some (.lst (nv [so[0]])) := upd_same
    have b4 := b3.new (o := .lst [.int ((so[0] : Nat) : Int)]) hl1
    have nl1 : l1 ≠ p := b3.ne hl1
    refine ⟨_, rfl, _, rfl, by omega, by omega, fun D2 hD2 => ?_⟩
    have nD2 : D2 ≠ p := b4.ne hD2
    refine lc_range (lo := 0) (n := ((n : Nat) : Int).toNat) (fun i J => Bx J p ∧ Sx p (upd H3 l1 (.lst [.int ((so[0] : Nat) : Int)])) J ∧ ∃ ds : List Nat, J D2 = some (.lst (nv ds)) ∧ ds.length = i ∧ ∀ x, x ∈ ds → x < sz) ⟨b4.new hD2, Sx.new hD2, [], upd_same, rfl, fun _ z => nomatch z⟩ ?_ ?_
    · rintro i J hi ⟨bJ, sJ, ds, eD, ld, hd⟩
      have hin : i < n := by simpa using hi
      refine ⟨rfl, _, rfl, _, rfl, p, 3, rfl, bJ, by decide, by decide, fun r J1 ra rb bJ1 sJ1 => ⟨_, _, rfl, rfl, ?_⟩⟩
      obtain ⟨r, rfl⟩ := Int.eq_ofNat_of_zero_le ra
      have hr4 : 1 + r < so.length := by omega
      refine ⟨D, _, _, _, rfl, rfl, SqL.of (sJ1 _ _ nDp (sJ _ _ nDp (t1 _ _ eS3))), at_of (j := 1 + r) (by omega) (nv_one hr4), ?_⟩
      refine ⟨_, sJ1 _ _ nD2 eD, by rw [nv_len, ld]; exact small1000 (by omega), bJ1.at_ne nD2, fun b o hbp e => ?_, ds ++ [so[1 + r]], by rw [upd_same]; unfold nv; rw [List.map_append]; rfl, by rw [List.length_append, ld]; rfl, fun x hx => ?_⟩
      · rw [upd_ne (ne_of_none e hD2)]; exact sJ1 b o hbp (sJ b o hbp e)
      · rcases List.mem_append.mp hx with h | h
        · exact hd x h
        · rw [List.mem_singleton.mp h]; exact hso _ (List.getElem_mem hr4)
    · rintro J ⟨bJ, sJ, ds, eD, ld, hd⟩
      rw [Int.toNat_natCast] at ld
      have ecat : nv [so[0]] ++ nv ds = nv (so[0] :: ds) := rfl
      refine ⟨l1, D2, _, _, rfl, rfl, sJ _ _ nl1 e1, eD, by rw [nv_len, nv_len, ld]; exact Nat.le_of_lt (small1000 (by show 1 + n ≤ 1000; omega)), fun l2 hl2 => ?_⟩
      rw [ecat]
      have t2 := Same.new hl2 (.lst (nv (so[0] :: ds)))
      refine ⟨_, rfl, (n : Int), rfl, l2, _, rfl, SqL.of upd_same, fun l3 hl3 => ?_⟩
      rw [cut_to]
      have t3 := Same.new hl3 (.lst (nv ((so[0] :: ds).take n)))
      refine q _ l3 _ ((bJ.new hl2).new hl3) ((sxA.trans ((Sx.of t1).trans sJ)).trans (Sx.of (t2.trans t3))) ((sxA.trans ((Sx.of t1).trans sJ)).free bJ (t2.free hl3)) upd_same (fun x hx => ?_) ?_ ?_
      · rcases List.mem_cons.mp (List.mem_of_mem_take hx) with e | e
        · rw [e]; exact hso _ (List.getElem_mem h0)
        · exact hd x e
      · rw [List.length_take]; show 1 ≤ min n (ds.length + 1); omega
      · rw [List.length_take]; show min n (ds.length + 1) ≤ mo; omega
end
end L

set_option Elab.async false
set_option linter.all false
set_option maxRecDepth 100000
set_option maxHeartbeats 4000000
set_option pp.maxSteps 400
namespace L
open PySem L2 KX
abbrev sLaw : Stmt := top 44
abbrev nLaw : List Str := ["script", "k", "box", "rows", "table", "sequence", "due", "begin", "end", "inner", "other", "parts", "row"]
def spLaw (K : PySem.W.Frag) : Sp := fun vs H Q _ => ∃ (a : Addr) (ns : List Int), vs = [.ref a] ∧ SqL K H a (ns.map V.int) ∧ ns.length ≤ 63 ∧ ∀ H', Q (.bl true) H'
theorem cut_mid (xs : List V) {a b : Nat} (h : a ≤ b) (hb : b ≤ xs.length) : cutV xs (some (a : Int)) (some (b : Int)) = (xs.drop a).take (b - a) := by
  unfold cutV
  rw [HT.sIx_nat, HT.sIx_nat, show min a xs.length = a by omega, show min b xs.length = b by omega]
theorem cut_take {xs : List V} (k : Nat) : cutV xs none (some (k : Int)) = xs.take k := by
  unfold cutV
  rw [HT.sIx_none, HT.sIx_nat, List.drop_zero, Nat.sub_zero]
  by_cases h : k ≤ xs.length
  · rw [Nat.min_eq_left h]
  · rw [Nat.min_eq_right (by omega), List.take_length, List.take_of_length_le (by omega)]
theorem nv_mid (ws : List Nat) (a m : Nat) : ((nv ws).drop a).take m = nv ((ws.drop a).take m) := by unfold nv; rw [← List.map_drop, ← List.map_take]
theorem hrow_take (p : Nat → Nat → Nat) (i n k : Nat) (h : k ≤ n) : (hrow p i n).take k = hrow p i k := by
  unfold hrow
  rw [← List.map_take, List.take_range, Nat.min_eq_left h]
theorem slK {X : Cx} {K : PySem.W.Frag} (hK : X.K = K) : SlR X (rSlL K) := by subst hK; exact sl_list
/-- the heights of a range -/
theorem hrow_part {tb : List (List Int)} {ws : List Nat} {a m j : Nat} (h : a + m ≤ ws.length) (hj : j < m) : hrow (pd tb ((ws.drop a).take m)) j (m - j) = hrow (pd tb ws) (a + j) (m - j) := by
  have lv : ((ws.drop a).take m).length = m := by rw [List.length_take, List.length_drop]; omega
  unfold hrow
  refine List.map_congr_left fun k hk => ?_
  have hk := List.mem_range.mp hk
  have := hgt_congr (al_part (tb := tb) (ws := ws) (vs := (ws.drop a).take m) (s := a) fun k hk => by
    rw [List.getD_eq_getElem?_getD, List.getD_eq_getElem?_getD, List.getElem?_take_of_lt (by omega), List.getElem?_drop, Nat.add_comm]) (i := j) (j := j + 1 + k) (by omega) (by omega)
  rw [this, Nat.add_comm j a, show j + 1 + k + a = a + j + 1 + k by omega]
section
variable {P : Program} {w : World} {K : PySem.W.Frag} {mg : Str → Option Value} {base : Heap} {f f1 f2 f3 f4 f5 f6 f7 f8 f9 fI C : Addr} {fd d1 d2 d3 d4 d5 d6 d7 d8 d9 dI : FuncData}
theorem scLaw : FnScope nLaw ["script"] (defScope sLaw) := ⟨rfl, rfl, rfl, by decide +kernel, rfl, by decide +kernel, by decide +kernel⟩
theorem ok_law (F : Fun K "law" "law" sLaw f fd) (M : Mn mg) (T : CTx K mg C)
    (G1 : FnOk P w K mg base CX0 1 f1 d1 ["script", "k"] (spCell K)) (b1 : Binds K d1 ["script", "k"] []) (k1 : PySem.W.keepIn K (.ref f1) = true) (m1 : mg "_law_cell" = some (.ref f1))
    (G2 : FnOk P w K mg base CX0 1 f2 d2 ["cell"] spBox) (b2 : Binds K d2 ["cell"] []) (k2 : PySem.W.keepIn K (.ref f2) = true) (m2 : mg "_law_box" = some (.ref f2))
    (G3 : FnOk P w K mg base CX0 1 f3 d3 ["box", "size"] spTake) (b3 : Binds K d3 ["box", "size"] []) (k3 : PySem.W.keepIn K (.ref f3) = true) (m3 : mg "_law_take" = some (.ref f3))
    (G4 : FnOk P w K mg base CX0 3 f4 d4 ["box"] spRows) (b4 : Binds K d4 ["box"] []) (k4 : PySem.W.keepIn K (.ref f4) = true) (m4 : mg "_law_rows" = some (.ref f4))
    (G5 : FnOk P w K mg base CX0 2 f5 d5 ["box", "size", "most"] spSeq) (b5 : Binds K d5 ["box", "size", "most"] []) (k5 : PySem.W.keepIn K (.ref f5) = true) (m5 : mg "_law_sequence" = some (.ref f5))
    (G6 : FnOk P w K mg base CX0 5 f6 d6 ["table", "sequence"] (spHt K C)) (b6 : Binds K d6 ["table", "sequence"] []) (k6 : PySem.W.keepIn K (.ref f6) = true) (m6 : mg "height_table" = some (.ref f6))
    (G7 : FnOk P w K mg base CX0 9 f7 d7 ["box", "table", "sequence", "due"] (spEl K C)) (b7 : Binds K d7 ["box", "table", "sequence", "due"] []) (k7 : PySem.W.keepIn K (.ref f7) = true) (m7 : mg "_law_elsewhere_right" = some (.ref f7))
    (G8 : FnOk P w K mg base CX0 7 f8 d8 ["rows", "sequence", "due"] (spMi K)) (b8 : Binds K d8 ["rows", "sequence", "due"] []) (k8 : PySem.W.keepIn K (.ref f8) = true) (m8 : mg "_law_mirrored_right" = some (.ref f8))
    (G9 : FnOk P w K mg base CX0 6 f9 d9 ["table", "sequence"] (spMh K C)) (b9 : Binds K d9 ["table", "sequence"] []) (k9 : PySem.W.keepIn K (.ref f9) = true) (m9 : mg "minimal_height" = some (.ref f9))
    (MI : Mk K C fI) (GI : FnOk P w K mg base CX0 5 fI dI ["self", "rows"] (spInit K C)) (bI : Binds K dI ["self", "rows"] []) :
    GOk P w K mg base CX0 10 f fd ["script"] (spLaw K) := by
  refine gok F scLaw (fun vs H Q E h => ?_) (fun cdv A outer s H vs Q E hr hA h => ?_)
  · obtain ⟨a, ns, rfl, _⟩ := h
    rfl
  obtain ⟨a0, ns, rfl, hN, h63, q⟩ := h
  have hr1 : Room 1 _ := hr.mono (by decide)
  have hr2 : Room 2 _ := hr.mono (by decide)
  have hr3 : Room 3 _ := hr.mono (by decide)
  have hr5 : Room 5 _ := hr.mono (by decide)
  have hr6 : Room 6 _ := hr.mono (by decide)
  have hr7 : Room 7 _ := hr.mono (by decide)
  have hr9 : Room 9 _ := hr.mono (by decide)
  have hu := hr.units
  refine ⟨_, (pss_cons (ps_for PassesOwn.never rfl (pi_range1 (by rfl) M.range (pa_cons (pe_callB (call_max2 rfl) (by rfl) M.max (by decide +kernel) (pa_cons pe_int (pa_cons (pe_callB (call_min2 rfl) (by rfl) M.min (by decide +kernel) (pa_cons pe_int (pa_cons (pe_callB call_len_seq (by rfl) M.len PySem.boot_len (pa_cons (pv 0) pa_nil)) pa_nil))) pa_nil))) pa_nil)) (pg_name (i := 1) scLaw.nd rfl (Or.inl rfl)) (pss_cons (ps_set (i := 2) scLaw.nd rfl (Or.inl rfl) (pe_call G2 hr1 (by rfl) m2 k2 b2 .nil pass0 (pa_cons (pe_call G1 hr1 (by rfl) m1 k1 b1 .nil pass0 (pa_cons (pv 0) (pa_cons (pv 1) pa_nil))) pa_nil))) (pss_cons (ps_set (i := 3) scLaw.nd rfl (Or.inl rfl) (pe_call G4 hr3 (by rfl) m4 k4 b4 .nil pass0 (pa_cons (pv 2) pa_nil))) (pss_cons (ps_par (i := 4) (j := 5) (by rfl) scLaw.nd rfl rfl (by decide) rfl rfl (pa_cons (pe_make MI GI hr6 (by rfl) T.mgC bI .nil pass0 (pa_cons (pv 3) pa_nil)) (pa_cons (pe_call G5 hr2 (by rfl) m5 k5 b5 .nil pass0 (pa_cons (pv 2) (pa_cons (pe_callB (lenl (K := K) rfl) (by rfl) M.len PySem.boot_len (pa_cons (pv 3) pa_nil)) (pa_cons pe_int pa_nil)))) pa_nil)) (by rfl)) (pss_cons (ps_set (i := 6) scLaw.nd rfl (Or.inl rfl) (pe_call G6 hr5 (by rfl) m6 k6 b6 .nil pass0 (pa_cons (pv 4) (pa_cons (pv 5) pa_nil)))) (pss_cons (ps_set (i := 7) scLaw.nd rfl (Or.inr rfl) (pe_call G3 hr1 (by rfl) m3 k3 b3 .nil pass0 (pa_cons (pv 2) (pa_cons (pe_callB (lenl (K := K) rfl) (by rfl) M.len PySem.boot_len (pa_cons (pv 5) pa_nil)) pa_nil)))) (pss_cons (ps_set (i := 8) scLaw.nd rfl (Or.inr rfl) (pe_op op_add (pe_op op_add (pv 7) pe_int) (pe_call G3 hr1 (by rfl) m3 k3 b3 .nil pass0 (pa_cons (pv 2) (pa_cons (pe_op op_sub (pe_callB (lenl (K := K) rfl) (by rfl) M.len PySem.boot_len (pa_cons (pv 5) pa_nil)) (pv 7)) pa_nil))))) (pss_cons (ps_setLc (i := 9) (own := [("k", 1), ("row", 12)]) (g := gTup _ 2 (gCons (gName 1) (gCons (gName 12) gNil))) (tt := tYes) rfl scLaw.nd rfl rfl (sw_true rfl rfl rfl (by decide +kernel)) (pi_enumS (by rfl) M.enum (pa_cons (pe_slice sl_list (pv 6) (po_some (pv 7)) (po_some (pv 8))) pa_nil)) (blkOk_by (N := nLaw) (sc := defScope sLaw) (by decide +kernel)) (fun _ _ _ _ _ => (pg_tup rfl (pgs_cons (pg_name (i := 1) scLaw.nd rfl (Or.inl rfl)) (pgs_cons (pg_name (i := 12) scLaw.nd rfl (Or.inl rfl)) pgs_nil)))) (fun _ _ _ _ _ => pts_nil) (fun _ _ _ _ _ => (pe_slice (slK (K := K) rfl) (pv 12) po_none (po_some (pe_op op_sub (pe_op op_sub (pv 8) (pv 7)) (pv 1)))))) (pss_cons (ps_if (pt_cmpR (op_neD hu) (pe_call G6 hr5 (by rfl) m6 k6 b6 .nil pass0 (pa_cons (pv 4) (pa_cons (pe_slice sl_list (pv 5) (po_some (pv 7)) (po_some (pv 8))) pa_nil))) (pv 9) (nomark _)) (pss_one (ps_ret pe_bl)) pss_nil) (pss_cons (ps_if (pw_or (pt_not (pt_val (pe_call G7 hr9 (by rfl) m7 k7 b7 .nil pass0 (pa_cons (pv 2) (pa_cons (pv 4) (pa_cons (pv 5) (pa_cons (pv 6) pa_nil))))))) (pw_or1 (pt_not (pt_val (pe_call G8 hr7 (by rfl) m8 k8 b8 .nil pass0 (pa_cons (pv 3) (pa_cons (pv 5) (pa_cons (pv 6) pa_nil)))))))).pt (pss_one (ps_ret pe_bl)) pss_nil) (pss_cons (ps_set (i := 10) scLaw.nd rfl (Or.inl rfl) (pe_call G5 hr2 (by rfl) m5 k5 b5 .nil pass0 (pa_cons (pv 2) (pa_cons (pe_callB (lenl (K := K) rfl) (by rfl) M.len PySem.boot_len (pa_cons (pv 3) pa_nil)) (pa_cons pe_int pa_nil))))) (pss_cons (ps_set (i := 11) scLaw.nd rfl (Or.inl rfl) (pe_lst (pa_cons (pe_ix (ixl (K := K) rfl) (pe_ix (ixl (K := K) rfl) (pv 6) pe_int (fun _ _ => rfl)) (pe_un un_neg pe_int) (fun _ _ => rfl)) (pa_cons (pe_call G9 hr6 (by rfl) m9 k9 b9 .nil pass0 (pa_cons (pv 4) (pa_cons (pv 10) pa_nil))) pa_nil)))) (pss_one (ps_if (pt_cmpR op_gt (pe_call G9 hr6 (by rfl) m9 k9 b9 .nil pass0 (pa_cons (pv 4) (pa_cons (pe_op op_cat (pv 5) (pv 10)) pa_nil))) (pe_op op_add (pe_callB (cr_max rfl) (by rfl) M.max (by decide +kernel) (pa_cons (pv 11) pa_nil)) pe_int) (nomark _)) (pss_one (ps_ret pe_bl)) pss_nil)))))))))))))) (pss_one (ps_ret pe_bl))), ?_⟩
  have len : (ns.map V.int).length = ns.length := List.length_map _
  refine ⟨_, rfl, a0, _, rfl, .inl hN, _, _, rfl, _, _, rfl, _, rfl, ?_⟩
  rw [len]
  generalize hm : (if (if (ns.length : Int) < 4 then (ns.length : Int) else 4) > 2 then (if (ns.length : Int) < 4 then (ns.length : Int) else 4) else 2) = m
  have hm8 : 0 ≤ m ∧ m ≤ 8 := by rw [← hm]; split <;> split <;> omega
  refine ⟨by omega, by omega, ?_⟩
  refine for_range (lo := 0) (n := m.toNat) (fun _ σ J => Same H J ∧ ∃ x1 x2 x3 x4 x5 x6 x7 x8 x9 x10 x11 x12, σ = [some (.ref a0), x1, x2, x3, x4, x5, x6, x7, x8, x9, x10, x11, x12]) ⟨Same.refl H, _, _, _, _, _, _, _, _, _, _, _, _, rfl⟩ ?_ ?_
  rotate_left
  · rintro _ J ⟨sJ, x1, x2, x3, x4, x5, x6, x7, x8, x9, x10, x11, x12, rfl⟩
    exact q J
  rintro k _ J hk ⟨sJ, x1, x2, x3, x4, x5, x6, x7, x8, x9, x10, x11, x12, rfl⟩
  refine ⟨_, rfl, _, rfl, a0, ns, _, rfl, sJ.seq hN, by omega, fun c => ⟨c, rfl, fun p J1 sJ1 hp0 bx1 => ?_⟩⟩
  have np : H p = none := sJ.free hp0
  have sH1 : Same H J1 := sJ.trans sJ1
  refine ⟨_, rfl, p, rfl, bx1, fun v3 J3 n3 f3' h3 => ?_⟩
  have T3 : Tb (tab n3 f3') := tab_tb h3.n1 h3.n16 h3.as
  have R3 : RowsL (mn p J3) v3 (tab n3 f3') := h3.rows.same (mn_nw bx1.nn)
  have sH3 : Same H J3 := fx sH1 np h3.sx
  have bx3 := h3.bx
  clear h3
  generalize tab n3 f3' = tb at *
  obtain ⟨av, xs3, rfl, ea3, lxs⟩ := R3.sq
  have S := T3.sq
  have n16 := S.ge
  have nap : av ≠ p := fun z => by rw [z, mn_p] at ea3; cases ea3
  refine ⟨_, rfl, fun x1 e1 hx1 he1 ne1 => init_at (R3.same mn_same) T3 hx1 he1 ne1 fun G1' s1 t1 => ?_⟩
  have bG := bx3.same s1
  refine ⟨_, rfl, _, rfl, av, xs3, rfl, .inl (SqL.of (s1 _ _ (mn_same _ _ ea3))), ?_⟩
  rw [lxs]
  refine ⟨p, tb.length, 20, rfl, bG, S.le, n16, by decide, by decide, fun ws r J5 b5' x5' hr0 er5 hw l1 l20 => ⟨_, _, rfl, ?_⟩⟩
  have nrp : r ≠ p := bG.ne hr0
  have x5' : Sx p G1' J5 := x5'
  let FF : Hp := mn p J5
  have nFp : FF p = none := mn_p
  have sF : Same FF J5 := mn_same
  have toF0 : Same (mn p J3) FF := fun b o e => by
    have nb : b ≠ p := fun z => by rw [z, mn_p] at e; cases e
    exact mn_sx _ _ nb (x5' _ _ nb (s1 _ _ (mn_same _ _ e)))
  have RF : RowsL FF (.ref av) tb := R3.same toF0
  have tF : TbA K C FF x1 tb := TbA.sx (x5'.trans mn_sx) bG t1
  have sHF : Same H FF := fun b o e => by
    have nb := ne_of_none e np
    exact mn_sx _ _ nb (x5' _ _ nb (s1 _ _ (sH3 _ _ e)))
  have erF : FF r = some (.lst (nv ws)) := mn_sx _ _ nrp er5
  have eaF : FF av = some (.lst xs3) := toF0 _ _ ea3
  generalize FF = F at nFp sF RF tF sHF erF eaF
  refine ⟨_, rfl, _, rfl, x1, .ref r, tb, ws, rfl, tF.to sF, T3, ⟨r, rfl, .inl (SqL.of (sF _ _ erF))⟩, hw, l1, by omega, fun due G1 R1 s6 => ?_⟩
  have b6 := b5'.same s6
  let F2' : Hp := mn p G1
  have nF2 : F2' p = none := mn_p
  have sF2 : Same F2' G1 := mn_same
  have sFF : Same F F2' := fun b o e => mn_sx _ _ (ne_of_none e nFp) (s6 _ _ (sF _ _ e))
  have RD : RowsL F2' due (hts (pd tb ws) ws.length ws.length) := R1.same fun b o e => by
    obtain ⟨z1, z2⟩ := nw_some e
    have nb : b ≠ p := fun z => by rw [z] at z1; exact b5'.nn z1
    exact mn_sx _ _ nb z2
  generalize F2' = F2 at nF2 sF2 sFF RD
  have er2 := sFF _ _ erF
  refine ⟨_, rfl, _, rfl, r, _, rfl, .inl (SqL.of (sF2 _ _ er2)), ?_⟩
  rw [nv_len]
  refine ⟨p, ws.length, rfl, b6, by omega, by omega, fun bg J7 c0 c1 b7 x7 => ?_⟩
  obtain ⟨bg, rfl⟩ := Int.eq_ofNat_of_zero_le c0
  have sF7 : Same F2 J7 := fx sF2 nF2 x7
  refine ⟨_, rfl, _, _, rfl, rfl, _, rfl, _, rfl, r, _, rfl, .inl (SqL.of (sF7 _ _ er2)), ?_⟩
  rw [nv_len]
  refine ⟨_, rfl, _, _, rfl, rfl, p, (ws.length : Int) - (bg : Int), rfl, b7, by omega, by omega, fun en J8 d0 d1 b8 x8 => ⟨_, _, rfl, rfl, ?_⟩⟩
  obtain ⟨e, rfl⟩ := Int.eq_ofNat_of_zero_le d0
  have sF8 : Same F2 J8 := fx sF7 nF2 x8
  have hed : (bg : Int) + 1 + (e : Int) = ((bg + (e + 1) : Nat) : Int) := by omega
  have hen : bg + (e + 1) ≤ ws.length := by omega
  show gName 8 (V.int ((bg : Int) + 1 + (e : Int))) _ _ _
  rw [hed]
  obtain ⟨ld, rd, rfl, eld, prd⟩ := id RD
  have lrd : rd.length = ws.length := by rw [prd.length]; unfold hts; rw [List.length_map, List.length_range]
  refine ⟨_, rfl, _, rfl, _, rfl, _, rfl, _, rfl, ld, _, rfl, SqL.of (sF8 _ _ eld), fun D0 hD0 => ?_⟩
  rw [cut_mid _ (by omega) (by rw [List.length_map, lrd]; exact hen), show bg + (e + 1) - bg = e + 1 by omega]
  have s9 := Same.new hD0 (.lst (((rd.map V.ref).drop bg).take (e + 1)))
  have eD0 := upd_same (H := J8) (a := D0) (o := .lst (((rd.map V.ref).drop bg).take (e + 1)))
  have sF9 := sF8.trans s9
  have b9 := b8.same s9
  generalize upd J8 D0 (.lst (((rd.map V.ref).drop bg).take (e + 1))) = J9 at s9 eD0 sF9 b9 ⊢
  have lv : ((ws.drop bg).take (e + 1)).length = e + 1 := by rw [List.length_take, List.length_drop]; omega
  have lx : (((rd.map V.ref).drop bg).take (e + 1)).length = e + 1 := by rw [List.length_take, List.length_drop, List.length_map]; omega
  refine ⟨D0, _, rfl, .inl ⟨SqL.of eD0, fun D1 hD1 => ?_⟩⟩
  refine lc_it walk_enum (fun j G => Part J9 G D1 (hts (pd tb ((ws.drop bg).take (e + 1))) (e + 1) j)) (Part.start (Same.refl _) hD1) (fun j G _ z => SqL.of (z.same _ _ eD0)) ?_ ?_
  · rintro j y G2 G3 hj pa ⟨T0, y1, y2, rfl, hT, rfl, g1, g2⟩
    cases g1
    rw [lx] at hj
    dsimp only at g2
    rw [List.getElem?_take_of_lt hj, List.getElem?_drop, List.getElem?_map] at g2
    obtain ⟨r4, hr4, rfl⟩ := Option.map_eq_some_iff.mp g2
    obtain ⟨row, hrow', er4⟩ := pair_at prd hr4
    have erow : hrow (pd tb ws) (bg + j) (ws.length - (bg + j)) = row := by
      unfold hts at hrow'
      rw [List.getElem?_map, List.getElem?_range (by omega)] at hrow'
      exact Option.some.inj hrow'
    subst erow
    have u1 := Same.new hT (.tup [.int (j : Nat), .ref r4])
    have er5' := u1 _ _ (pa.same _ _ (sF9 _ _ er4))
    refine ⟨T0, _, rfl, SqT.of upd_same, rfl, _, _, rfl, _, _, rfl, rfl, rfl, _, rfl, _, rfl, _, rfl, _, _, rfl, rfl, _, rfl, _, _, rfl, rfl, _, rfl, r4, _, rfl, SqL.of er5', fun D2 hD2 => ?_⟩
    have ec : cutV ((hrow (pd tb ws) (bg + j) (ws.length - (bg + j))).map V.int) none (some (((bg + (e + 1) : Nat) : Int) - (bg : Int) - (j : Int))) = (hrow (pd tb ((ws.drop bg).take (e + 1))) j (e + 1 - j)).map V.int := by
      rw [show ((bg + (e + 1) : Nat) : Int) - (bg : Int) - (j : Int) = ((e + 1 - j : Nat) : Int) by omega, cut_take, ← List.map_take, hrow_take _ _ _ _ (by omega), hrow_part hen hj]
    rw [ec]
    have u2 := Same.new hD2 (.lst ((hrow (pd tb ((ws.drop bg).take (e + 1))) j (e + 1 - j)).map V.int))
    obtain ⟨acc, ea, lacc, p1⟩ := pa.add (u1.trans u2) (u1.free hD2) upd_same
    refine ⟨acc, ea, by rw [lacc]; unfold hts; rw [List.length_map, List.length_range]; exact small1000 (by omega), ?_⟩
    have e3 : hts (pd tb ((ws.drop bg).take (e + 1))) (e + 1) (j + 1) = hts (pd tb ((ws.drop bg).take (e + 1))) (e + 1) j ++ [hrow (pd tb ((ws.drop bg).take (e + 1))) j (e + 1 - j)] := by
      unfold hts; rw [List.range_succ, List.map_append]; rfl
    rw [e3]
    exact p1
  rintro G2 pa
  rw [lx] at pa
  have RI := pa.fin.same nw_same
  have sFa := sF9.trans pa.same
  have ba := b9.same pa.same
  refine ⟨_, rfl, _, rfl, _, rfl, _, rfl, _, rfl, _, rfl, r, _, rfl, SqL.of (sFa _ _ er2), fun D3 hD3 => ?_⟩
  rw [cut_mid _ (by omega) (by rw [nv_len]; exact hen), show bg + (e + 1) - bg = e + 1 by omega, nv_mid]
  have sb := Same.new hD3 (.lst (nv ((ws.drop bg).take (e + 1))))
  refine ⟨x1, .ref D3, tb, (ws.drop bg).take (e + 1), rfl, tF.to (sFF.trans (sFa.trans sb)), T3, ⟨D3, rfl, .inl (SqL.of upd_same)⟩, fun z hz => hw z (List.mem_of_mem_drop (List.mem_of_mem_take hz)), by rw [lv]; omega, by rw [lv]; omega, fun v4 G4 R4 s11 => ?_⟩
  rw [lv] at R4
  have sFb := (sFa.trans sb).trans s11
  have bb := (ba.same sb).same s11
  refine ⟨_, rfl, _, _, (R4.same nw_same).dp, (RI.same (sb.trans s11)).dp, rD_shaped _, rD_shaped _, _, rfl, ?_⟩
  rw [rD_refl]
  refine iteF ?_
  have sFm : ∀ {G : Hp}, Same F2 G → Same F2 (mn p G) := fun s b o e => mn_sx _ _ (ne_of_none e nF2) (s _ _ e)
  refine ⟨_, rfl, _, rfl, _, rfl, _, rfl, p, x1, r, .ref ld, tb, ws, rfl, bb, tF.to (sFF.trans (sFm sFb)), T3, sFm sFb _ _ er2, hw, l1, l20, RD.same (sFm sFb), fun G7 b7' x7' => ⟨_, rfl, iteF ?_⟩⟩
  have sFc : Same F2 G7 := fx sFb nF2 x7'
  refine ⟨_, rfl, _, rfl, _, rfl, r, .ref av, .ref ld, tb, ws, rfl, RF.same (sFF.trans sFc), T3, sFc _ _ er2, hw, l1, l20, RD.same sFc, fun G8 s8 => ⟨_, rfl, iteF ?_⟩⟩
  have sFd := sFc.trans s8
  have bd := b7'.same s8
  refine ⟨_, rfl, _, rfl, av, xs3, rfl, .inl (SqL.of (sFd _ _ (sFF _ _ eaF))), ?_⟩
  rw [lxs]
  refine ⟨p, tb.length, 20, rfl, bd, S.le, n16, by decide, by decide, fun us r2 J10 b10 x10 hr2 er10 hu2 k1' k20 => ?_⟩
  have x10 : Sx p G8 J10 := x10
  have sFe : Same F2 J10 := fx sFd nF2 x10
  obtain ⟨rs0, hrs0, er00⟩ : ∃ r0 : Addr, (rd.map V.ref)[0]? = some (.ref r0) ∧ F2 r0 = some (.lst ((hrow (pd tb ws) 0 ws.length).map V.int)) := by
    have h1 : rd[0]? = some rd[0] := List.getElem?_eq_getElem (by omega)
    obtain ⟨row, hrow', er4⟩ := pair_at prd h1
    have erow : hrow (pd tb ws) 0 (ws.length - 0) = row := by
      unfold hts at hrow'
      rw [List.getElem?_map, List.getElem?_range (by omega)] at hrow'
      exact Option.some.inj hrow'
    rw [← erow] at er4
    exact ⟨rd[0], by rw [List.getElem?_map, h1]; rfl, er4⟩
  have lr : (hrow (pd tb ws) 0 ws.length).length = ws.length := by unfold hrow; rw [List.length_map, List.length_range]
  have am : atI ((hrow (pd tb ws) 0 ws.length).map V.int) (-1) = some (.int ((hgt (pd tb ws) 0 ws.length : Nat) : Int)) := by
    have e : ixN ((hrow (pd tb ws) 0 ws.length).map V.int).length (-1) = some (ws.length - 1) := by
      rw [List.length_map, lr]
      unfold ixN
      rw [if_neg (by omega), if_pos (by omega)]
      congr 1
      omega
    unfold atI
    rw [e]
    unfold hrow
    show ((List.range ws.length).map _ |>.map V.int)[ws.length - 1]? = _
    rw [List.getElem?_map, List.getElem?_map, List.getElem?_range (by omega)]
    show some (V.int ((hgt (pd tb ws) 0 (0 + 1 + (ws.length - 1)) : Nat) : Int)) = _
    rw [show 0 + 1 + (ws.length - 1) = ws.length by omega]
  refine ⟨_, rfl, ld, _, _, _, rfl, rfl, SqL.of (sFe _ _ eld), at_of (j := 0) rfl hrs0, _, rfl, rs0, _, _, _, rfl, rfl, SqL.of (sFe _ _ er00), am, ?_⟩
  refine ⟨_, rfl, _, rfl, x1, .ref r2, tb, us, rfl, tF.to (sFF.trans sFe), T3, ⟨r2, rfl, .inl (SqL.of er10)⟩, hu2, k1', by omega, fun G11 s12 => ?_⟩
  refine ⟨szl _ (by simp), fun L hL => ?_⟩
  have s13 := Same.new hL (.lst [.int ((hgt (pd tb ws) 0 ws.length : Nat) : Int), .int ((hgt (pd tb us) 0 us.length : Nat) : Int)])
  have eL := upd_same (H := G11) (a := L) (o := .lst [.int ((hgt (pd tb ws) 0 ws.length : Nat) : Int), .int ((hgt (pd tb us) 0 us.length : Nat) : Int)])
  have sFf := sFe.trans (s12.trans s13)
  have er11 := s13 _ _ (s12 _ _ er10)
  generalize upd G11 L (.lst [.int ((hgt (pd tb ws) 0 ws.length : Nat) : Int), .int ((hgt (pd tb us) 0 us.length : Nat) : Int)]) = G12 at eL sFf er11 ⊢
  refine ⟨_, rfl, _, rfl, _, rfl, r, r2, nv ws, nv us, rfl, rfl, sFf _ _ er2, er11, szl _ (by rw [nv_len, nv_len]; omega), fun D5 hD5 => ?_⟩
  have s14 := Same.new hD5 (.lst (nv ws ++ nv us))
  have ecat : nv ws ++ nv us = nv (ws ++ us) := by unfold nv; rw [List.map_append]
  refine ⟨x1, .ref D5, tb, ws ++ us, rfl, tF.to (sFF.trans (sFf.trans s14)), T3, ⟨D5, rfl, .inl (SqL.of (by rw [upd_same, ecat]))⟩, fun z hz => ?_, by rw [List.length_append]; omega, by rw [List.length_append]; omega, fun G13 s15 => ?_⟩
  · rcases List.mem_append.mp hz with h | h
    · exact hw z h
    · exact hu2 z h
  refine ⟨_, rfl, L, [((hgt (pd tb ws) 0 ws.length : Nat) : Int), ((hgt (pd tb us) 0 us.length : Nat) : Int)], rfl, SqL.of (s15 _ _ (s14 _ _ eL)), by simp, fun mx hm1 hm2 => ?_⟩
  have q1 := hm2 _ (List.mem_cons_self)
  have q2 := hm2 ((hgt (pd tb us) 0 us.length : Nat) : Int) (by simp)
  have q3 := hgt_two (tb := tb) l1 k1'
  refine ⟨_, _, rfl, rfl, _, _, rfl, rfl, _, rfl, ?_⟩
  rw [decide_eq_false (by omega)]
  exact iteF ⟨sHF.trans (sFF.trans ((sFf.trans s14).trans s15)), _, _, _, _, _, _, _, _, _, _, _, _, rfl⟩
end
end L

set_option Elab.async false
set_option linter.all false
set_option maxRecDepth 100000
set_option maxHeartbeats 4000000
namespace L
open PySem L2 KX
theorem all_mk {l : PySem.W.OpenLaw} {w : World} {K : PySem.W.Frag} {h : Heap} {mg : Str → Option Value} {fa : Addr} (X : K.In h) (G : h.Ns mainGlobals mg) (hfa : mg "law" = some (.ref fa))
    {f0 : Addr} {od0 an0 : Option Addr} {sl0 : Array (Option Value)} {oc0 kV0 dc0 pm0 cd0 ct0 : Value}
    {f1 : Addr} {od1 an1 : Option Addr} {sl1 : Array (Option Value)} {oc1 kV1 dc1 pm1 cd1 ct1 : Value}
    {f2 : Addr} {od2 an2 : Option Addr} {sl2 : Array (Option Value)} {oc2 kV2 dc2 pm2 cd2 ct2 : Value}
    {f3 : Addr} {od3 an3 : Option Addr} {sl3 : Array (Option Value)} {oc3 kV3 dc3 pm3 cd3 ct3 : Value}
    {f4 : Addr} {od4 an4 : Option Addr} {sl4 : Array (Option Value)} {oc4 kV4 dc4 pm4 cd4 ct4 : Value}
    {f5 : Addr} {od5 an5 : Option Addr} {sl5 : Array (Option Value)} {oc5 kV5 dc5 pm5 cd5 ct5 : Value}
    {f6 : Addr} {od6 an6 : Option Addr} {sl6 : Array (Option Value)} {oc6 kV6 dc6 pm6 cd6 ct6 : Value}
    {f7 : Addr} {od7 an7 : Option Addr} {sl7 : Array (Option Value)} {oc7 kV7 dc7 pm7 cd7 ct7 : Value}
    {f8 : Addr} {od8 an8 : Option Addr} {sl8 : Array (Option Value)} {oc8 kV8 dc8 pm8 cd8 ct8 : Value}
    {f9 : Addr} {od9 an9 : Option Addr} {sl9 : Array (Option Value)} {oc9 kV9 dc9 pm9 cd9 ct9 : Value}
    {f10 : Addr} {od10 an10 : Option Addr} {sl10 : Array (Option Value)} {oc10 kV10 dc10 pm10 cd10 ct10 : Value}
    {f11 : Addr} {od11 an11 : Option Addr} {sl11 : Array (Option Value)} {oc11 kV11 dc11 pm11 cd11 ct11 : Value}
    {f12 : Addr} {od12 an12 : Option Addr} {sl12 : Array (Option Value)} {oc12 kV12 dc12 pm12 cd12 ct12 : Value}
    {f13 : Addr} {od13 an13 : Option Addr} {sl13 : Array (Option Value)} {oc13 kV13 dc13 pm13 cd13 ct13 : Value}
    {f14 : Addr} {od14 an14 : Option Addr} {sl14 : Array (Option Value)} {oc14 kV14 dc14 pm14 cd14 ct14 : Value}
    {f15 : Addr} {od15 an15 : Option Addr} {sl15 : Array (Option Value)} {oc15 kV15 dc15 pm15 cd15 ct15 : Value}
    {f16 : Addr} {od16 an16 : Option Addr} {sl16 : Array (Option Value)} {oc16 kV16 dc16 pm16 cd16 ct16 : Value}
    {f17 : Addr} {od17 an17 : Option Addr} {sl17 : Array (Option Value)} {oc17 kV17 dc17 pm17 cd17 ct17 : Value}
    {f18 : Addr} {od18 an18 : Option Addr} {sl18 : Array (Option Value)} {oc18 kV18 dc18 pm18 cd18 ct18 : Value}
    {f19 : Addr} {od19 an19 : Option Addr} {sl19 : Array (Option Value)} {oc19 kV19 dc19 pm19 cd19 ct19 : Value}
    {f20 : Addr} {od20 an20 : Option Addr} {sl20 : Array (Option Value)} {oc20 kV20 dc20 pm20 cd20 ct20 : Value}
    {f21 : Addr} {od21 an21 : Option Addr} {sl21 : Array (Option Value)} {oc21 kV21 dc21 pm21 cd21 ct21 : Value}
    {f22 : Addr} {od22 an22 : Option Addr} {sl22 : Array (Option Value)} {oc22 kV22 dc22 pm22 cd22 ct22 : Value}
    {f23 : Addr} {od23 an23 : Option Addr} {sl23 : Array (Option Value)} {oc23 kV23 dc23 pm23 cd23 ct23 : Value}
    {f24 : Addr} {od24 an24 : Option Addr} {sl24 : Array (Option Value)} {oc24 kV24 dc24 pm24 cd24 ct24 : Value}
    {f25 : Addr} {od25 an25 : Option Addr} {sl25 : Array (Option Value)} {oc25 kV25 dc25 pm25 cd25 ct25 : Value}
    {f26 : Addr} {od26 an26 : Option Addr} {sl26 : Array (Option Value)} {oc26 kV26 dc26 pm26 cd26 ct26 : Value}
    {f27 : Addr} {od27 an27 : Option Addr} {sl27 : Array (Option Value)} {oc27 kV27 dc27 pm27 cd27 ct27 : Value}
    {f28 : Addr} {od28 an28 : Option Addr} {sl28 : Array (Option Value)} {oc28 kV28 dc28 pm28 cd28 ct28 : Value}
    {f29 : Addr} {od29 an29 : Option Addr} {sl29 : Array (Option Value)} {oc29 kV29 dc29 pm29 cd29 ct29 : Value}
    {f30 : Addr} {od30 an30 : Option Addr} {sl30 : Array (Option Value)} {oc30 kV30 dc30 pm30 cd30 ct30 : Value}
    {f31 : Addr} {od31 an31 : Option Addr} {sl31 : Array (Option Value)} {oc31 kV31 dc31 pm31 cd31 ct31 : Value}
    {f32 : Addr} {od32 an32 : Option Addr} {sl32 : Array (Option Value)} {oc32 kV32 dc32 pm32 cd32 ct32 : Value}
    {f33 : Addr} {od33 an33 : Option Addr} {sl33 : Array (Option Value)} {oc33 kV33 dc33 pm33 cd33 ct33 : Value}
    {f34 : Addr} {od34 an34 : Option Addr} {sl34 : Array (Option Value)} {oc34 kV34 dc34 pm34 cd34 ct34 : Value}
    {f35 : Addr} {od35 an35 : Option Addr} {sl35 : Array (Option Value)} {oc35 kV35 dc35 pm35 cd35 ct35 : Value}
    {f36 : Addr} {od36 an36 : Option Addr} {sl36 : Array (Option Value)} {oc36 kV36 dc36 pm36 cd36 ct36 : Value}
    {C : Addr}
    {CF : Addr}
    {tk0 : Tok}
    {tk1 : Tok}
    {tk2 : Tok}
    (aC : PySem.W.nsIn K mainGlobals "ProductTable" = some (some (.ref C)))
    (pg : PySem.W.plainGet K C Str.empty = true)
    (hd : PySem.W.hasDictIn K C = true)
    (po : PySem.W.plainOver K C = true)
    (sa : PySem.W.findIn K (.ref C) "__setattr__" = some (some (.builtin "object.__setattr__")))
    (mk : PySem.W.makesIn K C = true)
    (kc : PySem.W.keepIn K (.ref C) = true)
    (nR : PySem.W.findIn K (.ref C) "_rows" = some none)
    (ya : PySem.W.findIn K (.ref C) "__class__" = some (some (.builtin "object.__class__")))
    (yn : PySem.W.specialIn K (.builtin "object.__class__") "__get__" = some (some (.builtin "getset_descriptor.__get__")))
    (yt : PySem.W.takesIn K (.builtin "object.__class__") = some true)
    (ym : PySem.W.mroIn K C (.type "object") = some true)
    (au : PySem.W.nsIn K mainGlobals "HeightFinder" = some (some (.ref CF)))
    (pgu : PySem.W.plainGet K CF Str.empty = true)
    (hdu : PySem.W.hasDictIn K CF = true)
    (pou : PySem.W.plainOver K CF = true)
    (sau : PySem.W.findIn K (.ref CF) "__setattr__" = some (some (.builtin "object.__setattr__")))
    (mku : PySem.W.makesIn K CF = true)
    (kcu : PySem.W.keepIn K (.ref CF) = true)
    (n1u : PySem.W.findIn K (.ref CF) "_sequence" = some none)
    (n2u : PySem.W.findIn K (.ref CF) "_rows" = some none)
    (n3u : PySem.W.findIn K (.ref CF) "_products" = some none)
    (n4u : PySem.W.findIn K (.ref CF) "_heights" = some none)
    (n5u : PySem.W.findIn K (.ref CF) "_cuts" = some none)
    (n6u : PySem.W.findIn K (.ref CF) "_runs" = some none)
    (a0 : PySem.W.nsIn K mainGlobals "is_integer" = some (some (.ref f0)))
    (l0 : K.lookup f0 = some ⟨oc0, od0, .func (PySem.W.fnOf "is_integer" "is_integer" (defArgs sIsInt) (defBody sIsInt) (defScope sIsInt) .none kV0 dc0 pm0 an0 cd0 ct0), sl0⟩)
    (c0 : PySem.W.codeIn K cd0 "is_integer" = true)
    (k0 : PySem.W.keepIn K (.ref f0) = true)
    (a1 : PySem.W.nsIn K mainGlobals "is_list" = some (some (.ref f1)))
    (l1 : K.lookup f1 = some ⟨oc1, od1, .func (PySem.W.fnOf "is_list" "is_list" (defArgs sIsList) (defBody sIsList) (defScope sIsList) .none kV1 dc1 pm1 an1 cd1 ct1), sl1⟩)
    (c1 : PySem.W.codeIn K cd1 "is_list" = true)
    (k1 : PySem.W.keepIn K (.ref f1) = true)
    (a2 : PySem.W.nsIn K mainGlobals "is_number_below" = some (some (.ref f2)))
    (l2 : K.lookup f2 = some ⟨oc2, od2, .func (PySem.W.fnOf "is_number_below" "is_number_below" (defArgs sBelow) (defBody sBelow) (defScope sBelow) .none kV2 dc2 pm2 an2 cd2 ct2), sl2⟩)
    (c2 : PySem.W.codeIn K cd2 "is_number_below" = true)
    (k2 : PySem.W.keepIn K (.ref f2) = true)
    (a3 : PySem.W.nsIn K mainGlobals "is_number_list" = some (some (.ref f3)))
    (l3 : K.lookup f3 = some ⟨oc3, od3, .func (PySem.W.fnOf "is_number_list" "is_number_list" (defArgs sNumList) (defBody sNumList) (defScope sNumList) .none kV3 dc3 pm3 an3 cd3 ct3), sl3⟩)
    (c3 : PySem.W.codeIn K cd3 "is_number_list" = true)
    (k3 : PySem.W.keepIn K (.ref f3) = true)
    (a4 : PySem.W.nsIn K mainGlobals "_are_rows" = some (some (.ref f4)))
    (l4 : K.lookup f4 = some ⟨oc4, od4, .func (PySem.W.fnOf "_are_rows" "_are_rows" (defArgs sAreRows) (defBody sAreRows) (defScope sAreRows) .none kV4 dc4 pm4 an4 cd4 ct4), sl4⟩)
    (c4 : PySem.W.codeIn K cd4 "_are_rows" = true)
    (k4 : PySem.W.keepIn K (.ref f4) = true)
    (a5 : PySem.W.nsIn K mainGlobals "_first_wrong_triple" = some (some (.ref f5)))
    (l5 : K.lookup f5 = some ⟨oc5, od5, .func (PySem.W.fnOf "_first_wrong_triple" "_first_wrong_triple" (defArgs sWrong) (defBody sWrong) (defScope sWrong) .none kV5 dc5 pm5 an5 cd5 ct5), sl5⟩)
    (c5 : PySem.W.codeIn K cd5 "_first_wrong_triple" = true)
    (k5 : PySem.W.keepIn K (.ref f5) = true)
    (a6 : PySem.W.findIn K (.ref C) "__init__" = some (some (.ref f6)))
    (i6 : PySem.W.isFn K (.ref f6) = true)
    (l6 : K.lookup f6 = some ⟨oc6, od6, .func (PySem.W.fnOf "__init__" "ProductTable.__init__" (defArgs sInit) (defBody sInit) (defScope sInit) .none kV6 dc6 pm6 an6 cd6 ct6), sl6⟩)
    (c6 : PySem.W.codeIn K cd6 "ProductTable.__init__" = true)
    (k6 : PySem.W.keepIn K (.ref f6) = true)
    (a7 : PySem.W.findIn K (.ref C) "__len__" = some (some (.ref f7)))
    (i7 : PySem.W.isFn K (.ref f7) = true)
    (l7 : K.lookup f7 = some ⟨oc7, od7, .func (PySem.W.fnOf "__len__" "ProductTable.__len__" (defArgs sLen) (defBody sLen) (defScope sLen) .none kV7 dc7 pm7 an7 cd7 ct7), sl7⟩)
    (c7 : PySem.W.codeIn K cd7 "ProductTable.__len__" = true)
    (k7 : PySem.W.keepIn K (.ref f7) = true)
    (a8 : PySem.W.findIn K (.ref C) "rows" = some (some (.ref f8)))
    (i8 : PySem.W.isFn K (.ref f8) = true)
    (l8 : K.lookup f8 = some ⟨oc8, od8, .func (PySem.W.fnOf "rows" "ProductTable.rows" (defArgs sRowsM) (defBody sRowsM) (defScope sRowsM) .none kV8 dc8 pm8 an8 cd8 ct8), sl8⟩)
    (c8 : PySem.W.codeIn K cd8 "ProductTable.rows" = true)
    (k8 : PySem.W.keepIn K (.ref f8) = true)
    (a9 : PySem.W.nsIn K mainGlobals "_law_cell" = some (some (.ref f9)))
    (l9 : K.lookup f9 = some ⟨oc9, od9, .func (PySem.W.fnOf "_law_cell" "_law_cell" (defArgs sCell) (defBody sCell) (defScope sCell) .none kV9 dc9 pm9 an9 cd9 ct9), sl9⟩)
    (c9 : PySem.W.codeIn K cd9 "_law_cell" = true)
    (k9 : PySem.W.keepIn K (.ref f9) = true)
    (a10 : PySem.W.nsIn K mainGlobals "_law_box" = some (some (.ref f10)))
    (l10 : K.lookup f10 = some ⟨oc10, od10, .func (PySem.W.fnOf "_law_box" "_law_box" (defArgs sBox) (defBody sBox) (defScope sBox) .none kV10 dc10 pm10 an10 cd10 ct10), sl10⟩)
    (c10 : PySem.W.codeIn K cd10 "_law_box" = true)
    (k10 : PySem.W.keepIn K (.ref f10) = true)
    (a11 : PySem.W.nsIn K mainGlobals "_law_take" = some (some (.ref f11)))
    (l11 : K.lookup f11 = some ⟨oc11, od11, .func (PySem.W.fnOf "_law_take" "_law_take" (defArgs sTake) (defBody sTake) (defScope sTake) .none kV11 dc11 pm11 an11 cd11 ct11), sl11⟩)
    (c11 : PySem.W.codeIn K cd11 "_law_take" = true)
    (k11 : PySem.W.keepIn K (.ref f11) = true)
    (a12 : PySem.W.nsIn K mainGlobals "_law_maps" = some (some (.ref f12)))
    (l12 : K.lookup f12 = some ⟨oc12, od12, .func (PySem.W.fnOf "_law_maps" "_law_maps" (defArgs sMaps) (defBody sMaps) (defScope sMaps) .none kV12 dc12 pm12 an12 cd12 ct12), sl12⟩)
    (c12 : PySem.W.codeIn K cd12 "_law_maps" = true)
    (k12 : PySem.W.keepIn K (.ref f12) = true)
    (a13 : PySem.W.nsIn K mainGlobals "_law_plain" = some (some (.ref f13)))
    (l13 : K.lookup f13 = some ⟨oc13, od13, .func (PySem.W.fnOf "_law_plain" "_law_plain" (defArgs sPlain) (defBody sPlain) (defScope sPlain) .none kV13 dc13 pm13 an13 cd13 ct13), sl13⟩)
    (c13 : PySem.W.codeIn K cd13 "_law_plain" = true)
    (k13 : PySem.W.keepIn K (.ref f13) = true)
    (a14 : PySem.W.nsIn K mainGlobals "_law_extended" = some (some (.ref f14)))
    (l14 : K.lookup f14 = some ⟨oc14, od14, .func (PySem.W.fnOf "_law_extended" "_law_extended" (defArgs sExt) (defBody sExt) (defScope sExt) .none kV14 dc14 pm14 an14 cd14 ct14), sl14⟩)
    (c14 : PySem.W.codeIn K cd14 "_law_extended" = true)
    (k14 : PySem.W.keepIn K (.ref f14) = true)
    (a15 : PySem.W.nsIn K mainGlobals "_law_grid" = some (some (.ref f15)))
    (l15 : K.lookup f15 = some ⟨oc15, od15, .func (PySem.W.fnOf "_law_grid" "_law_grid" (defArgs sGrid) (defBody sGrid) (defScope sGrid) .none kV15 dc15 pm15 an15 cd15 ct15), sl15⟩)
    (c15 : PySem.W.codeIn K cd15 "_law_grid" = true)
    (k15 : PySem.W.keepIn K (.ref f15) = true)
    (a16 : PySem.W.nsIn K mainGlobals "_law_words" = some (some (.ref f16)))
    (l16 : K.lookup f16 = some ⟨oc16, od16, .func (PySem.W.fnOf "_law_words" "_law_words" (defArgs sWords) (defBody sWords) (defScope sWords) .none kV16 dc16 pm16 an16 cd16 ct16), sl16⟩)
    (c16 : PySem.W.codeIn K cd16 "_law_words" = true)
    (k16 : PySem.W.keepIn K (.ref f16) = true)
    (a17 : PySem.W.nsIn K mainGlobals "_law_pairs" = some (some (.ref f17)))
    (l17 : K.lookup f17 = some ⟨oc17, od17, .func (PySem.W.fnOf "_law_pairs" "_law_pairs" (defArgs sPairs) (defBody sPairs) (defScope sPairs) .none kV17 dc17 pm17 an17 cd17 ct17), sl17⟩)
    (c17 : PySem.W.codeIn K cd17 "_law_pairs" = true)
    (k17 : PySem.W.keepIn K (.ref f17) = true)
    (a18 : PySem.W.nsIn K mainGlobals "_law_rows" = some (some (.ref f18)))
    (l18 : K.lookup f18 = some ⟨oc18, od18, .func (PySem.W.fnOf "_law_rows" "_law_rows" (defArgs sRows) (defBody sRows) (defScope sRows) .none kV18 dc18 pm18 an18 cd18 ct18), sl18⟩)
    (c18 : PySem.W.codeIn K cd18 "_law_rows" = true)
    (k18 : PySem.W.keepIn K (.ref f18) = true)
    (a19 : PySem.W.nsIn K mainGlobals "check_table" = some (some (.ref f19)))
    (l19 : K.lookup f19 = some ⟨oc19, od19, .func (PySem.W.fnOf "check_table" "check_table" (defArgs sChkTX) (defBody sChkTX) (defScope sChkTX) .none kV19 dc19 pm19 an19 cd19 ct19), sl19⟩)
    (c19 : PySem.W.codeIn K cd19 "check_table" = true)
    (k19 : PySem.W.keepIn K (.ref f19) = true)
    (a20 : PySem.W.nsIn K mainGlobals "check_sequence" = some (some (.ref f20)))
    (l20 : K.lookup f20 = some ⟨oc20, od20, .func (PySem.W.fnOf "check_sequence" "check_sequence" (defArgs sChkS) (defBody sChkS) (defScope sChkS) .none kV20 dc20 pm20 an20 cd20 ct20), sl20⟩)
    (c20 : PySem.W.codeIn K cd20 "check_sequence" = true)
    (k20 : PySem.W.keepIn K (.ref f20) = true)
    (a21 : PySem.W.nsIn K mainGlobals "_check_length" = some (some (.ref f21)))
    (l21 : K.lookup f21 = some ⟨oc21, od21, .func (PySem.W.fnOf "_check_length" "_check_length" (defArgs sChl) (defBody sChl) (defScope sChl) .none kV21 dc21 pm21 an21 cd21 ct21), sl21⟩)
    (c21 : PySem.W.codeIn K cd21 "_check_length" = true)
    (k21 : PySem.W.keepIn K (.ref f21) = true)
    (a22 : PySem.W.findIn K (.ref CF) "rows" = some (some (.ref f22)))
    (i22 : PySem.W.isFn K (.ref f22) = true)
    (l22 : K.lookup f22 = some ⟨oc22, od22, .func (PySem.W.fnOf "rows" "HeightFinder.rows" (defArgs sFrw) (defBody sFrw) (defScope sFrw) .none kV22 dc22 pm22 an22 cd22 ct22), sl22⟩)
    (c22 : PySem.W.codeIn K cd22 "HeightFinder.rows" = true)
    (k22 : PySem.W.keepIn K (.ref f22) = true)
    (a23 : PySem.W.findIn K (.ref CF) "_find" = some (some (.ref f23)))
    (i23 : PySem.W.isFn K (.ref f23) = true)
    (l23 : K.lookup f23 = some ⟨oc23, od23, .func (PySem.W.fnOf "_find" "HeightFinder._find" (defArgs sFnd) (defBody sFnd) (defScope sFnd) .none kV23 dc23 pm23 an23 cd23 ct23), sl23⟩)
    (c23 : PySem.W.codeIn K cd23 "HeightFinder._find" = true)
    (k23 : PySem.W.keepIn K (.ref f23) = true)
    (a24 : PySem.W.findIn K (.ref CF) "_find_all" = some (some (.ref f24)))
    (i24 : PySem.W.isFn K (.ref f24) = true)
    (l24 : K.lookup f24 = some ⟨oc24, od24, .func (PySem.W.fnOf "_find_all" "HeightFinder._find_all" (defArgs sFal) (defBody sFal) (defScope sFal) .none kV24 dc24 pm24 an24 cd24 ct24), sl24⟩)
    (c24 : PySem.W.codeIn K cd24 "HeightFinder._find_all" = true)
    (k24 : PySem.W.keepIn K (.ref f24) = true)
    (a25 : PySem.W.findIn K (.ref CF) "__init__" = some (some (.ref f25)))
    (i25 : PySem.W.isFn K (.ref f25) = true)
    (l25 : K.lookup f25 = some ⟨oc25, od25, .func (PySem.W.fnOf "__init__" "HeightFinder.__init__" (defArgs sFi) (defBody sFi) (defScope sFi) .none kV25 dc25 pm25 an25 cd25 ct25), sl25⟩)
    (c25 : PySem.W.codeIn K cd25 "HeightFinder.__init__" = true)
    (k25 : PySem.W.keepIn K (.ref f25) = true)
    (a26 : PySem.W.nsIn K mainGlobals "height_table" = some (some (.ref f26)))
    (l26 : K.lookup f26 = some ⟨oc26, od26, .func (PySem.W.fnOf "height_table" "height_table" (defArgs sHt) (defBody sHt) (defScope sHt) .none kV26 dc26 pm26 an26 cd26 ct26), sl26⟩)
    (c26 : PySem.W.codeIn K cd26 "height_table" = true)
    (k26 : PySem.W.keepIn K (.ref f26) = true)
    (a27 : PySem.W.nsIn K mainGlobals "minimal_height" = some (some (.ref f27)))
    (l27 : K.lookup f27 = some ⟨oc27, od27, .func (PySem.W.fnOf "minimal_height" "minimal_height" (defArgs sMh) (defBody sMh) (defScope sMh) .none kV27 dc27 pm27 an27 cd27 ct27), sl27⟩)
    (c27 : PySem.W.codeIn K cd27 "minimal_height" = true)
    (k27 : PySem.W.keepIn K (.ref f27) = true)
    (a28 : PySem.W.nsIn K mainGlobals "_law_sequence" = some (some (.ref f28)))
    (l28 : K.lookup f28 = some ⟨oc28, od28, .func (PySem.W.fnOf "_law_sequence" "_law_sequence" (defArgs sSeq) (defBody sSeq) (defScope sSeq) .none kV28 dc28 pm28 an28 cd28 ct28), sl28⟩)
    (c28 : PySem.W.codeIn K cd28 "_law_sequence" = true)
    (k28 : PySem.W.keepIn K (.ref f28) = true)
    (a29 : PySem.W.findIn K (.ref C) "generated" = some (some (.ref f29)))
    (i29 : PySem.W.isFn K (.ref f29) = true)
    (l29 : K.lookup f29 = some ⟨oc29, od29, .func (PySem.W.fnOf "generated" "ProductTable.generated" (defArgs sGen) (defBody sGen) (defScope sGen) .none kV29 dc29 pm29 an29 cd29 ct29), sl29⟩)
    (c29 : PySem.W.codeIn K cd29 "ProductTable.generated" = true)
    (k29 : PySem.W.keepIn K (.ref f29) = true)
    (a30 : PySem.W.findIn K (.ref C) "_table_of" = some (some (.ref f30)))
    (i30 : PySem.W.isFn K (.ref f30) = true)
    (l30 : K.lookup f30 = some ⟨oc30, od30, .func (PySem.W.fnOf "_table_of" "ProductTable._table_of" (defArgs sTo) (defBody sTo) (defScope sTo) .none kV30 dc30 pm30 an30 cd30 ct30), sl30⟩)
    (c30 : PySem.W.codeIn K cd30 "ProductTable._table_of" = true)
    (k30 : PySem.W.keepIn K (.ref f30) = true)
    (a31 : PySem.W.findIn K (.ref C) "subtable" = some (some (.ref f31)))
    (i31 : PySem.W.isFn K (.ref f31) = true)
    (l31 : K.lookup f31 = some ⟨oc31, od31, .func (PySem.W.fnOf "subtable" "ProductTable.subtable" (defArgs sSub) (defBody sSub) (defScope sSub) .none kV31 dc31 pm31 an31 cd31 ct31), sl31⟩)
    (c31 : PySem.W.codeIn K cd31 "ProductTable.subtable" = true)
    (k31 : PySem.W.keepIn K (.ref f31) = true)
    (a32 : PySem.W.findIn K (.ref C) "renumbered" = some (some (.ref f32)))
    (i32 : PySem.W.isFn K (.ref f32) = true)
    (l32 : K.lookup f32 = some ⟨oc32, od32, .func (PySem.W.fnOf "renumbered" "ProductTable.renumbered" (defArgs sRen) (defBody sRen) (defScope sRen) .none kV32 dc32 pm32 an32 cd32 ct32), sl32⟩)
    (c32 : PySem.W.codeIn K cd32 "ProductTable.renumbered" = true)
    (k32 : PySem.W.keepIn K (.ref f32) = true)
    (a33 : PySem.W.nsIn K mainGlobals "_law_order" = some (some (.ref f33)))
    (l33 : K.lookup f33 = some ⟨oc33, od33, .func (PySem.W.fnOf "_law_order" "_law_order" (defArgs sOrd) (defBody sOrd) (defScope sOrd) .none kV33 dc33 pm33 an33 cd33 ct33), sl33⟩)
    (c33 : PySem.W.codeIn K cd33 "_law_order" = true)
    (k33 : PySem.W.keepIn K (.ref f33) = true)
    (a34 : PySem.W.nsIn K mainGlobals "_law_elsewhere_right" = some (some (.ref f34)))
    (l34 : K.lookup f34 = some ⟨oc34, od34, .func (PySem.W.fnOf "_law_elsewhere_right" "_law_elsewhere_right" (defArgs sEl) (defBody sEl) (defScope sEl) .none kV34 dc34 pm34 an34 cd34 ct34), sl34⟩)
    (c34 : PySem.W.codeIn K cd34 "_law_elsewhere_right" = true)
    (k34 : PySem.W.keepIn K (.ref f34) = true)
    (a35 : PySem.W.nsIn K mainGlobals "_law_mirrored_right" = some (some (.ref f35)))
    (l35 : K.lookup f35 = some ⟨oc35, od35, .func (PySem.W.fnOf "_law_mirrored_right" "_law_mirrored_right" (defArgs sMi) (defBody sMi) (defScope sMi) .none kV35 dc35 pm35 an35 cd35 ct35), sl35⟩)
    (c35 : PySem.W.codeIn K cd35 "_law_mirrored_right" = true)
    (k35 : PySem.W.keepIn K (.ref f35) = true)
    (a36 : PySem.W.nsIn K mainGlobals "law" = some (some (.ref f36)))
    (l36 : K.lookup f36 = some ⟨oc36, od36, .func (PySem.W.fnOf "law" "law" (defArgs sLaw) (defBody sLaw) (defScope sLaw) .none kV36 dc36 pm36 an36 cd36 ct36), sl36⟩)
    (c36 : PySem.W.codeIn K cd36 "law" = true)
    (k36 : PySem.W.keepIn K (.ref f36) = true)
    (q0 : PySem.W.nsIn K mainGlobals "LARGEST_TABLE" = some (some (.int 16 tk0)))
    (q1 : PySem.W.nsIn K mainGlobals "LONGEST_SEQUENCE" = some (some (.int 2000 tk1)))
    (q2 : PySem.W.nsIn K mainGlobals "_LONGEST" = some (some (.int 40 tk2)))
    (z_max : PySem.W.nsIn K mainGlobals "max" = some none)
    (z_min : PySem.W.nsIn K mainGlobals "min" = some none)
    (z_len : PySem.W.nsIn K mainGlobals "len" = some none)
    (z_range : PySem.W.nsIn K mainGlobals "range" = some none)
    (z_repr : PySem.W.nsIn K mainGlobals "repr" = some none)
    (z_isinstance : PySem.W.nsIn K mainGlobals "isinstance" = some none)
    (z_all : PySem.W.nsIn K mainGlobals "all" = some none)
    (z_enumerate : PySem.W.nsIn K mainGlobals "enumerate" = some none)
    (z_tuple : PySem.W.nsIn K mainGlobals "tuple" = some none)
    (z_dict : PySem.W.nsIn K mainGlobals "dict" = some none)
    (z_str : PySem.W.nsIn K mainGlobals "str" = some none)
    (z_int : PySem.W.nsIn K mainGlobals "int" = some none)
    (z_bool : PySem.W.nsIn K mainGlobals "bool" = some none)
    (z_list : PySem.W.nsIn K mainGlobals "list" = some none)
    (z_set : PySem.W.nsIn K mainGlobals "set" = some none)
    (z_sorted : PySem.W.nsIn K mainGlobals "sorted" = some none)
    (tL : PySem.W.typeIn K (.ref f7) = some (.type "function"))
    : ∃ fd : FuncData, (∀ (s : Shared) (v : Value), BindsTo s fd ⟨[v], []⟩ [("script", v)]) ∧ ∀ base : Heap, K.In base → base.Ns mainGlobals mg → (∃ o, base.get? sysModules = some o) → GOk l.prog w K mg base CX0 10 fa fd ["script"] (spLaw K) := by
  have e := hfa.symm.trans (PySem.W.mg_of X G a36)
  cases e
  have F0 := fun_mk (st := sIsInt) l0 c0 k0
  have b0 := F0.binds (ps := ["value"]) fun _ _ _ _ _ _ us hl => match us, hl with | [_], _ => rfl
  have m0 := PySem.W.mg_of X G a0
  have F1 := fun_mk (st := sIsList) l1 c1 k1
  have b1 := F1.binds (ps := ["value", "least", "most"]) fun _ _ _ _ _ _ us hl => match us, hl with | [_, _, _], _ => rfl
  have m1 := PySem.W.mg_of X G a1
  have F2 := fun_mk (st := sBelow) l2 c2 k2
  have b2 := F2.binds (ps := ["value", "limit"]) fun _ _ _ _ _ _ us hl => match us, hl with | [_, _], _ => rfl
  have m2 := PySem.W.mg_of X G a2
  have F3 := fun_mk (st := sNumList) l3 c3 k3
  have b3 := F3.binds (ps := ["value", "least", "most", "limit"]) fun _ _ _ _ _ _ us hl => match us, hl with | [_, _, _, _], _ => rfl
  have m3 := PySem.W.mg_of X G a3
  have F4 := fun_mk (st := sAreRows) l4 c4 k4
  have b4 := F4.binds (ps := ["rows"]) fun _ _ _ _ _ _ us hl => match us, hl with | [_], _ => rfl
  have m4 := PySem.W.mg_of X G a4
  have F5 := fun_mk (st := sWrong) l5 c5 k5
  have b5 := F5.binds (ps := ["rows"]) fun _ _ _ _ _ _ us hl => match us, hl with | [_], _ => rfl
  have m5 := PySem.W.mg_of X G a5
  have F6 := fun_mk (st := sInit) l6 c6 k6
  have b6 := F6.binds (ps := ["self", "rows"]) fun _ _ _ _ _ _ us hl => match us, hl with | [_, _], _ => rfl
  have F7 := fun_mk (st := sLen) l7 c7 k7
  have b7 := F7.binds (ps := ["self"]) fun _ _ _ _ _ _ us hl => match us, hl with | [_], _ => rfl
  have F8 := fun_mk (st := sRowsM) l8 c8 k8
  have b8 := F8.binds (ps := ["self"]) fun _ _ _ _ _ _ us hl => match us, hl with | [_], _ => rfl
  have F9 := fun_mk (st := sCell) l9 c9 k9
  have b9 := F9.binds (ps := ["script", "k"]) fun _ _ _ _ _ _ us hl => match us, hl with | [_, _], _ => rfl
  have m9 := PySem.W.mg_of X G a9
  have F10 := fun_mk (st := sBox) l10 c10 k10
  have b10 := F10.binds (ps := ["cell"]) fun _ _ _ _ _ _ us hl => match us, hl with | [_], _ => rfl
  have m10 := PySem.W.mg_of X G a10
  have F11 := fun_mk (st := sTake) l11 c11 k11
  have b11 := F11.binds (ps := ["box", "size"]) fun _ _ _ _ _ _ us hl => match us, hl with | [_, _], _ => rfl
  have m11 := PySem.W.mg_of X G a11
  have F12 := fun_mk (st := sMaps) l12 c12 k12
  have b12 := F12.binds (ps := ["box"]) fun _ _ _ _ _ _ us hl => match us, hl with | [_], _ => rfl
  have m12 := PySem.W.mg_of X G a12
  have F13 := fun_mk (st := sPlain) l13 c13 k13
  have b13 := F13.binds (ps := ["kind", "n"]) fun _ _ _ _ _ _ us hl => match us, hl with | [_, _], _ => rfl
  have m13 := PySem.W.mg_of X G a13
  have F14 := fun_mk (st := sExt) l14 c14 k14
  have b14 := F14.binds (ps := ["rows", "kind"]) fun _ _ _ _ _ _ us hl => match us, hl with | [_, _], _ => rfl
  have m14 := PySem.W.mg_of X G a14
  have F15 := fun_mk (st := sGrid) l15 c15 k15
  have b15 := F15.binds (ps := ["box"]) fun _ _ _ _ _ _ us hl => match us, hl with | [_], _ => rfl
  have m15 := PySem.W.mg_of X G a15
  have F16 := fun_mk (st := sWords) l16 c16 k16
  have b16 := F16.binds (ps := []) fun _ _ _ _ _ _ us hl => match us, hl with | [], _ => rfl
  have m16 := PySem.W.mg_of X G a16
  have F17 := fun_mk (st := sPairs) l17 c17 k17
  have b17 := F17.binds (ps := ["one", "other"]) fun _ _ _ _ _ _ us hl => match us, hl with | [_, _], _ => rfl
  have m17 := PySem.W.mg_of X G a17
  have F18 := fun_mk (st := sRows) l18 c18 k18
  have b18 := F18.binds (ps := ["box"]) fun _ _ _ _ _ _ us hl => match us, hl with | [_], _ => rfl
  have m18 := PySem.W.mg_of X G a18
  have F19 := fun_mk (st := sChkTX) l19 c19 k19
  have b19 := F19.binds (ps := ["table"]) fun _ _ _ _ _ _ us hl => match us, hl with | [_], _ => rfl
  have m19 := PySem.W.mg_of X G a19
  have F20 := fun_mk (st := sChkS) l20 c20 k20
  have b20 := F20.binds (ps := ["table", "sequence"]) fun _ _ _ _ _ _ us hl => match us, hl with | [_, _], _ => rfl
  have m20 := PySem.W.mg_of X G a20
  have F21 := fun_mk (st := sChl) l21 c21 k21
  have b21 := F21.binds (ps := ["sequence"]) fun _ _ _ _ _ _ us hl => match us, hl with | [_], _ => rfl
  have m21 := PySem.W.mg_of X G a21
  have F22 := fun_mk (st := sFrw) l22 c22 k22
  have b22 := F22.binds (ps := ["self"]) fun _ _ _ _ _ _ us hl => match us, hl with | [_], _ => rfl
  have F23 := fun_mk (st := sFnd) l23 c23 k23
  have b23 := F23.binds (ps := ["self", "start", "stop"]) fun _ _ _ _ _ _ us hl => match us, hl with | [_, _, _], _ => rfl
  have F24 := fun_mk (st := sFal) l24 c24 k24
  have b24 := F24.binds (ps := ["self"]) fun _ _ _ _ _ _ us hl => match us, hl with | [_], _ => rfl
  have F25 := fun_mk (st := sFi) l25 c25 k25
  have b25 := F25.binds (ps := ["self", "table", "sequence"]) fun _ _ _ _ _ _ us hl => match us, hl with | [_, _, _], _ => rfl
  have F26 := fun_mk (st := sHt) l26 c26 k26
  have b26 := F26.binds (ps := ["table", "sequence"]) fun _ _ _ _ _ _ us hl => match us, hl with | [_, _], _ => rfl
  have m26 := PySem.W.mg_of X G a26
  have F27 := fun_mk (st := sMh) l27 c27 k27
  have b27 := F27.binds (ps := ["table", "sequence"]) fun _ _ _ _ _ _ us hl => match us, hl with | [_, _], _ => rfl
  have m27 := PySem.W.mg_of X G a27
  have F28 := fun_mk (st := sSeq) l28 c28 k28
  have b28 := F28.binds (ps := ["box", "size", "most"]) fun _ _ _ _ _ _ us hl => match us, hl with | [_, _, _], _ => rfl
  have m28 := PySem.W.mg_of X G a28
  have F29 := fun_mk (st := sGen) l29 c29 k29
  have b29 := F29.binds (ps := ["self", "generators"]) fun _ _ _ _ _ _ us hl => match us, hl with | [_, _], _ => rfl
  have F30 := fun_mk (st := sTo) l30 c30 k30
  have b30 := F30.binds (ps := ["self", "originals"]) fun _ _ _ _ _ _ us hl => match us, hl with | [_, _], _ => rfl
  have F31 := fun_mk (st := sSub) l31 c31 k31
  have b31 := F31.binds (ps := ["self", "generators"]) fun _ _ _ _ _ _ us hl => match us, hl with | [_, _], _ => rfl
  have F32 := fun_mk (st := sRen) l32 c32 k32
  have b32 := F32.binds (ps := ["self", "order"]) fun _ _ _ _ _ _ us hl => match us, hl with | [_, _], _ => rfl
  have F33 := fun_mk (st := sOrd) l33 c33 k33
  have b33 := F33.binds (ps := ["box", "n"]) fun _ _ _ _ _ _ us hl => match us, hl with | [_, _], _ => rfl
  have m33 := PySem.W.mg_of X G a33
  have F34 := fun_mk (st := sEl) l34 c34 k34
  have b34 := F34.binds (ps := ["box", "table", "sequence", "due"]) fun _ _ _ _ _ _ us hl => match us, hl with | [_, _, _, _], _ => rfl
  have m34 := PySem.W.mg_of X G a34
  have F35 := fun_mk (st := sMi) l35 c35 k35
  have b35 := F35.binds (ps := ["rows", "sequence", "due"]) fun _ _ _ _ _ _ us hl => match us, hl with | [_, _, _], _ => rfl
  have m35 := PySem.W.mg_of X G a35
  have F36 := fun_mk (st := sLaw) l36 c36 k36
  have b36 := F36.binds (ps := ["script"]) fun _ _ _ _ _ _ us hl => match us, hl with | [_], _ => rfl
  have m36 := PySem.W.mg_of X G a36
  have M : Mn mg := ⟨PySem.W.mg_none_of X G z_max, PySem.W.mg_none_of X G z_min, PySem.W.mg_none_of X G z_len, PySem.W.mg_none_of X G z_range, PySem.W.mg_none_of X G z_repr, PySem.W.mg_none_of X G z_isinstance, PySem.W.mg_none_of X G z_all, PySem.W.mg_none_of X G z_enumerate, PySem.W.mg_none_of X G z_tuple, PySem.W.mg_none_of X G z_dict, PySem.W.mg_none_of X G z_str, PySem.W.mg_none_of X G z_int, PySem.W.mg_none_of X G z_bool, PySem.W.mg_none_of X G z_list⟩
  refine ⟨PySem.W.fnOf "law" "law" (defArgs sLaw) (defBody sLaw) (defScope sLaw) .none kV36 dc36 pm36 an36 cd36 ct36, fun s v => .of_eq rfl, fun base _ _ hS => ?_⟩
  have T : CTx K mg C := ⟨⟨pg, hd, po, sa⟩, nR, PySem.W.mg_of X G aC⟩
  have Y : CTi K C := ⟨ya, yn, yt, ym⟩
  have UF : HfX K CF := ⟨⟨pgu, hdu, pou, sau⟩, n1u, n2u, n3u, n4u, n5u, n6u⟩
  have G0 := ok_isint (P := l.prog) (w := w) (base := base) F0 M
  have G1 := ok_islist (P := l.prog) (w := w) (base := base) F1 M
  have G2 := ok_below F2 G0 b0 k0 m0
  have G3 := ok_numlist F3 M G1 b1 k1 m1 G2 b2 k2 m2
  have G4 := ok_arerows F4 M ⟨_, PySem.W.mg_of X G q0⟩ G1 b1 k1 m1 G3 b3 k3 m3
  have G5 := ok_wrong (P := l.prog) (w := w) (base := base) F5 M
  have G6 := ok_init F6 M T G4 b4 k4 m4 G5 b5 k5 m5
  have G7 := ok_len (P := l.prog) (w := w) (base := base) F7 M T
  have G8 := ok_rowsM (P := l.prog) (w := w) (base := base) F8 M T
  have h_rows : Meth K C "rows" f8 := ⟨a8, i8, k8⟩
  have G9 := ok_cell (P := l.prog) (w := w) (base := base) F9 M
  have G10 := ok_box (P := l.prog) (w := w) (base := base) F10 M
  have G11 := ok_take (P := l.prog) (w := w) (base := base) F11 M
  have G12 := ok_maps F12 M G11 b11 k11 m11
  have G13 := ok_plain (P := l.prog) (w := w) (base := base) F13 M
  have G14 := ok_ext (P := l.prog) (w := w) (base := base) F14 M
  have G15 := ok_grid F15 M G11 b11 k11 m11
  have G16 := ok_words (P := l.prog) (w := w) (base := base) F16 M
  have G17 := ok_pairs (P := l.prog) (w := w) (base := base) F17 M
  have G18 := ok_rows F18 M G11 b11 k11 m11 G12 b12 k12 m12 G15 b15 k15 m15 G16 b16 k16 m16 G13 b13 k13 m13 G14 b14 k14 m14 G17 b17 k17 m17
  have G19 := ok_chkT0 (P := l.prog) (w := w) (base := base) F19 M T Y
  have G20 := ok_chkS0 F20 M ⟨_, PySem.W.mg_of X G q1⟩ G3 b3 k3 m3 G7 b7 a7 tL
  have G21 := ok_chl (P := l.prog) (w := w) (base := base) F21 M ⟨_, PySem.W.mg_of X G q2⟩
  have G22 := ok_frw (P := l.prog) (w := w) (base := base) F22 M UF
  have G23 := ok_find (P := l.prog) (w := w) (base := base) F23 M UF
  have G24 := ok_fal F24 M UF G23 b23 ⟨a23, i23, k23⟩
  have G25 := ok_fi F25 T UF G24 b24 ⟨a24, i24, k24⟩ G8 b8 h_rows
  have G26 := ok_ht F26 UF (PySem.W.mg_of X G au) G19 b19 k19 m19 G20 b20 k20 m20 G21 b21 k21 m21 G22 b22 ⟨a22, i22, k22⟩ ⟨mku, a25, i25, kcu⟩ G25 b25
  have G27 := ok_mh F27 G26 b26 k26 m26
  have G28 := ok_seq F28 M G11 b11 k11 m11
  have G29 := ok_gen F29 M T (PySem.W.mg_none_of X G z_set) (PySem.W.mg_none_of X G z_sorted) G20 b20 k20 m20
  have h_generated : Meth K C "generated" f29 := ⟨a29, i29, k29⟩
  have G30 := ok_to F30 M T ⟨mk, a6, i6, kc⟩ G6 b6
  have h__table_of : Meth K C "_table_of" f30 := ⟨a30, i30, k30⟩
  have G31 := ok_sub F31 M T G29 b29 h_generated G30 b30 h__table_of
  have h_subtable : Meth K C "subtable" f31 := ⟨a31, i31, k31⟩
  have G32 := ok_ren F32 M T (PySem.W.mg_none_of X G z_set) G3 b3 k3 m3 G30 b30 h__table_of
  have h_renumbered : Meth K C "renumbered" f32 := ⟨a32, i32, k32⟩
  have G33 := ok_ord F33 M G11 b11 k11 m11
  have G34 := ok_el F34 M T G33 b33 k33 m33 G26 b26 k26 m26 G32 b32 h_renumbered G31 b31 h_subtable G7 b7 a7 tL
  have G35 := ok_mi F35 M T ⟨mk, a6, i6, kc⟩ G6 b6 G26 b26 k26 m26
  exact ok_law F36 M T G9 b9 k9 m9 G10 b10 k10 m10 G11 b11 k11 m11 G18 b18 k18 m18 G28 b28 k28 m28 G26 b26 k26 m26 G34 b34 k34 m34 G35 b35 k35 m35 G27 b27 k27 m27 ⟨mk, a6, i6, kc⟩ G6 b6
theorem walk {l : PySem.W.OpenLaw} {q : Program} {loose : List Str} {XP : (Str → Option Value) → Heap → Prop} {YP : World → Heap → Prop} {d : DefRec} {K : Params → PySem.W.Frag} (hn : l.most = some 63) (hdf : d.params.defaults = []) (him : PyProof.Rows.importsNone q = true)
    (hY : ∀ (w : World) (h : Heap), YP w h → (K w.params).In h)
    (F : ∀ (w : World) (mg : Str → Option Value) (fa : Addr) (h : Heap), (K w.params).In h → h.Ns mainGlobals mg → mg d.name = some (.ref fa) →
      ∃ fd : FuncData, (∀ (s : Shared) (u : Value), BindsTo s fd ⟨[u], []⟩ [("script", u)]) ∧ ∀ base : Heap, (K w.params).In base → base.Ns mainGlobals mg → (∃ o, base.get? sysModules = some o) → GOk l.prog w (K w.params) mg base CX0 10 fa fd ["script"] (spLaw (K w.params))) :
    PySem.W.WalkO q loose XP YP l.row.toRowW d [] (fun f vs => PySem.call f vs) :=
  walk_g (n := 63) (k := 10) (x := "script") (sp := spLaw) hn (by decide) hdf ⟨rfl, by decide, by decide⟩ him hY F fun _ _ a ns hl _ hS => ⟨a, ns, rfl, hS, hl, fun _ => rfl⟩
end L
open PySem PySem.W PyProof.Rows
set_option maxRecDepth 100000 in
set_option pp.maxSteps 400 in
set_option maxHeartbeats 0 in
theorem PySem.Challenge.cw_producttrees_k36_whole_heights_of_relate_holds : PySem.Challenge.rw_producttrees_k36_whole_heights_of_relate.Holds := by
  w_on; o_law; k_head; (case hw => w_witness2)
  k_fill
  refine L.walk (l := PySem.Challenge.rw_producttrees_k36_whole_heights_of_relate) rfl rfl (by decide +kernel) (fun w h Y => PySem.W.kIn_of Y) ?F
  case F =>
    intro w mg fa h KX G hmg
    refine' L.all_mk KX G hmg ?aC ?pg ?hd ?po ?sa ?mk ?kc ?nR ?ya ?yn ?yt ?ym ?au ?pgu ?hdu ?pou ?sau ?mku ?kcu ?n1u ?n2u ?n3u ?n4u ?n5u ?n6u ?a0 ?l0 ?c0 ?k0 ?a1 ?l1 ?c1 ?k1 ?a2 ?l2 ?c2 ?k2 ?a3 ?l3 ?c3 ?k3 ?a4 ?l4 ?c4 ?k4 ?a5 ?l5 ?c5 ?k5 ?a6 ?i6 ?l6 ?c6 ?k6 ?a7 ?i7 ?l7 ?c7 ?k7 ?a8 ?i8 ?l8 ?c8 ?k8 ?a9 ?l9 ?c9 ?k9 ?a10 ?l10 ?c10 ?k10 ?a11 ?l11 ?c11 ?k11 ?a12 ?l12 ?c12 ?k12 ?a13 ?l13 ?c13 ?k13 ?a14 ?l14 ?c14 ?k14 ?a15 ?l15 ?c15 ?k15 ?a16 ?l16 ?c16 ?k16 ?a17 ?l17 ?c17 ?k17 ?a18 ?l18 ?c18 ?k18 ?a19 ?l19 ?c19 ?k19 ?a20 ?l20 ?c20 ?k20 ?a21 ?l21 ?c21 ?k21 ?a22 ?i22 ?l22 ?c22 ?k22 ?a23 ?i23 ?l23 ?c23 ?k23 ?a24 ?i24 ?l24 ?c24 ?k24 ?a25 ?i25 ?l25 ?c25 ?k25 ?a26 ?l26 ?c26 ?k26 ?a27 ?l27 ?c27 ?k27 ?a28 ?l28 ?c28 ?k28 ?a29 ?i29 ?l29 ?c29 ?k29 ?a30 ?i30 ?l30 ?c30 ?k30 ?a31 ?i31 ?l31 ?c31 ?k31 ?a32 ?i32 ?l32 ?c32 ?k32 ?a33 ?l33 ?c33 ?k33 ?a34 ?l34 ?c34 ?k34 ?a35 ?l35 ?c35 ?k35 ?a36 ?l36 ?c36 ?k36 ?q0 ?q1 ?q2 ?z_max ?z_min ?z_len ?z_range ?z_repr ?z_isinstance ?z_all ?z_enumerate ?z_tuple ?z_dict ?z_str ?z_int ?z_bool ?z_list ?z_set ?z_sorted ?tL
    (case aC => k_is)
    (case pg => k_is)
    (case hd => k_is)
    (case po => k_is)
    (case sa => k_is)
    (case mk => k_is)
    (case kc => k_is)
    (case nR => k_is)
    (case ya => k_is)
    (case yn => k_is)
    (case yt => k_is)
    (case ym => k_is)
    (case au => k_is)
    (case pgu => k_is)
    (case hdu => k_is)
    (case pou => k_is)
    (case sau => k_is)
    (case mku => k_is)
    (case kcu => k_is)
    (case n1u => k_is)
    (case n2u => k_is)
    (case n3u => k_is)
    (case n4u => k_is)
    (case n5u => k_is)
    (case n6u => k_is)
    (case a0 => k_is)
    (case l0 => k_is)
    (case c0 => k_is)
    (case k0 => k_is)
    (case a1 => k_is)
    (case l1 => k_is)
    (case c1 => k_is)
    (case k1 => k_is)
    (case a2 => k_is)
    (case l2 => k_is)
    (case c2 => k_is)
    (case k2 => k_is)
    (case a3 => k_is)
    (case l3 => k_is)
    (case c3 => k_is)
    (case k3 => k_is)
    (case a4 => k_is)
    (case l4 => k_is)
    (case c4 => k_is)
    (case k4 => k_is)
    (case a5 => k_is)
    (case l5 => k_is)
    (case c5 => k_is)
    (case k5 => k_is)
    (case a6 => k_is)
    (case i6 => k_is)
    (case l6 => k_is)
    (case c6 => k_is)
    (case k6 => k_is)
    (case a7 => k_is)
    (case i7 => k_is)
    (case l7 => k_is)
    (case c7 => k_is)
    (case k7 => k_is)
    (case a8 => k_is)
    (case i8 => k_is)
    (case l8 => k_is)
    (case c8 => k_is)
    (case k8 => k_is)
    (case a9 => k_is)
    (case l9 => k_is)
    (case c9 => k_is)
    (case k9 => k_is)
    (case a10 => k_is)
    (case l10 => k_is)
    (case c10 => k_is)
    (case k10 => k_is)
    (case a11 => k_is)
    (case l11 => k_is)
    (case c11 => k_is)
    (case k11 => k_is)
    (case a12 => k_is)
    (case l12 => k_is)
    (case c12 => k_is)
    (case k12 => k_is)
    (case a13 => k_is)
    (case l13 => k_is)
    (case c13 => k_is)
    (case k13 => k_is)
    (case a14 => k_is)
    (case l14 => k_is)
    (case c14 => k_is)
    (case k14 => k_is)
    (case a15 => k_is)
    (case l15 => k_is)
    (case c15 => k_is)
    (case k15 => k_is)
    (case a16 => k_is)
    (case l16 => k_is)
    (case c16 => k_is)
    (case k16 => k_is)
    (case a17 => k_is)
    (case l17 => k_is)
    (case c17 => k_is)
    (case k17 => k_is)
    (case a18 => k_is)
    (case l18 => k_is)
    (case c18 => k_is)
    (case k18 => k_is)
    (case a19 => k_is)
    (case l19 => k_is)
    (case c19 => k_is)
    (case k19 => k_is)
    (case a20 => k_is)
    (case l20 => k_is)
    (case c20 => k_is)
    (case k20 => k_is)
    (case a21 => k_is)
    (case l21 => k_is)
    (case c21 => k_is)
    (case k21 => k_is)
    (case a22 => k_is)
    (case i22 => k_is)
    (case l22 => k_is)
    (case c22 => k_is)
    (case k22 => k_is)
    (case a23 => k_is)
    (case i23 => k_is)
    (case l23 => k_is)
    (case c23 => k_is)
    (case k23 => k_is)
    (case a24 => k_is)
    (case i24 => k_is)
    (case l24 => k_is)
    (case c24 => k_is)
    (case k24 => k_is)
    (case a25 => k_is)
    (case i25 => k_is)
    (case l25 => k_is)
    (case c25 => k_is)
    (case k25 => k_is)
    (case a26 => k_is)
    (case l26 => k_is)
    (case c26 => k_is)
    (case k26 => k_is)
    (case a27 => k_is)
    (case l27 => k_is)
    (case c27 => k_is)
    (case k27 => k_is)
    (case a28 => k_is)
    (case l28 => k_is)
    (case c28 => k_is)
    (case k28 => k_is)
    (case a29 => k_is)
    (case i29 => k_is)
    (case l29 => k_is)
    (case c29 => k_is)
    (case k29 => k_is)
    (case a30 => k_is)
    (case i30 => k_is)
    (case l30 => k_is)
    (case c30 => k_is)
    (case k30 => k_is)
    (case a31 => k_is)
    (case i31 => k_is)
    (case l31 => k_is)
    (case c31 => k_is)
    (case k31 => k_is)
    (case a32 => k_is)
    (case i32 => k_is)
    (case l32 => k_is)
    (case c32 => k_is)
    (case k32 => k_is)
    (case a33 => k_is)
    (case l33 => k_is)
    (case c33 => k_is)
    (case k33 => k_is)
    (case a34 => k_is)
    (case l34 => k_is)
    (case c34 => k_is)
    (case k34 => k_is)
    (case a35 => k_is)
    (case l35 => k_is)
    (case c35 => k_is)
    (case k35 => k_is)
    (case a36 => k_is)
    (case l36 => k_is)
    (case c36 => k_is)
    (case k36 => k_is)
    (case q0 => k_is)
    (case q1 => k_is)
    (case q2 => k_is)
    (case z_max => k_is)
    (case z_min => k_is)
    (case z_len => k_is)
    (case z_range => k_is)
    (case z_repr => k_is)
    (case z_isinstance => k_is)
    (case z_all => k_is)
    (case z_enumerate => k_is)
    (case z_tuple => k_is)
    (case z_dict => k_is)
    (case z_str => k_is)
    (case z_int => k_is)
    (case z_bool => k_is)
    (case z_list => k_is)
    (case z_set => k_is)
    (case z_sorted => k_is)
    (case tL => k_is)

