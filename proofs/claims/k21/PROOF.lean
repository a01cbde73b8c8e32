import PyProof.Rows.All
import Wide.All
import OpenK.AllK
import Wide.FinOn
import HandS.ForMost
import HandS.IsInst
import HandS.RaiseMore
import HandS.Defaults
import HandS.Wide
import HandS.Walk
import KE.IntTextLaws
import KE.OsScanText
import HandS.StrMore
import HandS.ForExc
import HandS.ExcInit
import HandS.ExcField
import HandS.ExcOwn
import PyProof.StrOps2
import HandS.OwnEq
import HandS.NamedTupGet
import PyProof.InstNe
import PyProof.NeKinds
import HandS.More
import HandS.Strs
import HandS.Lambda
import HandS.Nested
import HandS.NestedK
import HandS.EndTab
import HandS.Deep
import HandS.Conv
import HandS.SetFor
import HandS.TupAny
import KE.DatumOrd
import PyProof.Rows.RowBridgeK
import KE.KDictPairs
import KE.KDictCopyH
import HandS.Dict
import KE.KDictZip
import HandS.Sort
import HandS.DictComp
import HandS.TupLen
import HandS.NoneIn
import HandS.Style
import PySem.Challenge.RW_producttrees_k21_levels_of_invalid_argum
set_option Elab.async false
set_option linter.all false
set_option maxRecDepth 100000
set_option maxHeartbeats 4000000
/-! Own layer: data trees with dicts (Dq), repr of them, defs that know that no repr runs (GOk). -/
namespace KX
open PySem PySem.Spec PyProof.Rows L2
/-- a dict's key as data -/
def kD : Key → PyData
  | .inl i => .int i
  | .inr x => .str x
mutual
/-- the value x stands for the data d in the abstract heap -/
inductive Dq (H : Hp) : V → PyData → Prop
  | non : Dq H .non .none
  | bl (b : Bool) : Dq H (.bl b) (.bool b)
  | int (i : Int) : Dq H (.int i) (.int i)
  | str (x : Str) : Dq H (.str x) (.str x)
  | lst {a : Addr} {xs : List V} {ds : List PyData} : H a = some (.lst xs) → DqAll H xs ds → Dq H (.ref a) (.list ds)
  | tup {a : Addr} {xs : List V} {ds : List PyData} : H a = some (.tup xs) → DqAll H xs ds → Dq H (.ref a) (.tuple ds)
  | dct {a : Addr} {kvs : List (Key × V)} {ds : List (PyData × PyData)} : H a = some (.dK kvs) → DqKv H kvs ds → Dq H (.ref a) (.dict ds)
inductive DqAll (H : Hp) : List V → List PyData → Prop
  | nil : DqAll H [] []
  | cons {v : V} {vs : List V} {d : PyData} {ds : List PyData} : Dq H v d → DqAll H vs ds → DqAll H (v :: vs) (d :: ds)
inductive DqKv (H : Hp) : List (Key × V) → List (PyData × PyData) → Prop
  | nil : DqKv H [] []
  | cons {k : Key} {v : V} {r : List (Key × V)} {d : PyData} {ds : List (PyData × PyData)} : Dq H v d → DqKv H r ds → DqKv H ((k, v) :: r) ((kD k, d) :: ds)
end
def Trk (H : Hp) (as : List Addr) : Prop := ∀ a, a ∈ as → H a ≠ none
theorem Trk.nil {H : Hp} : Trk H [] := fun _ h => nomatch h
theorem Trk.app {H : Hp} {as bs : List Addr} (h1 : Trk H as) (h2 : Trk H bs) : Trk H (as ++ bs) := fun a h => (List.mem_append.mp h).elim (h1 a) (h2 a)
theorem Trk.one {H : Hp} {a : Addr} {o : HO} {as : List Addr} (h : H a = some o) (h2 : Trk H as) : Trk H (a :: as) := fun b hb => by
  rcases List.mem_cons.mp hb with e | hb
  · subst e; rw [h]; simp
  · exact h2 b hb
section
variable {X : Cx} {pins : List (Addr × Obj)} {σ : L2.St} {H : Hp} {s : Shared}
mutual
theorem Dq.reads (I : Inv X pins σ H s) : ∀ (d : PyData) (v : V) (u : Value), Dq H v d → RelV v u → ∃ as, Reads s.heap u d as ∧ Trk H as
  | .none, _, _, h, r => by cases h; cases r; exact ⟨_, Reads.none, Trk.nil⟩
  | .bool b, _, _, h, r => by cases h; cases r; exact ⟨_, Reads.bool b, Trk.nil⟩
  | .int i, _, _, h, r => by cases h; obtain ⟨t, rfl⟩ := r; exact ⟨_, Reads.int i t, Trk.nil⟩
  | .str x, _, _, h, r => by cases h; obtain ⟨t, rfl⟩ := r; exact ⟨_, Reads.str x t, Trk.nil⟩
  | .list ds, _, _, h, r => by
    cases h with
    | @lst a xs _ hs ha =>
      cases r
      obtain ⟨_, its, n, rv, ho⟩ := (show ObjOk X.prog X.w H s.heap a (.lst xs) from I.hok _ _ hs)
      obtain ⟨as, hr, tr⟩ := Dq.readsAll I ds _ its ha rv
      exact ⟨_, Reads.list ho rfl rfl (by simpa using hr), Trk.one hs tr⟩
  | .tuple ds, _, _, h, r => by
    cases h with
    | @tup a xs _ hs ha =>
      cases r
      obtain ⟨_, its, rv, o, ho, hc, n, hd⟩ := (show ObjOk X.prog X.w H s.heap a (.tup xs) from I.hok _ _ hs)
      obtain ⟨as, hr, tr⟩ := Dq.readsAll I ds _ its ha rv
      exact ⟨_, Reads.tuple ho hc hd (by simpa using hr), tr⟩
  | .dict ds, _, _, h, r => by
    cases h with
    | @dct a kvs _ hs ha =>
      cases r
      obtain ⟨_, _, vs, rv, o, es, ep, ho, hx, hd, _, hp, _⟩ := (show ObjOk X.prog X.w H s.heap a (.dK kvs) from I.hok _ _ hs)
      obtain ⟨as, bs, h1, h2, t1, t2⟩ := Dq.readsKv I ds kvs vs es.toList ha rv hp
      exact ⟨_, Reads.dict ho hx.1 hd h1 h2, Trk.app (Trk.one hs t1) t2⟩
theorem Dq.readsAll (I : Inv X pins σ H s) : ∀ (ds : List PyData) (vs : List V) (us : List Value), DqAll H vs ds → Vals vs us → ∃ as, ReadsAll s.heap us ds as ∧ Trk H as
  | [], _, _, h, r => by cases h; cases r; exact ⟨_, ReadsAll.nil, Trk.nil⟩
  | d :: ds, _, _, h, r => by
    cases h with
    | cons h1 h2 =>
      cases r with
      | cons r1 r2 =>
        obtain ⟨as, q1, t1⟩ := Dq.reads I d _ _ h1 r1
        obtain ⟨bs, q2, t2⟩ := Dq.readsAll I ds _ _ h2 r2
        exact ⟨_, ReadsAll.cons q1 q2, Trk.app t1 t2⟩
theorem Dq.readsKv (I : Inv X pins σ H s) : ∀ (ds : List (PyData × PyData)) (kvs : List (Key × V)) (vs : List (Key × Value)) (es : List DictEntry), DqKv H kvs ds → KV kvs vs → Pairs (mixKind X.prog X.w) es vs →
    ∃ as bs, ReadsAll s.heap (es.map (·.key)) (ds.map (·.1)) as ∧ ReadsAll s.heap (es.map (·.val)) (ds.map (·.2)) bs ∧ Trk H as ∧ Trk H bs
  | [], _, _, _, h, r, p => by cases h; cases r; cases p; exact ⟨_, _, ReadsAll.nil, ReadsAll.nil, Trk.nil, Trk.nil⟩
  | (_, d) :: ds, _, _, _, h, r, p => by
    cases h with
    | @cons k v _ _ _ h1 h2 =>
      cases r with
      | cons r1 r2 =>
        cases p with
        | cons p1 p2 p3 =>
          obtain ⟨as, bs, q1, q2, t1, t2⟩ := Dq.readsKv I ds _ _ _ h2 r2 p3
          obtain ⟨e1, rv⟩ := r1
          rw [← e1] at p1
          rw [← p2] at rv
          obtain ⟨cs, q3, t3⟩ := Dq.reads I d _ _ h1 rv
          rcases keyIs_shape (show keyIs k _ = true from p1) with ⟨i, t, rfl, e⟩ | ⟨x, t, rfl, e⟩
          · exact ⟨_, _, ReadsAll.cons (by show Reads s.heap (DictEntry.key _) (.int i) []; rw [e]; exact Reads.int i t) q1, ReadsAll.cons q3 q2, Trk.app Trk.nil t1, Trk.app t3 t2⟩
          · exact ⟨_, _, ReadsAll.cons (by show Reads s.heap (DictEntry.key _) (.str x) []; rw [e]; exact Reads.str x t) q1, ReadsAll.cons q3 q2, Trk.app Trk.nil t1, Trk.app t3 t2⟩
end
end
section
variable {X : Cx}
/-- repr of a value without parts -/
theorem call_repr_b : CallR X (.builtin "repr") (fun xs H Q => ∃ b : Bool, xs = [.bl b] ∧ Q (.str (PyData.bool b).shown) H) := by
  intro pins s σ H xs us Q I r h
  obtain ⟨b, rfl, q⟩ := h
  obtain ⟨u, rfl, rx⟩ := vals1 r
  cases rx
  exact PySem.P.repr_of_bool ⟨.str _, H, I.tok _, ⟨_, rfl⟩, q⟩
/-- repr of data of any depth, where no repr runs further out -/
def rRepr : List V → Hp → VK → Prop := fun xs H Q => ∃ (x : V) (d : PyData), xs = [x] ∧ Dq H x d ∧ d.showable = true ∧ d.depth ≤ 60 ∧ d.shown.length ≤ sizeLine ∧ Q (.str d.shown) H
theorem call_repr_q (hS : ∃ o, X.base.get? sysModules = some o) (hg : X.A.guards = some []) (hu : X.A.units + 64 < cLine) : CallR X (.builtin "repr") rRepr := by
  intro pins s σ H xs us Q I r h
  obtain ⟨x, d, rfl, hd, hs, hdp, hl, q⟩ := h
  obtain ⟨u, rfl, rx⟩ := vals1 r
  obtain ⟨as, hr, tr⟩ := Dq.reads I d x u hd rx
  obtain ⟨o, ho⟩ := hS
  have hsm : sysModules ∉ as := fun hm => tr _ hm (I.bs _ _ ho).2
  cases hr with
  | none => exact PySem.P.repr_of_none ⟨.str _, H, I.tok _, ⟨_, rfl⟩, q⟩
  | bool b => exact PySem.P.repr_of_bool ⟨.str _, H, I.tok _, ⟨_, rfl⟩, q⟩
  | int i t => exact PySem.P.repr_of_int (by simpa [PyData.showable] using hs) ⟨.str _, H, I.tok _, ⟨_, rfl⟩, q⟩
  | str y t => exact PySem.P.repr_of_str ⟨.str _, H, I.tok _, ⟨_, rfl⟩, q⟩ hl
  | list h1 h2 h3 h4 => exact repr_of_reads' (.list h1 h2 h3 h4) hs (fun _ => hsm) hg (by omega) (fun _ _ e => e) (fun h' u tk hk => ⟨.str _, H, I.kept hk, ⟨u, rfl⟩, q⟩) hl
  | tuple h1 h2 h3 h4 => exact repr_of_reads' (.tuple h1 h2 h3 h4) hs (fun _ => hsm) hg (by omega) (fun _ _ e => e) (fun h' u tk hk => ⟨.str _, H, I.kept hk, ⟨u, rfl⟩, q⟩) hl
  | dict h1 h2 h3 h4 h5 => exact repr_of_reads' (.dict h1 h2 h3 h4 h5) hs (fun _ => hsm) hg (by omega) (fun _ _ e => e) (fun h' u tk hk => ⟨.str _, H, I.kept hk, ⟨u, rfl⟩, q⟩) hl
/-- an expression by what is known of its value -/
theorem pe_mo {e : Expr} {t : TE} (he : PE X e t) : PE X e (fun σ H Q => ∃ R : VK, t σ H R ∧ ∀ x H1, R x H1 → Q x H1) :=
  ⟨fun pins s σ H Q I ⟨R, h, k⟩ => thn (he.run pins s σ H R I h) fun u s1 ⟨x, H1, I1, r, q⟩ => ⟨x, H1, I1, r, k x H1 q⟩⟩
/-- a test by what is known of its answer -/
theorem pt_mo {e : Expr} {t : TT} (he : PT X e t) : PT X e (fun σ H Q => ∃ R : Bool → Hp → Prop, t σ H R ∧ ∀ b H1, R b H1 → Q b H1) :=
  ⟨fun pins s σ H Q I ⟨R, h, k⟩ => thn (he.run pins s σ H R I h) fun b s1 ⟨H1, I1, q⟩ => ⟨H1, I1, k b H1 q⟩⟩
/-- a statement that is never come to -/
theorem ps_dead {st : Stmt} : PS X st (fun _ _ _ => False) := ⟨fun _ _ _ _ _ _ h => h.elim⟩
theorem pss_dead {st : List Stmt} : PSs X st (fun _ _ _ => False) := ⟨fun _ _ _ _ _ _ h => h.elim⟩
end
end KX

set_option Elab.async false
set_option linter.all false
set_option maxRecDepth 100000
set_option maxHeartbeats 4000000
/-! Defs that may use that no repr runs further out (GOk), their calls, and the law's entry for them. -/
namespace KX
open PySem PySem.Spec PyProof.Rows L2
/-- as FnOk, of calls in whose surroundings no container's repr runs -/
structure GOk (P : Program) (w : World) (K : PySem.W.Frag) (mg : Str → Option Value) (base : Heap) (CX : CXT) (k : Nat) (f : Addr) (fd : FuncData) (ps : List Str) (sp : Sp) : Prop where
  arity : ∀ vs H Q E, sp vs H Q E → vs.length = ps.length
  go : ∀ (A : Around) (out : List Env) (s : Shared) (H : Hp) (args : Args) (us : List Value) (vs : List V) (Q : VK) (E : XK),
    Room k A → A.guards = some [] → Env0 P w K mg base A out s H → BindsTo s fd args (ps.zip us) → Vals vs us → sp vs H Q E →
    codeAny (model P w) A (.call (.ref f) args) (CR CX out P w H s Q E) s
theorem FnOk.g {P : Program} {w : World} {K : PySem.W.Frag} {mg : Str → Option Value} {base : Heap} {CX : CXT} {k : Nat} {f : Addr} {fd : FuncData} {ps : List Str} {sp : Sp}
    (F : FnOk P w K mg base CX k f fd ps sp) : GOk P w K mg base CX k f fd ps sp := ⟨F.len, fun A out s H args us vs Q E hr _ => F.run A out s H args us vs Q E hr⟩
section
variable {P : Program} {w : World} {K : PySem.W.Frag} {mg : Str → Option Value} {base : Heap}
/-- a def of the text, by its body, where no repr runs further out -/
theorem gok {CX : CXT} {x qual : Str} {st : Stmt} {f : Addr} {fd : FuncData} {N ps : List Str} {k : Nat} {sp : Sp} (F : Fun K x qual st f fd) (S : FnScope N ps (defScope st))
    (ar : ∀ vs H Q E, sp vs H Q E → vs.length = ps.length)
    (body : ∀ (cdv : Value) (A : Around) (out : List Env) (s : Shared) (H : Hp) (vs : List V) (Q : VK) (E : XK),
      Room k (A.deeper (envOfC qual (defScope st) s.heap.objs.size f cdv)) → A.guards = some [] → sp vs H Q E →
      ∃ t, PSs (cxOf CX P w K mg base N qual (defScope st) f cdv A out s H E).nox (defBody st) t ∧ t { nx := fun _ H' => Q .non H', rt := Q } (start N vs) H) :
    GOk P w K mg base CX (k + 1) f fd ps sp := by
  obtain ⟨oc, od, kV, doc, pm, an, cdv, ct, osl, rfl, lk, hcd⟩ := F.ex
  refine ⟨ar, fun A out s H args us vs Q E hr hA e0 hb r hsp => ?_⟩
  -- the library's rule for a def is about every surroundings: it is asked for a promise that carries this one's guards along
  have hl := ar _ _ _ _ hsp
  have kin : K.In s.heap := e0.mod.kin.keeps fun b o e => (e0.bs b o e).1
  have par : ∀ y ∈ ps.zip us, (defScope st).names.lookup y.1 = some .local ∨
      ((defScope st).names.lookup y.1 = some .cell ∧ ((cellsFrom (s.heap.objs.size + 1) (defScope st).names []).lookup y.1).isSome = true) := by
    rintro ⟨n, v⟩ hy
    exact (S.par n (List.of_mem_zip hy).1).imp id fun q => ⟨q, PySem.W.cellsFrom_some _ _ _ (.inl q)⟩
  refine codeAny_call_function hr.depth (kin _ _ lk) rfl S.co S.gen rfl (PySem.W.codeRec_of kin hcd) (hb _ _ _ _ (wpAny_newFunctionEnv_cells S.kind par ?_))
  rintro _ rfl s1 x
  refine ⟨(e0.mod.nolimit.keeps fun b o e => (e0.bs b o e).1).keeps x.toInCall.keep, codeAny_func ?_⟩
  obtain ⟨t, ht, hq⟩ := body cdv A out s H vs Q E (hr.deeper _) hA hsp
  have I := inv_start (P := P) (w := w) (mg := mg) (CX := CX) (E := E) S hr.hd e0 hl r x
  refine wpAny_mono (ht.nox.run [] s1 _ H _ I hq) (fun fl s' hs => ?_) fun _ _ hs => hs
  match fl, hs with
  | .ret u, ⟨v, _, H', J, rv, q⟩ => exact ⟨v, H', J.os, J.bare, J.base, J.hok, rv, q⟩
  | .next, ⟨_, H', J, q⟩ => exact ⟨V.non, H', J.os, J.bare, J.base, J.hok, rfl, q⟩
  | .brk, ⟨_, _, _, q⟩ => exact q.elim
  | .cont, ⟨_, _, _, q⟩ => exact q.elim
end
section
variable {X : Cx} {CX : CXT} {k : Nat} {f : Addr} {fd : FuncData} {ps : List Str} {sp : Sp} {dvs : List V} {ds : List Value} {E : XK} {x : Str} {p pos : Pos} {e : Expr} {es : List Expr} {t : TA}
/-- the call of such a def where no repr runs further out -/
theorem pe_g (F : GOk X.prog X.w X.K X.mg X.base CX k f fd ps sp) (hA : X.A.guards = some []) (hr : Room k X.A) (hg : Gl X x) (hm : X.mg x = some (.ref f)) (hk : PySem.W.keepIn X.K (.ref f) = true)
    (hb : Binds X.K fd ps ds) (hd : Vals dvs ds) (hx : Passes CX X E) (ha : PA X (e :: es) t) (hdb : (x == ("__debug__" : Str)) = false := by decide)
    (he : starEach (e :: es) X.env = (false, eval e X.env) :: starEach es X.env := by rfl) (hpl : (backTo pos (starEach es X.env)).any (·.1) = false := by rfl) :
    PE X (.Call (.Name x p) (e :: es) [] pos) (tCall sp dvs E t) := ⟨fun pins s σ H Q I h => by
  refine wpAny_Call_Name_kw (ld_glob I hg hm (PySem.W.callWith_K (h₀ := X.base) I.ok.mod.kin hk (thn (ha.run pos pins s σ H _ I h) ?_) he hpl) hdb)
  rintro us s1 ⟨vs, H1, I1, r, q⟩
  have r2 : Vals (vs ++ dvs) (us ++ ds) := r.append hd
  have hl : (us ++ ds).length = ps.length := by rw [← r2.length]; exact F.arity _ _ _ _ q
  refine ⟨I1.kIn, wpAny_call (codeAny_mono (F.go X.A X.stack s1 H1 ⟨us, []⟩ (us ++ ds) (vs ++ dvs) Q E hr hA I1.env0 (hb s1 us I1.kIn hl) r2 q) fun r s' hq => ?_)⟩
  match r, hq with
  | .error e, hq => exact hx pins σ H1 s1 e s' I1 hq
  | .ok (.ret u), hq => exact I1.after hq⟩
end
section
variable {X : Cx} {CX : CXT} {k : Nat} {f : Addr} {fd : FuncData} {ps ks : List Str} {sp : Sp} {E : XK} {x : Str} {p pos : Pos} {kws : List Keyword} {tk : TA} {g : List Value → List Value → List Value} {gV : List V → List V → List V}
/-- f(k = v, ..), every argument by its name -/
theorem pe_kw0 (F : FnOk X.prog X.w X.K X.mg X.base CX k f fd ps sp) (hr : Room k X.A) (hg : Gl X x) (hm : X.mg x = some (.ref f)) (hk : PySem.W.keepIn X.K (.ref f) = true) (hb : KBinds X.K fd ps ks g gV) (hx : Passes CX X E)
    (hkw : PK X kws tk) (hall : (backToKw pos (keywordEach kws X.env)).all (·.1.isSome) = true := by rfl) (hks : (backToKw pos (keywordEach kws X.env)).filterMap (·.1) = ks := by rfl) (hdb : (x == ("__debug__" : Str)) = false := by decide)
    (hpl : ((backTo pos (starEach [] X.env)).any (·.1) || (backToKw pos (keywordEach kws X.env)).any (·.1.isNone)) = false := by rfl) :
    PE X (.Call (.Name x p) [] kws pos) (tCallK sp gV E tNil tk) := ⟨fun pins s σ H Q I h => by
  refine wpAny_Call_Name_kw (ld_glob I hg hm (PySem.W.callWith_KW0 (h₀ := X.base) I.ok.mod.kin hk hall (thn (hkw.run pos pins s σ H _ I h) ?_) hpl) hdb)
  rintro ws s2 ⟨zs, H2, I2, rz, q2⟩
  rw [hks]
  exact ⟨I2.kIn, run_fnk (us := []) (vs := []) F hr hb hx I2 .nil rz q2⟩⟩
end
/-- one parameter, by its place or by its name -/
theorem kb1 {K : PySem.W.Frag} {fd : FuncData} {a : Str} (h : ∀ u : Value, bindArgs fd ⟨[u], []⟩ = pure [(a, u)]) (h2 : ∀ u : Value, bindArgs fd ⟨[], [(a, u)]⟩ = pure [(a, u)]) : KBinds K fd [a] [a] (fun us ws => us ++ ws) (fun us ws => us ++ ws) where
  to := fun s us ws _ hl => by
    match us, ws, hl with
    | [], [w], _ => exact .of_eq (h2 w)
    | [u], [], _ => exact .of_eq (h u)
  rel := fun r q => r.append q
/-- what the law's def is called with: base holds sys.modules, and no repr runs -/
theorem law_g {P : Program} {w : World} {K : PySem.W.Frag} {mg mb : Str → Option Value} {k : Nat} {fa a : Addr} {fd : FuncData} {x : Str} {sp : Sp} {s₁ : Shared} {vs : List Value} {ns : List Int}
    (kin : K.In s₁.heap) (hns : s₁.heap.Ns mainGlobals mg) (hb : s₁.heap.Ns builtinsNs mb) (hbb : ∀ x : Str, x ≠ "__name__" → mb x = bootBuiltins x) (hlim : s₁.heap.NoLimit) (hsys : ∃ mm, s₁.heap.Ns sysModules mm) (hg : s₁.gens = #[])
    (ha : s₁.heap.get? a = some { cls := .type "list", data := .seq vs.toArray }) (hi : IntsAre vs ns) (hl : ns.length ≤ sizeLine) (hr : Room k callerA)
    (F : ∀ base : Heap, K.In base → base.Ns mainGlobals mg → (∃ o, base.get? sysModules = some o) → GOk P w K mg base CX0 k fa fd [x] sp) (hbind : ∀ (s : Shared) (u : Value), BindsTo s fd ⟨[u], []⟩ [(x, u)])
    (hsp : ∀ H : Hp, Only H → SqL K H a (ns.map V.int) → sp [.ref a] H (fun v _ => v = .bl true) fun _ _ _ => False) :
    codeAny (model P w) callerA (.call (.ref fa) ⟨[.ref a], []⟩) (fun r s' => r = .ok (.ret (.bool true)) ∧ OldK s₁.heap s'.heap ∧ s'.os = s₁.os ∧ AllBare s'.gens) s₁ := by
  have rv := vals_ints hi
  have nV := hi.length
  let ob : Obj := { cls := .type "list", data := .seq vs.toArray }
  suffices core : ∀ H : Hp, Only H → SqL K H a (ns.map V.int) → HOk P w H s₁.heap → (∀ b, H b ≠ none → b = a ∧ K.lookup a = none) →
      codeAny (model P w) callerA (.call (.ref fa) ⟨[.ref a], []⟩) (fun r s' => r = .ok (.ret (.bool true)) ∧ OldK s₁.heap s'.heap ∧ s'.os = s₁.os ∧ AllBare s'.gens) s₁ by
    cases hk : K.lookup a with
    | some o =>
      have e := kin a o hk
      rw [ha] at e
      cases e
      exact core (fun _ => none) (fun _ => .inl rfl) (.inr ⟨_, vs.toArray, _, hk, rfl, rfl, rfl, by rw [List.size_toArray, nV]; exact hl, by simpa using rv⟩) (fun _ _ z => nomatch z) fun _ z => absurd rfl z
    | none =>
      refine core (fun b => if b = a then some (.frz ob (.lst (ns.map V.int))) else none) (fun b => ?_) (.inl (.inr ⟨ob, if_pos rfl⟩)) (fun b u z => ?_) (fun b z => ?_)
      · by_cases hb : b = a
        · exact .inr ⟨_, _, if_pos hb⟩
        · exact .inl (if_neg hb)
      · by_cases hb : b = a
        · have z' := (if_pos hb).symm.trans z
          cases z'; subst hb
          exact ⟨ha, by rw [List.length_map]; exact hl, vs, _, rv, ha⟩
        · exact nomatch (if_neg hb).symm.trans z
      · by_cases hb : b = a
        · exact ⟨hb, hk⟩
        · exact absurd (if_neg hb) z
  intro H hO hS hok hA
  have keep : ∀ {b : Addr} {o : Obj}, s₁.heap.get? b = some o → H b = none → (hidT s₁.heap H).get? b = some o := fun e n => hidT_get e n
  have free : ∀ {b : Addr} {o : Obj}, s₁.heap.get? b = some o → (∀ es ep, o.data = .dict es ep → H b = none) := fun {b o} e es ep d => by
    refine Classical.byContradiction fun q => ?_
    obtain ⟨e', _⟩ := hA b q
    rw [e', ha] at e; cases e
    exact nomatch d
  have ns2 : ∀ {b : Addr} {m : Str → Option Value}, s₁.heap.Ns b m → (hidT s₁.heap H).Ns b m := fun {b m} ⟨o, es, ep, e, d, r⟩ => ⟨o, es, ep, keep e (free e _ _ d), d, r⟩
  have kb : K.In (hidT s₁.heap H) := fun b o e => keep (kin b o e) <| Classical.byContradiction fun q => by
    obtain ⟨e', n⟩ := hA b q
    rw [e', n] at e; cases e
  have M : Mod K mg (hidT s₁.heap H) := ⟨kb, ns2 hns, ⟨mb, ns2 hb, hbb⟩, hlim.elim fun mc h => ⟨mc, ns2 h.1, h.2⟩⟩
  have e0 : Env0 P w K mg (hidT s₁.heap H) callerA [] s₁ H := ⟨rfl, M, fun b o e => of_hidT e, Nat.le_of_eq (hidT_size _ _), trivial, fun _ hb => (nomatch hb), hok, .of_eq hg⟩
  have sys : ∃ o, (hidT s₁.heap H).get? sysModules = some o := hsys.elim fun mm h => (ns2 h).elim fun o h => h.elim fun _ h => h.elim fun _ h => ⟨o, h.1⟩
  refine codeAny_mono ((F _ kb (ns2 hns) sys).go callerA [] s₁ H ⟨[.ref a], []⟩ [.ref a] [.ref a] _ _ hr rfl e0 (hbind s₁ (.ref a)) (.cons rfl .nil) (hsp H hO hS)) fun r s' h => ?_
  match r, h with
  | .error e, h => exact h.elim
  | .ok (.ret u), ⟨v, H', os, bare, un, hok', r', q⟩ =>
    have q' : v = .bl true := q
    subst q'
    obtain rfl : u = Value.bool true := r'
    refine ⟨rfl, OldK.of_keep fun b o e => ?_, os, bare⟩
    cases q : H b with
    | none => exact un.keep b o e q (fun z => nomatch z) (fun z => nomatch z)
    | some u =>
      rcases hO b with z | ⟨_, xs, z⟩
      · rw [q] at z; cases z
      · obtain ⟨e1, _⟩ := hok b _ z
        obtain ⟨e2, _⟩ := hok' b _ (un.frzs b _ _ z)
        rw [e] at e1; cases e1
        exact e2
/-- the goal that k_head leaves, by the law's promise -/
theorem walk_g {l : PySem.W.OpenLaw} {n k : Nat} {q : Program} {loose : List Str} {XP : (Str → Option Value) → Heap → Prop} {YP : World → Heap → Prop} {d : DefRec} {K : Params → PySem.W.Frag} {sp : PySem.W.Frag → Sp} {x : Str}
    (hn : l.most = some n) (hn2 : n ≤ sizeLine) (hdf : d.params.defaults = []) (hr : Room k callerA) (him : importsNone q = true) (hY : ∀ (w : World) (h : Heap), YP w h → (K w.params).In h)
    (F : ∀ (w : World) (mg : Str → Option Value) (fa : Addr) (h : Heap), (K w.params).In h → h.Ns mainGlobals mg → mg d.name = some (.ref fa) →
      ∃ fd : FuncData, (∀ (s : Shared) (u : Value), BindsTo s fd ⟨[u], []⟩ [(x, u)]) ∧
        ∀ base : Heap, (K w.params).In base → base.Ns mainGlobals mg → (∃ o, base.get? sysModules = some o) → GOk l.prog w (K w.params) mg base CX0 k fa fd [x] (sp (K w.params)))
    (hsp : ∀ (K : PySem.W.Frag) (H : Hp) (a : Addr) (ns : List Int), ns.length ≤ n → Only H → SqL K H a (ns.map V.int) → sp K [.ref a] H (fun v _ => v = .bl true) fun _ _ _ => False) :
    PySem.W.WalkO q loose XP YP l.row.toRowW d [] (fun f vs => PySem.call f vs) := by
  refine Att.attach_call hn hdf fun w s₀ s₁ mg mb fa o pm cd doc a vs ns G Y ho hd hcd hmg hobj hints hlen hg => ?_
  obtain ⟨fd, hb, hF⟩ := F w mg fa _ (hY w _ Y) G.T.g hmg
  obtain ⟨mm, hmm, _⟩ := (G.T.seer him).mods
  exact law_g (hY w _ Y) G.T.g G.T.b G.T.builtins G.T.nolimit ⟨mm, hmm⟩ hg hobj hints (Nat.le_trans hlen hn2) hr hF hb fun H hO hS => hsp _ H a ns hlen hO hS
end KX

set_option Elab.async false
set_option linter.all false
set_option maxRecDepth 100000
set_option maxHeartbeats 4000000
/-! Own layer: short texts, picks by a drawn index. -/
namespace KX
open PySem PySem.Spec PyProof.Rows L2
/-- a short text of codes that repr shows in at most ten signs each -/
def Ss (n : Nat) (z : Str) : Prop := z.length ≤ n ∧ ∀ c, c ∈ z.cps.toList → c < 1114112
theorem Ss.mono {n m : Nat} {z : Str} (h : Ss n z) (l : n ≤ m) : Ss m z := ⟨Nat.le_trans h.1 l, h.2⟩
theorem Ss.app {n m : Nat} {a b : Str} (h : Ss n a) (g : Ss m b) : Ss (n + m) (a ++ b) := by
  refine ⟨by rw [strLen_append]; exact Nat.add_le_add h.1 g.1, fun c hc => ?_⟩
  have e : (a ++ b).cps.toList = a.cps.toList ++ b.cps.toList := Array.toList_append
  rw [e] at hc
  exact (List.mem_append.mp hc).elim (h.2 c) (g.2 c)
theorem Ss.cut {n : Nat} {a : Str} (h : Ss n a) (lo hi : Option Int) : Ss n (cutS a lo hi) := by
  refine ⟨Nat.le_trans (cutS_length a lo hi) h.1, fun c hc => h.2 c ?_⟩
  have hc' : c ∈ (a.cps.toList.drop (HT.sIx a.length 0 lo)).take (HT.sIx a.length a.length hi - HT.sIx a.length 0 lo) := by simpa [cutS] using hc
  exact List.mem_of_mem_drop (List.mem_of_mem_take hc')
theorem Ss.sign {c : Nat} (h : c < 1114112) : Ss 1 ⟨#[c]⟩ := ⟨Nat.le_refl 1, fun d hd => by simp at hd; subst hd; exact h⟩
theorem Ss.nil : Ss 0 (Str.ofString "") := ⟨by decide, by decide⟩
theorem Ss.join {m : Nat} : ∀ {ys : List Str}, (∀ y, y ∈ ys → Ss m y) → Ss (ys.length * m) (Str.join (Str.ofString "") ys)
  | [], _ => by rw [List.length_nil, Nat.zero_mul]; exact Ss.nil
  | [x], h => by rw [List.length_singleton, Nat.one_mul]; exact h x (List.mem_singleton.mpr rfl)
  | x :: z :: r, h => by
    have h1 := h x List.mem_cons_self
    have h2 := Ss.join (ys := z :: r) fun y hy => h y (List.mem_cons_of_mem _ hy)
    have h3 := (h1.app Ss.nil).app h2
    refine Ss.mono (show Ss _ (x ++ Str.ofString "" ++ Str.join (Str.ofString "") (z :: r)) from h3) ?_
    simp only [List.length_cons]
    rw [Nat.succ_mul (r.length + 1) m]
    omega
theorem Ss.joinT {m : Nat} {ys : List Str} (h : ∀ y, y ∈ ys → Ss m y) : Ss (ys.length * m) (Txt.join (Str.ofString "") ys) := by
  rw [show Txt.join (Str.ofString "") ys = Str.join (Str.ofString "") ys from StrLaws.glued_eq_join _ ys]; exact Ss.join h
theorem Ss.sum {m : Nat} : ∀ {ys : List Str}, (∀ y, y ∈ ys → Ss m y) → (ys.map (·.length)).sum ≤ ys.length * m
  | [], _ => by simp
  | x :: r, h => by
    have h1 := (h x List.mem_cons_self).1
    have h2 := Ss.sum (ys := r) fun y hy => h y (List.mem_cons_of_mem _ hy)
    simp only [List.map_cons, List.sum_cons, List.length_cons, Nat.succ_mul]
    omega
/-- an item by an index in bounds -/
theorem pick {α : Type} {xs : List α} {i : Int} (h0 : 0 ≤ i) (h1 : i < (xs.length : Int)) : ∃ (j : Nat) (v : α), xs[j]? = some v ∧ v ∈ xs ∧ i = (j : Int) ∧ atI xs i = some v := by
  have hj : i.toNat < xs.length := by omega
  have e : i = ((i.toNat : Nat) : Int) := by omega
  refine ⟨i.toNat, xs[i.toNat], List.getElem?_eq_getElem hj, List.getElem_mem hj, e, ?_⟩
  have q : atI xs ((i.toNat : Nat) : Int) = some xs[i.toNat] := atI_nat (List.getElem?_eq_getElem hj)
  rw [← e] at q
  exact q
theorem pickI {xs : List Int} {i : Int} (h0 : 0 ≤ i) (h1 : i < (xs.length : Int)) : ∃ m, m ∈ xs ∧ atI (xs.map V.int) i = some (.int m) := by
  obtain ⟨j, v, h2, h3, h4, h5⟩ := pick (xs := xs.map V.int) h0 (by rw [List.length_map]; exact h1)
  obtain ⟨m, hm, rfl⟩ := List.mem_map.mp h3
  exact ⟨m, hm, h5⟩
/-- data that repr shows in few signs -/
structure OkD (n W : Nat) (d : PyData) : Prop where
  short : d.leavesShort 110 = true
  shows : d.showable = true
  deep : d.depth ≤ n
  wt : d.weight ≤ W
theorem OkD.mono {n m W U : Nat} {d : PyData} (h : OkD n W d) (h1 : n ≤ m) (h2 : W ≤ U) : OkD m U d := ⟨h.short, h.shows, Nat.le_trans h.deep h1, Nat.le_trans h.wt h2⟩
theorem OkD.len {n W : Nat} {d : PyData} (h : OkD n W d) (hW : W ≤ 100000) : d.shown.length ≤ sizeLine := by
  have h1 := PyData.shown_le 110 (by decide) d h.short
  have h2 := h.wt
  rw [sizeLine_eq]
  have h3 : (110 + 2) * d.weight ≤ 112 * 100000 := Nat.mul_le_mul_left 112 (by omega)
  omega
theorem OkD.none : OkD 0 0 .none := ⟨rfl, rfl, Nat.le_refl _, Nat.le_refl _⟩
theorem OkD.bool (b : Bool) : OkD 0 0 (.bool b) := ⟨rfl, rfl, Nat.le_refl _, Nat.le_refl _⟩
theorem OkD.str {n : Nat} {z : Str} (h : Ss n z) : OkD 0 n (.str z) := by
  refine ⟨?_, rfl, Nat.le_refl _, h.1⟩
  simp only [PyData.leavesShort, List.all_eq_true, decide_eq_true_eq]
  exact fun c hc => Nat.lt_trans (h.2 c hc) (by decide)
theorem OkD.int {i : Int} (h : i.natAbs < 2 ^ 98) : OkD 0 100 (.int i) := by
  have hl : i.natAbs.log2 < 98 := by
    by_cases z : i.natAbs = 0
    · rw [z]; decide
    · exact (Nat.log2_lt z).mpr h
  refine ⟨?_, ?_, Nat.le_refl _, ?_⟩
  · have q := int_text_length_le (a := i) (k := 98) (by decide) hl
    have e : (PyData.shown (.int i)).length = (toString i).length := PySem.ofString_length _
    simp only [PyData.leavesShort, decide_eq_true_eq]
    omega
  · simp only [PyData.showable, decide_eq_true_eq]; omega
  · simp only [PyData.weight]; split <;> omega
theorem OkD.intB {i : Int} (h : i.natAbs < 2 ^ 104) : OkD 0 106 (.int i) := by
  have hl : i.natAbs.log2 < 104 := by
    by_cases z : i.natAbs = 0
    · rw [z]; decide
    · exact (Nat.log2_lt z).mpr h
  refine ⟨?_, ?_, Nat.le_refl _, ?_⟩
  · have q := int_text_length_le (a := i) (k := 104) (by decide) hl
    have e : (PyData.shown (.int i)).length = (toString i).length := PySem.ofString_length _
    simp only [PyData.leavesShort, decide_eq_true_eq]
    omega
  · simp only [PyData.showable, decide_eq_true_eq]; omega
  · simp only [PyData.weight]; split <;> omega
/-- what is new in H', behind H -/
def nw (H H' : Hp) : Hp := fun b => match H b with
  | none => H' b
  | some _ => none
theorem nw_at {H H' : Hp} {b : Addr} (h : H b = none) : nw H H' b = H' b := by unfold nw; rw [h]
theorem nw_some {H H' : Hp} {b : Addr} {o : HO} (h : nw H H' b = some o) : H b = none ∧ H' b = some o := by
  unfold nw at h
  cases e : H b with
  | none => rw [e] at h; exact ⟨rfl, h⟩
  | some u => rw [e] at h; cases h
theorem nw_same {H H' : Hp} : Same (nw H H') H' := fun b o h => (nw_some h).2
mutual
theorem Dq.same {H G : Hp} (s : Same H G) : ∀ (d : PyData) (v : V), Dq H v d → Dq G v d
  | .none, _, h => by cases h; exact .non
  | .bool b, _, h => by cases h; exact .bl b
  | .int i, _, h => by cases h; exact .int i
  | .str x, _, h => by cases h; exact .str x
  | .list ds, _, h => by cases h with | lst h1 h2 => exact .lst (s _ _ h1) (DqAll.same s ds _ h2)
  | .tuple ds, _, h => by cases h with | tup h1 h2 => exact .tup (s _ _ h1) (DqAll.same s ds _ h2)
  | .dict ds, _, h => by cases h with | dct h1 h2 => exact .dct (s _ _ h1) (DqKv.same s ds _ h2)
theorem DqAll.same {H G : Hp} (s : Same H G) : ∀ (ds : List PyData) (vs : List V), DqAll H vs ds → DqAll G vs ds
  | [], _, h => by cases h; exact .nil
  | d :: ds, _, h => by cases h with | cons h1 h2 => exact .cons (Dq.same s d _ h1) (DqAll.same s ds _ h2)
theorem DqKv.same {H G : Hp} (s : Same H G) : ∀ (ds : List (PyData × PyData)) (kvs : List (Key × V)), DqKv H kvs ds → DqKv G kvs ds
  | [], _, h => by cases h; exact .nil
  | (_, d) :: ds, _, h => by cases h with | cons h1 h2 => exact .cons (Dq.same s d _ h1) (DqKv.same s ds _ h2)
end
/-- the value stands for some data of at most this depth and weight -/
def Dd (n W : Nat) (H : Hp) (v : V) : Prop := ∃ d, Dq H v d ∧ OkD n W d
theorem Dd.same {n W : Nat} {H G : Hp} {v : V} (h : Dd n W H v) (s : Same H G) : Dd n W G v := let ⟨d, a, b⟩ := h; ⟨d, Dq.same s d v a, b⟩
theorem Dd.mono {n m W U : Nat} {H : Hp} {v : V} (h : Dd n W H v) (h1 : n ≤ m) (h2 : W ≤ U) : Dd m U H v := let ⟨d, a, b⟩ := h; ⟨d, a, b.mono h1 h2⟩
theorem Dd.items {n W : Nat} {H : Hp} : ∀ {vs : List V}, (∀ v, v ∈ vs → Dd n W H v) → ∃ ds, DqAll H vs ds ∧ PyData.leavesShortAll 110 ds = true ∧ PyData.showableAll ds = true ∧ PyData.depthAll ds ≤ n ∧ PyData.weightAll ds ≤ vs.length * (W + 1)
  | [], _ => ⟨[], .nil, rfl, rfl, Nat.zero_le _, Nat.zero_le _⟩
  | v :: r, h => by
    obtain ⟨d, h1, h2⟩ := h v List.mem_cons_self
    obtain ⟨ds, g1, g2, g3, g4, g5⟩ := Dd.items (vs := r) fun u hu => h u (List.mem_cons_of_mem _ hu)
    refine ⟨d :: ds, .cons h1 g1, ?_, ?_, ?_, ?_⟩
    · simp only [PyData.leavesShortAll, h2.short, g2, Bool.and_self]
    · simp only [PyData.showableAll, h2.shows, g3, Bool.and_self]
    · have := h2.deep
      simp only [PyData.depthAll]; omega
    · have := h2.wt
      simp only [PyData.weightAll, List.length_cons, Nat.succ_mul]; omega
theorem Dd.lst {n W m : Nat} {H : Hp} {a : Addr} {vs : List V} (h : H a = some (.lst vs)) (l : vs.length ≤ m) (hv : ∀ v, v ∈ vs → Dd n W H v) : Dd (n + 1) (m * (W + 1)) H (.ref a) := by
  obtain ⟨ds, g1, g2, g3, g4, g5⟩ := Dd.items hv
  refine ⟨.list ds, .lst h g1, ⟨by simpa only [PyData.leavesShort] using g2, by simpa only [PyData.showable] using g3, by simp only [PyData.depth]; omega, ?_⟩⟩
  have := Nat.mul_le_mul_right (W + 1) l
  simp only [PyData.weight]; omega
theorem Dd.tup {n W m : Nat} {H : Hp} {a : Addr} {vs : List V} (h : H a = some (.tup vs)) (l : vs.length ≤ m) (hv : ∀ v, v ∈ vs → Dd n W H v) : Dd (n + 1) (m * (W + 1)) H (.ref a) := by
  obtain ⟨ds, g1, g2, g3, g4, g5⟩ := Dd.items hv
  refine ⟨.tuple ds, .tup h g1, ⟨by simpa only [PyData.leavesShort] using g2, by simpa only [PyData.showable] using g3, by simp only [PyData.depth]; omega, ?_⟩⟩
  have := Nat.mul_le_mul_right (W + 1) l
  simp only [PyData.weight]; omega
/-- a key is a short text -/
def KeyS (k : Key) : Prop := ∃ z, k = Sum.inr z ∧ Ss 9 z
theorem Dd.pairs {n W : Nat} {H : Hp} : ∀ {kvs : List (Key × V)}, (∀ kv, kv ∈ kvs → KeyS kv.1 ∧ Dd n W H kv.2) → ∃ ds, DqKv H kvs ds ∧ PyData.leavesShortKv 110 ds = true ∧ PyData.showableKv ds = true ∧ PyData.depthKv ds ≤ n ∧ PyData.weightKv ds ≤ kvs.length * (W + 11)
  | [], _ => ⟨[], .nil, rfl, rfl, Nat.zero_le _, Nat.zero_le _⟩
  | (k, v) :: r, h => by
    obtain ⟨⟨z, e, hz⟩, d, h1, h2⟩ := h (k, v) List.mem_cons_self
    obtain ⟨ds, g1, g2, g3, g4, g5⟩ := Dd.pairs (kvs := r) fun u hu => h u (List.mem_cons_of_mem _ hu)
    have e' : k = Sum.inr z := e
    subst e'
    have hk := OkD.str hz
    refine ⟨(kD (Sum.inr z), d) :: ds, .cons h1 g1, ?_, ?_, ?_, ?_⟩
    · show (PyData.leavesShort 110 (.str z) && d.leavesShort 110 && PyData.leavesShortKv 110 ds) = true
      rw [hk.short, h2.short, g2]; rfl
    · show (PyData.showable (.str z) && d.showable && PyData.showableKv ds) = true
      rw [hk.shows, h2.shows, g3]; rfl
    · have := h2.deep
      show max (max (PyData.depth (.str z)) d.depth) (PyData.depthKv ds) ≤ n
      have e0 : PyData.depth (.str z) = 0 := rfl
      omega
    · have w1 := h2.wt
      have w2 := hk.wt
      show PyData.weight (.str z) + d.weight + 2 + PyData.weightKv ds ≤ _
      simp only [List.length_cons, Nat.succ_mul]; omega
theorem Dd.dct {n W m : Nat} {H : Hp} {a : Addr} {kvs : List (Key × V)} (h : H a = some (.dK kvs)) (l : kvs.length ≤ m) (hv : ∀ kv, kv ∈ kvs → KeyS kv.1 ∧ Dd n W H kv.2) : Dd (n + 1) (m * (W + 11)) H (.ref a) := by
  obtain ⟨ds, g1, g2, g3, g4, g5⟩ := Dd.pairs hv
  refine ⟨.dict ds, .dct h g1, ⟨by simpa only [PyData.leavesShort] using g2, by simpa only [PyData.showable] using g3, by simp only [PyData.depth]; omega, ?_⟩⟩
  have := Nat.mul_le_mul_right (W + 11) l
  simp only [PyData.weight]; omega
theorem putK_all {p : Key × V → Prop} {k : Key} {v : V} (hv : p (k, v)) {kvs : List (Key × V)} (h : ∀ kv, kv ∈ kvs → p kv) : (∀ kv, kv ∈ putK kvs k v → p kv) ∧ (putK kvs k v).length ≤ kvs.length + 1 := by
  unfold putK
  split
  · refine ⟨fun kv hm => ?_, by rw [List.length_map]; omega⟩
    obtain ⟨x, hx, rfl⟩ := List.mem_map.mp hm
    by_cases e : x.1 = k
    · rw [if_pos e, e]; exact hv
    · rw [if_neg e]; exact h x hx
  · refine ⟨fun kv hm => ?_, by rw [List.length_append]; exact Nat.le_refl _⟩
    rcases List.mem_append.mp hm with q | q
    · exact h kv q
    · rw [List.mem_singleton.mp q]; exact hv
theorem mergeK_all {p : Key × V → Prop} : ∀ {more kvs : List (Key × V)}, (∀ kv, kv ∈ more → p kv) → (∀ kv, kv ∈ kvs → p kv) → (∀ kv, kv ∈ mergeK kvs more → p kv) ∧ (mergeK kvs more).length ≤ kvs.length + more.length
  | [], _, _, h => ⟨h, Nat.le_refl _⟩
  | (k, v) :: r, kvs, hm, h => by
    have h1 := putK_all (hm (k, v) List.mem_cons_self) h
    have h2 := mergeK_all (more := r) (kvs := putK kvs k v) (fun kv q => hm kv (List.mem_cons_of_mem _ q)) h1.1
    refine ⟨h2.1, ?_⟩
    have := h1.2
    have := h2.2
    show (mergeK (putK kvs k v) r).length ≤ kvs.length + (r.length + 1)
    omega
theorem KeyS.num {i : Nat} (h : i < 10) : KeyS (Sum.inr (Str.ofString (toString (i : Int)))) := by
  refine ⟨_, rfl, ?_⟩
  have hd : ∀ j : Fin 10, (Str.ofString (toString ((j.val : Nat) : Int))).length ≤ 9 ∧ ∀ c, c ∈ (Str.ofString (toString ((j.val : Nat) : Int))).cps.toList → c < 1114112 := by decide +kernel
  exact hd ⟨i, h⟩
end KX

set_option Elab.async false
set_option linter.all false
set_option maxRecDepth 100000
set_option maxHeartbeats 4000000
/-! Own layer: texts of digits. -/
namespace KX
open PySem
/-- the signs of a text -/
def cs (z : Str) : List Nat := z.cps.toList
theorem cs_len (z : Str) : (cs z).length = z.length := by unfold cs; rw [Array.length_toList]; rfl
theorem str_ext {y z : Str} (h : cs y = cs z) : y = z := by
  obtain ⟨⟨a⟩⟩ := y
  obtain ⟨⟨b⟩⟩ := z
  exact congrArg (fun l => (⟨⟨l⟩⟩ : Str)) h
def dg (c : Nat) : Bool := decide (48 ≤ c) && decide (c ≤ 57)
/-- behind a minus -/
def ab : List Nat → List Nat
  | 45 :: r => r
  | l => l
/-- a decimal number of at most thirty digits -/
def dec (l : List Nat) : Bool := decide (l = [48]) || (decide (ab l ≠ []) && (ab l).all dg && decide ((ab l).head? ≠ some 48) && decide ((ab l).length ≤ 30))
def nval (l : List Nat) : Int := match l with
  | 45 :: r => -((NumText.digitsVal r : Nat) : Int)
  | l => ((NumText.digitsVal l : Nat) : Int)
theorem all_dg {l : List Nat} (h : l.all dg = true) : NumText.AllDigits l := fun c hc => by
  have := List.all_eq_true.mp h c hc
  unfold dg at this
  obtain ⟨h1, h2⟩ := Bool.and_eq_true_iff.mp this
  exact ⟨of_decide_eq_true h1, of_decide_eq_true h2⟩
theorem uni_dg {c : Nat} (h : c < 128) : Unicode.isDigit c = dg c := by
  have e : Txt.isdigit ⟨#[c]⟩ = dg c := PySem.W.os_isdigit h
  have e2 : Txt.isdigit ⟨#[c]⟩ = (Unicode.isDigit c) := by
    show (decide ((⟨#[c]⟩ : Str).length > 0) && (#[c] : Array Nat).all Unicode.isDigit) = _
    simp [Str.length]
  rw [← e2, e]
theorem asc_cs (z : Str) : Txt.isascii z = (cs z).all (fun c => decide (c < 128)) := by
  unfold Txt.isascii cs
  rw [Array.all_toList]
theorem dig_cs {z : Str} (h : Txt.isascii z = true) : Txt.isdigit z = (decide (cs z ≠ []) && (cs z).all dg) := by
  rw [asc_cs] at h
  unfold Txt.isdigit
  have e : z.cps.all Unicode.isDigit = (cs z).all dg := by
    rw [← Array.all_toList]
    show (cs z).all Unicode.isDigit = _
    rw [Bool.eq_iff_iff, List.all_eq_true, List.all_eq_true]
    exact ⟨fun k c hc => by rw [← uni_dg (of_decide_eq_true (List.all_eq_true.mp h c hc))]; exact k c hc, fun k c hc => by rw [uni_dg (of_decide_eq_true (List.all_eq_true.mp h c hc))]; exact k c hc⟩
  rw [e]
  refine congrArg (· && _) ?_
  rw [Bool.eq_iff_iff, decide_eq_true_iff, decide_eq_true_iff, ← cs_len]
  exact ⟨fun k n => by rw [n] at k; exact absurd k (Nat.lt_irrefl 0), fun k => List.length_pos_iff.mpr k⟩
/-- dg signs are below 128 -/
theorem dg_asc {l : List Nat} (h : l.all dg = true) : l.all (fun c => decide (c < 128)) = true := by
  refine List.all_eq_true.mpr fun c hc => ?_
  have := all_dg h c hc
  exact decide_eq_true (by omega)
theorem int_cs {z : Str} (h : dec (cs z) = true) : intText? z = some (nval (cs z)) := by
  unfold dec at h
  rcases Bool.or_eq_true_iff.mp h with h | h
  · have e : cs z = [48] := of_decide_eq_true h
    rw [e]
    have ez : z = ⟨#[48]⟩ := str_ext e
    rw [ez]
    exact PySem.intText_digits (x := ⟨#[48]⟩) (fun c hc => by cases List.mem_singleton.mp hc; decide) (List.cons_ne_nil _ _) (by decide)
  · obtain ⟨h, h4⟩ := Bool.and_eq_true_iff.mp h
    obtain ⟨h, h3⟩ := Bool.and_eq_true_iff.mp h
    obtain ⟨h1, h2⟩ := Bool.and_eq_true_iff.mp h
    have n0 : ab (cs z) ≠ [] := of_decide_eq_true h1
    have l30 : (ab (cs z)).length ≤ 30 := of_decide_eq_true h4
    have ad := all_dg h2
    match hz : cs z with
    | 45 :: r =>
      rw [hz] at n0 l30 ad
      have hl : z.length ≤ 4300 := by rw [← cs_len, hz]; have : r.length ≤ 30 := l30; simp; omega
      exact PySem.intText_neg (x := z) hz ad n0 hl
    | [] => rw [hz] at n0; exact absurd rfl n0
    | c :: r =>
      by_cases hc : c = 45
      · subst hc
        rw [hz] at n0 l30 ad
        have hl : z.length ≤ 4300 := by rw [← cs_len, hz]; have : r.length ≤ 30 := l30; simp; omega
        exact PySem.intText_neg (x := z) hz ad n0 hl
      · have ea : ab (c :: r) = c :: r := by
          unfold ab
          split
          · rename_i q; exact absurd (List.cons.inj q).1 hc
          · rfl
        have ev : nval (c :: r) = ((NumText.digitsVal (c :: r) : Nat) : Int) := by
          unfold nval
          split
          · rename_i q; exact absurd (List.cons.inj q).1 hc
          · rfl
        rw [hz, ea] at n0 l30 ad
        have hl : z.length ≤ 4300 := by rw [← cs_len, hz]; omega
        rw [ev, ← hz]
        exact PySem.intText_digits (x := z) (by show NumText.AllDigits (cs z); rw [hz]; exact ad) (by show cs z ≠ []; rw [hz]; exact n0) hl
/-- text.removeprefix('-') -/
theorem rp_cs (z : Str) : cs (Txt.removeprefix z ⟨#[45]⟩) = ab (cs z) := by
  rw [StrLaws.removeprefix_eq, StrLaws.subAt_eq]
  have l1 : (⟨#[45]⟩ : Str).length = 1 := rfl
  have e1 : (⟨#[45]⟩ : Str).cps.toList = [45] := rfl
  rw [l1, e1]
  have hc : z.cps.toList = cs z := rfl
  have hn := cs_len z
  rw [hc]
  match hz : cs z with
  | [] =>
    rw [if_neg (by rw [Bool.and_eq_true]; rintro ⟨_, q⟩; exact absurd q (by decide))]
    exact hz
  | c :: r =>
    have hl : z.length = r.length + 1 := by rw [← hn, hz]; rfl
    by_cases h : c = 45
    · subst h
      rw [if_pos (by rw [Bool.and_eq_true]; exact ⟨decide_eq_true (by omega), rfl⟩)]
      show ((List.drop 1 (45 :: r)).take (z.length - 1)).toArray.toList = r
      rw [hl]
      show r.take (r.length + 1 - 1) = r
      rw [Nat.add_sub_cancel]
      exact List.take_length
    · rw [if_neg (by
        rw [Bool.and_eq_true]; rintro ⟨_, q⟩
        have q' : ([c] == [45]) = true := q
        exact h (List.cons.inj (eq_of_beq q')).1)]
      have ea : ab (c :: r) = c :: r := by
        unfold ab
        split
        · rename_i q; exact absurd (List.cons.inj q).1 h
        · rfl
      rw [ea]; exact hz
end KX

set_option Elab.async false
set_option linter.all false
set_option maxRecDepth 100000
set_option maxHeartbeats 4000000
/-! Own layer: try with several clauses «except C as n», each of them the only one that takes the error; the clauses behind are never looked at. -/
namespace KX
open PySem PySem.Spec PyProof.Rows L2
abbrev Cla := Value × Nat × (Addr → Value → Option Addr → TS)
/-- behind a suite the clause's name is gone -/
def gone (D : Ends) (i : Nat) : Ends := { nx := fun τ G => D.nx (τ.set i none) G, rt := D.rt, bk := fun τ G => D.bk (τ.set i none) G, ct := fun τ G => D.ct (τ.set i none) G }
def wTo (K : PySem.W.Frag) (D : Ends) : List Cla → WX
  | [] => fun _ _ _ _ => False
  | (c, i, ts) :: r => fun cls d σ H => ∃ b, PySem.W.exmOne K cls c = some b ∧ (b = true → ∀ a, H a = none → ts a cls d (gone D i) (σ.set i (some (.ref a))) H) ∧ (b = false → wTo K D r cls d σ H)
inductive Clauses (X : Cx) : List ExceptHandler → List Cla → Prop
  | rest {hds : List ExceptHandler} : Clauses X hds []
  | cons {x n : Str} {c : Value} {i : Nat} {ts : Addr → Value → Option Addr → TS} {st : Stmt} {more : List Stmt} {np pos' : Pos} {hds : List ExceptHandler} {l : List Cla} (hc : Names X x c) (hi : X.N[i]? = some n) (hl : X.env.kindOf n = some .local)
      (su : ∀ (a : Addr) (oe : Obj) (cls : Value) (d : Option Addr) (pn : List (Addr × Obj)), Zc cls d oe → (∃ vs, oe.data = .fields vs) → PSs (X.suite a ((a, oe) :: pn)) (st :: more) (ts a cls d)) (r : Clauses X hds l) :
      Clauses X (.ExceptHandler (some (.Name x np)) (some n) (st :: more) pos' :: hds) ((c, i, ts) :: l)
section
variable {X : Cx} {body : List Stmt} {h0 : ExceptHandler} {hds : List ExceptHandler} {l : List Cla} {pos : Pos} {tb : WX → TS}
theorem ps_try_to (hs : X.stack = X.env :: X.outer) (hf : X.env.frame = some X.env.locals) (nd : X.N.Nodup) (cl : Clauses X (h0 :: hds) l)
    (hb : ∀ (W : WX) (pn : List (Addr × Obj)) (xe : Value → Shared → Prop), Takes (X.tr pn xe) W → PassesOwn (model X.prog X.w) X.A X.env xe → PSs (X.tr pn xe) body (tb W)) :
    PS X (.Try body (h0 :: hds) [] [] pos) (fun D σ H => tb (wTo X.K D l) D σ H) := ⟨fun pins s σ H D I h => by
  have ok := I.ok
  have fr : X.A.frames = some (X.env :: X.outer) := ok.frames.trans (congrArg some hs)
  let after : Value → Shared → Prop := fun e s1 => wpAny (model X.prog X.w) X.A (noteFrame e X.env) (fun _ s2 =>
    wpAny (model X.prog X.w) X.A (setFlight e none) (fun _ s3 => wpAny (model X.prog X.w) X.A (handleBy e X.env (h0 :: hds)) (SP X pins D) X.xe s3) X.xe s2) X.xe s1
  refine wpAny_Try_except (wpAny_mono ((hb (wTo X.K D l) (X.pn ++ pins) after (fun u s1 z => ?_) PassesOwn.looking).run [] s σ H D (I.toTry _) h) (fun fl s1 z => ?_) fun _ _ z => z)
  · obtain ⟨a, B, s0, pins1, σ1, H1, cls, d, rfl, J0, nb, up, sky, na, os, ag, wish⟩ := z
    have J : Inv X pins σ1 H1 s0 := J0.ofTry ok
    show wpAny (model X.prog X.w) X.A (noteFrame (.ref a) X.env) _ _ _
    refine Sky.land Zc.steady fr hf (by rw [← hs]; exact sky) fun h3 fl3 up3 => ?_
    have J3 : Inv X pins σ1 H1 { s1 with heap := h3 } := J.landed nb fl3.1 (up.trans up3) os ag
    obtain ⟨oe, vs, he, hz, hd⟩ := fl3.there
    have off : a ∉ frs (X.env :: X.outer) := fun m => by
      obtain ⟨_, o1, e1, nf⟩ := fl3.2.2.1.mem m
      exact nf _ ((Option.some.inj (e1.symm.trans he)) ▸ hd)
    have offL : a ≠ X.env.locals := fun e => off (List.mem_filterMap.mpr ⟨X.env, List.mem_cons_self, by rw [hf, e]⟩)
    have offF : a ∉ X.fs := fun m => by
      obtain ⟨en, m1, m2⟩ := List.mem_filterMap.mp m
      exact off (List.mem_filterMap.mpr ⟨en, List.mem_cons_of_mem _ m1, m2⟩)
    have S3 := J3.suite he hd na offL offF
    have ty : PySem.W.Looks (model X.prog X.w) h3 (typeOf (.ref a)) cls := fun A' Q' E' t k q => wpAny_typeOf_ref (k _ _ he) (hz.1 ▸ q)
    clear h
    revert cl wish
    generalize h0 :: hds = all
    intro cl
    induction cl with
    | rest => exact fun z => z.elim
    | @cons x n c i ts st more np pos' hds' l' hc hi hl su r ih =>
      rintro ⟨b, hb1, yes, no⟩
      refine wpAny_handleBy_cons (codeAny_handlers_test ?_) (by intro e; cases e)
      have name : ∀ {Q' : Value → Shared → Prop} {E' : Value → Shared → Prop}, Q' c { s1 with heap := h3 } → wpAny (model X.prog X.w) (X.A.mark (some (.ref a))) (eval (.Name x np) X.env) Q' E' { s1 with heap := h3 } := fun q => by
        obtain ⟨g, db, m | ⟨m, bt, nn⟩⟩ := hc
        · exact ld_glob (X := X.suite a ((a, oe) :: (X.pn ++ pins))) S3 g m q db
        · exact ld_blt (X := X.suite a ((a, oe) :: (X.pn ++ pins))) S3 g m bt q nn db
      refine name ((PySem.W.exm_one J3.kIn ty hb1).here ?_)
      cases b with
      | false => exact ih (no rfl)
      | true =>
        refine codeAny_handlers_suite_as (HandSPX.lands_againZ fl3 fun h4 fl4 up4 => ?_)
        have J4 : Inv X pins σ1 H1 { s1 with heap := h4 } := J.landed nb fl4.1 ((up.trans up3).trans up4) os ag
        obtain ⟨oe4, vs4, he4, hz4, hd4⟩ := fl4.there
        refine store_ok (X := X.suite a ((a, oe4) :: (X.pn ++ pins))) (v := .ref a) (J4.suite he4 hd4 na offL offF) nd hi (.inl hl) rfl (fun s5 S5 => ?_) (.inr hl)
        refine wpAny_mono ((su a oe4 cls d (X.pn ++ pins) hz4 ⟨_, hd4⟩).run [] s5 _ H1 _ S5 (yes rfl a na)) (fun fl s6 z => ?_) fun _ _ z => z.elim
        have leave : ∀ {τ : L2.St} {G : Hp} {R : Shared → Prop}, Inv (X.suite a ((a, oe4) :: (X.pn ++ pins))) [] τ G s6 → (∀ s7, Inv X pins (τ.set i none) G s7 → R s7) →
            wpAny (model X.prog X.w) X.A (do bindName X.env n .none; unbindBehindTheSuite X.env n pos') (fun _ s7 => R s7) X.xe s6 := fun S hq => gone_ok (S.unsuite ok) nd hi hl hq
        match fl, z with
        | .next, ⟨_, _, S, q⟩ => exact leave S fun _ K7 => ⟨_, _, K7, q⟩
        | .brk, ⟨_, _, S, q⟩ => exact leave S fun _ K7 => ⟨_, _, K7, q⟩
        | .cont, ⟨_, _, S, q⟩ => exact leave S fun _ K7 => ⟨_, _, K7, q⟩
        | .ret u, ⟨_, _, _, S, rv, q⟩ => exact leave S fun _ K7 => ⟨_, _, _, K7, rv, q⟩
  · match fl, z with
    | .next, ⟨_, _, K7, q⟩ => exact wpAny_execs_nil ⟨_, _, K7.ofTry ok, q⟩
    | .brk, ⟨_, _, K7, q⟩ => exact ⟨_, _, K7.ofTry ok, q⟩
    | .cont, ⟨_, _, K7, q⟩ => exact ⟨_, _, K7.ofTry ok, q⟩
    | .ret u, ⟨_, _, _, K7, rv, q⟩ => exact ⟨_, _, _, K7.ofTry ok, rv, q⟩⟩
end
end KX

set_option Elab.async false
set_option linter.all false
set_option maxRecDepth 100000
set_option maxHeartbeats 4000000
/-! Own layer: exception classes «class C(..): def __init__(self, f): self.f = f»: made, raised, read in the suite. -/
namespace KX
open PySem PySem.Spec PyProof.Rows L2
/-- __init__ of such a class -/
def spEi (K : PySem.W.Frag) (C : Addr) (f : Str) : Sp := fun vs H Q _ => ∃ (a : Addr) (v : V), vs = [.ref a, v] ∧ H a = some (exo a C none) ∧ OexC K C ∧ PySem.W.findIn K (.ref C) f = some none ∧
  ∀ dx, H dx = none → dx ≠ a → Q .non (upd (upd H dx (exd dx [(f, v)])) a (exo a C (some dx)))
theorem exo_ne {e C d : Addr} (H : Hp) {o : HO} : (upd H e o) d = none → d ≠ e := fun h z => by rw [z, upd_same] at h; cases h
theorem made_heap {H : Hp} {a C dx : Addr} {o1 o2 o3 o4 : HO} (ha : H a = none) (n : dx ≠ a) : upd (del (upd (upd (upd H a o1) dx o2) a o3) a) dx o4 = upd H dx o4 := by
  funext b
  by_cases h1 : b = dx
  · subst h1; rw [upd_same, upd_same]
  · rw [upd_ne h1, upd_ne h1]
    by_cases h2 : b = a
    · subst h2; rw [del_same, ha]
    · rw [del_ne h2, upd_ne h2, upd_ne h1, upd_ne h2]
section
variable {X : Cx}
/-- arguments by what is known of them -/
def tMoA (ta : TA) : TA := fun σ H Q => ∃ R : List V → Hp → Prop, ta σ H R ∧ ∀ vs H1, R vs H1 → Q vs H1
theorem pa_mo {es : List Expr} {ta : TA} (h : PA X es ta) : PA X es (tMoA ta) :=
  ⟨fun pos pins s σ H Q I ⟨R, h1, k⟩ => thn (h.run pos pins s σ H R I h1) fun us s1 ⟨vs, H1, I1, r, q⟩ => ⟨vs, H1, I1, r, k vs H1 q⟩⟩
/-- C(e) -/
def tMkV (C : Addr) (f : Str) (ta : TA) : L2.St → Hp → XK → Prop := fun σ H Q => ∃ R : List V → Hp → Prop, ta σ H R ∧ ∀ vs H1, R vs H1 → ∃ v, vs = [v] ∧ ∀ d, H1 d = none → Q (.ref C) (some d) (upd H1 d (.xd [(f, v)]))
theorem pmk_val {x f ps1 ps2 : Str} {C fI : Addr} {k : Nat} {fd : FuncData} {e : Expr} {ta : TA} {p pos : Pos} (T : OexC X.K C) (iC : PySem.W.findIn X.K (.ref C) "__init__" = some (some (.ref fI))) (tI : PySem.W.typeIn X.K (.ref fI) = some (.type "function"))
    (noF : PySem.W.findIn X.K (.ref C) f = some none) (F1 : FnOk X.prog X.w X.K X.mg X.base CX0 k fI fd [ps1, ps2] (spEi X.K C f)) (hr : Room (k + 1) X.A) (hb : Binds X.K fd [ps1, ps2] []) (hg : Gl X x) (hm : X.mg x = some (.ref C)) (ha : PA X [e] ta)
    (hdb : (x == ("__debug__" : Str)) = false := by decide) (he : starEach [e] X.env = (false, eval e X.env) :: starEach [] X.env := by rfl) (hpl : (backTo pos (starEach [] X.env)).any (·.1) = false := by rfl) :
    PMk X (.Call (.Name x p) [e] [] pos) (tMkV C f ta) := by
  intro pins s σ H Q I h
  obtain ⟨R, h1, kk⟩ := h
  refine pmk_oex T iC tI F1 hr hb .nil (fun _ _ _ _ _ _ _ z => z.elim) hg hm (pa_mo ha) hdb he hpl pins s σ H Q I ⟨R, h1, fun vs H1 r => ?_⟩
  obtain ⟨v, rfl, q⟩ := kk vs H1 r
  refine ⟨(by show 1 ≤ 1000; decide), fun a hn => ⟨a, v, rfl, upd_same, T, noF, fun dx hdx nd => ⟨rfl, dx, [(f, v)], upd_same, by rw [upd_ne nd]; exact upd_same, ?_, ?_⟩⟩⟩
  · rw [upd_ne nd] at hdx; exact hdx
  · rw [made_heap (C := C) hn nd]
    refine q dx ?_
    rw [upd_ne nd] at hdx; exact hdx
end
section
variable {X : Cx} {k : Nat} {f : Addr} {fd : FuncData} {ps ks : List Str} {sp : Sp} {E : L2.St → XK} {x : Str} {p pos : Pos} {e : Expr} {es : List Expr} {kws : List Keyword} {t tk : TA} {g : List Value → List Value → List Value} {gV : List V → List V → List V}
/-- f(e, .., k = v, ..) in a try: what it raises is taken with the slots as they are -/
def tCallKS (sp : Sp) (gV : List V → List V → List V) (E : L2.St → XK) (t tk : TA) : TE := fun σ H Q => t σ H fun vs H1 => tk σ H1 fun zs H2 => sp (gV vs zs) H2 Q (E σ)
theorem pe_callKS (F : FnOk X.prog X.w X.K X.mg X.base (L2.CX X.prog X.w) k f fd ps sp) (hr : Room k X.A) (hg : Gl X x) (hm : X.mg x = some (.ref f)) (hk : PySem.W.keepIn X.K (.ref f) = true) (hb : KBinds X.K fd ps ks g gV) (hx : ∀ σ, PassesAt (L2.CX X.prog X.w) X σ (E σ))
    (ha : PA X (e :: es) t) (hkw : PK X kws tk) (hall : (backToKw pos (keywordEach kws X.env)).all (·.1.isSome) = true := by rfl) (hks : (backToKw pos (keywordEach kws X.env)).filterMap (·.1) = ks := by rfl) (hdb : (x == ("__debug__" : Str)) = false := by decide)
    (he : starEach (e :: es) X.env = (false, eval e X.env) :: starEach es X.env := by rfl) (hpl : ((backTo pos (starEach (e :: es) X.env)).any (·.1) || (backToKw pos (keywordEach kws X.env)).any (·.1.isNone)) = false := by rfl) :
    PE X (.Call (.Name x p) (e :: es) kws pos) (tCallKS sp gV E t tk) := ⟨fun pins s σ H Q I h => by
  refine wpAny_Call_Name_kw (ld_glob I hg hm (PySem.W.callWith_KW (h₀ := X.base) I.ok.mod.kin hk hall (thn (ha.run pos pins s σ H _ I h) ?_) hpl he) hdb)
  rintro us s1 ⟨vs, H1, I1, r, q⟩
  refine thn (hkw.run pos pins s1 σ H1 _ I1 q) ?_
  rintro ws s2 ⟨zs, H2, I2, rz, q2⟩
  rw [hks]
  refine ⟨I2.kIn, ?_⟩
  have r2 := hb.rel r rz
  have hl : (g us ws).length = ps.length := by rw [← r2.length]; exact F.len _ _ _ _ q2
  refine wpAny_call (codeAny_mono (F.run X.A X.stack s2 H2 ⟨us, ks.zip ws⟩ (g us ws) (gV vs zs) Q (E σ) hr I2.env0 (hb.to s2 us ws I2.kIn hl) r2 q2) fun o s' hq => ?_)
  match o, hq with
  | .error u, hq => exact hx σ pins H2 s2 u s' I2 hq
  | .ok (.ret u), hq => exact I2.after hq
  | .ok .next, hq => exact hq.elim
  | .ok .brk, hq => exact hq.elim
  | .ok .cont, hq => exact hq.elim⟩
end
/-- what an exception class's makers and readers need of it -/
structure ETx (K : PySem.W.Frag) (mg : Str → Option Value) (x f : Str) (C fI : Addr) : Prop where
  ox : OexC K C
  xf : XfC K C
  iC : PySem.W.findIn K (.ref C) "__init__" = some (some (.ref fI))
  tI : PySem.W.typeIn K (.ref fI) = some (.type "function")
  noF : PySem.W.findIn K (.ref C) f = some none
  mgC : mg x = some (.ref C)
end KX

set_option Elab.async false
set_option linter.all false
set_option maxRecDepth 100000
set_option maxHeartbeats 4000000
/-! Own layer: a text times a number; a call that raises nothing. -/
namespace KX
open PySem PySem.Spec PyProof.Rows L2
def repS (z : Str) (k : Int) : Str := ⟨(List.replicate k.toNat z.cps).foldl (fun a b => a ++ b) #[]⟩
theorem foldl_app (z : Array Nat) : ∀ (n : Nat) (acc : Array Nat), ((List.replicate n z).foldl (fun a b => a ++ b) acc).toList = acc.toList ++ (List.replicate n z.toList).flatten
  | 0, acc => by simp
  | n + 1, acc => by
    rw [List.replicate_succ, List.foldl_cons, foldl_app z n, Array.toList_append, List.replicate_succ, List.flatten_cons, List.append_assoc]
theorem repS_cs (z : Str) (k : Int) : cs (repS z k) = (List.replicate k.toNat (cs z)).flatten := by
  show ((List.replicate k.toNat z.cps).foldl (fun a b => a ++ b) #[]).toList = _
  rw [foldl_app]; rfl
theorem repS_len (z : Str) (k : Int) : (repS z k).length = k.toNat * z.length := by
  rw [← cs_len, repS_cs, List.length_flatten, List.map_replicate, List.sum_replicate_nat, cs_len]
theorem repS_mem {z : Str} {k : Int} {c : Nat} (h : c ∈ cs (repS z k)) : c ∈ cs z := by
  rw [repS_cs] at h
  obtain ⟨l, h1, h2⟩ := List.mem_flatten.mp h
  rw [(List.mem_replicate.mp h1).2] at h2
  exact h2
section
variable {X : Cx}
theorem op_mulS : OpR X (binaryOp .Mult) (fun x y H Q => ∃ z k, x = .str z ∧ y = .int k ∧ 2 ≤ k ∧ k ≤ 10000 ∧ z.length = 1 ∧ Q (.str (repS z k)) H) := by
  intro pins s σ H x y v u Q I rx ry h
  obtain ⟨z, k, rfl, rfl, h1, h2, h3, q⟩ := h
  obtain ⟨t, rfl⟩ := rx
  obtain ⟨t', rfl⟩ := ry
  have n1 : ¬ k < 1 := by omega
  have n2 : (k == 1 || z.length == 0) = false := by
    rw [h3]
    have : (k == 1) = false := by rw [beq_eq_false_iff_ne]; omega
    rw [this]; rfl
  have hl : (repS z k).length ≤ sizeLine := by rw [repS_len, h3, sizeLine_eq]; omega
  refine P.mul_str ?_ (fun _ _ => ?_) (fun _ _ => ?_) ?_
  · rw [decide_eq_false (by omega), decide_eq_false (by omega)]; rfl
  · rw [h3]
    have : (1 : Int) ≤ (2 ^ 63 - 1) / k := Int.le_ediv_of_mul_le (by omega) (by omega)
    exact fun z => absurd this (Int.not_le.mpr z)
  · have : z.length * k.toNat ≤ sizeLine := by rw [h3, sizeLine_eq]; omega
    unfold Builtin.Str.tooLong
    exact decide_eq_false (by omega)
  · rw [if_neg n1, n2, if_neg Bool.false_ne_true]
    exact ⟨hl, .str (repS z k), H, I.tok _, ⟨_, rfl⟩, q⟩
/-- a def that may raise, called where it raises nothing -/
theorem passF {P : Program} {w : World} : Passes (L2.CX P w) X (fun _ _ _ => False) := fun _ _ _ _ _ _ _ h => by
  obtain ⟨_, _, _, _, _, _, _, _, _, _, _, _, h⟩ := h
  exact h.elim
end
section
variable {X : Cx} {CX : CXT} {k : Nat} {f : Addr} {fd : FuncData} {ps ks : List Str} {sp : Sp} {E : XK} {x : Str} {p pos : Pos} {kws : List Keyword} {tk : TA} {g : List Value → List Value → List Value} {gV : List V → List V → List V}
/-- f(k = v, ..), defaults fill up -/
theorem pe_kwN (F : FnOk X.prog X.w X.K X.mg X.base CX k f fd ps sp) (hr : Room k X.A) (hg : Gl X x) (hm : X.mg x = some (.ref f)) (hk : PySem.W.keepIn X.K (.ref f) = true) (hb : KBn X.K fd ps 0 ks g gV) (hx : Passes CX X E)
    (hkw : PK X kws tk) (hall : (backToKw pos (keywordEach kws X.env)).all (·.1.isSome) = true := by rfl) (hks : (backToKw pos (keywordEach kws X.env)).filterMap (·.1) = ks := by rfl) (hdb : (x == ("__debug__" : Str)) = false := by decide)
    (hpl : ((backTo pos (starEach [] X.env)).any (·.1) || (backToKw pos (keywordEach kws X.env)).any (·.1.isNone)) = false := by rfl) :
    PE X (.Call (.Name x p) [] kws pos) (tCallN 0 ks.length sp gV E tNil tk) := ⟨fun pins s σ H Q I h => by
  refine wpAny_Call_Name_kw (ld_glob I hg hm (PySem.W.callWith_KW0 (h₀ := X.base) I.ok.mod.kin hk hall (thn (hkw.run pos pins s σ H _ I h) ?_) hpl) hdb)
  rintro ws s2 ⟨zs, H2, I2, rz, l1, l2, q2⟩
  rw [hks]
  exact ⟨I2.kIn, run_fnN (us := []) (vs := []) F hr hb hx I2 .nil rz l1 l2 q2⟩⟩
end
section
variable {X : Cx} {k n : Nat} {f : Addr} {fd : FuncData} {ps ks : List Str} {sp : Sp} {E : L2.St → XK} {x : Str} {p pos : Pos} {e : Expr} {es : List Expr} {kws : List Keyword} {t tk : TA} {g : List Value → List Value → List Value} {gV : List V → List V → List V}
/-- f(e, .., k = v, ..) in a try, n places and the keywords ks, the other defaults fill up -/
def tCallNS (n m : Nat) (sp : Sp) (gV : List V → List V → List V) (E : L2.St → XK) (t tk : TA) : TE := fun σ H Q => t σ H fun vs H1 => tk σ H1 fun zs H2 => vs.length = n ∧ zs.length = m ∧ sp (gV vs zs) H2 Q (E σ)
theorem pe_callNS (F : FnOk X.prog X.w X.K X.mg X.base (L2.CX X.prog X.w) k f fd ps sp) (hr : Room k X.A) (hg : Gl X x) (hm : X.mg x = some (.ref f)) (hk : PySem.W.keepIn X.K (.ref f) = true) (hb : KBn X.K fd ps n ks g gV) (hx : ∀ σ, PassesAt (L2.CX X.prog X.w) X σ (E σ))
    (ha : PA X (e :: es) t) (hkw : PK X kws tk) (hall : (backToKw pos (keywordEach kws X.env)).all (·.1.isSome) = true := by rfl) (hks : (backToKw pos (keywordEach kws X.env)).filterMap (·.1) = ks := by rfl) (hdb : (x == ("__debug__" : Str)) = false := by decide)
    (he : starEach (e :: es) X.env = (false, eval e X.env) :: starEach es X.env := by rfl) (hpl : ((backTo pos (starEach (e :: es) X.env)).any (·.1) || (backToKw pos (keywordEach kws X.env)).any (·.1.isNone)) = false := by rfl) :
    PE X (.Call (.Name x p) (e :: es) kws pos) (tCallNS n ks.length sp gV E t tk) := ⟨fun pins s σ H Q I h => by
  refine wpAny_Call_Name_kw (ld_glob I hg hm (PySem.W.callWith_KW (h₀ := X.base) I.ok.mod.kin hk hall (thn (ha.run pos pins s σ H _ I h) ?_) hpl he) hdb)
  rintro us s1 ⟨vs, H1, I1, r, q⟩
  refine thn (hkw.run pos pins s1 σ H1 _ I1 q) ?_
  rintro ws s2 ⟨zs, H2, I2, rz, l1, l2, q2⟩
  rw [hks]
  refine ⟨I2.kIn, ?_⟩
  have r2 := hb.rel r rz
  refine wpAny_call (codeAny_mono (F.run X.A X.stack s2 H2 ⟨us, ks.zip ws⟩ (g us ws) (gV vs zs) Q (E σ) hr I2.env0 (hb.to s2 us ws I2.kIn (r.length.symm.trans l1) (rz.length.symm.trans l2)) r2 q2) fun o s' hq => ?_)
  match o, hq with
  | .error u, hq => exact hx σ pins H2 s2 u s' I2 hq
  | .ok (.ret u), hq => exact I2.after hq
  | .ok .next, hq => exact hq.elim
  | .ok .brk, hq => exact hq.elim
  | .ok .cont, hq => exact hq.elim⟩
end
/-- an except of a class -/
theorem exm_mk2 {K : PySem.W.Frag} {C D : Addr} {v : Bool} (o : OexC K C) (s : PySem.W.subIn K (.ref D) (.ref C) = some v) : PySem.W.exmOne K (.ref D) (.ref C) = some v := by
  obtain ⟨⟨_, _, _, _, _, _, _, _, _, _, _, _, _, _, _, hC, _⟩, _, b, t, _⟩ := o
  have hcl : (PySem.W.clsIn K C).isSome = true := by unfold PySem.W.clsIn; rw [hC]; rfl
  unfold PySem.W.exmOne PySem.W.kitCls
  rw [b]
  show (if (some true == some true) = true then (if ((PySem.W.clsIn K C).isSome && PySem.W.typeIn K (.ref C) == some (.type "type")) = true then PySem.W.subIn K (.ref D) (.ref C) else none) else none) = some v
  rw [hcl, t, s]
  have e : (some (Value.type "type") == some (Value.type "type")) = true := by rfl
  rw [e]; rfl
theorem exm_mk {K : PySem.W.Frag} {C : Addr} (o : OexC K C) (s : PySem.W.subIn K (.ref C) (.ref C) = some true) : PySem.W.exmOne K (.ref C) (.ref C) = some true := exm_mk2 o s
end KX

set_option Elab.async false
set_option linter.all false
set_option maxRecDepth 100000
set_option maxHeartbeats 4000000
/-! Own layer: len of an own instance; a call of a def held as a value. -/
namespace KX
open PySem PySem.Spec PyProof.Rows L2
section
open PySem.W
variable {M : Model} {A : Around} {E : Value → Shared → Prop} {s : Shared} {K : Frag}
/-- a special method of the text -/
theorem cspecF {self : Value} {name : PySem.Str} {f : Addr} {args : List Value} {Q : Option Value → Shared → Prop} (X : K.In s.heap) (sp : Looks M s.heap (specialOf self name) (some (.ref f))) (tf : typeIn K (.ref f) = some (.type "function"))
    (hc : wpAny M A (call (.ref f) (self :: args)) (fun v => Q (some v)) E s) : wpAny M A (callSpecial? self name args) Q E s := by
  simp only [callSpecial?]
  refine wpAny_bind (sp.here ?_)
  refine wpAny_holding (wpAny_bind ((bind_fn X self tf).here ?_))
  exact wpAny_bind (wpAny_mono hc (fun v s' h' => wpAny_pure h') fun _ _ h' => h')
end
section
variable {X : Cx} {CX : CXT} {k : Nat} {C f : Addr} {fd : FuncData} {sp : Sp}
def rLenOwn (C : Addr) (sp : Sp) : List V → Hp → VK → Prop := fun xs H Q => ∃ (p dx : Addr) (fs : List (Str × V)), xs = [.ref p] ∧ H p = some (.ins C dx fs) ∧ sp [.ref p] H (fun v H1 => ∃ n : Nat, v = .int (n : Int) ∧ (n : Int) < 2 ^ 63 ∧ Q (.int n) H1) (fun _ _ _ => False)
theorem call_lenOwn (hm : PySem.W.findIn X.K (.ref C) "__len__" = some (some (.ref f))) (tf : PySem.W.typeIn X.K (.ref f) = some (.type "function")) (F : FnOk X.prog X.w X.K X.mg X.base CX0 k f fd ["self"] sp) (hr : Room (k + 1) X.A) (hb : Binds X.K fd ["self"] []) :
    CallR X (.builtin "len") (rLenOwn C sp) := by
  intro pins s σ H xs us Q I r h
  obtain ⟨p, dx, fs, rfl, hp, q⟩ := h
  obtain ⟨u, rfl, rx⟩ := vals1 r
  cases rx
  obtain ⟨mA, J, _⟩ := ins_get I.hok hp
  obtain ⟨od, J, _⟩ := J.look
  have sp1 : PySem.W.Looks (model X.prog X.w) s.heap (specialOf (.ref p) "__len__") (some (.ref f)) := J.type.andThen (PySem.W.looks_findIn I.kIn hm)
  have hl := F.len _ _ _ _ q
  have r2 : Vals [V.ref p] [Value.ref p] := .cons rfl .nil
  have e0 : Env0 X.prog X.w X.K X.mg X.base X.A.in1 X.stack s H := I.env0.in1
  have run : wpAny (model X.prog X.w) X.A.in1 (call (.ref f) [.ref p]) (fun r s' => ∃ n u, r = .int n u ∧ 0 ≤ n ∧ n < 2 ^ 63 ∧ EP X pins σ Q (.int n s'.toks) { s' with toks := s'.toks + 1 }) X.xe s := by
    refine wpAny_call (codeAny_mono (F.run X.A.in1 X.stack s H ⟨[.ref p], []⟩ [.ref p] [.ref p] _ _ hr.in1 e0 (by
      have := hb s [.ref p] I.kIn rfl
      simpa using this) r2 q) fun o s' hq => ?_)
    match o, hq with
    | .error u, hq => exact hq.elim
    | .ok (.ret u), hq =>
      obtain ⟨v, H1, I1, rv, n, rfl, hn, q'⟩ := I.after hq
      obtain ⟨t, rfl⟩ := rv
      exact ⟨n, t, rfl, by omega, hn, .int n, H1, I1.tok _, ⟨_, rfl⟩, q'⟩
    | .ok .next, hq => exact hq.elim
    | .ok .brk, hq => exact hq.elim
    | .ok .cont, hq => exact hq.elim
  refine Calls.call_function_entry kind_len plain_len entry_len (args_len1 _) ?_
  unfold Builtin.«len»
  refine wpAny_bind (m := oneArg "len" _) (wpAny_pure ?_)
  refine wpAny_bind (m := callSpecial? (.ref p) (PySem.Str.ofString "__len__")) (cspecF I.kIn sp1 tf (wpAny_mono run (fun r s' hr => ?_) fun _ _ y => y))
  obtain ⟨n, u, rfl, h0, h1, hq⟩ := hr
  refine wpAny_bind (wpAny_holding (wpAny_pure ?_))
  refine wpAny_bind (wpAny_letGo ?_)
  show wpAny _ _ (if n < 0 then _ else _) _ _ _
  rw [if_neg (by omega)]
  show wpAny _ _ (if n ≥ 2 ^ 63 then _ else _) _ _ _
  rw [if_neg (by omega)]
  exact wpAny_bind (wpAny_mkInt (wpAny_pure ⟨_, rfl, hq⟩))
end
/-- e(..), e one of some defs -/
structure Hld (P : Program) (w : World) (K : PySem.W.Frag) (mg : Str → Option Value) (base : Heap) (k : Nat) (f : Addr) (sp : Sp) : Prop where
  ex : ∃ (fd : FuncData) (ps : List Str), FnOk P w K mg base CX0 k f fd ps sp ∧ PySem.W.keepIn K (.ref f) = true ∧ Binds K fd ps []
def tCallV (S : Addr → Sp → Prop) (te : TE) (t : TA) : TE := fun σ H Q => te σ H fun x H0 => ∃ f sp, x = .ref f ∧ S f sp ∧ t σ H0 fun vs H1 => sp vs H1 Q (fun _ _ _ => False)
theorem Hld.of {P : Program} {w : World} {K : PySem.W.Frag} {mg : Str → Option Value} {base : Heap} {j k : Nat} {f : Addr} {fd : FuncData} {ps : List Str} {sp : Sp} (F : FnOk P w K mg base CX0 j f fd ps sp) (h : j ≤ k) (hk : PySem.W.keepIn K (.ref f) = true) (hb : Binds K fd ps []) : Hld P w K mg base k f sp :=
  ⟨fd, ps, ⟨F.len, fun A out s H args us vs Q E hr => F.run A out s H args us vs Q E (hr.mono h)⟩, hk, hb⟩
section
variable {X : Cx} {k : Nat} {o e : Expr} {es : List Expr} {t : TA} {te : TE} {pos : Pos}
theorem pe_callV {S : Addr → Sp → Prop} (A : ∀ f sp, S f sp → Hld X.prog X.w X.K X.mg X.base k f sp) (hr : Room k X.A) (ho : PE X o te) (ha : PA X (e :: es) t)
    (ht : eval (.Call o (e :: es) [] pos) X.env = (do callWith pos (← eval o X.env) [] (backTo pos (starEach (e :: es) X.env)) (backToKw pos (keywordEach [] X.env))) := by rfl)
    (hst : starEach (e :: es) X.env = (false, eval e X.env) :: starEach es X.env := by rfl) (hpl : (backTo pos (starEach es X.env)).any (·.1) = false := by rfl) : PE X (.Call o (e :: es) [] pos) (tCallV S te t) := ⟨fun pins s σ H Q I h => by
  rw [ht]
  refine wpAny_bind (thn (ho.run pins s σ H _ I h) fun u s1 ⟨x, H1, I1, rx, f, sp, ex, hS, q⟩ => ?_)
  subst ex
  obtain rfl : u = Value.ref f := rx
  obtain ⟨fd, ps, F, hk, hb⟩ := (A f sp hS).ex
  refine PySem.W.callWith_K (h₀ := X.base) I.ok.mod.kin hk (thn (ha.run pos pins s1 σ H1 _ I1 q) fun us s2 ⟨vs, H2, I2, r, q2⟩ => ⟨I2.kIn, ?_⟩) hst hpl
  have q3 : sp (vs ++ []) H2 Q (fun _ _ _ => False) := by rw [List.append_nil]; exact q2
  exact run_fn (us := us) (vs := vs) F hr hb .nil (fun _ _ _ _ _ _ _ z => z.elim) I2 r q3⟩
end
end KX

set_option Elab.async false
set_option linter.all false
set_option maxRecDepth 100000
set_option maxHeartbeats 4000000
/-! Own layer: == and != of two instances of one class of the text, != of lists whose items are the same. -/
namespace KX
open PySem PySem.Spec PyProof.Rows L2
section
open PySem.W PySem.SeqAt
variable {prog : Program} {w : World} {A : Around} {E : Value → Shared → Prop} {s : Shared} {K : Frag} {x y C L f : Addr} {h₀ : Heap} {m : Str → Option Value} {ox : Obj} {od : Option Obj}
theorem ifBound_objNe {M : Model} {args : List Value} {Q : Option Value → Shared → Prop} (X : K.In s.heap) (I : InstAt s.heap x ox C od) (hs : findIn K (.ref C) "__ne__" = some (some (.builtin "object.__ne__")))
    (h : wpAny M A (call (.builtin "object.__ne__") (.ref x :: args)) (fun v => Q (some v)) E s) : wpAny M A (callSpecialIfBound? (.ref x) "__ne__" args) Q E s := by
  simp only [callSpecialIfBound?, bindSpecialIfBound?]
  refine wpAny_holding (wpAny_bind (wpAny_bind (wpAny_bind (I.type.here ((looks_findIn X hs).here ?_)))))
  refine wpAny_bind (wpAny_askSetting (wpAny_ite ?_))
  have fin : wpAny M A (call (.builtin "object.__ne__") ([.ref x] ++ args) >>= fun v => pure (some v)) Q E s := wpAny_bind (wpAny_mono h (fun v s' h' => wpAny_pure h') fun _ _ h' => h')
  split
  · exact wpAny_bind (wpAny_of_eq (F.cmp_object.ne.bind _) (wpAny_pure (by exact fin)))
  · exact wpAny_tryCatch (wpAny_bind (wpAny_of_eq (F.cmp_object.ne.bind _) (wpAny_pure (by exact fin))))
theorem entry_ne {Q : Fin → Shared → Prop} (hu : A.units < cLine) (X : K.In s.heap) (I : InstAt s.heap x ox C od) (hs : findIn K (.ref C) "__eq__" = some (some (.ref f))) (hf : isFn K (.ref f) = true)
    (hc : wpAny (model prog w) A (call (.ref f) [.ref x, .ref y]) (fun v s' => ∃ b, v = .bool b ∧ Q (.done (.ret (.bool (!b)))) s') E s) :
    wpAny (model prog w) A (Builtin.«object.__ne__» ⟨[.ref x, .ref y], []⟩) Q E s := by
  unfold Builtin.«object.__ne__»
  repeat (first
    | with_reducible refine wpAny_cRoomFor hu ?_
    | (refine wpAny_bind (m := callSpecialIfBound? (.ref x) (Str.ofString "__eq__") [.ref y])
        (ifBound_K X I hs hf (wpAny_mono hc (fun r s' hr => by
          obtain ⟨b, rfl, hq⟩ := hr
          repeat (first | exact hq | exact wpAny_pure hq | exact wpAny_truthy_bool hq | (refine wpAny_bind (m := truthy (.bool _)) (wpAny_truthy_bool ?_)) | wp_step)) fun _ _ e => e)))
    | wp_step)
theorem call_objNe {Q : Value → Shared → Prop} (hu : A.in1.units < cLine) (X : K.In s.heap) (I : InstAt s.heap x ox C od) (hm : mroIn K C (.type "object") = some true) (hs : findIn K (.ref C) "__eq__" = some (some (.ref f))) (hf : isFn K (.ref f) = true)
    (hc : wpAny (model prog w) A.in1 (call (.ref f) [.ref x, .ref y]) (fun v s' => ∃ b, v = .bool b ∧ Q (.bool (!b)) s') E s) : wpAny (model prog w) A (call (.builtin "object.__ne__") [.ref x, .ref y]) Q E s := by
  refine wpAny_call (codeAny_call_builtin F.cmp_object.ne.plain F.cmpEntry_ne (check_slot F.cmpKind_ne F.cmpSplit_ne (I.type.andThen (looks_mroIn X hm)) (F.cmpArgs_ne _ _) (entry_ne hu X I hs hf (wpAny_mono hc (fun v s' hv => ?_) fun _ _ e => e))))
  obtain ⟨b, rfl, hq⟩ := hv
  first | exact ⟨b, rfl, hq⟩ | exact ⟨b, rfl, _, rfl, hq⟩
theorem ne_own {Q : Value → Shared → Prop} (hu : A.in1.units < cLine) (hu0 : A.units < cLine) (X : K.In s.heap) (I : InstAt s.heap x ox C od) (hy : Looks (model prog w) s.heap (typeOf (.ref y)) (.ref C)) (hm : mroIn K C (.type "object") = some true)
    (hne : findIn K (.ref C) "__ne__" = some (some (.builtin "object.__ne__"))) (hs : findIn K (.ref C) "__eq__" = some (some (.ref f))) (hf : isFn K (.ref f) = true)
    (hc : wpAny (model prog w) A.in1 (call (.ref f) [.ref x, .ref y]) (fun v s' => ∃ b, v = .bool b ∧ Q (.bool (!b)) s') E s) : wpAny (model prog w) A (richCompare .NotEq (.ref x) (.ref y)) Q E s := by
  have one : wpAny (model prog w) A (tryCompare (.ref x) "__ne__" (.ref y)) (fun r s' => ∃ v, r = some v ∧ Q v s') E s := by
    unfold tryCompare
    refine wpAny_bind (ifBound_objNe X I hne (call_objNe hu X I hm hs hf (wpAny_mono hc (fun v s' hv => ?_) fun _ _ e => e)))
    obtain ⟨b, rfl, hq⟩ := hv
    exact ⟨b, rfl, wpAny_pure ⟨_, rfl, hq⟩⟩
  unfold richCompare
  simp only [oneThing_ref]
  rw [cmpInfo_NotEq]
  dsimp only
  refine wpAny_holding (wpAny_bind (wpAny_cRoomFor hu0 ?_))
  refine wpAny_bind (I.type.here (wpAny_bind (hy.here ?_)))
  rw [show (Value.ref C != Value.ref C) = false from by simp]
  simp only [Bool.false_eq_true, if_false]
  refine wpAny_bind (wpAny_pure ?_)
  simp only [Bool.false_eq_true, if_false]
  refine wpAny_bind (wpAny_mono one (fun r s' z => ?_) fun _ _ e => e)
  obtain ⟨v, rfl, hq⟩ := z
  exact wpAny_pure hq
end
section
variable {X : Cx} {k : Nat} {C f : Addr} {fd : FuncData} {ps : List Str} {sp : Sp}
/-- x == y, x != y of two instances: what the text's own == promises -/
def rEqO (C : Addr) (sp : Sp) : R2 := fun x y H Q => ∃ a b dx dy fs gs, x = .ref a ∧ y = .ref b ∧ H a = some (.ins C dx fs) ∧ H b = some (.ins C dy gs) ∧ sp [.ref a, .ref b] H (fun v H1 => ∃ c, v = .bl c ∧ Q (.bl c) H1) (fun _ _ _ => False)
def rNeO (C : Addr) (sp : Sp) : R2 := fun x y H Q => ∃ a b dx dy fs gs, x = .ref a ∧ y = .ref b ∧ H a = some (.ins C dx fs) ∧ H b = some (.ins C dy gs) ∧ sp [.ref a, .ref b] H (fun v H1 => ∃ c, v = .bl c ∧ Q (.bl (!c)) H1) (fun _ _ _ => False)
theorem op_eqO (F : FnOk X.prog X.w X.K X.mg X.base CX0 k f fd ps sp) (hr : Room k X.A) (hs : PySem.W.findIn X.K (.ref C) "__eq__" = some (some (.ref f))) (hf : PySem.W.isFn X.K (.ref f) = true) (hb : Binds X.K fd ps []) : OpR X (compareOp .Eq) (rEqO C sp) := by
  intro pins s σ H x y v u Q I rx ry h
  obtain ⟨a, b, dx, dy, fs, gs, rfl, rfl, ha, hb', q⟩ := h
  cases rx
  cases ry
  obtain ⟨mA, J, _⟩ := ins_get I.hok ha
  obtain ⟨mB, J', _⟩ := ins_get I.hok hb'
  obtain ⟨od, J, _⟩ := J.look
  obtain ⟨od', J', _⟩ := J'.look
  obtain ⟨m, hF⟩ := I.fr
  have hl := F.len _ _ _ _ q
  have r2 : Vals [V.ref a, V.ref b] [Value.ref a, Value.ref b] := .cons rfl (.cons rfl .nil)
  show wpAny (model X.prog X.w) X.A (richCompare .Eq (.ref a) (.ref b)) (EP X pins σ Q) X.xe s
  refine PySem.W.cmp_K (op := .Eq) (tb := .ref C) hr.units0 hF I.ok.mod.kin J J'.type (by simp [PySem.W.notFirst]) hs hf ?_
  refine wpAny_call (codeAny_mono (F.run X.A X.stack s H ⟨[.ref a, .ref b], []⟩ [.ref a, .ref b] [.ref a, .ref b] _ _ hr I.env0 (by
    have := hb s [.ref a, .ref b] I.kIn (by simpa using hl)
    simpa using this) r2 q) fun o s' hq => ?_)
  match o, hq with
  | .error u, hq => exact hq.elim
  | .ok (.ret u), hq =>
    obtain ⟨v, H1, I1, rv, c, rfl, q'⟩ := I.after hq
    obtain rfl : u = Value.bool c := rv
    exact ⟨.bl c, H1, I1, rfl, q'⟩
  | .ok .next, hq => exact hq.elim
  | .ok .brk, hq => exact hq.elim
  | .ok .cont, hq => exact hq.elim
theorem op_neO (F : FnOk X.prog X.w X.K X.mg X.base CX0 k f fd ps sp) (hr : Room (k + 1) X.A) (hm : PySem.W.mroIn X.K C (.type "object") = some true) (hne : PySem.W.findIn X.K (.ref C) "__ne__" = some (some (.builtin "object.__ne__")))
    (hs : PySem.W.findIn X.K (.ref C) "__eq__" = some (some (.ref f))) (hf : PySem.W.isFn X.K (.ref f) = true) (hb : Binds X.K fd ps []) : OpR X (compareOp .NotEq) (rNeO C sp) := by
  intro pins s σ H x y v u Q I rx ry h
  obtain ⟨a, b, dx, dy, fs, gs, rfl, rfl, ha, hb', q⟩ := h
  cases rx
  cases ry
  obtain ⟨mA, J, _⟩ := ins_get I.hok ha
  obtain ⟨mB, J', _⟩ := ins_get I.hok hb'
  obtain ⟨od, J, _⟩ := J.look
  obtain ⟨od', J', _⟩ := J'.look
  have hl := F.len _ _ _ _ q
  have r2 : Vals [V.ref a, V.ref b] [Value.ref a, Value.ref b] := .cons rfl (.cons rfl .nil)
  show wpAny (model X.prog X.w) X.A (richCompare .NotEq (.ref a) (.ref b)) (EP X pins σ Q) X.xe s
  refine ne_own hr.in1.units0 hr.units0 I.kIn J J'.type hm hne hs hf ?_
  refine wpAny_call (codeAny_mono (F.run X.A.in1 X.stack s H ⟨[.ref a, .ref b], []⟩ [.ref a, .ref b] [.ref a, .ref b] _ _ hr.in1 I.env0.in1 (by
    have := hb s [.ref a, .ref b] I.kIn (by simpa using hl)
    simpa using this) r2 q) fun o s' hq => ?_)
  match o, hq with
  | .error u, hq => exact hq.elim
  | .ok (.ret u), hq =>
    obtain ⟨v, H1, I1, rv, c, rfl, q'⟩ := I.after hq
    obtain rfl : u = Value.bool c := rv
    exact ⟨c, rfl, .bl (!c), H1, I1, rfl, q'⟩
  | .ok .next, hq => exact hq.elim
  | .ok .brk, hq => exact hq.elim
  | .ok .cont, hq => exact hq.elim
/-- a value that is equal to itself at sight -/
def sameV : V → Bool
  | .non | .bl _ | .int _ | .str _ | .ref _ => true
  | _ => false
/-- xs != ys of two lists with the very same items -/
def rNeS (K : PySem.W.Frag) : R2 := fun x y H Q => ∃ a b xs, x = .ref a ∧ y = .ref b ∧ SqL K H a xs ∧ SqL K H b xs ∧ xs.all sameV = true ∧ Q (.bl false) H
theorem op_neS (hu : X.A.units + 64 < cLine) : OpR X (compareOp .NotEq) (rNeS X.K) := by
  intro pins s σ H x y v u Q I rx ry h
  obtain ⟨a, b, xs, rfl, rfl, ha, hb, hx, q⟩ := h
  cases rx
  cases ry
  obtain ⟨its, rv, ⟨⟨cls, dd, data, sl⟩, n, ho, hc, hd, hdat⟩, hz⟩ := I.list ha
  obtain ⟨its2, rv2, ⟨⟨cls2, dd2, data2, sl2⟩, n2, ho2, hc2, hd2, hdat2⟩, hz2⟩ := I.list hb
  simp only at hc hd hdat hc2 hd2 hdat2
  subst hc hdat hc2 hdat2
  show wpAny (model X.prog X.w) X.A (richCompare .NotEq (.ref a) (.ref b)) (EP X pins σ Q) X.xe s
  have hsz : its.toArray.size = its2.toArray.size := by rw [List.size_toArray, List.size_toArray, ← rv.length, ← rv2.length]
  refine wpAny_richCompare_same_room (op := .NotEq) ⟨_, ho, rfl⟩ ⟨_, ho2, rfl⟩ F.slot_list_ne (GQ.call_here F.slot_list_ne ⟨_, ho, rfl⟩ F.entry_list_ne (F.args_list_ne_2 _ _) ?_) (by omega)
  refine PySem.SeqAt.list_neAt a b its.toArray its2.toArray n n2 dd dd2 sl sl2 hsz (fun _ => true) X.prog X.w X.A _ s ⟨ho, ho2, fun j h1 h2 => ?_, ?_⟩
  · have k1 : j < its.length := by simpa using h1
    have k2 : j < its2.length := by simpa using h2
    have kx : j < xs.length := by rw [rv.length]; exact k1
    obtain ⟨u1, e1, r1⟩ := rv.get (List.getElem?_eq_getElem kx)
    obtain ⟨u2, e2, r2⟩ := rv2.get (List.getElem?_eq_getElem kx)
    have g1 : its.toArray[j] = u1 := by
      rw [List.getElem?_eq_getElem k1] at e1
      simpa using Option.some.inj e1
    have g2 : its2.toArray[j] = u2 := by
      rw [List.getElem?_eq_getElem k2] at e2
      simpa using Option.some.inj e2
    rw [g1, g2]
    have hxj := List.all_eq_true.mp hx _ (List.getElem_mem kx)
    generalize xs[j] = z at r1 r2 hxj
    have flat : flatV z = true → eqV z z = true → SeqAt.EqAt X.A.in1 s u1 u2 true := fun f e => by
      have := eqAt_V (A := X.A.in1) (s := s) r1 r2 f f
      rw [e] at this
      exact this
    cases z with
    | non => exact flat rfl rfl
    | bl b => exact flat rfl (by cases b <;> rfl)
    | int i => exact flat rfl (beq_self_eq_true _)
    | str x => exact flat rfl (beq_self_eq_true _)
    | ref p =>
      cases r1
      cases r2
      exact SeqAt.EqAt.same (A := X.A.in1) (s := s) (.ref p)
    | _ => cases hxj
  · have e : (!(List.range its.toArray.size).all fun _ => true) = false := by
      rw [List.all_eq_true.mpr fun _ _ => rfl]; rfl
    rw [e]
    exact ⟨(fun z => nomatch z), .bl false, H, I, rfl, q⟩
end
section
variable {X : Cx} {CX : CXT} {k : Nat} {f C : Addr} {fd : FuncData} {ps : List Str} {sp : Sp} {E : L2.St → XK} {m : Str} {pos apos : Pos} {e o : Expr} {es : List Expr} {ta : TE} {t : TA}
/-- o.m(e, ..) in a try: what it raises is taken with the slots as they are -/
def tMethS (C : Addr) (m : Str) (sp : Sp) (E : L2.St → XK) (ta : TE) (t : TA) : TE := fun σ H Q => ta σ H fun x H1 => ∃ (a dx : Addr) (fs : List (Str × V)), x = .ref a ∧ H1 a = some (.ins C dx fs) ∧ fs.lookup m = none ∧ t σ H1 fun vs H2 => sp (.ref a :: vs) H2 Q (E σ)
theorem pe_methS {pl : Sem Bool} (he : PE X o ta) (c : Cls X.K C) (hm : Meth X.K C m f) (F : FnOk X.prog X.w X.K X.mg X.base CX k f fd ps sp) (hr : Room k X.A) (hb : Binds X.K fd ps []) (hx : ∀ σ, PassesAt CX X σ (E σ)) (ha : PA X (e :: es) t)
    (hst : starEach (e :: es) X.env = (false, eval e X.env) :: starEach es X.env := by rfl) (hpl : (backTo pos (starEach es X.env)).any (·.1) = false := by rfl)
    (ht : eval (.Call (.Attribute o m apos) (e :: es) [] pos) X.env = (do
      let ov ← eval o X.env
      standAt apos.atName
      let (f, first) ← holding [ov] (getMethod ov m pl)
      callWith pos f first (backTo pos (starEach (e :: es) X.env)) (backToKw pos (keywordEach [] X.env))) := by rfl) :
    PE X (.Call (.Attribute o m apos) (e :: es) [] pos) (tMethS C m sp E ta t) := by
  refine ⟨fun pins s σ H Q I h => ?_⟩
  refine PySem.W.methodCall_KW (pl := pl) (thn (he.run pins s σ H _ I h) fun u s1 ⟨x, H1, I1, rx, a, dx, fs, ex, ea, l, q⟩ => ?_) ht
  subst ex
  obtain rfl : u = Value.ref a := rx
  refine getmeth_ok I1 ea c hm l ?_
  refine PySem.W.callWith_K (first := [.ref a]) (h₀ := X.base) I.ok.mod.kin hm.kp (thn (ha.run pos pins s1 σ H1 _ I1 q) fun us s2 ⟨vs, H2, I2, r, q2⟩ => ⟨I2.kIn, ?_⟩) hst hpl
  exact run_fnS (us := .ref a :: us) (vs := .ref a :: vs) F hr hb (hx σ) I2 (.cons rfl r) q2
end
section
variable {X : Cx}
theorem flat_intsT (ns : List Int) : (ns.map V.int).all flatV = true := by
  rw [List.all_map]
  exact List.all_eq_true.mpr fun _ _ => rfl
/-- t.index(i), t a tuple of whole numbers: the first place -/
def rIndexT (K : PySem.W.Frag) : V → List V → Hp → VK → Prop := fun x xs H Q => ∃ (p : Addr) (ns : List Int) (i : Int) (j : Nat), x = .ref p ∧ xs = [.int i] ∧ SqT K H p (ns.map V.int) ∧ ns[j]? = some i ∧ (∀ m, m < j → ns[m]? ≠ some i) ∧ Q (.int (j : Nat)) H
theorem mt_tidx {K : PySem.W.Frag} (hK : X.K = K) : MtR X "tuple.index" (rIndexT K) := by
  subst hK
  intro pins s σ H x xs v us Q I rx rs h
  obtain ⟨p, ys, z, j, rfl, rfl, hq, hy, hno, q⟩ := h
  cases rx
  obtain ⟨u, rfl, t, rfl⟩ := vals1 rs
  obtain ⟨its, r, pl, hz⟩ := I.tuple hq
  obtain ⟨⟨cls, dd, dt, sl⟩, ho, hc, n, hd⟩ := pl
  simp only at hc hd
  subst hc
  subst hd
  have hl : its.toArray.size = ys.length := by rw [List.size_toArray, ← r.length, List.length_map]
  have hj : j < its.toArray.size := by rw [hl]; exact (List.getElem?_eq_some_iff.mp hy).1
  have at' : ∀ (m : Nat) (hm : m < its.toArray.size), ∃ y t', ys[m]? = some y ∧ its.toArray[m] = Value.int y t' := fun m hm => by
    have hm' : m < ys.length := by rw [← hl]; exact hm
    obtain ⟨w, hw, t', hw'⟩ := r.get (i := m) (x := .int ys[m]) (by simp [hm'])
    refine ⟨ys[m], t', List.getElem?_eq_getElem hm', ?_⟩
    have e := (List.getElem?_eq_some_iff.mp hw).2
    rw [← hw', ← e]
    simp
  refine call_meets PySem.F.slot_tuple_index ⟨_, ho, rfl⟩ PySem.F.entry_tuple_index (PySem.F.args_tuple_index_2 _ _) (TI.tuple_indexAt p its.toArray n dd sl (.int z t) (eqU (.int z)) j hj ?_ ?_)
    ⟨ho, fun w hw => mem_eqAt (x := .int z) ⟨t, rfl⟩ rfl r (flat_intsT ys) w (by simpa using hw), ⟨.int (j : Nat), H, I.tok _, ⟨_, rfl⟩, q⟩⟩
  · obtain ⟨y, t', h1, h2⟩ := at' j hj
    rw [hy] at h1
    cases h1
    rw [h2]
    show (z == z) = true
    exact beq_self_eq_true z
  · intro m hm hmj
    obtain ⟨y, t', h1, h2⟩ := at' m hm
    rw [h2]
    show (y == z) = false
    exact beq_eq_false_iff_ne.mpr fun e => hno m hmj (e ▸ h1)
end
/-! ### a tuple whose object is known: it has no attributes of its own -/
def TupF (H : Hp) (a : Addr) (xs : List V) : Prop := ∃ ob : Obj, H a = some (.frz ob (.tup xs)) ∧ ob.dict = none
theorem TupF.sq {K : PySem.W.Frag} {H : Hp} {a : Addr} {xs : List V} (h : TupF H a xs) : SqT K H a xs := let ⟨ob, e, _⟩ := h; .inl (.inr ⟨ob, e⟩)
theorem TupF.ext {H J : Hp} {a : Addr} {xs : List V} (s : ∀ b o, H b = some o → J b = some o) (h : TupF H a xs) : TupF J a xs := let ⟨ob, e, n⟩ := h; ⟨ob, s _ _ e, n⟩
section
variable {X : Cx} {o e : Expr} {es : List Expr} {to : TE} {t : TA} {name : Str} {apos cpos : Pos} {id : String} {r : V → List V → Hp → VK → Prop}
theorem call_tuple_F {K : PySem.W.Frag} (hK : X.K = K) : CallR X (.type "tuple") (fun xs H Q => ∃ p ys, xs = [.ref p] ∧ SqL K H p ys ∧ ∀ (l : Addr) (ob : Obj), H l = none → ob.dict = none → Q (.ref l) (upd H l (.frz ob (.tup ys)))) := by
  subst hK
  intro pins s σ H xs us Q I r h
  obtain ⟨p, ys, rfl, hq, q⟩ := h
  obtain ⟨u, rfl, rx⟩ := vals1 r
  cases rx
  obtain ⟨its, r', pl, hz⟩ := I.list hq
  have hlen := r'.length
  refine call_tuple_list pl.isList (fun h' kp => ?_) (by simp only [List.size_toArray] <;> omega)
  have I1 : Inv X pins σ H { s with heap := h' } := I.kept (t' := s.toks) kp
  have I2 : Inv X pins σ (upd H h'.objs.size (.frz { cls := .type "tuple", data := .seq its.toArray } (.tup ys))) { s with heap := h'.push { cls := .type "tuple", data := .seq its.toArray } } :=
    I1.laid (t' := s.toks) (fun b o e => Heap.get?_push_of_some _ e) (Nat.le_refl _) (show ObjOk X.prog X.w _ _ _ (.frz _ (.tup ys)) from ⟨Heap.get?_push_size _ rfl, hz, its, r', IsTup.new _ _⟩)
  exact ⟨.ref h'.objs.size, _, I2, rfl, q _ _ (I1.hok.fresh (Nat.le_refl _)) rfl⟩
def tBT (r : V → List V → Hp → VK → Prop) (to : TE) (t : TA) : TE := fun σ H Q => to σ H fun x H1 => (∃ p xs, x = .ref p ∧ TupF H1 p xs) ∧ t σ H1 fun vs H2 => r x vs H2 Q
theorem pe_bmT (pa : PlainAttrs "tuple") (slot : Slot "tuple" name id) (hty : typeOf (.builtin id) = pure (.type "method_descriptor")) (hm : MtR X id r) (ho : PE X o to) (ha : PA X (e :: es) t)
    (hbase : attributeBase o name X.env (eval o X.env) = eval o X.env := by rfl)
    (hfew : ((backTo cpos (starEach (e :: es) X.env)).all (fun x => !x.1) && (backToKw cpos (keywordEach [] X.env)).all (fun x => x.1.isSome)
      && decide ((e :: es).length + ([] : List Keyword).length + (if ([] : List Keyword).isEmpty then 0 else 1) < 30)) = true := by rfl)
    (hline : (apos.endLine == cpos.line) = true := by rfl) (hs : starEach (e :: es) X.env = (false, eval e X.env) :: starEach es X.env := by rfl) (hplain : (backTo cpos (starEach es X.env)).any (·.1) = false := by rfl) :
    PE X (.Call (.Attribute o name apos) (e :: es) [] cpos) (tBT r to t) := by
  refine ⟨fun pins s σ H Q I h => ?_⟩
  refine wpAny_Call_method_late hbase hfew hline rfl (thn (ho.run pins s σ H _ I h) fun v s1 ⟨x, H1, I1, r1, ⟨p, xs, ex, ob, hF, hd⟩, q1⟩ => ?_)
  subst ex
  cases r1
  obtain ⟨e1, _, its, _, o', e2, hc, _⟩ := (show ObjOk X.prog X.w H1 s1.heap p (.frz ob (.tup xs)) from I1.hok p _ hF)
  rw [e1] at e2
  cases e2
  refine ⟨"tuple", id, pa, slot, hty, ⟨ob, e1, hc⟩, fun a ea => ?_, ?_⟩
  · cases ea
    exact ⟨ob, e1, hd⟩
  have hA := ha.run cpos pins s1 σ H1 _ I1 q1
  rw [hs] at hA ⊢
  refine Calls.callWith_builtin (by show (false || (backTo cpos (starEach es X.env)).any (·.1)) = false; rw [hplain] <;> rfl) (Calls.evalArgs_plain ?_)
  exact thn hA fun us s2 ⟨vs, H2, I2, r2, q2⟩ => hm pins s2 σ H2 (.ref p) vs _ us Q I2 rfl r2 q2
end
end KX

set_option Elab.async false
set_option linter.all false
set_option maxRecDepth 100000
set_option maxHeartbeats 4000000
/-! Own layer: lambdas without captured names, as values: made, held in lists, called by whoever holds them. -/
namespace KX
open PySem PySem.Spec PyProof.Rows L2 LamX NdefX
/-- a lambda's words and its code object -/
structure LF where
  q : Str
  params : Arguments
  body : Expr
  scope : Scope
  c : Addr
abbrev LF.fd (F : LF) (pm ctv : Value) : FuncData := PySem.W.kla_fn "<lambda>" F.q F.params F.body F.scope [] pm (.ref F.c) ctv
/-- the object at f is the lambda F -/
def LamO (f : Addr) (F : LF) : HO := .ext fun h => ∃ (pm ctv : Value), h.get? f = some ({ cls := .type "function", data := .func (F.fd pm ctv) } : Obj)
theorem lamO_at {P : Program} {w : World} {H : Hp} {h : Heap} {f : Addr} {F : LF} (hok : HOk P w H h) (e : H f = some (LamO f F)) : ∃ (pm ctv : Value), h.get? f = some ({ cls := .type "function", data := .func (F.fd pm ctv) } : Obj) := by
  obtain ⟨z, _, _⟩ := hok f _ e
  exact z
theorem lamO_tbl {f : Addr} {F : LF} (ps : Array Value) : LamO f F ≠ .tbl ps := fun z => by
  unfold LamO at z
  cases z
section
variable {X : Cx} {pins : List (Addr × Obj)} {σ : L2.St} {H : Hp} {s : Shared}
/-- an object that is there, unknown so far, no running frame's, is known from now on -/
theorem lam_fnAt {f : Addr} {F : LF} (I : Inv X pins σ H s) (e : H f = some (LamO f F)) : PySem.W.FnAt f s.heap := by
  obtain ⟨pm, ctv, ho⟩ := lamO_at I.hok e
  exact ⟨_, _, _, _, ho⟩
end
/-- what the lambda F does: at most k levels -/
structure LamOk (P : Program) (w : World) (K : PySem.W.Frag) (mg : Str → Option Value) (base : Heap) (CX : CXT) (k : Nat) (F : LF) (sp : Sp) : Prop where
  run : ∀ (f : Addr) (A : Around) (outer : List Env) (s : Shared) (H : Hp) (us : List Value) (vs : List V) (Q : VK) (E : XK), Room k A → Env0 P w K mg base A outer s H → H f = some (LamO f F) → H F.c = some (CodeO F.c F.q) → Vals vs us → sp vs H Q E →
    codeAny (model P w) A (.call (.ref f) ⟨us, []⟩) (CR CX outer P w H s Q E) s
theorem lamok_of {P : Program} {w : World} {K : PySem.W.Frag} {mg : Str → Option Value} {base : Heap} {CX : CXT} {k : Nat} {F : LF} {N ps : List Str} {sp : Sp} (S : FnScope N ps F.scope)
    (hb : ∀ (pm ctv : Value) (us : List Value), us.length = ps.length → bindArgs (F.fd pm ctv) ⟨us, []⟩ = pure (ps.zip us)) (len : ∀ vs H Q E, sp vs H Q E → vs.length = ps.length)
    (hbody : ∀ (f : Addr) (A : Around) (outer : List Env) (s : Shared) (H : Hp) (vs : List V) (Q : VK) (E : XK), Room k (A.deeper (envOfC F.q F.scope s.heap.objs.size f (.ref F.c))) → sp vs H Q E →
      ∃ t : TE, PE (cxOf CX P w K mg base N F.q F.scope f (.ref F.c) A outer s H E) F.body t ∧ t (L2.start N vs) H Q) :
    LamOk P w K mg base CX (k + 1) F sp := by
  refine ⟨fun f A outer s H us vs Q E hr e0 hf hc r q => ?_⟩
  have lim : s.heap.NoLimit := e0.mod.nolimit.keeps fun b o e => (e0.bs b o e).1
  have hl : vs.length = ps.length := len _ _ _ _ q
  have hlu : us.length = ps.length := by rw [← hl]; exact r.length.symm
  obtain ⟨pm, ctv, ho⟩ := lamO_at e0.hok hf
  have hkind : ∀ y ∈ ps.zip us, F.scope.names.lookup y.1 = some .local ∨ (F.scope.names.lookup y.1 = some .cell ∧ ((cellsFrom (s.heap.objs.size + 1) F.scope.names []).lookup y.1).isSome = true) := fun ⟨n, v⟩ hy => by
    rcases S.par n (List.of_mem_zip hy).1 with q | q
    · exact .inl q
    · exact .inr ⟨q, PySem.W.cellsFrom_some _ _ _ (.inl q)⟩
  refine PySem.W.kla_callFunE hr.depth ho rfl S.co S.gen rfl (codeO_at e0.hok hc) ?_
  rw [hb _ _ _ hlu]
  refine wpAny_pure (wpAny_newFunctionEnv_cells S.kind hkind fun env he s1 x => ?_)
  subst he
  refine ⟨lim.keeps x.toInCall.keep, PySem.W.kla_codeExpr ?_⟩
  obtain ⟨t, ht, hq⟩ := hbody f A outer s H vs Q E (hr.deeper _) q
  have I : Inv (cxOf CX P w K mg base N F.q F.scope f (.ref F.c) A outer s H E) [] (L2.start N vs) H s1 := inv_start S hr.hd e0 hl r x
  refine wpAny_mono (ht.run [] s1 (L2.start N vs) H Q I hq) (fun u s' hs => ?_) fun e s' hs => hs
  obtain ⟨v, H', J, rv, q'⟩ := hs
  exact ⟨v, H', J.os, J.bare, J.base, J.hok, rv, q'⟩
/-- f(..), f a local name that holds one of the lambdas of S -/
def tCallM (i : Nat) (S : LF → Sp → Prop) (E : L2.St → XK) (t : TA) : TE := fun σ H Q => ∃ f F sp, σ[i]? = some (some (.ref f)) ∧ H f = some (LamO f F) ∧ S F sp ∧ t σ H fun vs H1 => H1 f = some (LamO f F) ∧ H1 F.c = some (CodeO F.c F.q) ∧ sp vs H1 Q (E σ)
section
variable {X : Cx} {CX : CXT} {S : LF → Sp → Prop} {i j k : Nat} {x : Str} {E : L2.St → XK} {t : TA} {e : Expr} {es : List Expr} {p pos : Pos}
theorem pe_callM (Fn : ∀ F sp, S F sp → LamOk X.prog X.w X.K X.mg X.base CX k F sp) (hr : Room j X.A) (hk : k ≤ j) (hx : ∀ σ, PassesAt CX X σ (E σ)) (hN : X.N[i]? = some x) (hv : Vis X.env.scope x) (ha : PA X (e :: es) t)
    (hd : (x == ("__debug__" : Str)) = false := by decide) (hcd : (x == ("__classdict__" : Str)) = false := by decide)
    (he : starEach (e :: es) X.env = (false, eval e X.env) :: starEach es X.env := by rfl) (hpl : (backTo pos (starEach es X.env)).any (·.1) = false := by rfl) :
    PE X (.Call (.Name x p) (e :: es) [] pos) (tCallM i S E t) := by
  refine ⟨fun pins s σ H Q I h => ?_⟩
  obtain ⟨f, F, sp, hs, hf, hS, ht⟩ := h
  refine wpAny_Call_Name_kw (thn ((pe_var (pos := p) hN hv hd hcd).run pins s σ H (fun v H1 => v = .ref f ∧ H1 = H) I ⟨.ref f, hs, rfl, rfl⟩) fun u s1 ⟨v, H1, I1, r1, q1⟩ => ?_)
  obtain ⟨ev, eH⟩ := q1
  subst ev
  rw [eH] at I1
  obtain rfl : u = Value.ref f := r1
  refine PySem.W.callWith_F (first := []) (lam_fnAt I1 hf) (thn (ha.run pos pins s1 σ H _ I1 ht) fun us s2 ⟨vs, H2, I2, r, h1, h2, q⟩ => ⟨lam_fnAt I2 h1, ?_⟩) he hpl
  show wpAny _ _ (call (.ref f) us) _ _ _
  refine wpAny_call (codeAny_mono ((Fn F sp hS).run f X.A X.stack s2 H2 us vs _ (E σ) (hr.mono hk) I2.env0 h1 h2 r q) fun r s' hq => ?_)
  cases r with
  | error e => exact hx σ pins H2 s2 e s' I2 hq
  | ok fl =>
    cases fl with
    | ret u => exact I2.after hq
    | next => exact False.elim hq
    | brk => exact False.elim hq
    | cont => exact False.elim hq
end
/-! ### made -/
def tLamO (T : List (Addr × Str)) (mk : Addr → LF) : TE := fun σ H Q => Tabs T H ∧ ∀ (f c' : Addr) (H1 : Hp), ExtN H H1 → (∀ b, H1 b = Option.none → H b = Option.none) → Tabs T H1 → H f = none → H1 f = some (LamO f (mk c')) → H1 c' = some (CodeO c' (mk c').q) → Q (.ref f) H1
section
variable {X : Cx} {pins : List (Addr × Obj)} {σ : L2.St} {H : Hp} {s : Shared}
theorem inv_lam {F : LF} {o : Obj} {t' : Nat} {pm ctv : Value} (I : Inv X pins σ H s) (ho : o = { cls := .type "function", data := .func (F.fd pm ctv) }) :
    Inv X pins σ (upd H s.heap.objs.size (LamO s.heap.objs.size F)) { s with heap := s.heap.push o, toks := t' } := by
  subst ho
  refine I.laid (a := s.heap.objs.size) (fun b u e => Heap.get?_push_of_some _ e) (Nat.le_refl _) ?_
  have e : (s.heap.push ({ cls := .type "function", data := .func (F.fd pm ctv) } : Obj)).get? s.heap.objs.size = some ({ cls := .type "function", data := .func (F.fd pm ctv) } : Obj) := Heap.get?_push_size _ rfl
  exact ⟨⟨pm, ctv, e⟩, ⟨_, e⟩, fun h1 h2 ⟨p, t, z⟩ st => ⟨p, t, st _ z⟩⟩
theorem lam_make3 {T : List (Addr × Str)} {c P : Addr} {params : Arguments} {body : Expr} {scope : Scope} {pos : Pos} {E : Value → Shared → Prop} {Q : Value → Shared → Prop} (I : Inv X pins σ H s) (TB : TabB X.base X.mg c P) (hcode : X.env.code = .ref c)
    (hm : (P, X.env.qual ++ "<lambda>") ∈ T) (hu : ∀ p ∈ T, p.1 = P → p.2 = X.env.qual ++ "<lambda>") (hT : Tabs T H) (hdef : defaultsOf params X.env = ([], [])) (hcl : cloFrom X.env.cells scope.names [] = []) (hfree : ∀ y ∈ scope.names, y.2 = .free → ∃ c, X.env.cells.lookup y.1 = some c)
    (h : ∀ (f c' : Addr) (H1 : Hp) (s' : Shared), Inv X pins σ H1 s' → ExtN H H1 → (∀ b, H1 b = Option.none → H b = Option.none) → Tabs T H1 → H f = none → H1 f = some (LamO f ⟨X.env.qual ++ "<lambda>", params, body, scope, c'⟩) → H1 c' = some (CodeO c' (X.env.qual ++ "<lambda>")) → Q (.ref f) s') :
    wpAny (model X.prog X.w) X.A (eval (.Lambda params body scope pos) X.env) Q E s := by
  obtain ⟨ps, hP, ht, ha⟩ := hT _ hm
  refine PySem.W.kla_eval hdef ?_
  have bP : s.heap.BuiltinsAt X.mg P := TB.bm.keeps I.bk
  have hP' : s.heap.get? P = some { cls := .none, data := .fields ps } := I.hok P _ hP
  have hclo := closure_ok hfree
  rw [hcl] at hclo
  cases hc : codeAmong pos ps.toList with
  | none =>
    refine PySem.W.kla_makeFunction (mg := X.mg) (c := c) (P := P) (ps := ps) hclo I.ok.glob (I.mod.glob.keeps I.bk) hcode (TB.code.keeps I.bk) hP' ht hc TB.gP bP fun c' ctv h' tk hx hge hlt hrec htb => ?_
    obtain ⟨c2, oc, vs, t, e2, hoc, hd, hv⟩ := hrec
    cases e2
    have nC : H c' = none := I.hok.fresh hge
    have I1 := inv_table (t' := tk) (more := #[rawInt pos.line, rawInt pos.col, .ref c']) (h' := h') I hP (fun b o hb e => hx b o hb e) htb hge ⟨oc, vs, t, hoc, hd, hv⟩
    have hE : ExtN H (upd (upd H P (.tbl (ps ++ #[rawInt pos.line, rawInt pos.col, .ref c']))) c' (CodeO c' (X.env.qual ++ "<lambda>"))) := fun b o e n => by
      rw [upd_ne (ne_of_none e nC), upd_ne (fun z => n ps (Option.some.inj (e.symm.trans (by rw [z]; exact hP))))]
      exact e
    have eL : (ps ++ #[rawInt pos.line, rawInt pos.col, .ref c']).toList = ps.toList ++ [rawInt pos.line, rawInt pos.col, .ref c'] := by simp
    have T1 : Tabs T (upd (upd H P (.tbl (ps ++ #[rawInt pos.line, rawInt pos.col, .ref c']))) c' (CodeO c' (X.env.qual ++ "<lambda>"))) := fun p hp => by
      by_cases hb : p.1 = P
      · rw [hu p hp hb, hb]
        refine ⟨_, by rw [upd_ne (ne_of_none hP nC), upd_same], by rw [eL]; exact PySem.TriplesOk_snoc _ _ _ _ ht, fun p' cv hcv => ?_⟩
        rw [eL] at hcv
        rcases among_app _ ht hcv with z | z
        · obtain ⟨c0, e1, e2⟩ := ha p' cv z
          exact ⟨c0, e1, hE _ _ e2 codeO_ne⟩
        · exact ⟨c', z, upd_same⟩
      · obtain ⟨ps', a1, a2, a3⟩ := hT p hp
        refine ⟨ps', by rw [upd_ne (ne_of_none a1 nC), upd_ne hb]; exact a1, a2, fun p' cv hcv => ?_⟩
        obtain ⟨c0, e1, e2⟩ := a3 p' cv hcv
        exact ⟨c0, e1, hE _ _ e2 codeO_ne⟩
    have nF := I1.hok.fresh (Nat.le_refl _)
    have I2 := inv_lam (F := ⟨X.env.qual ++ "<lambda>", params, body, scope, c'⟩) (t' := tk) (pm := (X.mg "__name__").getD .none) (ctv := ctv) I1 rfl
    refine h h'.objs.size c' _ _ I2 (fun b o e n => ?_) (fun b e => upd_none (upd_none (upd_none e))) (fun p hp => (T1 p hp).ext fun b o e => ?_) (I.hok.fresh (Nat.le_trans hge (Nat.le_of_lt hlt))) upd_same ?_
    · have e1 := hE b o e n
      exact (upd_ne (ne_of_none e1 nF)).trans e1
    · exact (upd_ne (ne_of_none e nF)).trans e
    · exact (upd_ne (Nat.ne_of_lt hlt)).trans upd_same
  | some cv =>
    obtain ⟨c', e, hco⟩ := ha pos cv hc
    subst e
    refine PySem.W.kla_makeFunctionHit (mg := X.mg) (c := c) (P := P) (ps := ps) hclo I.ok.glob (I.mod.glob.keeps I.bk) hcode (TB.code.keeps I.bk) hP' ht hc bP fun ctv h' tk hx hsz => ?_
    have I1 : Inv X pins σ H { s with heap := h', toks := tk } := I.kept hx
    have nF : H h'.objs.size = none := I1.hok.fresh (Nat.le_refl _)
    have I2 := inv_lam (F := ⟨X.env.qual ++ "<lambda>", params, body, scope, c'⟩) (t' := tk) (pm := (X.mg "__name__").getD .none) (ctv := ctv) I1 rfl
    refine h h'.objs.size c' _ _ I2 (fun b o e n => ?_) (fun b e => upd_none e) (fun p hp => (hT p hp).ext fun b o e => ?_) nF upd_same ?_
    · exact (upd_ne (ne_of_none e nF)).trans e
    · exact (upd_ne (ne_of_none e nF)).trans e
    · exact (upd_ne (ne_of_none hco nF)).trans hco
end
section
variable {X : Cx}
/-- lambda ..: .., none of whose names is captured -/
theorem pe_lamO {T : List (Addr × Str)} {c P : Addr} {params : Arguments} {body : Expr} {scope : Scope} {pos : Pos} (TB : TabB X.base X.mg c P) (hcode : X.env.code = .ref c)
    (hm : (P, X.env.qual ++ "<lambda>") ∈ T) (hu : ∀ p ∈ T, p.1 = P → p.2 = X.env.qual ++ "<lambda>") (hdef : defaultsOf params X.env = ([], []) := by rfl) (hcl : cloFrom X.env.cells scope.names [] = [] := by rfl) (hfree : ∀ y ∈ scope.names, y.2 ≠ .free := by decide +kernel) :
    PE X (.Lambda params body scope pos) (tLamO T fun c' => ⟨X.env.qual ++ "<lambda>", params, body, scope, c'⟩) := by
  refine ⟨fun pins s σ H Q I h => ?_⟩
  obtain ⟨hT, h⟩ := h
  exact lam_make3 I TB hcode hm hu hT hdef hcl (fun y hy e => absurd e (hfree y hy)) fun f c' H1 s' I1 eN nn T1 f0 f1 c1 => ⟨.ref f, H1, I1, rfl, h f c' H1 eN nn T1 f0 f1 c1⟩
end
end KX

set_option Elab.async false
set_option linter.all false
set_option maxRecDepth 100000
set_option maxHeartbeats 4000000
/-! Own layer: the end of a law one of whose defs makes lambdas: that def's table of code objects stands empty at first. -/
namespace KX
open PySem PySem.Spec PyProof.Rows L2 LamX
/-- the def nm's code object c and its table P, as the written part tells them -/
def MakerAt (K : PySem.W.Frag) (mg : Str → Option Value) (nm : Str) (c P : Addr) : Prop :=
  ∃ (f : Addr) (o : Obj) (fm : FuncData) (e : Value) (dd : Option Addr) (vs : Array Value) (sl : Array (Option Value)), mg nm = some (.ref f) ∧ K.lookup f = some o ∧ o.data = .func fm ∧ fm.code = .ref c ∧ K.lookup c = some ⟨e, dd, .fields vs, sl⟩ ∧ vs[11]? = some (.ref P) ∧ K.lookup P = none
def eT : Obj := { cls := .none, data := .fields #[] }
section
variable {P : Program} {w : World} {K : PySem.W.Frag} {mg mb : Str → Option Value} {k : Nat} {fa a c T : Addr} {fd : FuncData} {x : Str} {sp : Sp} {s₁ : Shared} {vs : List Value} {ns : List Int}
theorem law_gT
    (kin : K.In s₁.heap) (hns : s₁.heap.Ns mainGlobals mg) (hb : s₁.heap.Ns builtinsNs mb) (hbb : ∀ x : Str, x ≠ "__name__" → mb x = bootBuiltins x) (hlim : s₁.heap.NoLimit) (hsys : ∃ mm, s₁.heap.Ns sysModules mm) (hg : s₁.gens = #[])
    (hT : s₁.heap.get? T = some eT) (nT : K.lookup T = none) (hcd : PySem.W.CodeHd s₁.heap c T)
    (hbm : ∃ (bm : Addr) (ob : Obj), mg "__builtins__" = some (.ref bm) ∧ bm ≠ builtinsNs ∧ s₁.heap.get? bm = some ob ∧ ob.cls = .type "module" ∧ ob.dict = some builtinsNs ∧ ob.data = .plain)
    (ha : s₁.heap.get? a = some { cls := .type "list", data := .seq vs.toArray }) (hi : IntsAre vs ns) (hl : ns.length ≤ sizeLine) (hr : Room k callerA)
    (F : ∀ base : Heap, K.In base → base.Ns mainGlobals mg → (∃ o, base.get? sysModules = some o) → TabB base mg c T → GOk P w K mg base CX0 k fa fd [x] sp) (hbind : ∀ (s : Shared) (u : Value), BindsTo s fd ⟨[u], []⟩ [(x, u)])
    (hsp : ∀ H : Hp, H T = some (.tbl #[]) → SqL K H a (ns.map V.int) → sp [.ref a] H (fun v _ => v = .bl true) fun _ _ _ => False) :
    codeAny (model P w) callerA (.call (.ref fa) ⟨[.ref a], []⟩) (fun r s' => r = .ok (.ret (.bool true)) ∧ OldK s₁.heap s'.heap ∧ s'.os = s₁.os ∧ AllBare s'.gens) s₁ := by
  have rv := vals_ints hi
  have nV := hi.length
  let ob : Obj := { cls := .type "list", data := .seq vs.toArray }
  have naT : a ≠ T := fun z => by
    rw [z, hT] at ha
    have z' := congrArg Obj.data (Option.some.inj ha)
    cases z'
  -- the heap that is told: the table, and the script if the written part lacks it
  suffices core : ∀ H : Hp, H T = some (.tbl #[]) → (∀ b, H b = none ∨ b = T ∨ ∃ o xs, H b = some (.frz o (.lst xs))) → SqL K H a (ns.map V.int) → HOk P w H s₁.heap → (∀ b, H b ≠ none → (b = a ∧ K.lookup a = none) ∨ b = T) →
      codeAny (model P w) callerA (.call (.ref fa) ⟨[.ref a], []⟩) (fun r s' => r = .ok (.ret (.bool true)) ∧ OldK s₁.heap s'.heap ∧ s'.os = s₁.os ∧ AllBare s'.gens) s₁ by
    cases hk : K.lookup a with
    | some o =>
      have e := kin a o hk
      rw [ha] at e
      cases e
      refine core (fun b => if b = T then some (.tbl #[]) else none) (if_pos rfl) (fun b => ?_) (.inr ⟨_, vs.toArray, _, hk, rfl, rfl, rfl, by rw [List.size_toArray, nV]; exact hl, by simpa using rv⟩) (fun b u z => ?_) (fun b z => ?_)
      · by_cases hb : b = T
        · exact .inr (.inl hb)
        · exact .inl (if_neg hb)
      · by_cases hb : b = T
        · have z' := (if_pos hb).symm.trans z
          cases z'; subst hb
          exact hT
        · exact nomatch (if_neg hb).symm.trans z
      · by_cases hb : b = T
        · exact .inr hb
        · exact absurd (if_neg hb) z
    | none =>
      refine core (fun b => if b = T then some (.tbl #[]) else if b = a then some (.frz ob (.lst (ns.map V.int))) else none) (if_pos rfl) (fun b => ?_) (.inl (.inr ⟨ob, (if_neg naT).trans (if_pos rfl)⟩)) (fun b u z => ?_) (fun b z => ?_)
      · by_cases hb : b = T
        · exact .inr (.inl hb)
        · by_cases hc : b = a
          · exact .inr (.inr ⟨_, _, (if_neg hb).trans (if_pos hc)⟩)
          · exact .inl ((if_neg hb).trans (if_neg hc))
      · by_cases hb : b = T
        · have z' := (if_pos hb).symm.trans z
          cases z'; subst hb
          exact hT
        · by_cases hc : b = a
          · have z' := ((if_neg hb).trans (if_pos hc)).symm.trans z
            cases z'; subst hc
            exact ⟨ha, by rw [List.length_map]; exact hl, vs, _, rv, ha⟩
          · exact nomatch ((if_neg hb).trans (if_neg hc)).symm.trans z
      · by_cases hb : b = T
        · exact .inr hb
        · by_cases hc : b = a
          · exact .inl ⟨hc, hk⟩
          · exact absurd ((if_neg hb).trans (if_neg hc)) z
  intro H hHT hO hS hok hA
  have keep : ∀ {b : Addr} {o : Obj}, s₁.heap.get? b = some o → H b = none → (hidT s₁.heap H).get? b = some o := fun e n => hidT_get e n
  have free : ∀ {b : Addr} {o : Obj}, s₁.heap.get? b = some o → o.data ≠ ob.data → o.data ≠ .fields #[] → H b = none := fun {b o} e d1 d2 => by
    refine Classical.byContradiction fun q => ?_
    rcases hA b q with ⟨e', _⟩ | e'
    · rw [e', ha] at e; cases e
      exact d1 rfl
    · rw [e', hT] at e; cases e
      exact d2 rfl
  have freeD : ∀ {b : Addr} {o : Obj} {es : Array DictEntry} {ep : Nat}, s₁.heap.get? b = some o → o.data = .dict es ep → H b = none := fun {b o es ep} e d => free e (by rw [d]; intro z; cases z) (by rw [d]; intro z; cases z)
  have ns2 : ∀ {b : Addr} {m : Str → Option Value}, s₁.heap.Ns b m → (hidT s₁.heap H).Ns b m := fun {b m} ⟨o, es, ep, e, d, r⟩ => ⟨o, es, ep, keep e (freeD e d), d, r⟩
  have kb : K.In (hidT s₁.heap H) := fun b o e => keep (kin b o e) <| Classical.byContradiction fun q => by
    rcases hA b q with ⟨e', n⟩ | e'
    · rw [e', n] at e; cases e
    · rw [e', nT] at e; cases e
  have M : Mod K mg (hidT s₁.heap H) := ⟨kb, ns2 hns, ⟨mb, ns2 hb, hbb⟩, hlim.elim fun mc h => ⟨mc, ns2 h.1, h.2⟩⟩
  have e0 : Env0 P w K mg (hidT s₁.heap H) callerA [] s₁ H := ⟨rfl, M, fun b o e => of_hidT e, Nat.le_of_eq (hidT_size _ _), trivial, fun _ hb => (nomatch hb), hok, .of_eq hg⟩
  have sys : ∃ o, (hidT s₁.heap H).get? sysModules = some o := hsys.elim fun mm h => (ns2 h).elim fun o h => h.elim fun _ h => h.elim fun _ h => ⟨o, h.1⟩
  have gT : mainGlobals ≠ T := fun z => by
    obtain ⟨o, es, ep, e, d, _⟩ := hns
    rw [z, hT] at e
    cases e
    cases d
  have tb : TabB (hidT s₁.heap H) mg c T := by
    obtain ⟨o, us, file, tf, flags, tg, inF, text, tt, e1, r1, r2, r3, rr⟩ := id hcd
    obtain ⟨bm, o2, b1, b2, b3, b4, b5, b6⟩ := hbm
    refine ⟨⟨o, us, file, tf, flags, tg, inF, text, tt, keep e1 (free e1 (by rw [r2]; intro z; cases z) (by rw [r2]; intro z; cases z; simp at r3)), r1, r2, r3, rr⟩, ⟨bm, o2, b1, b2, fun z => ?_, fun z => ?_, keep b3 (free b3 (by rw [b6]; intro z; cases z) (by rw [b6]; intro z; cases z)), b4, b5, b6⟩, gT⟩
    · obtain ⟨o, es, ep, e, d, _⟩ := hns
      rw [z, e] at b3
      cases b3
      rw [d] at b6
      cases b6
    · rw [z, hT] at b3
      cases b3
      cases b6
  refine codeAny_mono ((F _ kb (ns2 hns) sys tb).go callerA [] s₁ H ⟨[.ref a], []⟩ [.ref a] [.ref a] _ _ hr rfl e0 (hbind s₁ (.ref a)) (.cons rfl .nil) (hsp H hHT hS)) fun r s' h => ?_
  match r, h with
  | .error e, h => exact h.elim
  | .ok (.ret u), ⟨v, H', os, bare, un, hok', r', q⟩ =>
    have q' : v = .bl true := q
    subst q'
    obtain rfl : u = Value.bool true := r'
    have kept : ∀ b o, b ≠ T → s₁.heap.get? b = some o → s'.heap.get? b = some o := fun b o nb e => by
      cases q : H b with
      | none => exact un.keep b o e q (fun z => nomatch z) (fun z => nomatch z)
      | some u =>
        rcases hO b with z | z | ⟨_, xs, z⟩
        · rw [q] at z; cases z
        · exact absurd z nb
        · obtain ⟨e1, _⟩ := hok b _ z
          obtain ⟨e2, _⟩ := hok' b _ (un.frzs b _ _ z)
          rw [e] at e1; cases e1
          exact e2
    obtain ⟨more, hm⟩ := un.tbls T #[] hHT
    have hT' := hok' T _ hm
    refine ⟨rfl, ⟨fun b o e => ?_, fun b o e => ?_⟩, os, bare⟩
    · by_cases hb : b = T
      · rw [hb] at e ⊢
        rw [hT] at e; cases e
        exact .inr (.inl ⟨(hcd.tab hT).isCodeTable, rfl, #[], more, rfl, hT'⟩)
      · exact .inl (kept b o hb e)
    · by_cases hb : b = T
      · exact ⟨_, hb ▸ hT'⟩
      · exact ⟨o, kept b o hb e⟩
end
/-- the goal that k_head leaves, by the law's promise, where the def nm makes lambdas -/
theorem walk_gT {l : PySem.W.OpenLaw} {n k : Nat} {q : Program} {loose : List Str} {XP : (Str → Option Value) → Heap → Prop} {YP : World → Heap → Prop} {d : DefRec} {K : Params → PySem.W.Frag} {sp : PySem.W.Frag → Addr → Sp} {x nm : Str}
    (hn : l.most = some n) (hn2 : n ≤ sizeLine) (hdf : d.params.defaults = []) (hr : Room k callerA) (him : importsNone q = true) (hrec : ((recsOf q).any fun e => e.name == nm) = true) (hY : ∀ (w : World) (h : Heap), YP w h → (K w.params).In h)
    (F : ∀ (w : World) (mg : Str → Option Value) (fa : Addr) (h : Heap), (K w.params).In h → h.Ns mainGlobals mg → mg d.name = some (.ref fa) →
      ∃ (fd : FuncData) (c T : Addr), (∀ (s : Shared) (u : Value), BindsTo s fd ⟨[u], []⟩ [(x, u)]) ∧ MakerAt (K w.params) mg nm c T ∧
        ∀ base : Heap, (K w.params).In base → base.Ns mainGlobals mg → (∃ o, base.get? sysModules = some o) → TabB base mg c T → GOk l.prog w (K w.params) mg base CX0 k fa fd [x] (sp (K w.params) T))
    (hsp : ∀ (K : PySem.W.Frag) (T : Addr) (H : Hp) (a : Addr) (ns : List Int), ns.length ≤ n → H T = some (.tbl #[]) → SqL K H a (ns.map V.int) → sp K T [.ref a] H (fun v _ => v = .bl true) fun _ _ _ => False) :
    PySem.W.WalkO q loose XP YP l.row.toRowW d [] (fun f vs => PySem.call f vs) := by
  refine Att.attach_call hn hdf fun w s₀ s₁ mg mb fa o pm cd doc a vs ns G Y ho hd hcd hmg hobj hints hlen hg => ?_
  have kin := hY w _ Y
  obtain ⟨fd, c, T, hb, ⟨f, o1, fm, e, dd, us, sl, k1, k2, k3, k4, k5, k6, k7⟩, hF⟩ := F w mg fa _ kin G.T.g hmg
  obtain ⟨mm, hmm, _⟩ := (G.T.seer him).mods
  obtain ⟨dL, hin, hnm⟩ := List.any_eq_true.mp hrec
  have en : dL.name = nm := beq_iff_eq.mp hnm
  obtain ⟨f', o', fm', c', T', t1, t2, t3, t4, t5, t6⟩ := G.T.tab dL hin
  rw [en, k1] at t1
  cases t1
  rw [kin _ _ k2] at t2
  cases t2
  rw [k3] at t3
  cases t3
  rw [k4] at t4
  cases t4
  obtain ⟨⟨oc, vc, e1, _, e3, e4⟩, hP⟩ := id t6
  rw [kin _ _ k5] at e1
  cases e1
  cases e3
  rw [k6] at e4
  cases e4
  exact law_gT kin G.T.g G.T.b G.T.builtins G.T.nolimit ⟨mm, hmm⟩ hg hP k7 (PySem.W.CodeHd.of t5 t6) G.T.bmain hobj hints (Nat.le_trans hlen hn2) hr hF hb fun H hH hS => hsp _ T H a ns hlen hH hS
end KX

set_option Elab.async false
set_option linter.all false
set_option maxRecDepth 100000
set_option maxHeartbeats 4000000
/-! Own layer: the tables that the laws draw are associative. Plain lists and numbers. -/
namespace KX
/-- the product of a and b by the rows -/
def mu (tb : List (List Int)) (a b : Nat) : Int := (tb.getD a []).getD b 0
/-- a square of elements -/
structure Sqr (tb : List (List Int)) : Prop where
  le : 1 ≤ tb.length
  ge : tb.length ≤ 16
  row : ∀ r, r ∈ tb → r.length = tb.length
  el : ∀ a b, a < tb.length → b < tb.length → 0 ≤ mu tb a b ∧ mu tb a b < (tb.length : Int)
/-- (a*b)*c is a*(b*c) -/
def rt (tb : List (List Int)) (a b c : Nat) : Prop := mu tb (mu tb a b).toNat c = mu tb a (mu tb b c).toNat
/-- an associative table -/
structure Tb (tb : List (List Int)) : Prop where
  sq : Sqr tb
  as : ∀ a b c, a < tb.length → b < tb.length → c < tb.length → rt tb a b c
/-- the table of a function -/
def tab (n : Nat) (f : Nat → Nat → Nat) : List (List Int) := (List.range n).map fun a => (List.range n).map fun b => ((f a b : Nat) : Int)
theorem tab_len (n : Nat) (f : Nat → Nat → Nat) : (tab n f).length = n := by unfold tab; rw [List.length_map, List.length_range]
theorem tab_row {n : Nat} {f : Nat → Nat → Nat} {a : Nat} (h : a < n) : (tab n f)[a]? = some ((List.range n).map fun b => ((f a b : Nat) : Int)) := by
  unfold tab
  rw [List.getElem?_map, List.getElem?_range h]; rfl
theorem tab_mu {n : Nat} {f : Nat → Nat → Nat} {a b : Nat} (ha : a < n) (hb : b < n) : mu (tab n f) a b = (f a b : Int) := by
  have e : (tab n f).getD a [] = (List.range n).map fun b => ((f a b : Nat) : Int) := by rw [List.getD_eq_getElem?_getD, tab_row ha]; rfl
  unfold mu
  rw [e, List.getD_eq_getElem?_getD, List.getElem?_map, List.getElem?_range hb]; rfl
/-- a function below n that is associative there -/
structure Asf (n : Nat) (f : Nat → Nat → Nat) : Prop where
  lt : ∀ a b, a < n → b < n → f a b < n
  as : ∀ a b c, a < n → b < n → c < n → f (f a b) c = f a (f b c)
theorem tab_tb {n : Nat} {f : Nat → Nat → Nat} (h1 : 1 ≤ n) (h16 : n ≤ 16) (F : Asf n f) : Tb (tab n f) := by
  have L := tab_len n f
  refine ⟨⟨by rw [L]; exact h1, by rw [L]; exact h16, fun r hr => ?_, fun a b ha hb => ?_⟩, fun a b c ha hb hc => ?_⟩
  · rw [L]
    obtain ⟨a, _, rfl⟩ := List.mem_map.mp hr
    rw [List.length_map, List.length_range]
  · rw [L] at *
    rw [tab_mu ha hb]
    have := F.lt a b ha hb
    omega
  · rw [L] at ha hb hc
    unfold rt
    rw [tab_mu ha hb, tab_mu hb hc, Int.toNat_natCast, Int.toNat_natCast, tab_mu (F.lt a b ha hb) hc, tab_mu ha (F.lt b c hb hc), F.as a b c ha hb hc]
/-- every square table is the table of its own function -/
theorem tab_of {tb : List (List Int)} (S : Sqr tb) : tb = tab tb.length fun a b => (mu tb a b).toNat := by
  refine List.ext_getElem? fun a => ?_
  by_cases ha : a < tb.length
  · rw [tab_row ha, List.getElem?_eq_getElem ha]
    refine congrArg some (List.ext_getElem? fun b => ?_)
    have hl := S.row tb[a] (List.getElem_mem ha)
    by_cases hb : b < tb.length
    · have e := S.el a b ha hb
      have em : mu tb a b = tb[a][b] := by
        unfold mu
        rw [List.getD_eq_getElem?_getD, List.getD_eq_getElem?_getD, List.getElem?_eq_getElem ha]
        show (tb[a][b]?).getD 0 = _
        rw [List.getElem?_eq_getElem (by omega)]; rfl
      rw [List.getElem?_map, List.getElem?_range hb, List.getElem?_eq_getElem (by omega)]
      show some tb[a][b] = some (((mu tb a b).toNat : Nat) : Int)
      rw [Int.toNat_of_nonneg e.1, em]
    · rw [List.getElem?_eq_none (by omega), List.getElem?_eq_none (by rw [List.length_map, List.length_range]; omega)]
  · rw [List.getElem?_eq_none (by omega), List.getElem?_eq_none (by rw [tab_len]; omega)]
theorem asf_of {tb : List (List Int)} (T : Tb tb) : Asf tb.length fun a b => (mu tb a b).toNat := by
  have lt : ∀ a b, a < tb.length → b < tb.length → (mu tb a b).toNat < tb.length := fun a b ha hb => by
    have := T.sq.el a b ha hb; omega
  refine ⟨lt, fun a b c ha hb hc => ?_⟩
  have h := T.as a b c ha hb hc
  unfold rt at h
  show (mu tb (mu tb a b).toNat c).toNat = (mu tb a (mu tb b c).toNat).toNat
  rw [h]
/-! ### the drawn tables -/
/-- _law_plain -/
def fpl (kind n a b : Nat) : Nat := match kind with
  | 0 => a
  | 1 => b
  | 2 => min a b
  | 3 => (a + b) % n
  | 4 => min (a + b) (n - 1)
  | _ => if 0 < a then a else b
theorem asf_plain (kind n : Nat) (h : 1 ≤ n) : Asf n (fpl kind n) := by
  match kind with
  | 0 => exact ⟨fun a b ha hb => ha, fun a b c ha hb hc => rfl⟩
  | 1 => exact ⟨fun a b ha hb => hb, fun a b c ha hb hc => rfl⟩
  | 2 => exact ⟨fun a b ha hb => by show min a b < n; omega, fun a b c ha hb hc => by show min (min a b) c = min a (min b c); omega⟩
  | 3 => exact ⟨fun a b ha hb => Nat.mod_lt _ (by omega), fun a b c ha hb hc => by show ((a + b) % n + c) % n = (a + (b + c) % n) % n; rw [Nat.mod_add_mod, Nat.add_mod_mod, Nat.add_assoc]⟩
  | 4 => exact ⟨fun a b ha hb => by show min (a + b) (n - 1) < n; omega, fun a b c ha hb hc => by show min (min (a + b) (n - 1) + c) (n - 1) = min (a + min (b + c) (n - 1)) (n - 1); omega⟩
  | k + 5 =>
    refine ⟨fun a b ha hb => ?_, fun a b c ha hb hc => ?_⟩
    · show (if 0 < a then a else b) < n
      split <;> omega
    · show (if 0 < (if 0 < a then a else b) then (if 0 < a then a else b) else c) = (if 0 < a then a else (if 0 < b then b else c))
      by_cases h1 : 0 < a
      · simp only [if_pos h1]
      · simp only [if_neg h1]
/-- _law_extended -/
def fex (kind n : Nat) (f : Nat → Nat → Nat) (a b : Nat) : Nat := if a < n ∧ b < n then f a b else if kind = 0 then n else if a < n then a else b
theorem asf_extended {kind n : Nat} {f : Nat → Nat → Nat} (F : Asf n f) : Asf (n + 1) (fex kind n f) := by
  have lt := F.lt
  refine ⟨fun a b ha hb => ?_, fun a b c ha hb hc => ?_⟩
  · unfold fex
    split
    · rename_i h; have := lt a b h.1 h.2; omega
    · split
      · omega
      · split <;> omega
  · by_cases h1 : a < n
    · by_cases h2 : b < n
      · have hab := lt a b h1 h2
        by_cases h3 : c < n
        · have hbc := lt b c h2 h3
          unfold fex
          rw [if_pos (show a < n ∧ b < n from ⟨h1, h2⟩), if_pos (show b < n ∧ c < n from ⟨h2, h3⟩), if_pos ⟨hab, h3⟩, if_pos ⟨h1, hbc⟩]
          exact F.as a b c h1 h2 h3
        · have ec : c = n := by omega
          subst ec
          unfold fex
          rw [if_pos (show a < c ∧ b < c from ⟨h1, h2⟩), if_neg (show ¬ (f a b < c ∧ c < c) by omega), if_neg (show ¬ (b < c ∧ c < c) by omega)]
          by_cases k0 : kind = 0
          · rw [if_pos k0, if_pos k0, if_neg (show ¬ (a < c ∧ c < c) by omega), if_pos k0]
          · rw [if_neg k0, if_neg k0, if_pos hab, if_pos h2, if_pos ⟨h1, h2⟩]
      · have eb : b = n := by omega
        subst eb
        by_cases k0 : kind = 0
        · have e1 : ∀ x, fex kind b f x b = b := fun x => by unfold fex; rw [if_neg (by omega), if_pos k0]
          have e2 : ∀ x, fex kind b f b x = b := fun x => by unfold fex; rw [if_neg (by omega), if_pos k0]
          rw [e1, e2, e1]
        · have e1 : fex kind b f a b = a := by unfold fex; rw [if_neg (by omega), if_neg k0, if_pos h1]
          have e2 : fex kind b f b c = c := by unfold fex; rw [if_neg (by omega), if_neg k0, if_neg (by omega)]
          rw [e1, e2]
    · have ea : a = n := by omega
      subst ea
      by_cases k0 : kind = 0
      · have e2 : ∀ x, fex kind a f a x = a := fun x => by unfold fex; rw [if_neg (by omega), if_pos k0]
        rw [e2, e2, e2]
      · have e2 : ∀ x, fex kind a f a x = x := fun x => by unfold fex; rw [if_neg (by omega), if_neg k0, if_neg (by omega)]
        rw [e2, e2]
/-- _law_pairs -/
def fpr (n : Nat) (f g : Nat → Nat → Nat) (a b : Nat) : Nat := f (a / n) (b / n) * n + g (a % n) (b % n)
theorem asf_pairs {m n : Nat} {f g : Nat → Nat → Nat} (hn : 1 ≤ n) (F : Asf m f) (G : Asf n g) : Asf (m * n) (fpr n f g) := by
  have dv : ∀ a, a < m * n → a / n < m := fun a h => (Nat.div_lt_iff_lt_mul (by omega)).mpr h
  have md : ∀ a, a % n < n := fun a => Nat.mod_lt _ (by omega)
  have d1 : ∀ x y, y < n → (x * n + y) / n = x := fun x y h => by rw [Nat.add_comm, Nat.add_mul_div_right _ _ (by omega), Nat.div_eq_of_lt h, Nat.zero_add]
  have d2 : ∀ x y, y < n → (x * n + y) % n = y := fun x y h => by rw [Nat.add_comm, Nat.add_mul_mod_self_right, Nat.mod_eq_of_lt h]
  refine ⟨fun a b ha hb => ?_, fun a b c ha hb hc => ?_⟩
  · have h1 := F.lt _ _ (dv a ha) (dv b hb)
    have h2 := G.lt _ _ (md a) (md b)
    unfold fpr
    have h3 : (f (a / n) (b / n) + 1) * n ≤ m * n := Nat.mul_le_mul_right n h1
    rw [Nat.succ_mul] at h3
    omega
  · unfold fpr
    rw [d1 _ _ (G.lt _ _ (md a) (md b)), d2 _ _ (G.lt _ _ (md a) (md b)), d1 _ _ (G.lt _ _ (md b) (md c)), d2 _ _ (G.lt _ _ (md b) (md c)), F.as _ _ _ (dv a ha) (dv b hb) (dv c hc), G.as _ _ _ (md a) (md b) (md c)]
/-- _law_grid -/
def fgr (s : Nat → Nat) (a b : Nat) : Nat := a / 4 * 4 + (a / 2 + b / 2 + s (a % 2 * 2 + b / 4)) % 2 * 2 + b % 2
theorem asf_grid (s : Nat → Nat) (hs : ∀ i, s i < 2) : Asf 8 (fgr s) := by
  have key : ∀ p q r t : Fin 2, ∀ a b c : Fin 8,
      fgr (fun i => [p.val, q.val, r.val, t.val].getD i 0) a.val b.val < 8 ∧
      fgr (fun i => [p.val, q.val, r.val, t.val].getD i 0) (fgr (fun i => [p.val, q.val, r.val, t.val].getD i 0) a.val b.val) c.val = fgr (fun i => [p.val, q.val, r.val, t.val].getD i 0) a.val (fgr (fun i => [p.val, q.val, r.val, t.val].getD i 0) b.val c.val) := by decide +kernel
  have e : ∀ a b, a < 8 → b < 8 → fgr s a b = fgr (fun i => [s 0, s 1, s 2, s 3].getD i 0) a b := fun a b ha hb => by
    unfold fgr
    have h4 : a % 2 * 2 + b / 4 < 4 := by omega
    have : s (a % 2 * 2 + b / 4) = [s 0, s 1, s 2, s 3].getD (a % 2 * 2 + b / 4) 0 := by
      generalize a % 2 * 2 + b / 4 = i at h4
      match i, h4 with
      | 0, _ => rfl
      | 1, _ => rfl
      | 2, _ => rfl
      | 3, _ => rfl
    rw [this]
  have k := key ⟨s 0, hs 0⟩ ⟨s 1, hs 1⟩ ⟨s 2, hs 2⟩ ⟨s 3, hs 3⟩
  refine ⟨fun a b ha hb => ?_, fun a b c ha hb hc => ?_⟩
  · rw [e a b ha hb]; exact (k ⟨a, ha⟩ ⟨b, hb⟩ ⟨0, by decide⟩).1
  · have hab := (k ⟨a, ha⟩ ⟨b, hb⟩ ⟨0, by decide⟩).1
    have hbc := (k ⟨b, hb⟩ ⟨c, hc⟩ ⟨0, by decide⟩).1
    rw [e a b ha hb, e b c hb hc, e _ c hab hc, e a _ ha hbc]
    exact (k ⟨a, ha⟩ ⟨b, hb⟩ ⟨c, hc⟩).2
/-! ### other numbers of the elements -/
/-- the place of x in the order -/
def plc (o : List Nat) (x : Nat) : Nat := o.idxOf x
def frn (o : List Nat) (f : Nat → Nat → Nat) (i j : Nat) : Nat := plc o (f (o.getD i 0) (o.getD j 0))
theorem asf_renum {n : Nat} {f : Nat → Nat → Nat} {o : List Nat} (F : Asf n f) (hp : o.Perm (List.range n)) : Asf n (frn o f) := by
  have hl : o.length = n := by rw [hp.length_eq, List.length_range]
  have hm : ∀ x, x ∈ o ↔ x < n := fun x => by rw [hp.mem_iff, List.mem_range]
  have at_ : ∀ i, i < n → o.getD i 0 < n := fun i hi => by
    rw [List.getD_eq_getElem?_getD, List.getElem?_eq_getElem (by omega)]
    exact (hm _).mp (List.getElem_mem _)
  have pl : ∀ x, x < n → plc o x < n := fun x hx => by
    have := List.idxOf_lt_length_of_mem ((hm x).mpr hx); unfold plc; omega
  have back : ∀ x, x < n → o.getD (plc o x) 0 = x := fun x hx => by
    have h := List.idxOf_lt_length_of_mem ((hm x).mpr hx)
    unfold plc
    rw [List.getD_eq_getElem?_getD, List.getElem?_eq_getElem h, Option.getD_some]
    exact List.getElem_idxOf h
  refine ⟨fun a b ha hb => pl _ (F.lt _ _ (at_ a ha) (at_ b hb)), fun a b c ha hb hc => ?_⟩
  have h1 := F.lt _ _ (at_ a ha) (at_ b hb)
  have h2 := F.lt _ _ (at_ b hb) (at_ c hc)
  unfold frn
  rw [back _ h1, back _ h2, F.as _ _ _ (at_ a ha) (at_ b hb) (at_ c hc)]
end KX

set_option Elab.async false
set_option linter.all false
set_option maxRecDepth 100000
set_option maxHeartbeats 4000000
namespace L
open PySem L2 KX

def top (i : Nat) : Stmt := PySem.Challenge.pw_producttrees_k21_levels_of_invalid_argum.main.body.getD i (.Pass ⟨0, 0, 0, 0⟩)
abbrev sCell : Stmt := top 54
abbrev sBox : Stmt := top 55
abbrev sTake : Stmt := top 56
/-- the names of built-ins are the built-ins' -/
structure Mn (mg : Str → Option Value) : Prop where
  max : mg "max" = none
  min : mg "min" = none
  len : mg "len" = none
  range : mg "range" = none
  repr : mg "repr" = none
  isin : mg "isinstance" = none
  all : mg "all" = none
  enum : mg "enumerate" = none
  tuple : mg "tuple" = none
  dict : mg "dict" = none
  str : mg "str" = none
  int : mg "int" = none
  bool : mg "bool" = none
  list : mg "list" = none
/-- the box of a cell stands at p -/
def Bx (H : Hp) (p : Addr) : Prop := ∃ b0 b1 b2 : Int, H p = some (.lst [.int b0, .int b1, .int b2]) ∧ 0 ≤ b0 ∧ 0 ≤ b1 ∧ b1 < 2147483647 ∧ 0 ≤ b2
/-- all but what stands at p is as it was -/
def Sx (p : Addr) (H H' : Hp) : Prop := ∀ b o, b ≠ p → H b = some o → H' b = some o
def spCell (K : PySem.W.Frag) : Sp := fun vs H Q _ => ∃ (a : Addr) (ns : List Int) (k : Int), vs = [.ref a, .int k] ∧ SqL K H a (ns.map V.int) ∧ 0 ≤ k ∧ ∀ c : Int, Q (.int c) H
def spBox : Sp := fun vs H Q _ => ∃ c : Int, vs = [.int c] ∧ ∀ p H', Same H H' → H p = none → Bx H' p → Q (.ref p) H'
def spTake : Sp := fun vs H Q _ => ∃ (p : Addr) (n : Int), vs = [.ref p, .int n] ∧ Bx H p ∧ 0 < n ∧ n < 316912650057057350374175801344 ∧ ∀ (r : Int) H', 0 ≤ r → r < n → Bx H' p → Sx p H H' → Q (.int r) H'
section
variable {P : Program} {w : World} {K : PySem.W.Frag} {mg : Str → Option Value} {base : Heap} {f : Addr} {fd : FuncData}
theorem scCell : FnScope ["script", "k"] ["script", "k"] (defScope sCell) := ⟨rfl, rfl, rfl, by decide +kernel, rfl, by decide +kernel, by decide +kernel⟩
theorem ok_cell (F : Fun K "_law_cell" "_law_cell" sCell f fd) (M : Mn mg) : FnOk P w K mg base CX0 1 f fd ["script", "k"] (spCell K) := by
  refine F.ok scCell (fun vs H Q E h => ?_) (fun cdv A outer s H vs Q E hr h => ?_)
  · obtain ⟨a, ns, k, rfl, _⟩ := h
    rfl
  obtain ⟨a, ns, k, rfl, hS, hk, q⟩ := h
  refine ⟨_, pss_cons (ps_if (pt_cmpR op_lt (pv 1) (pe_callB call_len_seq (by rfl) M.len PySem.boot_len (pa_cons (pv 0) pa_nil)) (nomark _)) (pss_one (ps_ret (pe_ix ix_list (pv 0) (pv 1) (fun _ _ => rfl)))) pss_nil)
    (pss_one (ps_ret (pe_op op_add (pe_op op_mul pe_int (pv 1)) pe_int))), ?_⟩
  refine ⟨_, rfl, _, rfl, a, _, rfl, .inl hS, _, _, rfl, rfl, _, rfl, ?_⟩
  refine ite2 (fun c => ?_) (fun c => ?_)
  · have c' : k < (((ns.map V.int).length : Nat) : Int) := of_decide_eq_true c
    rw [List.length_map] at c'
    have hlt : k.toNat < ns.length := by omega
    refine ⟨_, rfl, _, rfl, a, _, _, V.int ns[k.toNat], rfl, rfl, hS, at_of (j := k.toNat) (by omega) (by rw [List.getElem?_map, List.getElem?_eq_getElem hlt]; rfl), q _⟩
  · exact ⟨_, rfl, _, _, rfl, rfl, .inl ⟨by decide, by decide⟩, _, _, rfl, rfl, q _⟩
theorem scBox : FnScope ["cell"] ["cell"] (defScope sBox) := ⟨rfl, rfl, rfl, by decide +kernel, rfl, by decide +kernel, by decide +kernel⟩
theorem ok_box (F : Fun K "_law_box" "_law_box" sBox f fd) (M : Mn mg) : FnOk P w K mg base CX0 1 f fd ["cell"] spBox := by
  refine F.ok scBox (fun vs H Q E h => ?_) (fun cdv A outer s H vs Q E hr h => ?_)
  · obtain ⟨c, rfl, _⟩ := h
    rfl
  obtain ⟨c, rfl, q⟩ := h
  refine ⟨_, pss_one (ps_ret (pe_lst (pa_cons (pe_callB (call_max2 rfl) (by rfl) M.max (by decide +kernel) (pa_cons pe_int (pa_cons (pe_op op_sub (pv 0) (pe_op op_pow pe_int pe_int)) pa_nil)))
    (pa_cons (pe_op op_mod (pv 0) pe_int) (pa_cons pe_int pa_nil))))), ?_⟩
  refine ⟨_, rfl, _, _, rfl, rfl, ⟨by decide, by decide, by decide⟩, _, _, rfl, rfl, _, _, rfl, _, rfl, _, _, rfl, rfl, (by show (0 : Int) < 2147483629; decide), (by show 3 ≤ sizeLine; decide), fun p hp => ?_⟩
  refine q p _ (fun b o e => by rw [upd_ne (ne_of_none e hp)]; exact e) hp ⟨_, _, _, upd_same, ?_, Int.emod_nonneg _ (by decide), ?_, Int.le_refl 0⟩
  · split <;> omega
  · have := Int.emod_lt_of_pos c (show (0 : Int) < 2147483629 by decide)
    omega
theorem scTake : FnScope ["box", "size", "digit", "mixed"] ["box", "size"] (defScope sTake) := ⟨rfl, rfl, rfl, by decide +kernel, rfl, by decide +kernel, by decide +kernel⟩
theorem ok_take (F : Fun K "_law_take" "_law_take" sTake f fd) (M : Mn mg) : FnOk P w K mg base CX0 1 f fd ["box", "size"] spTake := by
  refine F.ok scTake (fun vs H Q E h => ?_) (fun cdv A outer s H vs Q E hr h => ?_)
  · obtain ⟨p, n, rfl, _⟩ := h
    rfl
  obtain ⟨p, n, rfl, ⟨b0, b1, b2, hp, z0, z1, z1', z2⟩, n0, n1, q⟩ := h
  refine ⟨_, pss_cons (ps_if (pt_cmpR op_gt (pe_ix ix_list (pv 0) pe_int (fun _ _ => rfl)) pe_int (nomark _))
      (pss_cons (ps_set (i := 2) scTake.nd rfl (Or.inl rfl) (pe_op op_mod (pe_ix ix_list (pv 0) pe_int (fun _ _ => rfl)) (pv 1)))
      (pss_cons (ps_asg (pe_op op_fdivW (pe_ix ix_list (pv 0) pe_int (fun _ _ => rfl)) (pv 1)) (pg_sub (pv 0) pe_int set_list))
      (pss_one (ps_ret (pv 2))))) pss_nil)
    (pss_cons (ps_asg (pe_op op_add (pe_ix ix_list (pv 0) pe_int (fun _ _ => rfl)) pe_int) (pg_sub (pv 0) pe_int set_list))
    (pss_cons (ps_set (i := 3) scTake.nd rfl (Or.inl rfl) (pe_op op_mod (pe_op op_add (pe_op op_add (pe_op op_mul (pe_ix ix_list (pv 0) pe_int (fun _ _ => rfl)) pe_int) (pe_op op_mul pe_int (pe_ix ix_list (pv 0) pe_int (fun _ _ => rfl)))) pe_int) pe_int))
    (pss_cons (ps_asg (pe_op op_mod (pe_op op_add (pe_op op_pow (pv 3) pe_int) (pe_op op_mul pe_int (pe_ix ix_list (pv 0) pe_int (fun _ _ => rfl)))) pe_int) (pg_sub (pv 0) pe_int set_list))
    (pss_one (ps_ret (pe_op op_mod (pe_op op_fdiv (pe_ix ix_list (pv 0) pe_int (fun _ _ => rfl)) pe_int) (pv 1))))))), ?_⟩
  refine ⟨_, rfl, p, _, _, _, rfl, rfl, SqL.of hp, rfl, _, _, rfl, rfl, _, rfl, ?_⟩
  refine ite2 (fun c => ?_) (fun c => ?_)
  · refine ⟨_, rfl, p, _, _, _, rfl, rfl, SqL.of hp, rfl, _, rfl, _, _, rfl, rfl, n0, ?_⟩
    refine ⟨_, rfl, p, _, _, _, rfl, rfl, SqL.of hp, rfl, _, rfl, _, _, rfl, rfl, wide_div (b := 98) n0 (by omega) (by decide) (by decide), _, rfl, p, _, _, 0, rfl, rfl, hp, rfl, ?_⟩
    refine ⟨_, rfl, q _ _ (Int.emod_nonneg _ (by omega)) (Int.emod_lt_of_pos _ n0) ⟨_, _, _, upd_same, Int.ediv_nonneg z0 (by omega), z1, z1', z2⟩ fun b o hb e => by rw [upd_ne hb]; exact e⟩
  · refine ⟨_, rfl, p, _, _, _, rfl, rfl, SqL.of hp, rfl, _, _, rfl, rfl, _, rfl, p, _, _, 2, rfl, rfl, hp, rfl, ?_⟩
    have h1 : ∀ o, (upd H p o) p = some o := fun o => upd_same
    refine ⟨_, rfl, p, _, _, _, rfl, rfl, SqL.of (h1 _), rfl, _, _, rfl, rfl, .inr ⟨by decide, by decide⟩, _, rfl, p, _, _, _, rfl, rfl, SqL.of (h1 _), rfl, _, _, rfl, rfl, .inl ⟨by decide, by decide⟩, _, _, rfl, rfl, _, _, rfl, rfl, _, _, rfl, rfl, (by show (0 : Int) < 2147483647; decide), ?_⟩
    have m0 : ∀ x : Int, 0 ≤ x % 2147483647 := fun x => Int.emod_nonneg _ (by decide)
    have m1 : ∀ x : Int, x % 2147483647 < 2147483647 := fun x => Int.emod_lt_of_pos _ (by decide)
    refine ⟨_, rfl, _, _, rfl, rfl, ⟨by decide, by decide, ?_⟩, _, rfl, p, _, _, _, rfl, rfl, SqL.of (h1 _), rfl, _, _, rfl, rfl, .inl ⟨by decide, by decide⟩, _, _, rfl, rfl, _, _, rfl, rfl, (by show (0 : Int) < 2147483647; decide), _, rfl, p, _, _, 1, rfl, rfl, (h1 _), rfl, ?_⟩
    · have a0 := m0 (b1 * 48271 + 69621 * (b2 + 1) + 7)
      have a1 := m1 (b1 * 48271 + 69621 * (b2 + 1) + 7)
      omega
    · refine ⟨_, rfl, p, _, _, _, rfl, rfl, SqL.of upd_same, rfl, _, _, rfl, rfl, ⟨by decide, by decide⟩, _, rfl, _, _, rfl, rfl, n0, ?_⟩
      refine q _ _ (Int.emod_nonneg _ (by omega)) (Int.emod_lt_of_pos _ n0) ⟨_, _, _, upd_same, z0, m0 _, m1 _, (by omega)⟩ fun b o hb e => by rw [upd_ne hb, upd_ne hb]; exact e
end
theorem Sx.refl {p : Addr} (H : Hp) : Sx p H H := fun _ _ _ e => e
theorem Sx.trans {p : Addr} {H G J : Hp} (a : Sx p H G) (b : Sx p G J) : Sx p H J := fun c o n e => b c o n (a c o n e)
theorem Sx.of {p : Addr} {H G : Hp} (a : Same H G) : Sx p H G := fun c o _ e => a c o e
theorem Sx.new {p q : Addr} {H : Hp} {o : HO} (h : H q = none) : Sx p H (upd H q o) := fun c u _ e => by rw [upd_ne (ne_of_none e h)]; exact e
theorem Bx.new {p q : Addr} {H : Hp} {o : HO} (b : Bx H p) (h : H q = none) : Bx (upd H q o) p := by
  obtain ⟨b0, b1, b2, e, r⟩ := b
  exact ⟨b0, b1, b2, by rw [upd_ne (ne_of_none e h)]; exact e, r⟩
theorem Bx.ne {p q : Addr} {H : Hp} (b : Bx H p) (h : H q = none) : q ≠ p := by
  obtain ⟨b0, b1, b2, e, r⟩ := b
  exact (ne_of_none e h).symm
theorem Bx.at_ne {p q : Addr} {H : Hp} {o : HO} (b : Bx H p) (h : q ≠ p) : Bx (upd H q o) p := by
  obtain ⟨b0, b1, b2, e, r⟩ := b
  exact ⟨b0, b1, b2, by rw [upd_ne h.symm]; exact e, r⟩
theorem Sx.free {p q : Addr} {H G : Hp} (s : Sx p H G) (b : Bx G p) (h : G q = none) : H q = none := by
  cases e : H q with
  | none => rfl
  | some o =>
    have n := b.ne h
    rw [s q o n e] at h
    cases h
theorem Bx.nn {p : Addr} {H : Hp} (b : Bx H p) : H p ≠ none := by
  obtain ⟨b0, b1, b2, e, r⟩ := b
  rw [e]; exact fun z => nomatch z
/-- what was new stays, where only p changes -/
theorem nw_step {p : Addr} {H G J : Hp} (b : Bx H p) (s : Sx p G J) : Same (nw H G) (nw H J) := fun c o h => by
  obtain ⟨h1, h2⟩ := nw_some h
  rw [nw_at h1]
  exact s c o (fun z => b.nn (z ▸ h1)) h2
/-- what is new behind a later heap is new behind an earlier one -/
theorem nw_back {p : Addr} {H G J : Hp} (s : Sx p H G) (b : Bx G p) : Same (nw G J) (nw H J) := fun c o h => by
  obtain ⟨h1, h2⟩ := nw_some h
  rw [nw_at (s.free b h1)]
  exact h2
end L

set_option Elab.async false
set_option linter.all false
set_option maxRecDepth 100000
set_option maxHeartbeats 4000000
namespace L
open PySem L2 KX
abbrev sIsInt : Stmt := top 14
/-- what isinstance tells of a value -/
def Isi (K : PySem.W.Frag) (H : Hp) (v : V) (b1 b2 : Bool) : Prop := ∃ t, TyX K H v t ∧ PySem.W.kitOne K t (.type "int") = some b1 ∧ PySem.W.kitOne K t (.type "bool") = some b2
def spIsInt (K : PySem.W.Frag) : Sp := fun vs H Q _ => ∃ v b1 b2, vs = [v] ∧ Isi K H v b1 b2 ∧ Q (.bl (b1 && !b2)) H
section
variable {P : Program} {w : World} {K : PySem.W.Frag} {mg : Str → Option Value} {base : Heap} {f g gn : Addr} {fd gd gnd : FuncData}
theorem scIsInt : FnScope ["value"] ["value"] (defScope sIsInt) := ⟨rfl, rfl, rfl, by decide +kernel, rfl, by decide +kernel, by decide +kernel⟩
theorem ok_isint (F : Fun K "is_integer" "is_integer" sIsInt f fd) (M : Mn mg) : FnOk P w K mg base CX0 1 f fd ["value"] (spIsInt K) := by
  refine F.ok scIsInt (fun vs H Q E h => ?_) (fun cdv A outer s H vs Q E hr h => ?_)
  · obtain ⟨v, b1, b2, rfl, _⟩ := h
    rfl
  obtain ⟨v, b1, b2, rfl, ⟨t, ty, k1, k2⟩, q⟩ := h
  refine ⟨_, pss_one (ps_ret (pe_and (pe_callB call_isi (by rfl) M.isin (by decide +kernel) (pa_cons (pv 0) (pa_cons (pe_bltn (v := .ty "int") (by rfl) M.int (by decide +kernel) rfl) pa_nil)))
    (pe_one (pe_not (pe_callB call_isi (by rfl) M.isin (by decide +kernel) (pa_cons (pv 0) (pa_cons (pe_bltn (v := .ty "bool") (by rfl) M.bool (by decide +kernel) rfl) pa_nil))))))), ?_⟩
  refine ⟨_, rfl, v, .ty "int", t, .type "int", b1, rfl, .ty _, ty, k1, b1, rfl, ?_⟩
  cases b1 with
  | false => exact iteF q
  | true => exact iteT ⟨_, rfl, v, .ty "bool", t, .type "bool", b2, rfl, .ty _, ty, k2, b2, rfl, q⟩
end

abbrev sIsList : Stmt := top 16
abbrev sBelow : Stmt := top 17
abbrev sNumList : Stmt := top 18
abbrev sAreRows : Stmt := top 24
abbrev sWrong : Stmt := top 25
theorem TyX.same {K : PySem.W.Frag} {H G : Hp} (s : Same H G) {v : V} {t : Value} (h : TyX K H v t) : TyX K G v t := by
  cases h with
  | base b =>
    cases b with
    | non => exact .base .non
    | bl b => exact .base (.bl b)
    | int i => exact .base (.int i)
    | str x => exact .base (.str x)
    | flt x => exact .base (.flt x)
    | lst e => exact .base (.lst (s _ _ e))
    | frz e => exact .base (.frz (s _ _ e))
    | tup e => exact .base (.tup (s _ _ e))
    | dK e => exact .base (.dK (s _ _ e))
    | dT e => exact .base (.dT (s _ _ e))
    | ins e a b c d f => exact .base (.ins (s _ _ e) a b c d f)
  | byt b => exact .byt b
  | set e => exact .set (s _ _ e)
  | kList e c => exact .kList e c
  | kTuple e c => exact .kTuple e c
  | kDict e c => exact .kDict e c
  | fTuple e => exact .fTuple (s _ _ e)
  | fDict e => exact .fDict (s _ _ e)
theorem Isi.same {K : PySem.W.Frag} {H G : Hp} (s : Same H G) {v : V} {a b : Bool} (h : Isi K H v a b) : Isi K G v a b := let ⟨t, h1, h2, h3⟩ := h; ⟨t, TyX.same s h1, h2, h3⟩
theorem Same.tup {K : PySem.W.Frag} {H H' : Hp} {a : Addr} {xs : List V} (e : Same H H') (h : SqT K H a xs) : SqT K H' a xs := by
  rcases h with (h | ⟨o, h⟩) | h
  · exact .inl (.inl (e _ _ h))
  · exact .inl (.inr ⟨o, e _ _ h⟩)
  · exact .inr h
theorem Same.new {H : Hp} {p : Addr} (h : H p = none) (o : HO) : Same H (upd H p o) := fun b u e => by rw [upd_ne (ne_of_none e h)]; exact e
/-- a list or a tuple is to be read at v -/
def Sq (K : PySem.W.Frag) (H : Hp) (v : V) (xs : List V) : Prop := ∃ a, v = .ref a ∧ (SqL K H a xs ∨ SqT K H a xs)
theorem Sq.same {K : PySem.W.Frag} {H G : Hp} {v : V} {xs : List V} (s : Same H G) (h : Sq K H v xs) : Sq K G v xs := let ⟨a, e, h⟩ := h; ⟨a, e, h.imp (fun z => Same.seq s z) (fun z => Same.tup s z)⟩
theorem SqL.ty {K : PySem.W.Frag} {H : Hp} {a : Addr} {xs : List V} (h : SqL K H a xs) : TyX K H (.ref a) (.type "list") := by
  rcases h with (h | ⟨o, h⟩) | ⟨o, its, n, h, c, _⟩
  · exact .base (.lst h)
  · exact .base (.frz h)
  · exact .kList h c
theorem SqT.ty {K : PySem.W.Frag} {H : Hp} {a : Addr} {xs : List V} (h : SqT K H a xs) : TyX K H (.ref a) (.type "tuple") := by
  rcases h with (h | ⟨o, h⟩) | ⟨o, its, n, h, c, _⟩
  · exact .base (.tup h)
  · exact .fTuple h
  · exact .kTuple h c
theorem Sq.ty {K : PySem.W.Frag} {H : Hp} {v : V} {xs : List V} (h : Sq K H v xs) : ∃ t, TyX K H v t ∧ PySem.W.kitAny K t [.type "list", .type "tuple"] = some true := by
  obtain ⟨a, rfl, h | h⟩ := h
  · exact ⟨_, SqL.ty h, kitAny_cons (b := true) (kit_ty (by decide +kernel)) (fun z => nomatch z) fun _ => rfl⟩
  · exact ⟨_, SqT.ty h, kitAny_cons (b := false) (kit_ty (by decide +kernel)) (fun _ => kitAny_cons (b := true) (kit_ty (by decide +kernel)) (fun z => nomatch z) fun _ => rfl) fun z => nomatch z⟩
/-- no list and no tuple -/
def NoSq (K : PySem.W.Frag) (H : Hp) (v : V) : Prop := ∃ t, TyX K H v t ∧ PySem.W.kitAny K t [.type "list", .type "tuple"] = some false
theorem NoSq.same {K : PySem.W.Frag} {H G : Hp} {v : V} (s : Same H G) (h : NoSq K H v) : NoSq K G v := let ⟨t, a, b⟩ := h; ⟨t, TyX.same s a, b⟩
/-- an item: an int, or something that is_integer refuses -/
def Itm (K : PySem.W.Frag) (H : Hp) (v : V) : Prop := (∃ i, v = .int i) ∨ ((∀ i, v ≠ .int i) ∧ ∃ b1 b2, Isi K H v b1 b2 ∧ (b1 && !b2) = false)
theorem Itm.same {K : PySem.W.Frag} {H G : Hp} {v : V} (s : Same H G) (h : Itm K H v) : Itm K G v := h.imp id fun ⟨a, b1, b2, c, d⟩ => ⟨a, b1, b2, c.same s, d⟩
def nb (lim : Int) : V → Bool
  | .int i => decide (0 ≤ i) && decide (i < lim)
  | _ => false
def spIsList (K : PySem.W.Frag) : Sp := fun vs H Q _ => ∃ v lo hi, vs = [v, .int lo, .int hi] ∧
  ((∃ xs, Sq K H v xs ∧ ∀ H', Same H H' → Q (.bl (decide (lo ≤ (xs.length : Int)) && decide ((xs.length : Int) ≤ hi))) H') ∨ (NoSq K H v ∧ ∀ H', Same H H' → Q (.bl false) H'))
def spBelow (K : PySem.W.Frag) : Sp := fun vs H Q _ => ∃ v lim, vs = [v, .int lim] ∧ Itm K H v ∧ Q (.bl (nb lim v)) H
def spNumList (K : PySem.W.Frag) : Sp := fun vs H Q _ => ∃ v lo hi lim, vs = [v, .int lo, .int hi, .int lim] ∧
  ((∃ xs, Sq K H v xs ∧ (∀ x, x ∈ xs → Itm K H x) ∧ xs.length < 1000000 ∧ ∀ H', Same H H' → Q (.bl (decide (lo ≤ (xs.length : Int)) && decide ((xs.length : Int) ≤ hi) && xs.all (nb lim))) H') ∨ (NoSq K H v ∧ ∀ H', Same H H' → Q (.bl false) H'))
section
variable {P : Program} {w : World} {K : PySem.W.Frag} {mg : Str → Option Value} {base : Heap} {f g gn : Addr} {fd gd gnd : FuncData}
theorem scIsList : FnScope ["value", "least", "most"] ["value", "least", "most"] (defScope sIsList) := ⟨rfl, rfl, rfl, by decide +kernel, rfl, by decide +kernel, by decide +kernel⟩
theorem ok_islist (F : Fun K "is_list" "is_list" sIsList f fd) (M : Mn mg) : FnOk P w K mg base CX0 1 f fd ["value", "least", "most"] (spIsList K) := by
  refine F.ok scIsList (fun vs H Q E h => ?_) (fun cdv A outer s H vs Q E hr h => ?_)
  · obtain ⟨v, lo, hi, rfl, _⟩ := h
    rfl
  obtain ⟨v, lo, hi, rfl, h⟩ := h
  refine ⟨_, pss_one (ps_ret (pe_and (pe_callB call_isiT (by rfl) M.isin (by decide +kernel) (pa_cons (pv 0) (pa_cons (pe_tup (pa_cons (pe_bltn (v := .ty "list") (by rfl) M.list (by decide +kernel) rfl)
      (pa_cons (pe_bltn (v := .ty "tuple") (by rfl) M.tuple (by decide +kernel) rfl) pa_nil))) pa_nil)))
    (pe_one (pe_chain op_le op_le (pv 1) (pe_callB call_len_seq (by rfl) M.len PySem.boot_len (pa_cons (pv 0) pa_nil)) (pv 2))))), ?_⟩
  refine ⟨_, rfl, (by show 2 ≤ sizeLine; decide), fun tp htp => ?_⟩
  have ss := Same.new htp (.tup [V.ty "list", V.ty "tuple"])
  rcases h with ⟨xs, hs, q⟩ | ⟨hs, q⟩
  · obtain ⟨t, ty, kt⟩ := (hs.same ss).ty
    refine ⟨v, tp, _, t, _, true, rfl, upd_same, .cons (.ty _) (.cons (.ty _) .nil), ty, kt, true, rfl, iteT ?_⟩
    obtain ⟨a, rfl, hs2⟩ := hs.same ss
    refine ⟨_, rfl, _, rfl, a, xs, rfl, hs2, _, _, rfl, rfl, _, rfl, ?_⟩
    refine ite2 (fun c => ⟨_, rfl, _, _, rfl, rfl, ?_⟩) (fun c => ?_)
    · have q' := q _ ss
      rw [c] at q'
      exact q'
    · have q' := q _ ss
      rw [Bool.eq_false_iff.mpr c] at q'
      exact q'
  · obtain ⟨t, ty, kt⟩ := hs.same ss
    exact ⟨v, tp, _, t, _, false, rfl, upd_same, .cons (.ty _) (.cons (.ty _) .nil), ty, kt, false, rfl, iteF (q _ ss)⟩
theorem scBelow : FnScope ["value", "limit"] ["value", "limit"] (defScope sBelow) := ⟨rfl, rfl, rfl, by decide +kernel, rfl, by decide +kernel, by decide +kernel⟩
theorem ok_below (F : Fun K "is_number_below" "is_number_below" sBelow f fd) (G : FnOk P w K mg base CX0 1 g gd ["value"] (spIsInt K)) (bG : Binds K gd ["value"] []) (kG : PySem.W.keepIn K (.ref g) = true) (mG : mg "is_integer" = some (.ref g)) :
    FnOk P w K mg base CX0 2 f fd ["value", "limit"] (spBelow K) := by
  refine F.ok scBelow (fun vs H Q E h => ?_) (fun cdv A outer s H vs Q E hr h => ?_)
  · obtain ⟨v, lim, rfl, _⟩ := h
    rfl
  obtain ⟨v, lim, rfl, h, q⟩ := h
  refine ⟨_, pss_one (ps_ret (pe_and (pe_call G hr rfl mG kG bG .nil pass0 (pa_cons (pv 0) pa_nil)) (pe_one (pe_chain op_le op_lt pe_int (pv 0) (pv 1))))), ?_⟩
  rcases h with ⟨i, rfl⟩ | ⟨ni, b1, b2, hi, hb⟩
  · refine ⟨_, rfl, _, true, false, rfl, ⟨_, .base (.int i), kit_ty (by decide +kernel), kit_ty (by decide +kernel)⟩, true, rfl, iteT ⟨_, rfl, _, _, rfl, rfl, _, rfl, ?_⟩⟩
    refine ite2 (fun c => ⟨_, rfl, _, _, rfl, rfl, ?_⟩) (fun c => ?_)
    · have e : nb lim (.int i) = decide (i < lim) := by show (decide (0 ≤ i) && decide (i < lim)) = _; rw [c]; rfl
      rw [e] at q
      exact q
    · have e : nb lim (.int i) = false := by show (decide (0 ≤ i) && decide (i < lim)) = _; rw [Bool.eq_false_iff.mpr c]; rfl
      rw [e] at q
      exact q
  · refine ⟨_, rfl, v, b1, b2, rfl, hi, _, rfl, ?_⟩
    rw [hb]
    have e : nb lim v = false := by
      cases v with
      | int i => exact absurd rfl (ni i)
      | _ => rfl
    rw [e] at q
    exact iteF q
theorem scNumList : FnScope ["value", "least", "most", "limit", "item"] ["value", "least", "most", "limit"] (defScope sNumList) := ⟨rfl, rfl, rfl, by decide +kernel, rfl, by decide +kernel, by decide +kernel⟩
theorem ok_numlist (F : Fun K "is_number_list" "is_number_list" sNumList f fd) (M : Mn mg)
    (G : FnOk P w K mg base CX0 1 g gd ["value", "least", "most"] (spIsList K)) (bG : Binds K gd ["value", "least", "most"] []) (kG : PySem.W.keepIn K (.ref g) = true) (mG : mg "is_list" = some (.ref g))
    (N : FnOk P w K mg base CX0 2 gn gnd ["value", "limit"] (spBelow K)) (bN : Binds K gnd ["value", "limit"] []) (kN : PySem.W.keepIn K (.ref gn) = true) (mN : mg "is_number_below" = some (.ref gn)) :
    FnOk P w K mg base CX0 3 f fd ["value", "least", "most", "limit"] (spNumList K) := by
  refine F.ok scNumList (fun vs H Q E h => ?_) (fun cdv A outer s H vs Q E hr h => ?_)
  · obtain ⟨v, lo, hi, lim, rfl, _⟩ := h
    rfl
  obtain ⟨v, lo, hi, lim, rfl, h⟩ := h
  have hr1 : Room 1 _ := hr.mono (by decide)
  rcases h with ⟨xs, hs, ht, hz, q⟩ | ⟨hs, q⟩
  · -- a list or a tuple: the walk over it is one of two
    have key : ∀ (D : Addr) (G : Hp), Same H G → G D = none → ∀ (i : Nat) (J : Hp), (Same H J ∧ J D = some (.lst (((xs.take i).map (nb lim)).map V.bl))) → ∀ x, xs[i]? = some x → Itm K J x ∧
        ∃ acc, J D = some (.lst acc) ∧ acc.length < sizeLine ∧ (Same H (upd J D (.lst (acc ++ [V.bl (nb lim x)]))) ∧ (upd J D (.lst (acc ++ [V.bl (nb lim x)]))) D = some (.lst (((xs.take (i + 1)).map (nb lim)).map V.bl))) := by
      intro D G sG hD i J ⟨sJ, eD⟩ x hx
      have hD0 : H D = none := sG.free hD
      refine ⟨(ht x (List.mem_of_getElem? hx)).same sJ, _, eD, ?_, fun b o e => by rw [upd_ne (ne_of_none e hD0)]; exact sJ b o e, ?_⟩
      · rw [List.length_map, List.length_map, List.length_take, sizeLine_eq]; omega
      · rw [upd_same, List.take_add_one, hx, List.map_append, List.map_append]; rfl
    have fin : ∀ (D : Addr) (J : Hp), (Same H J ∧ J D = some (.lst (((xs.take xs.length).map (nb lim)).map V.bl))) → (decide (lo ≤ (xs.length : Int)) && decide ((xs.length : Int) ≤ hi)) = true → rAll K [.ref D] J Q := by
      intro D J ⟨sJ, eD⟩ hc
      rw [List.take_length] at eD
      refine ⟨D, _, rfl, SqL.of eD, ?_⟩
      have e2 : (xs.map (nb lim)).all id = xs.all (nb lim) := by rw [List.all_map]; rfl
      have q' := q J sJ
      rw [hc] at q'
      rw [e2]
      exact q'
    obtain ⟨a, rfl, hl | hl⟩ := id hs
    · refine ⟨_, pss_one (ps_ret (pe_and (pe_call G hr1 rfl mG kG bG .nil pass0 (pa_cons (pv 0) (pa_cons (pv 1) (pa_cons (pv 2) pa_nil))))
        (pe_one (pe_callB (cr_all rfl) (by rfl) M.all (by decide +kernel) (pa_cons (pe_lc (own := [("item", 4)]) (g := gName 4) (tt := tYes) rfl scNumList.nd (pi_list (pv 0))
          (blkOk_by (N := ["value", "least", "most", "limit", "item"]) (sc := defScope sNumList) (by decide +kernel)) (fun _ _ _ _ _ => pg_name (i := 4) scNumList.nd rfl (Or.inl rfl)) (fun _ _ _ _ _ => pts_nil)
          (fun _ _ _ _ _ => pe_call N hr rfl mN kN bN .nil pass0 (pa_cons (pv 4) (pa_cons (pv 3) pa_nil)))) pa_nil))))), ?_⟩
      refine ⟨_, rfl, _, rfl, _, rfl, _, lo, hi, rfl, .inl ⟨xs, hs, fun G sG => ⟨_, rfl, ite2 (fun c => ?_) (fun c => ?_)⟩⟩⟩
      · refine ⟨_, rfl, a, rfl, ⟨_, sG.seq hl⟩, fun D hD => lc_list (xs := xs) (fun i J => Same H J ∧ J D = some (.lst (((xs.take i).map (nb lim)).map V.bl)))
          ⟨fun b o e => by rw [upd_ne (ne_of_none (sG b o e) hD)]; exact sG b o e, upd_same⟩ (fun i J _ z => z.1.seq hl) (fun i x J hx z => ?_) fun J z => fin D J z c⟩
        obtain ⟨k1, k2⟩ := key D G sG hD i J z x hx
        exact ⟨rfl, _, rfl, _, rfl, x, lim, rfl, k1, k2⟩
      · have q' := q G sG
        rw [Bool.eq_false_iff.mpr c] at q'
        exact q'
    · refine ⟨_, pss_one (ps_ret (pe_and (pe_call G hr1 rfl mG kG bG .nil pass0 (pa_cons (pv 0) (pa_cons (pv 1) (pa_cons (pv 2) pa_nil))))
        (pe_one (pe_callB (cr_all rfl) (by rfl) M.all (by decide +kernel) (pa_cons (pe_lc (own := [("item", 4)]) (g := gName 4) (tt := tYes) rfl scNumList.nd (pi_tup (pv 0))
          (blkOk_by (N := ["value", "least", "most", "limit", "item"]) (sc := defScope sNumList) (by decide +kernel)) (fun _ _ _ _ _ => pg_name (i := 4) scNumList.nd rfl (Or.inl rfl)) (fun _ _ _ _ _ => pts_nil)
          (fun _ _ _ _ _ => pe_call N hr rfl mN kN bN .nil pass0 (pa_cons (pv 4) (pa_cons (pv 3) pa_nil)))) pa_nil))))), ?_⟩
      refine ⟨_, rfl, _, rfl, _, rfl, _, lo, hi, rfl, .inl ⟨xs, hs, fun G sG => ⟨_, rfl, ite2 (fun c => ?_) (fun c => ?_)⟩⟩⟩
      · refine ⟨_, rfl, a, rfl, ⟨_, Same.tup sG hl⟩, fun D hD => lc_tup (xs := xs) (fun i J => Same H J ∧ J D = some (.lst (((xs.take i).map (nb lim)).map V.bl)))
          ⟨fun b o e => by rw [upd_ne (ne_of_none (sG b o e) hD)]; exact sG b o e, upd_same⟩ (fun i J _ z => Same.tup z.1 hl) (fun i x J hx z => ?_) fun J z => fin D J z c⟩
        obtain ⟨k1, k2⟩ := key D G sG hD i J z x hx
        exact ⟨rfl, _, rfl, _, rfl, x, lim, rfl, k1, k2⟩
      · have q' := q G sG
        rw [Bool.eq_false_iff.mpr c] at q'
        exact q'
  · refine ⟨_, pss_one (ps_ret (pe_and (pe_call G hr1 rfl mG kG bG .nil pass0 (pa_cons (pv 0) (pa_cons (pv 1) (pa_cons (pv 2) pa_nil))))
        (pe_one (pe_callB (cr_all rfl) (by rfl) M.all (by decide +kernel) (pa_cons (pe_lc (own := [("item", 4)]) (g := gName 4) (tt := tYes) rfl scNumList.nd (pi_list (pv 0))
          (blkOk_by (N := ["value", "least", "most", "limit", "item"]) (sc := defScope sNumList) (by decide +kernel)) (fun _ _ _ _ _ => pg_name (i := 4) scNumList.nd rfl (Or.inl rfl)) (fun _ _ _ _ _ => pts_nil)
          (fun _ _ _ _ _ => pe_call N hr rfl mN kN bN .nil pass0 (pa_cons (pv 4) (pa_cons (pv 3) pa_nil)))) pa_nil))))), ?_⟩
    exact ⟨_, rfl, _, rfl, _, rfl, v, lo, hi, rfl, .inr ⟨hs, fun G sG => ⟨_, rfl, iteF (q G sG)⟩⟩⟩
end

abbrev sInit : Stmt := inClass (top 21) 0
section
variable {X : Cx}
/-- what a for walks: a list or a tuple -/
def iSq (K : PySem.W.Frag) (tl : TE) : TI := fun σ H R => iList K tl σ H R ∨ iTup K tl σ H R
theorem pi_sq {tg l : Expr} {tl : TE} (h : PE X l tl) : PI X tg l (iSq X.K tl) := ⟨fun pins s σ H R I q => q.elim (fun z => (pi_list h).run pins s σ H R I z) fun z => (pi_tup h).run pins s σ H R I z⟩
theorem isq_of {K : PySem.W.Frag} {i : Nat} {σ : L2.St} {H : Hp} {v : V} {xs : List V} {R : It → Hp → Prop} (e : σ[i]? = some (some v)) (h : Sq K H v xs) (k : ∀ J, Walk J xs.length (Same H) (YAt xs) → R J H) : iSq K (tVar i) σ H R := by
  obtain ⟨a, rfl, h | h⟩ := h
  · exact .inl ⟨_, e, a, rfl, ⟨_, h⟩, k _ (walk_list.mono (fun G s => s.seq h) fun _ _ _ _ _ _ y => y)⟩
  · exact .inr ⟨_, e, a, rfl, ⟨_, h⟩, k _ (walk_tup.mono (fun G s => Same.tup s h) fun _ _ _ _ _ _ y => y)⟩
theorem rix_of {K : PySem.W.Frag} {H : Hp} {v x : V} {xs : List V} {z : Int} {i : Nat} {Q : VK} (h : Sq K H v xs) (ez : z = (i : Int)) (hx : xs[i]? = some x) (q : Q x H) : rIx K v (.int z) H Q := by
  obtain ⟨a, rfl, h | h⟩ := h
  · exact .inl ⟨a, xs, z, x, rfl, rfl, h, at_of ez hx, q⟩
  · exact .inr (.inl ⟨a, xs, z, x, rfl, rfl, h, at_of ez hx, q⟩)
theorem call_len_sq : CallR X (.builtin "len") (fun vs H Q => ∃ v xs, vs = [v] ∧ Sq X.K H v xs ∧ Q (.int xs.length) H) := by
  intro pins s σ H xs us Q I r h
  obtain ⟨v, ys, rfl, ⟨a, rfl, h⟩, q⟩ := h
  exact call_len_seq pins s σ H _ us Q I r ⟨a, ys, rfl, h, q⟩
end
/-- a row: a list or tuple of items, or neither -/
def RowD (K : PySem.W.Frag) (H : Hp) (x : V) : Option (List V) → Prop
  | some xs => Sq K H x xs ∧ (∀ y, y ∈ xs → Itm K H y) ∧ xs.length < 1000000
  | none => NoSq K H x
theorem RowD.same {K : PySem.W.Frag} {H G : Hp} (s : Same H G) {x : V} : ∀ {o : Option (List V)}, RowD K H x o → RowD K G x o
  | some xs, h => ⟨h.1.same s, fun y hy => (h.2.1 y hy).same s, h.2.2⟩
  | none, h => NoSq.same s h
def rb (n : Nat) : Option (List V) → Bool
  | some xs => decide ((n : Int) ≤ (xs.length : Int)) && decide ((xs.length : Int) ≤ (n : Int)) && xs.all (nb (n : Int))
  | none => false
def spAreRows (K : PySem.W.Frag) : Sp := fun vs H Q _ => ∃ v, vs = [v] ∧ ((NoSq K H v ∧ ∀ H', Same H H' → Q (.bl false) H') ∨
  ∃ rs os, Sq K H v rs ∧ Paired (RowD K H) rs os ∧ ∀ H', Same H H' → Q (.bl (decide ((1 : Int) ≤ (rs.length : Int)) && decide ((rs.length : Int) ≤ 16) && os.all (rb rs.length))) H')
theorem pair_at {α β : Type} {F : α → β → Prop} : ∀ {as : List α} {bs : List β} {i : Nat} {a : α}, Paired F as bs → as[i]? = some a → ∃ b, bs[i]? = some b ∧ F a b
  | _, _, _, _, .nil, e => by simp at e
  | _, _, 0, _, .cons h _, e => by simp at e; subst e; exact ⟨_, rfl, h⟩
  | _, _, i + 1, a, .cons _ t, e => by
    obtain ⟨b, h1, h2⟩ := pair_at (i := i) (a := a) t (by simpa using e)
    exact ⟨b, by simpa using h1, h2⟩
section
variable {P : Program} {w : World} {K : PySem.W.Frag} {mg : Str → Option Value} {base : Heap} {f g gn : Addr} {fd gd gnd : FuncData}
theorem scAreRows : FnScope ["rows", "size", "row"] ["rows"] (defScope sAreRows) := ⟨rfl, rfl, rfl, by decide +kernel, rfl, by decide +kernel, by decide +kernel⟩
theorem ok_arerows (F : Fun K "_are_rows" "_are_rows" sAreRows f fd) (M : Mn mg) (mL : ∃ t, mg "LARGEST_TABLE" = some (.int 16 t))
    (G : FnOk P w K mg base CX0 1 g gd ["value", "least", "most"] (spIsList K)) (bG : Binds K gd ["value", "least", "most"] []) (kG : PySem.W.keepIn K (.ref g) = true) (mG : mg "is_list" = some (.ref g))
    (N : FnOk P w K mg base CX0 3 gn gnd ["value", "least", "most", "limit"] (spNumList K)) (bN : Binds K gnd ["value", "least", "most", "limit"] []) (kN : PySem.W.keepIn K (.ref gn) = true) (mN : mg "is_number_list" = some (.ref gn)) :
    FnOk P w K mg base CX0 4 f fd ["rows"] (spAreRows K) := by
  refine F.ok scAreRows (fun vs H Q E h => ?_) (fun cdv A outer s H vs Q E hr h => ?_)
  · obtain ⟨v, rfl, _⟩ := h
    rfl
  obtain ⟨v, rfl, h⟩ := h
  obtain ⟨tok, mL⟩ := mL
  have hr1 : Room 1 _ := hr.mono (by decide)
  refine ⟨_, pss_cons (ps_if (pt_not (pt_val (pe_call G hr1 rfl mG kG bG .nil pass0 (pa_cons (pv 0) (pa_cons pe_int (pa_cons (pe_glob (v := .int 16) (by rfl) mL ⟨_, rfl⟩) pa_nil)))))) (pss_one (ps_ret pe_bl)) pss_nil)
    (pss_cons (ps_set (i := 1) scAreRows.nd rfl (Or.inr rfl) (pe_callB call_len_sq (by rfl) M.len PySem.boot_len (pa_cons (pv 0) pa_nil)))
    (pss_one (ps_ret (pe_callB (cr_all rfl) (by rfl) M.all (by decide +kernel) (pa_cons (pe_lc (own := [("row", 2)]) (g := gName 2) (tt := tYes) rfl scAreRows.nd (pi_sq (pv 0))
      (blkOk_by (N := ["rows", "size", "row"]) (sc := defScope sAreRows) (by decide +kernel)) (fun _ _ _ _ _ => pg_name (i := 2) scAreRows.nd rfl (Or.inl rfl)) (fun _ _ _ _ _ => pts_nil)
      (fun _ _ _ _ _ => pe_call N hr rfl mN kN bN .nil pass0 (pa_cons (pv 2) (pa_cons (pv 1) (pa_cons (pv 1) (pa_cons (pv 1) pa_nil)))))) pa_nil))))), ?_⟩
  rcases h with ⟨hs, q⟩ | ⟨rs, os, hs, pr, q⟩
  · exact ⟨_, rfl, v, 1, 16, rfl, .inr ⟨hs, fun J sJ => ⟨false, rfl, iteT (q J sJ)⟩⟩⟩
  · refine ⟨_, rfl, v, 1, 16, rfl, .inl ⟨rs, hs, fun J sJ => ⟨_, rfl, ?_⟩⟩⟩
    cases hc : (decide ((1 : Int) ≤ (rs.length : Int)) && decide ((rs.length : Int) ≤ 16)) with
    | false =>
      have q' := q J sJ
      rw [hc] at q'
      exact iteT q'
    | true =>
      have hl : rs.length ≤ 16 := by
        have := of_decide_eq_true (Bool.and_eq_true_iff.mp hc).2
        omega
      refine iteF ⟨_, rfl, v, rs, rfl, hs.same sJ, ?_⟩
      refine isq_of (v := v) rfl (hs.same sJ) fun It wk D hD => ?_
      refine lc_it wk (fun i J2 => Same J J2 ∧ J2 D = some (.lst (((os.take i).map (rb rs.length)).map V.bl))) ⟨fun b o e => by rw [upd_ne (ne_of_none e hD)]; exact e, upd_same⟩ (fun _ _ _ z => z.1) ?_ ?_
      · rintro i x Jz J2 hi ⟨s2, eD⟩ ⟨rfl, hx⟩
        obtain ⟨o, ho, hrow⟩ := pair_at pr hx
        have hrow' := hrow.same (sJ.trans s2)
        refine ⟨rfl, _, rfl, _, rfl, _, rfl, _, rfl, x, _, _, _, rfl, ?_⟩
        have fin : ∀ G2, Same J2 G2 → ∃ acc, G2 D = some (.lst acc) ∧ acc.length < sizeLine ∧ (Same J (upd G2 D (.lst (acc ++ [V.bl (rb rs.length o)]))) ∧ (upd G2 D (.lst (acc ++ [V.bl (rb rs.length o)]))) D = some (.lst (((os.take (i + 1)).map (rb rs.length)).map V.bl))) := fun G2 s3 => by
          refine ⟨_, s3 _ _ eD, ?_, fun b o e => by rw [upd_ne (ne_of_none e hD)]; exact s3 _ _ (s2 b o e), ?_⟩
          · rw [List.length_map, List.length_map, List.length_take, sizeLine_eq]; omega
          · rw [upd_same, List.take_add_one, ho, List.map_append, List.map_append]; rfl
        cases o with
        | none => exact .inr ⟨hrow', fun G2 s3 => fin G2 s3⟩
        | some xs => exact .inl ⟨xs, hrow'.1, hrow'.2.1, hrow'.2.2, fun G2 s3 => fin G2 s3⟩
      · rintro J2 ⟨s2, eD⟩
        have tk : os.take rs.length = os := by rw [show rs.length = os.length from pr.length]; exact List.take_length
        rw [tk] at eD
        refine ⟨D, _, rfl, SqL.of eD, ?_⟩
        have e2 : (os.map (rb rs.length)).all id = os.all (rb rs.length) := by rw [List.all_map]; rfl
        have q' := q J2 (sJ.trans s2)
        rw [hc] at q'
        rw [e2]
        exact q'
end
/-- the rows tb are to be read at v -/
def Rws (K : PySem.W.Frag) (H : Hp) (v : V) (tb : List (List Int)) : Prop := ∃ rs, Sq K H v rs ∧ Paired (fun x row => Sq K H x (row.map V.int)) rs tb
theorem Rws.same {K : PySem.W.Frag} {H G : Hp} (s : Same H G) {v : V} {tb : List (List Int)} (h : Rws K H v tb) : Rws K G v tb :=
  let ⟨rs, a, b⟩ := h
  ⟨rs, a.same s, L2.Paired.mapP b fun _ _ z => z.same s⟩
theorem Rws.len {K : PySem.W.Frag} {H : Hp} {v : V} {tb : List (List Int)} {rs : List V} (b : Paired (fun x row => Sq K H x (row.map V.int)) rs tb) : rs.length = tb.length := b.length
/-- rows[i], then its item j -/
theorem Rws.at_ {K : PySem.W.Frag} {H : Hp} {v : V} {tb : List (List Int)} (h : Rws K H v tb) (S : Sqr tb) {i : Nat} (hi : i < tb.length) :
    ∃ rs x, Sq K H v rs ∧ rs[i]? = some x ∧ Sq K H x ((tb.getD i []).map V.int) ∧ ∀ j, j < tb.length → ((tb.getD i []).map V.int)[j]? = some (.int (mu tb i j)) := by
  obtain ⟨rs, a, b⟩ := h
  have hi' : i < rs.length := by rw [b.length]; exact hi
  obtain ⟨row, h1, h2⟩ := pair_at b (List.getElem?_eq_getElem hi')
  have e : tb.getD i [] = row := by rw [List.getD_eq_getElem?_getD, h1]; rfl
  refine ⟨rs, rs[i], a, List.getElem?_eq_getElem hi', by rw [e]; exact h2, fun j hj => ?_⟩
  have hr : row.length = tb.length := S.row row (List.mem_of_getElem? h1)
  unfold mu
  rw [e, List.getElem?_map, List.getElem?_eq_getElem (by omega), List.getD_eq_getElem?_getD, List.getElem?_eq_getElem (by omega)]
  rfl
def lexlt (x y : Nat × Nat × Nat) : Prop := x.1 < y.1 ∨ (x.1 = y.1 ∧ (x.2.1 < y.2.1 ∨ (x.2.1 = y.2.1 ∧ x.2.2 < y.2.2)))
def spWrong (K : PySem.W.Frag) : Sp := fun vs H Q _ => ∃ v tb, vs = [v] ∧ Rws K H v tb ∧ Sqr tb ∧
  ((∀ a b c, a < tb.length → b < tb.length → c < tb.length → rt tb a b c) → Q .non H) ∧
  (∀ a b c, a < tb.length → b < tb.length → c < tb.length → ¬ rt tb a b c →
    (∀ a' b' c', a' < tb.length → b' < tb.length → c' < tb.length → lexlt (a', b', c') (a, b, c) → rt tb a' b' c') → ∀ p, H p = none → Q (.ref p) (upd H p (.tup [.int a, .int b, .int c])))
/-- a product table stands at p -/
structure TbA (K : PySem.W.Frag) (C : Addr) (H : Hp) (p : Addr) (tb : List (List Int)) : Prop where
  ob : ∃ dx t rs, H p = some (.ins C dx [("_rows", .ref t)]) ∧ SqT K H t rs ∧ Paired (fun x row => ∃ r, x = V.ref r ∧ SqT K H r (row.map V.int)) rs tb
def spInit (K : PySem.W.Frag) (C : Addr) : Sp := fun vs H Q _ => ∃ p dx v tb, vs = [.ref p, v] ∧ H p = some (.ins C dx []) ∧ Rws K H v tb ∧ Sqr tb ∧ (∀ a b c, a < tb.length → b < tb.length → c < tb.length → rt tb a b c) ∧
  (∀ a, v = .ref a → a ≠ p) ∧ ∀ H', TbA K C H' p tb → (∀ b o, b ≠ p → H b = some o → H' b = some o) → Q .non H'
section
variable {P : Program} {w : World} {K : PySem.W.Frag} {mg : Str → Option Value} {base : Heap} {f g gn : Addr} {fd gd gnd : FuncData}
theorem scWrong : FnScope ["rows", "size", "a", "b", "c"] ["rows"] (defScope sWrong) := ⟨rfl, rfl, rfl, by decide +kernel, rfl, by decide +kernel, by decide +kernel⟩
theorem ok_wrong (F : Fun K "_first_wrong_triple" "_first_wrong_triple" sWrong f fd) (M : Mn mg) : FnOk P w K mg base CX0 1 f fd ["rows"] (spWrong K) := by
  refine F.ok scWrong (fun vs H Q E h => ?_) (fun cdv A outer s H vs Q E hr h => ?_)
  · obtain ⟨v, tb, rfl, _⟩ := h
    rfl
  obtain ⟨v, tb, rfl, hR, S, q1, q2⟩ := h
  have ix : ∀ {X : Cx}, IxR X (rIx X.K) := fun {X} => ix_seq
  refine ⟨_, pss_cons (ps_set (i := 1) scWrong.nd rfl (Or.inl rfl) (pe_callB call_len_sq (by rfl) M.len PySem.boot_len (pa_cons (pv 0) pa_nil)))
    (pss_cons (ps_for PassesOwn.never rfl (pi_range1 (by rfl) M.range (pa_cons (pv 1) pa_nil)) (pg_name (i := 2) scWrong.nd rfl (Or.inl rfl))
      (pss_one (ps_for PassesOwn.never rfl (pi_range1 (by rfl) M.range (pa_cons (pv 1) pa_nil)) (pg_name (i := 3) scWrong.nd rfl (Or.inl rfl))
        (pss_one (ps_for PassesOwn.never rfl (pi_range1 (by rfl) M.range (pa_cons (pv 1) pa_nil)) (pg_name (i := 4) scWrong.nd rfl (Or.inl rfl))
          (pss_one (ps_if (pt_cmpR op_ne (pe_ix ix_seq (pe_ix ix_seq (pv 0) (pe_ix ix_seq (pe_ix ix_seq (pv 0) (pv 2) (fun _ _ => rfl)) (pv 3) (fun _ _ => rfl)) (fun _ _ => rfl)) (pv 4) (fun _ _ => rfl))
            (pe_ix ix_seq (pe_ix ix_seq (pv 0) (pv 2) (fun _ _ => rfl)) (pe_ix ix_seq (pe_ix ix_seq (pv 0) (pv 3) (fun _ _ => rfl)) (pv 4) (fun _ _ => rfl)) (fun _ _ => rfl)) (nomark _))
            (pss_one (ps_ret (pe_tup (pa_cons (pv 2) (pa_cons (pv 3) (pa_cons (pv 4) pa_nil)))))) pss_nil)))))))
    (pss_one (ps_ret pe_non))), ?_⟩
  have n16 := S.ge
  obtain ⟨rs0, hs0, pr0⟩ := id hR
  have l0 : rs0.length = tb.length := pr0.length
  refine ⟨_, rfl, v, rs0, rfl, hs0, ?_⟩
  rw [l0]
  refine ⟨_, rfl, (tb.length : Int), rfl, by omega, by omega, ?_⟩
  refine for_range (lo := 0) (n := tb.length) (fun a σ J => H = J ∧ (∃ x y z, σ = [some v, some (.int tb.length), x, y, z]) ∧ ∀ a' b c, a' < a → b < tb.length → c < tb.length → rt tb a' b c)
    ⟨rfl, ⟨_, _, _, rfl⟩, fun _ _ _ z => absurd z (Nat.not_lt_zero _)⟩ ?_ ?_
  · rintro a _ _ ha ⟨rfl, ⟨x, y, z, rfl⟩, hA⟩
    refine ⟨_, rfl, (tb.length : Int), rfl, by omega, by omega, ?_⟩
    refine for_range (lo := 0) (n := tb.length) (fun b σ J => H = J ∧ (∃ y z, σ = [some v, some (.int tb.length), some (.int (0 + (a : Int))), y, z]) ∧ ∀ b' c, b' < b → c < tb.length → rt tb a b' c)
      ⟨rfl, ⟨_, _, rfl⟩, fun _ _ z => absurd z (Nat.not_lt_zero _)⟩ ?_ ?_
    · rintro b _ _ hb ⟨rfl, ⟨y, z, rfl⟩, hB⟩
      refine ⟨_, rfl, (tb.length : Int), rfl, by omega, by omega, ?_⟩
      refine for_range (lo := 0) (n := tb.length) (fun c σ J => H = J ∧ (∃ z, σ = [some v, some (.int tb.length), some (.int (0 + (a : Int))), some (.int (0 + (b : Int))), z]) ∧ ∀ c', c' < c → rt tb a b c')
        ⟨rfl, ⟨_, rfl⟩, fun _ z => absurd z (Nat.not_lt_zero _)⟩ ?_ ?_
      · rintro c _ _ hc ⟨rfl, ⟨z, rfl⟩, hC⟩
        obtain ⟨ra, xa, sa, ea, ta, ga⟩ := hR.at_ S ha
        obtain ⟨rb', xb, sb, eb, tb', gb⟩ := hR.at_ S hb
        have e1 := S.el a b ha hb
        have e2 := S.el b c hb hc
        obtain ⟨rm, xm, sm, em, tm, gm⟩ := hR.at_ S (i := (mu tb a b).toNat) (by omega)
        refine ⟨_, rfl, _, rfl, _, rfl, rix_of sa (by omega) ea ⟨_, rfl, rix_of ta (by omega) (ga b hb) (rix_of sm (by omega) em ⟨_, rfl, rix_of tm (by omega) (gm c hc) ?_⟩)⟩⟩
        refine ⟨_, rfl, _, rfl, rix_of sa (by omega) ea ⟨_, rfl, _, rfl, rix_of sb (by omega) eb ⟨_, rfl, rix_of tb' (by omega) (gb c hc) (rix_of ta (i := (mu tb b c).toNat) (by omega) (ga _ (by omega)) ⟨rfl, _, rfl, ?_⟩)⟩⟩⟩
        have ed : ∀ x y : Int, (!decide (V.int x = V.int y)) = true ↔ x ≠ y := fun x y => by
          rw [Bool.not_eq_true', decide_eq_false_iff_not]
          exact ⟨fun h e => h (by rw [e]), fun h e => h (V.int.inj e)⟩
        refine ite2 (fun k => ?_) (fun k => ?_)
        · have nr : ¬ rt tb a b c := (ed _ _).mp k
          refine ⟨_, rfl, _, rfl, _, rfl, (by show 3 ≤ sizeLine; decide), fun p hp => ?_⟩
          have q' := q2 a b c ha hb hc nr (fun a' b' c' h1 h2 h3 hl => by
            rcases hl with hl | ⟨rfl, hl | ⟨rfl, hl⟩⟩
            · exact hA a' b' c' hl h2 h3
            · exact hB b' c' hl h3
            · exact hC c' hl) p hp
          have z0 : ∀ n : Nat, (0 : Int) + (n : Int) = (n : Int) := fun n => Int.zero_add _
          rw [z0, z0, z0]
          exact q'
        · refine ⟨rfl, ⟨_, rfl⟩, fun c' hc' => ?_⟩
          rcases Nat.lt_succ_iff_lt_or_eq.mp hc' with h | rfl
          · exact hC c' h
          · exact Classical.byContradiction fun nr => k ((ed _ _).mpr nr)
      · rintro _ _ ⟨rfl, ⟨z, rfl⟩, hC⟩
        refine ⟨rfl, ⟨_, _, rfl⟩, fun b' c' h1 h2 => ?_⟩
        rcases Nat.lt_succ_iff_lt_or_eq.mp h1 with h | rfl
        · exact hB b' c' h h2
        · exact hC c' h2
    · rintro _ _ ⟨rfl, ⟨y, z, rfl⟩, hB⟩
      refine ⟨rfl, ⟨_, _, _, rfl⟩, fun a' b' c' h1 h2 h3 => ?_⟩
      rcases Nat.lt_succ_iff_lt_or_eq.mp h1 with h | rfl
      · exact hA a' b' c' h h2 h3
      · exact hB b' c' h2 h3
  · rintro _ _ ⟨rfl, ⟨x, y, z, rfl⟩, hA⟩
    exact q1 fun a b c h1 h2 h3 => hA a b c h1 h2 h3
end

section
variable {X : Cx}
/-- x is not True, x an int or a truth value -/
theorem op_notIB : OpR X (compareOp .IsNot) (fun x y H Q => ∃ b : Bool, y = .bl b ∧ ((∃ a : Bool, x = .bl a ∧ Q (.bl (!decide (a = b))) H) ∨ (∃ i, x = .int i ∧ Q (.bl true) H))) := by
  intro pins s σ H x y v u Q I rx ry h
  obtain ⟨b, rfl, h⟩ := h
  cases (show u = Value.bool b from ry)
  rcases h with ⟨a, rfl, q⟩ | ⟨i, rfl, q⟩
  · cases (show v = Value.bool a from rx)
    by_cases e : a = b
    · subst e
      exact wpAny_isNot_self rfl ⟨.bl false, H, I, rfl, by simpa using q⟩
    · exact wpAny_isNot_other rfl (fun z => e (Value.bool.inj z)) ⟨.bl true, H, I, rfl, by simpa [e] using q⟩
  · obtain ⟨t, rfl⟩ := (show ∃ t, v = Value.int i t from rx)
    exact wpAny_isNot_other rfl (fun z => nomatch z) ⟨.bl true, H, I, rfl, q⟩
end
/-- tuple(x), the written part told -/
def rTpl (K : PySem.W.Frag) : List V → Hp → VK → Prop := fun xs H Q => ∃ (p : Addr) (ys : List V), xs = [.ref p] ∧ ((SqL K H p ys ∧ ∀ l, H l = none → Q (.ref l) (upd H l (.tup ys))) ∨ (SqT K H p ys ∧ Q (.ref p) H))
theorem ctuple {X : Cx} {K : PySem.W.Frag} (hK : X.K = K) : CallR X (.type "tuple") (rTpl K) := by
  subst hK
  exact call_tuple_of
/-- what the checks of a class's instances need of the class -/
structure CTx (K : PySem.W.Frag) (mg : Str → Option Value) (C : Addr) : Prop where
  cl : Cls K C
  nR : NoAttr K C "_rows"
  mgC : mg "ProductTable" = some (.ref C)
theorem pair_map {α β γ : Type} {F : α → β → Prop} {G : α → γ → Prop} {g : β → γ} : ∀ {as : List α} {bs : List β}, Paired F as bs → (∀ a b, b ∈ bs → F a b → G a (g b)) → Paired G as (bs.map g)
  | _, _, .nil, _ => .nil
  | _, _, .cons h t, k => .cons (k _ _ List.mem_cons_self h) (pair_map t fun a b m => k a b (List.mem_cons_of_mem _ m))
theorem SqT.upd {K : PySem.W.Frag} {H : Hp} {p r C dx : Addr} {fs : List (Str × V)} {xs : List V} {o : HO} (hp : H p = some (.ins C dx fs)) (h : SqT K H r xs) : SqT K (upd H p o) r xs := by
  rcases h with (h | ⟨ob, h⟩) | h
  · exact .inl (.inl (by rw [upd_ne (ne_of h hp (by intro z; cases z))]; exact h))
  · exact .inl (.inr ⟨ob, by rw [upd_ne (ne_of h hp (by intro z; cases z))]; exact h⟩)
  · exact .inr h
theorem rows_true {tb : List (List Int)} (S : Sqr tb) : (decide ((1 : Int) ≤ (tb.length : Int)) && decide ((tb.length : Int) ≤ 16) && (tb.map fun row => some (row.map V.int)).all (rb tb.length)) = true := by
  have h1 := S.le
  have h2 := S.ge
  rw [decide_eq_true (show (1 : Int) ≤ (tb.length : Int) by omega), decide_eq_true (show (tb.length : Int) ≤ 16 by omega)]
  rw [List.all_map]
  show (tb.all _) = true
  rw [List.all_eq_true]
  intro row hr
  obtain ⟨i, hi, rfl⟩ := List.mem_iff_getElem.mp hr
  have hl := S.row _ hr
  show (decide ((tb.length : Int) ≤ ((tb[i].map V.int).length : Int)) && decide (((tb[i].map V.int).length : Int) ≤ (tb.length : Int)) && (tb[i].map V.int).all (nb (tb.length : Int))) = true
  rw [List.length_map, hl, decide_eq_true (Int.le_refl _), Bool.true_and, Bool.true_and, List.all_map, List.all_eq_true]
  intro m hm
  obtain ⟨j, hj, rfl⟩ := List.mem_iff_getElem.mp hm
  have e := S.el i j hi (by omega)
  have em : mu tb i j = tb[i][j] := by
    unfold mu
    rw [List.getD_eq_getElem?_getD, List.getD_eq_getElem?_getD, List.getElem?_eq_getElem hi]
    show (tb[i][j]?).getD 0 = _
    rw [List.getElem?_eq_getElem hj]; rfl
  rw [em] at e
  show (decide (0 ≤ tb[i][j]) && decide (tb[i][j] < (tb.length : Int))) = true
  rw [decide_eq_true e.1, decide_eq_true e.2]; rfl
theorem rows_rowd {K : PySem.W.Frag} {H : Hp} {tb : List (List Int)} {rs : List V} (S : Sqr tb) (h : Paired (fun x row => Sq K H x (row.map V.int)) rs tb) : Paired (RowD K H) rs (tb.map fun row => some (row.map V.int)) :=
  pair_map h fun x row hm z => ⟨z, fun y hy => by obtain ⟨i, _, rfl⟩ := List.mem_map.mp hy; exact .inl ⟨i, rfl⟩, by
    have h1 := S.row row hm
    have h2 := S.ge
    rw [List.length_map]; omega⟩
section
variable {P : Program} {w : World} {K : PySem.W.Frag} {mg : Str → Option Value} {base : Heap} {f g gn : Addr} {fd gd gnd : FuncData}
theorem scInit : FnScope ["self", "rows", "triple", "row"] ["self", "rows"] (defScope sInit) := ⟨rfl, rfl, rfl, by decide +kernel, rfl, by decide +kernel, by decide +kernel⟩
theorem ok_init {C : Addr} (F : Fun K "__init__" "ProductTable.__init__" sInit f fd) (M : Mn mg) (T : CTx K mg C)
    (G : FnOk P w K mg base CX0 4 g gd ["rows"] (spAreRows K)) (bG : Binds K gd ["rows"] []) (kG : PySem.W.keepIn K (.ref g) = true) (mG : mg "_are_rows" = some (.ref g))
    (N : FnOk P w K mg base CX0 1 gn gnd ["rows"] (spWrong K)) (bN : Binds K gnd ["rows"] []) (kN : PySem.W.keepIn K (.ref gn) = true) (mN : mg "_first_wrong_triple" = some (.ref gn)) :
    FnOk P w K mg base CX0 5 f fd ["self", "rows"] (spInit K C) := by
  refine F.ok scInit (fun vs H Q E h => ?_) (fun cdv A outer s H vs Q E hr h => ?_)
  · obtain ⟨p, dx, v, tb, rfl, _⟩ := h
    rfl
  obtain ⟨p, dx, v, tb, rfl, hp, hR, S, as, _, q⟩ := h
  have hr1 : Room 1 _ := hr.mono (by decide)
  refine ⟨_, pss_cons (ps_if (pt_not (pt_val (pe_call G hr rfl mG kG bG .nil pass0 (pa_cons (pv 1) pa_nil)))) pss_dead pss_nil)
    (pss_cons (ps_set (i := 2) scInit.nd rfl (Or.inl rfl) (pe_call N hr1 rfl mN kN bN .nil pass0 (pa_cons (pv 1) pa_nil)))
    (pss_cons (ps_if (pt_cmp (pc_notN (pv 2))) pss_dead pss_nil)
    (pss_one (ps_fld (pv 0) (pe_callTy call_tuple_of (by rfl) M.tuple (by decide +kernel) (pa_cons (pe_lc (own := [("row", 3)]) (g := gName 3) (tt := tYes) rfl scInit.nd (pi_sq (pv 1))
      (blkOk_by (N := ["self", "rows", "triple", "row"]) (sc := defScope sInit) (by decide +kernel)) (fun _ _ _ _ _ => pg_name (i := 3) scInit.nd rfl (Or.inl rfl)) (fun _ _ _ _ _ => pts_nil)
      (fun _ _ _ _ _ => pe_callTy (T := "tuple") (ctuple (K := K) rfl) (by rfl) M.tuple (by decide +kernel) (pa_cons (pv 3) pa_nil))) pa_nil)) rfl)))), ?_⟩
  obtain ⟨rs, hs, pr⟩ := id hR
  have ln : rs.length = tb.length := pr.length
  refine ⟨_, rfl, v, rfl, .inr ⟨rs, _, hs, rows_rowd S pr, fun J sJ => ⟨_, rfl, ?_⟩⟩⟩
  rw [ln, rows_true S]
  refine iteF ⟨_, rfl, v, tb, rfl, hR.same sJ, S, fun _ => ?_, fun a b c ha hb hc n => absurd (as a b c ha hb hc) n⟩
  refine ⟨_, rfl, _, rfl, iteF ?_⟩
  refine isq_of (v := v) rfl (hs.same sJ) fun It wk D hD => ?_
  rw [ln] at wk
  refine lc_it wk (fun i J2 => Same J J2 ∧ ∃ ts : List Addr, J2 D = some (.lst (ts.map V.ref)) ∧ ts.length = i ∧ Paired (fun r row => SqT K J2 r (row.map V.int)) ts (tb.take i))
    ⟨fun b o e => by rw [upd_ne (ne_of_none e hD)]; exact e, [], upd_same, rfl, .nil⟩ (fun _ _ _ z => z.1) ?_ ?_
  · rintro i x Jz J2 hi ⟨s2, ts, eD, lt, pt⟩ ⟨rfl, hx⟩
    obtain ⟨row, hrow, hsq⟩ := pair_at pr hx
    have tk : tb.take (i + 1) = tb.take i ++ [row] := by rw [List.take_add_one, hrow]; rfl
    have n16 := S.ge
    have app : ∀ {as : List Addr} {bs : List (List Int)} {F : Addr → List Int → Prop} {c : Addr} {kv : List Int}, Paired F as bs → F c kv → Paired F (as ++ [c]) (bs ++ [kv]) := by
      intro as bs F c kv h hc
      induction h with
      | nil => exact .cons hc .nil
      | cons h1 _ ih => exact .cons h1 ih
    have fin : ∀ (r : Addr) (J3 : Hp), Same J2 J3 → SqT K J3 r (row.map V.int) → ∃ acc, J3 D = some (.lst acc) ∧ acc.length < sizeLine ∧ (Same J (upd J3 D (.lst (acc ++ [V.ref r]))) ∧
        ∃ ts' : List Addr, (upd J3 D (.lst (acc ++ [V.ref r]))) D = some (.lst (ts'.map V.ref)) ∧ ts'.length = i + 1 ∧ Paired (fun c row => SqT K (upd J3 D (.lst (acc ++ [V.ref r]))) c (row.map V.int)) ts' (tb.take (i + 1))) := fun r J3 s3 hr3 => by
      have keep : ∀ {c : Addr} {xs : List V} {acc : List V}, SqT K J3 c xs → SqT K (upd J3 D (.lst acc)) c xs := fun {c xs acc} h => by
        have e3 := s3 _ _ eD
        rcases h with (h | ⟨ob, h⟩) | h
        · exact .inl (.inl (by rw [upd_ne (ne_of h e3 (by intro z; cases z))]; exact h))
        · exact .inl (.inr ⟨ob, by rw [upd_ne (ne_of h e3 (by intro z; cases z))]; exact h⟩)
        · exact .inr h
      refine ⟨_, s3 _ _ eD, ?_, fun b o e => by rw [upd_ne (ne_of_none e hD)]; exact s3 _ _ (s2 b o e), ts ++ [r], ?_, by simp [lt], ?_⟩
      · rw [List.length_map, lt, sizeLine_eq]; omega
      · rw [upd_same, List.map_append]; rfl
      · rw [tk]
        exact app (L2.Paired.mapP pt fun c row' h => keep (Same.tup s3 h)) (keep hr3)
    obtain ⟨a, rfl, ha | ha⟩ := hsq.same (sJ.trans s2)
    · exact ⟨rfl, _, rfl, a, _, rfl, .inl ⟨ha, fun l hl => fin l _ (Same.new hl _) (SqT.of upd_same)⟩⟩
    · exact ⟨rfl, _, rfl, a, _, rfl, .inr ⟨ha, fin a J2 (Same.refl _) ha⟩⟩
  · rintro J2 ⟨s2, ts, eD, lt, pt⟩
    rw [List.take_of_length_le (Nat.le_refl _)] at pt
    refine ⟨D, _, rfl, .inl ⟨SqL.of eD, fun t ht => ?_⟩⟩
    have s3 : Same H (upd J2 t (.tup (ts.map V.ref))) := (sJ.trans s2).trans (Same.new ht _)
    refine ⟨_, rfl, p, C, dx, [], rfl, s3 _ _ hp, T.cl, T.nR, (by show 0 < 1000; decide), ?_⟩
    refine q _ ⟨dx, t, ts.map V.ref, upd_same, SqT.upd (s3 _ _ hp) (SqT.of upd_same), ?_⟩ fun b o hb e => by rw [upd_ne hb]; exact s3 _ _ e
    have h1 : Paired (fun r row => SqT K (upd (upd J2 t (.tup (ts.map V.ref))) p (.ins C dx [("_rows", .ref t)])) r (row.map V.int)) ts tb := L2.Paired.mapP pt fun c row h => SqT.upd (s3 _ _ hp) (Same.tup (Same.new ht _) h)
    have h2 : ∀ {as : List Addr} {bs : List (List Int)} {Fn : Addr → List Int → Prop}, Paired Fn as bs → Paired (fun x row => ∃ r, x = V.ref r ∧ Fn r row) (as.map V.ref) bs := by
      intro as bs Fn h
      induction h with
      | nil => exact .nil
      | cons h1 _ ih => exact .cons ⟨_, rfl, h1⟩ ih
    exact h2 h1
end
end L

set_option Elab.async false
set_option linter.all false
set_option maxRecDepth 100000
set_option maxHeartbeats 4000000
namespace L
open PySem L2 KX
abbrev sPlain : Stmt := top 58
abbrev sExt : Stmt := top 59
abbrev sGrid : Stmt := top 60
abbrev sPairs : Stmt := top 62
/-- a list of lists of ints stands at v -/
def RowsL (G : Hp) (v : V) (tb : List (List Int)) : Prop := ∃ a rs, v = .ref a ∧ G a = some (.lst (rs.map V.ref)) ∧ Paired (fun r row => G r = some (.lst (row.map V.int))) rs tb
theorem RowsL.same {G J : Hp} {v : V} {tb : List (List Int)} (s : Same G J) (h : RowsL G v tb) : RowsL J v tb := let ⟨a, rs, e, h1, h2⟩ := h; ⟨a, rs, e, s _ _ h1, L2.Paired.mapP h2 fun _ _ z => s _ _ z⟩
theorem pair_refs {K : PySem.W.Frag} {G : Hp} {rs : List Addr} {tb : List (List Int)} (h : Paired (fun r row => G r = some (.lst (row.map V.int))) rs tb) : Paired (fun x row => Sq K G x (row.map V.int)) (rs.map V.ref) tb := by
  induction h with
  | nil => exact .nil
  | cons h _ ih => exact .cons ⟨_, rfl, .inl (SqL.of h)⟩ ih
theorem RowsL.rws {K : PySem.W.Frag} {G : Hp} {v : V} {tb : List (List Int)} (h : RowsL G v tb) : Rws K G v tb := let ⟨a, rs, e, h1, h2⟩ := h; ⟨rs.map V.ref, ⟨a, e, .inl (SqL.of h1)⟩, pair_refs h2⟩
theorem pair_app {α β : Type} {F : α → β → Prop} {as : List α} {bs : List β} {a : α} {b : β} (h : Paired F as bs) (k : F a b) : Paired F (as ++ [a]) (bs ++ [b]) := by
  induction h with
  | nil => exact .cons k .nil
  | cons h1 _ ih => exact .cons h1 ih
/-- a list of new rows is being made at fa -/
structure Part (H J : Hp) (fa : Addr) (rows : List (List Int)) : Prop where
  same : Same H J
  new : H fa = none
  at_ : ∃ rs, J fa = some (.lst (rs.map V.ref)) ∧ Paired (fun r row => r ≠ fa ∧ H r = none ∧ J r = some (.lst (row.map V.int))) rs rows
theorem Part.to {H J G : Hp} {fa : Addr} {rows : List (List Int)} (h : Part H J fa rows) (s : Same J G) : Part H G fa rows :=
  let ⟨rs, e, p⟩ := h.at_
  ⟨h.same.trans s, h.new, rs, s _ _ e, L2.Paired.mapP p fun _ _ z => ⟨z.1, z.2.1, s _ _ z.2.2⟩⟩
theorem Part.start {H G : Hp} {fa : Addr} (s : Same H G) (h : G fa = none) : Part H (upd G fa (.lst [])) fa [] := ⟨s.trans (Same.new h _), s.free h, [], upd_same, .nil⟩
theorem Part.add {H J G : Hp} {fa q : Addr} {rows : List (List Int)} {row : List Int} (h : Part H J fa rows) (s : Same J G) (n : J q = none) (e : G q = some (.lst (row.map V.int))) :
    ∃ acc, G fa = some (.lst acc) ∧ acc.length = rows.length ∧ Part H (upd G fa (.lst (acc ++ [V.ref q]))) fa (rows ++ [row]) := by
  obtain ⟨rs, e1, p⟩ := (h.to s).at_
  obtain ⟨rs0, e0, _⟩ := h.at_
  have nq : q ≠ fa := (ne_of_none e0 n).symm
  refine ⟨_, e1, by rw [List.length_map]; exact p.length, fun b o eb => ?_, h.new, rs ++ [q], by rw [upd_same, List.map_append]; rfl, ?_⟩
  · rw [upd_ne (ne_of_none eb h.new)]; exact (h.to s).same _ _ eb
  · refine pair_app (L2.Paired.mapP p fun r row z => ⟨z.1, z.2.1, by rw [upd_ne z.1]; exact z.2.2⟩) ⟨nq, h.same.free n, by rw [upd_ne nq]; exact e⟩
theorem Part.fin {H J : Hp} {fa : Addr} {tb : List (List Int)} (h : Part H J fa tb) : RowsL (nw H J) (.ref fa) tb :=
  let ⟨rs, e, p⟩ := h.at_
  ⟨fa, rs, rfl, by rw [nw_at h.new]; exact e, L2.Paired.mapP p fun _ _ z => by rw [nw_at z.2.1]; exact z.2.2⟩
/-- what a table's row holds ahead of place b -/
def rowTo (f : Nat → Nat → Nat) (a b : Nat) : List Int := (List.range b).map fun b => ((f a b : Nat) : Int)
theorem rowTo_next {f : Nat → Nat → Nat} {a b : Nat} : rowTo f a (b + 1) = rowTo f a b ++ [((f a b : Nat) : Int)] := by unfold rowTo; rw [List.range_succ, List.map_append]; rfl
theorem rowTo_len {f : Nat → Nat → Nat} {a b : Nat} : ((rowTo f a b).map V.int).length = b := by unfold rowTo; rw [List.length_map, List.length_map, List.length_range]
/-- the rows ahead of row a -/
def rowsTo (n : Nat) (f : Nat → Nat → Nat) (a : Nat) : List (List Int) := (List.range a).map fun a => rowTo f a n
theorem rowsTo_next {n : Nat} {f : Nat → Nat → Nat} {a : Nat} : rowsTo n f (a + 1) = rowsTo n f a ++ [rowTo f a n] := by unfold rowsTo; rw [List.range_succ, List.map_append]; rfl
theorem rowsTo_len {n : Nat} {f : Nat → Nat → Nat} {a : Nat} : (rowsTo n f a).length = a := by unfold rowsTo; rw [List.length_map, List.length_range]
theorem rowsTo_all {n : Nat} {f : Nat → Nat → Nat} : rowsTo n f n = tab n f := rfl
theorem z0 (n : Nat) : (0 : Int) + (n : Int) = (n : Int) := Int.zero_add _
def spPlain : Sp := fun vs H Q _ => ∃ kind n : Nat, vs = [.int kind, .int n] ∧ kind < 6 ∧ 1 ≤ n ∧ n ≤ 16 ∧ ∀ v H', RowsL (nw H H') v (tab n (fpl kind n)) → Same H H' → Q v H'
section
variable {P : Program} {w : World} {K : PySem.W.Frag} {mg : Str → Option Value} {base : Heap} {f g gn : Addr} {fd gd gnd : FuncData}
theorem scPlain : FnScope ["kind", "n", "found", "a", "row", "b", "some"] ["kind", "n"] (defScope sPlain) := ⟨rfl, rfl, rfl, by decide +kernel, rfl, by decide +kernel, by decide +kernel⟩
theorem ok_plain (F : Fun K "_law_plain" "_law_plain" sPlain f fd) (M : Mn mg) : FnOk P w K mg base CX0 1 f fd ["kind", "n"] spPlain := by
  refine F.ok scPlain (fun vs H Q E h => ?_) (fun cdv A outer s H vs Q E hr h => ?_)
  · obtain ⟨kind, n, rfl, _⟩ := h
    rfl
  obtain ⟨kind, n, rfl, hk, h1, h16, q⟩ := h
  refine ⟨_, pss_cons (ps_set (i := 2) scPlain.nd rfl (Or.inl rfl) (pe_lst pa_nil))
    (pss_cons (ps_for PassesOwn.never rfl (pi_range1 (by rfl) M.range (pa_cons (pv 1) pa_nil)) (pg_name (i := 3) scPlain.nd rfl (Or.inl rfl))
      (pss_cons (ps_set (i := 4) scPlain.nd rfl (Or.inl rfl) (pe_lst pa_nil))
      (pss_cons (ps_for PassesOwn.never rfl (pi_range1 (by rfl) M.range (pa_cons (pv 1) pa_nil)) (pg_name (i := 5) scPlain.nd rfl (Or.inl rfl))
        (pss_cons (ps_set (i := 6) scPlain.nd rfl (Or.inl rfl) (pe_lst (pa_cons (pv 3) (pa_cons (pv 5) (pa_cons (pe_callB (call_min2 rfl) (by rfl) M.min (by decide +kernel) (pa_cons (pv 3) (pa_cons (pv 5) pa_nil)))
          (pa_cons (pe_op op_mod (pe_op op_add (pv 3) (pv 5)) (pv 1)) pa_nil))))))
        (pss_one (ps_expr (pe_bm PySem.F.plainAttrs_list PySem.F.slot_list_append PySem.F.type_list_append mt_append (pv 4) (pa_cons (pe_ix ix_list (pe_op op_cat (pv 6)
          (pe_lst (pa_cons (pe_callB (call_min2 rfl) (by rfl) M.min (by decide +kernel) (pa_cons (pe_op op_add (pv 3) (pv 5)) (pa_cons (pe_op op_sub (pv 1) pe_int) pa_nil)))
            (pa_cons (pe_mo (pe_ifExp (pt_cmpR op_gt (pv 3) pe_int (nomark _)) (pv 3) (pv 5))) pa_nil)))) (pv 0) (fun _ _ => rfl)) pa_nil))))))
      (pss_one (ps_expr (pe_bm PySem.F.plainAttrs_list PySem.F.slot_list_append PySem.F.type_list_append mt_append (pv 2) (pa_cons (pv 4) pa_nil)))))))
    (pss_one (ps_ret (pv 2)))), ?_⟩
  refine ⟨(by show 0 ≤ sizeLine; decide), fun fa hfa => ?_⟩
  refine ⟨_, rfl, (n : Int), rfl, by omega, by omega, ?_⟩
  refine for_range (lo := 0) (n := (n : Int).toNat) (fun a σ J => Part H J fa (rowsTo n (fpl kind n) a) ∧ ∃ x3 x4 x5 x6, σ = [some (.int kind), some (.int n), some (.ref fa), x3, x4, x5, x6])
    ⟨Part.start (Same.refl H) hfa, _, _, _, _, rfl⟩ ?_ ?_
  · rintro a _ J ha ⟨pa, x3, x4, x5, x6, rfl⟩
    have ha' : a < n := by simpa using ha
    refine ⟨(by show 0 ≤ sizeLine; decide), fun qa hqa => ?_⟩
    refine ⟨_, rfl, (n : Int), rfl, by omega, by omega, ?_⟩
    refine for_range (lo := 0) (n := (n : Int).toNat) (fun b σ G => Same J G ∧ G qa = some (.lst ((rowTo (fpl kind n) a b).map V.int)) ∧ ∃ x5 x6, σ = [some (.int kind), some (.int n), some (.ref fa), some (.int (0 + (a : Int))), some (.ref qa), x5, x6])
      ⟨Same.new hqa _, upd_same, _, _, rfl⟩ ?_ ?_
    · rintro b _ G hb ⟨sG, eq, y5, y6, rfl⟩
      have hb' : b < n := by simpa using hb
      refine ⟨_, rfl, _, rfl, _, rfl, _, rfl, _, _, rfl, _, rfl, _, rfl, _, _, rfl, rfl, _, rfl, _, _, rfl, rfl, (by show (0 : Int) < (n : Int); omega), (by show 4 ≤ sizeLine; decide), fun sa hsa => ?_⟩
      have e1 : ∀ o, (upd G sa o) qa = some (.lst ((rowTo (fpl kind n) a b).map V.int)) := fun o => by rw [upd_ne (ne_of_none eq hsa)]; exact eq
      refine ⟨_, rfl, Or.inl ⟨rfl, _, SqL.of (e1 _)⟩, _, rfl, _, rfl, _, rfl, _, _, rfl, rfl, _, rfl, _, _, rfl, rfl, _, _, rfl, ?_⟩
      -- a if a > 0 else b
      refine ⟨fun x G1 => _ = G1 ∧ x = .int ((if 0 < a then a else b : Nat) : Int), ⟨_, rfl, _, _, rfl, rfl, _, rfl, ite2 (fun c => ⟨_, rfl, rfl, ?_⟩) (fun c => ⟨_, rfl, rfl, ?_⟩)⟩, ?_⟩
      · have c' : (0 : Int) < 0 + (a : Int) := of_decide_eq_true c
        rw [if_pos (show 0 < a by omega), z0]
      · have c' : ¬ (0 : Int) < 0 + (a : Int) := of_decide_eq_false (Bool.eq_false_iff.mpr c)
        rw [if_neg (show ¬ 0 < a by omega), z0]
      rintro _ _ ⟨rfl, rfl⟩
      refine ⟨(by show 2 ≤ sizeLine; decide), fun l2 hl2 => ?_⟩
      have s2 := Same.new hl2 (.lst [.int (if (n : Int) - 1 < 0 + (a : Int) + (0 + (b : Int)) then (n : Int) - 1 else 0 + (a : Int) + (0 + (b : Int))), .int ((if 0 < a then a else b : Nat) : Int)])
      refine ⟨sa, l2, _, _, rfl, rfl, s2 _ _ upd_same, upd_same, (by show 4 + 2 ≤ sizeLine; decide), fun p6 hp6 => ?_⟩
      have s6 := Same.new hp6 (.lst ([V.int (0 + (a : Int)), .int (0 + (b : Int)), .int (if 0 + (b : Int) < 0 + (a : Int) then 0 + (b : Int) else 0 + (a : Int)), .int ((0 + (a : Int) + (0 + (b : Int))) % (n : Int))] ++
        [.int (if (n : Int) - 1 < 0 + (a : Int) + (0 + (b : Int)) then (n : Int) - 1 else 0 + (a : Int) + (0 + (b : Int))), .int ((if 0 < a then a else b : Nat) : Int)]))
      refine ⟨_, rfl, p6, _, (kind : Int), .int ((fpl kind n a b : Nat) : Int), rfl, rfl, SqL.of upd_same, at_of (j := kind) rfl ?_, qa, _, _, rfl, rfl, s6 _ _ (s2 _ _ (e1 _)), ?_, ?_⟩
      · rw [z0, z0]
        match kind, hk with
        | 0, _ => rfl
        | 1, _ => rfl
        | 2, _ =>
          show some (V.int (if (b : Int) < (a : Int) then (b : Int) else (a : Int))) = some (V.int ((min a b : Nat) : Int))
          refine congrArg (fun z => some (V.int z)) ?_
          split <;> omega
        | 3, _ =>
          show some (V.int (((a : Int) + (b : Int)) % (n : Int))) = some (V.int (((a + b) % n : Nat) : Int))
          refine congrArg (fun z => some (V.int z)) ?_
          rw [Int.natCast_emod, Int.natCast_add]
        | 4, _ =>
          show some (V.int (if (n : Int) - 1 < (a : Int) + (b : Int) then (n : Int) - 1 else (a : Int) + (b : Int))) = some (V.int ((min (a + b) (n - 1) : Nat) : Int))
          refine congrArg (fun z => some (V.int z)) ?_
          split <;> omega
        | 5, _ => rfl
      · rw [rowTo_len]; exact small1000 (by omega)
      · refine ⟨fun c o ec => ?_, ?_, _, _, rfl⟩
        · rw [upd_ne (ne_of_none ec hqa)]
          exact s6 _ _ (s2 _ _ (Same.new hsa _ _ _ (sG c o ec)))
        · rw [upd_same, rowTo_next, List.map_append]; rfl
    · rintro _ G ⟨sG, eq, y5, y6, rfl⟩
      obtain ⟨acc, e1, l1, p1⟩ := pa.add sG hqa eq
      refine ⟨_, rfl, Or.inl ⟨rfl, _, SqL.of e1⟩, _, rfl, fa, acc, _, rfl, rfl, e1, by rw [l1, rowsTo_len]; exact small1000 (by omega), ?_, _, _, _, _, rfl⟩
      have en : (n : Int).toNat = n := Int.toNat_natCast n
      rw [en] at p1
      rw [rowsTo_next]
      exact p1
  · rintro _ J ⟨pa, x3, x4, x5, x6, rfl⟩
    have pa' : Part H J fa (tab n (fpl kind n)) := by
      have e : (n : Int).toNat = n := Int.toNat_natCast n
      rw [e] at pa
      exact pa
    exact ⟨_, rfl, q _ _ pa'.fin pa'.same⟩
end
end L

set_option Elab.async false
set_option linter.all false
set_option maxRecDepth 100000
set_option maxHeartbeats 4000000
namespace L
open PySem L2 KX
theorem ixl {X : Cx} {K : PySem.W.Frag} (hK : X.K = K) : IxR X (rIxL K) := by subst hK; exact ix_list
theorem lenl {X : Cx} {K : PySem.W.Frag} (hK : X.K = K) : CallR X (.builtin "len") (fun xs H Q => ∃ p ys, xs = [.ref p] ∧ (SqL K H p ys ∨ SqT K H p ys) ∧ Q (.int ys.length) H) := by subst hK; exact call_len_seq
theorem fex_row {kind n a b : Nat} {f : Nat → Nat → Nat} (ha : a < n) (hb : b < n) : fex kind n f a b = f a b := if_pos ⟨ha, hb⟩
theorem rowTo_congr {f g : Nat → Nat → Nat} {a : Nat} : ∀ {b : Nat}, (∀ c, c < b → f a c = g a c) → rowTo f a b = rowTo g a b
  | 0, _ => rfl
  | b + 1, h => by rw [rowTo_next, rowTo_next, rowTo_congr (b := b) fun c hc => h c (by omega), h b (by omega)]
def spExt : Sp := fun vs H Q _ => ∃ (v : V) (kind n : Nat) (f : Nat → Nat → Nat), vs = [v, .int kind] ∧ kind < 2 ∧ 1 ≤ n ∧ n < 16 ∧ RowsL H v (tab n f) ∧ ∀ v' H', RowsL (nw H H') v' (tab (n + 1) (fex kind n f)) → Same H H' → Q v' H'
def spPairs : Sp := fun vs H Q _ => ∃ (v u : V) (m n : Nat) (f g : Nat → Nat → Nat), vs = [v, u] ∧ 1 ≤ m ∧ 1 ≤ n ∧ m * n ≤ 16 ∧ RowsL H v (tab m f) ∧ RowsL H u (tab n g) ∧ ∀ v' H', RowsL (nw H H') v' (tab (m * n) (fpr n f g)) → Same H H' → Q v' H'
def spGrid : Sp := fun vs H Q _ => ∃ p, vs = [.ref p] ∧ Bx H p ∧ ∀ v H' (s : Nat → Nat), (∀ i, s i < 2) → RowsL (nw H H') v (tab 8 (fgr s)) → Bx H' p → Sx p H H' → Q v H'
section
variable {P : Program} {w : World} {K : PySem.W.Frag} {mg : Str → Option Value} {base : Heap} {f g gn : Addr} {fd gd gnd : FuncData}
theorem scExt : FnScope ["rows", "kind", "n", "found", "a", "row", "b"] ["rows", "kind"] (defScope sExt) := ⟨rfl, rfl, rfl, by decide +kernel, rfl, by decide +kernel, by decide +kernel⟩
theorem ok_ext (F : Fun K "_law_extended" "_law_extended" sExt f fd) (M : Mn mg) : FnOk P w K mg base CX0 1 f fd ["rows", "kind"] spExt := by
  refine F.ok scExt (fun vs H Q E h => ?_) (fun cdv A outer s H vs Q E hr h => ?_)
  · obtain ⟨v, kind, n, f, rfl, _⟩ := h
    rfl
  obtain ⟨v, kind, n, f, rfl, hk, h1, h16, hR, q⟩ := h
  refine ⟨_, pss_cons (ps_set (i := 2) scExt.nd rfl (Or.inr rfl) (pe_callB call_len_seq (by rfl) M.len PySem.boot_len (pa_cons (pv 0) pa_nil)))
    (pss_cons (ps_setLc (i := 3) (own := [("a", 4), ("row", 5)]) (g := gTup _ 2 (gCons (gName 4) (gCons (gName 5) gNil))) (tt := tYes) rfl scExt.nd rfl rfl (sw_true rfl rfl rfl (by decide +kernel))
      (pi_enum (by rfl) M.enum (pa_cons (pv 0) pa_nil)) (blkOk_by (N := ["rows", "kind", "n", "found", "a", "row", "b"]) (sc := defScope sExt) (by decide +kernel))
      (fun _ _ _ _ _ => pg_tup rfl (pgs_cons (pg_name (i := 4) scExt.nd rfl (Or.inl rfl)) (pgs_cons (pg_name (i := 5) scExt.nd rfl (Or.inl rfl)) pgs_nil))) (fun _ _ _ _ _ => pts_nil)
      (fun _ _ _ _ _ => pe_op op_cat (pv 5) (pe_lst (pa_cons (pe_ix (ixl (K := K) rfl) (pe_lst (pa_cons (pv 2) (pa_cons (pv 4) pa_nil))) (pv 1) (fun _ _ => rfl)) pa_nil))))
    (pss_one (ps_ret (pe_op op_cat (pv 3) (pe_lst (pa_cons (pe_op op_cat (pe_lc (own := [("b", 6)]) (g := gName 6) (tt := tYes) rfl scExt.nd (pi_range1 (by rfl) M.range (pa_cons (pv 2) pa_nil))
      (blkOk_by (N := ["rows", "kind", "n", "found", "a", "row", "b"]) (sc := defScope sExt) (by decide +kernel)) (fun _ _ _ _ _ => pg_name (i := 6) scExt.nd rfl (Or.inl rfl)) (fun _ _ _ _ _ => pts_nil)
      (fun _ _ _ _ _ => pe_ix (ixl (K := K) rfl) (pe_lst (pa_cons (pv 2) (pa_cons (pv 6) pa_nil))) (pv 1) (fun _ _ => rfl))) (pe_lst (pa_cons (pv 2) pa_nil))) pa_nil)))))), ?_⟩
  obtain ⟨a0, rs, rfl, ea, pr⟩ := hR
  have ln : rs.length = n := by rw [pr.length, tab_len]
  refine ⟨_, rfl, a0, _, rfl, .inl (SqL.of ea), ?_⟩
  rw [List.length_map, ln]
  refine ⟨_, rfl, a0, rs.map V.ref, rfl, SqL.of ea, fun D hD => ?_⟩
  let f' := fex kind n f
  have pick2 : ∀ x : Int, atI [V.int (n : Int), .int x] (kind : Int) = some (.int (if kind = 0 then (n : Int) else x)) := fun x => by
    match kind, hk with
    | 0, _ => rfl
    | 1, _ => rfl
  refine lc_it (walk_enum (xs := rs.map V.ref)) (fun i J => Part H J D (rowsTo (n + 1) f' i)) (Part.start (Same.refl H) hD) (fun i J _ z => SqL.of (z.same _ _ ea)) ?_ ?_
  · rintro i x J J1 hi pa ⟨T, x1, y1, rfl, hT, rfl, g1, g2⟩
    cases g1
    have hi' : i < n := by rw [List.length_map, ln] at hi; exact hi
    obtain ⟨r, hr0, rfl⟩ : ∃ r, rs[i]? = some r ∧ y1 = V.ref r := by
      have g3 : (rs.map V.ref)[i]? = some y1 := g2
      rw [List.getElem?_map] at g3
      obtain ⟨r, h2, h3⟩ := Option.map_eq_some_iff.mp g3
      exact ⟨r, h2, h3.symm⟩
    obtain ⟨row, hrow, er⟩ := pair_at pr hr0
    rw [tab_row hi'] at hrow
    cases hrow
    refine ⟨T, _, rfl, SqT.of upd_same, rfl, _, _, rfl, _, _, rfl, rfl, rfl, _, rfl, _, rfl, _, rfl, (by show 2 ≤ sizeLine; decide), fun l1 hl1 => ?_⟩
    have s1 := Same.new hT (.tup [.int (i : Nat), .ref r])
    have s2 := Same.new hl1 (.lst [.int (n : Int), .int ((i : Nat) : Int)])
    refine ⟨_, rfl, l1, _, _, _, rfl, rfl, SqL.of upd_same, pick2 _, (by show 1 ≤ sizeLine; decide), fun l2 hl2 => ?_⟩
    have s3 := Same.new hl2 (.lst [.int (if kind = 0 then (n : Int) else ((i : Nat) : Int))])
    refine ⟨r, l2, _, _, rfl, rfl, s3 _ _ (s2 _ _ (s1 _ _ (pa.same _ _ er))), upd_same, ?_, fun qa hqa => ?_⟩
    · rw [List.length_map, List.length_map, List.length_range]; exact Nat.le_of_lt (small1000 (by show n + 1 ≤ 1000; omega))
    have sall := ((s1.trans s2).trans s3).trans (Same.new hqa (.lst ((((List.range n).map fun b => ((f i b : Nat) : Int)).map V.int) ++ [.int (if kind = 0 then (n : Int) else ((i : Nat) : Int))])))
    have er2 : rowTo f' i (n + 1) = ((List.range n).map fun b => ((f i b : Nat) : Int)) ++ [if kind = 0 then (n : Int) else ((i : Nat) : Int)] := by
      rw [rowTo_next]
      have e1 : rowTo f' i n = (List.range n).map fun b => ((f i b : Nat) : Int) := rowTo_congr (g := f) fun c hc => fex_row hi' hc
      rw [e1]
      refine congrArg (fun z => _ ++ [z]) ?_
      show ((fex kind n f i n : Nat) : Int) = _
      unfold fex
      rw [if_neg (show ¬ (i < n ∧ n < n) by omega)]
      split
      · rfl
      · first | rfl | rw [if_pos hi']
    obtain ⟨acc, e1, lac, p1⟩ := pa.add (q := qa) (row := rowTo f' i (n + 1)) sall (((s1.trans s2).trans s3).free hqa) (by rw [upd_same, er2, List.map_append]; rfl)
    refine ⟨acc, e1, by rw [lac, rowsTo_len]; exact small1000 (by omega), ?_⟩
    rw [rowsTo_next]
    exact p1
  · rintro J pa
    rw [List.length_map, ln] at pa
    refine ⟨_, rfl, _, rfl, n, rfl, by omega, by omega, fun D2 hD2 => ?_⟩
    refine lc_range (lo := 0) (n := (n : Int).toNat) (fun b G => Same J G ∧ G D2 = some (.lst ((rowTo f' n b).map V.int))) ⟨Same.new hD2 _, upd_same⟩ ?_ ?_
    · rintro b G hb ⟨sG, eD⟩
      have hb' : b < n := by simpa using hb
      refine ⟨rfl, _, rfl, _, rfl, (by show 2 ≤ sizeLine; decide), fun l1 hl1 => ?_⟩
      refine ⟨_, rfl, l1, _, _, _, rfl, rfl, SqL.of upd_same, pick2 _, _, Same.new hl1 _ _ _ eD, by rw [rowTo_len]; exact small1000 (by omega), fun c o ec => ?_, ?_⟩
      · rw [upd_ne (ne_of_none ec hD2)]; exact Same.new hl1 _ _ _ (sG c o ec)
      · rw [upd_same, rowTo_next, List.map_append, z0]
        refine congrArg (fun z => some (HO.lst (_ ++ [V.int z]))) ?_
        show _ = ((fex kind n f n b : Nat) : Int)
        unfold fex
        rw [if_neg (show ¬ (n < n ∧ b < n) by omega)]
        split
        · rfl
        · first | rfl | rw [if_neg (show ¬ n < n by omega)]
    · rintro G ⟨sG, eD⟩
      have en : (n : Int).toNat = n := Int.toNat_natCast n
      rw [en] at eD
      refine ⟨_, rfl, (by show 1 ≤ sizeLine; decide), fun l3 hl3 => ?_⟩
      have t1 := Same.new hl3 (.lst [.int (n : Int)])
      refine ⟨D2, l3, _, _, rfl, rfl, t1 _ _ eD, upd_same, by rw [rowTo_len]; exact Nat.le_of_lt (small1000 (by show n + 1 ≤ 1000; omega)), fun q2 hq2 => ?_⟩
      have t2 := Same.new hq2 (.lst ((rowTo f' n n).map V.int ++ [.int (n : Int)]))
      refine ⟨(by show 1 ≤ sizeLine; decide), fun l4 hl4 => ?_⟩
      have t3 := Same.new hl4 (.lst [.ref q2])
      have pa' := pa.to (((sG.trans t1).trans t2).trans t3)
      obtain ⟨rs', e', p'⟩ := pa'.at_
      have lr : rs'.length = n := by rw [p'.length, rowsTo_len]
      refine ⟨D, l4, _, _, rfl, rfl, e', upd_same, by rw [List.length_map, lr]; exact Nat.le_of_lt (small1000 (by show n + 1 ≤ 1000; omega)), fun q3 hq3 => ?_⟩
      have t4 := Same.new hq3 (.lst (rs'.map V.ref ++ [.ref q2]))
      have hq3n : H q3 = none := pa'.same.free hq3
      have hq2n : H q2 = none := (pa.same.trans (sG.trans t1)).free hq2
      refine q _ _ ⟨q3, rs' ++ [q2], rfl, by rw [nw_at hq3n, upd_same, List.map_append]; rfl, ?_⟩ (pa'.same.trans t4)
      have e3 : tab (n + 1) (fex kind n f) = rowsTo (n + 1) f' n ++ [rowTo f' n (n + 1)] := by rw [← rowsTo_next, rowsTo_all]
      rw [e3]
      refine pair_app (L2.Paired.mapP p' fun r row z => by rw [nw_at z.2.1]; exact t4 _ _ z.2.2) ?_
      rw [nw_at hq2n]
      refine (t4 _ _ (t3 _ _ upd_same)).trans ?_
      rw [rowTo_next, List.map_append]
      refine congrArg (fun z => some (HO.lst (_ ++ [V.int z]))) ?_
      show _ = ((fex kind n f n n : Nat) : Int)
      unfold fex
      rw [if_neg (show ¬ (n < n ∧ n < n) by omega)]
      split
      · rfl
      · first | rfl | rw [if_neg (show ¬ n < n by omega)]
theorem scPairs : FnScope ["one", "other", "n", "found", "a", "row", "b", "first"] ["one", "other"] (defScope sPairs) := ⟨rfl, rfl, rfl, by decide +kernel, rfl, by decide +kernel, by decide +kernel⟩
theorem ok_pairs (F : Fun K "_law_pairs" "_law_pairs" sPairs f fd) (M : Mn mg) : FnOk P w K mg base CX0 1 f fd ["one", "other"] spPairs := by
  refine F.ok scPairs (fun vs H Q E h => ?_) (fun cdv A outer s H vs Q E hr h => ?_)
  · obtain ⟨v, u, m, n, f, g, rfl, _⟩ := h
    rfl
  obtain ⟨v, u, m, n, f, g, rfl, hm, hn, h16, hR, hU, q⟩ := h
  refine ⟨_, pss_cons (ps_set (i := 2) scPairs.nd rfl (Or.inl rfl) (pe_callB call_len_seq (by rfl) M.len PySem.boot_len (pa_cons (pv 1) pa_nil)))
    (pss_cons (ps_set (i := 3) scPairs.nd rfl (Or.inl rfl) (pe_lst pa_nil))
    (pss_cons (ps_for PassesOwn.never rfl (pi_range1 (by rfl) M.range (pa_cons (pe_op op_mul (pe_callB call_len_seq (by rfl) M.len PySem.boot_len (pa_cons (pv 0) pa_nil)) (pv 2)) pa_nil)) (pg_name (i := 4) scPairs.nd rfl (Or.inl rfl))
      (pss_cons (ps_set (i := 5) scPairs.nd rfl (Or.inl rfl) (pe_lst pa_nil))
      (pss_cons (ps_for PassesOwn.never rfl (pi_range1 (by rfl) M.range (pa_cons (pe_op op_mul (pe_callB call_len_seq (by rfl) M.len PySem.boot_len (pa_cons (pv 0) pa_nil)) (pv 2)) pa_nil)) (pg_name (i := 6) scPairs.nd rfl (Or.inl rfl))
        (pss_cons (ps_set (i := 7) scPairs.nd rfl (Or.inl rfl) (pe_ix ix_list (pe_ix ix_list (pv 0) (pe_op op_fdiv (pv 4) (pv 2)) (fun _ _ => rfl)) (pe_op op_fdiv (pv 6) (pv 2)) (fun _ _ => rfl)))
        (pss_one (ps_expr (pe_bm PySem.F.plainAttrs_list PySem.F.slot_list_append PySem.F.type_list_append mt_append (pv 5) (pa_cons (pe_op op_add (pe_op op_mul (pv 7) (pv 2))
          (pe_ix ix_list (pe_ix ix_list (pv 1) (pe_op op_mod (pv 4) (pv 2)) (fun _ _ => rfl)) (pe_op op_mod (pv 6) (pv 2)) (fun _ _ => rfl))) pa_nil))))))
      (pss_one (ps_expr (pe_bm PySem.F.plainAttrs_list PySem.F.slot_list_append PySem.F.type_list_append mt_append (pv 3) (pa_cons (pv 5) pa_nil)))))))
    (pss_one (ps_ret (pv 3))))), ?_⟩
  obtain ⟨a1, rs1, rfl, e1, pr1⟩ := id hR
  obtain ⟨a2, rs2, rfl, e2, pr2⟩ := id hU
  have l1 : rs1.length = m := by rw [pr1.length, tab_len]
  have l2 : rs2.length = n := by rw [pr2.length, tab_len]
  have hnn : n ≤ 16 := Nat.le_trans (by have := Nat.mul_le_mul_right n hm; rw [Nat.one_mul] at this; exact this) h16
  have hmm : m ≤ 16 := Nat.le_trans (by have := Nat.mul_le_mul_left m hn; rw [Nat.mul_one] at this; exact this) h16
  have mnI : ((m : Int) * (n : Int)) = ((m * n : Nat) : Int) := (Int.natCast_mul m n).symm
  refine ⟨_, rfl, a2, _, rfl, .inl (SqL.of e2), ?_⟩
  rw [List.length_map, l2]
  refine ⟨(by show 0 ≤ sizeLine; decide), fun fa hfa => ?_⟩
  have s0 := Same.new hfa (.lst [])
  refine ⟨_, rfl, a1, _, rfl, .inl (SqL.of (s0 _ _ e1)), ?_⟩
  rw [List.length_map, l1]
  refine ⟨_, rfl, _, _, rfl, rfl, .inl ⟨by omega, by omega⟩, (m : Int) * (n : Int), rfl, by rw [mnI]; omega, by rw [mnI]; omega, ?_⟩
  rw [mnI]
  have dv : ∀ a, a < m * n → a / n < m := fun a h => (Nat.div_lt_iff_lt_mul (by omega)).mpr h
  have md : ∀ a, a % n < n := fun a => Nat.mod_lt _ (by omega)
  refine for_range (lo := 0) (n := ((m * n : Nat) : Int).toNat) (fun a σ J => Part H J fa (rowsTo (m * n) (fpr n f g) a) ∧ ∃ x4 x5 x6 x7, σ = [some (.ref a1), some (.ref a2), some (.int n), some (.ref fa), x4, x5, x6, x7])
    ⟨Part.start (Same.refl H) hfa, _, _, _, _, rfl⟩ ?_ ?_
  · rintro a _ J ha ⟨pa, x4, x5, x6, x7, rfl⟩
    have ha' : a < m * n := by rw [Int.toNat_natCast] at ha; exact ha
    refine ⟨(by show 0 ≤ sizeLine; decide), fun qa hqa => ?_⟩
    have sJq := Same.new hqa (.lst [])
    refine ⟨_, rfl, a1, _, rfl, .inl (SqL.of (sJq _ _ (pa.same _ _ e1))), ?_⟩
    rw [List.length_map, l1]
    refine ⟨_, rfl, _, _, rfl, rfl, .inl ⟨by omega, by omega⟩, (m : Int) * (n : Int), rfl, by rw [mnI]; omega, by rw [mnI]; omega, ?_⟩
    rw [mnI]
    refine for_range (lo := 0) (n := ((m * n : Nat) : Int).toNat) (fun b σ G => Same J G ∧ G qa = some (.lst ((rowTo (fpr n f g) a b).map V.int)) ∧ ∃ x6 x7, σ = [some (.ref a1), some (.ref a2), some (.int n), some (.ref fa), some (.int (0 + (a : Int))), some (.ref qa), x6, x7])
      ⟨sJq, upd_same, _, _, rfl⟩ ?_ ?_
    · rintro b _ G hb ⟨sG, eq, y6, y7, rfl⟩
      have hb' : b < m * n := by rw [Int.toNat_natCast] at hb; exact hb
      have cell : ∀ {K' : PySem.W.Frag} {m n : Nat} {f : Nat → Nat → Nat} {c : Addr} {rs : List Addr} {i j : Nat}, H c = some (.lst (rs.map V.ref)) → Paired (fun r row => H r = some (.lst (row.map V.int))) rs (tab m f) → i < m → j < m →
          ∃ r, SqL K' G c (rs.map V.ref) ∧ (rs.map V.ref)[i]? = some (V.ref r) ∧ SqL K' G r (((List.range m).map fun b => ((f i b : Nat) : Int)).map V.int) ∧ (((List.range m).map fun b => ((f i b : Nat) : Int)).map V.int)[j]? = some (.int ((f i j : Nat) : Int)) := fun {K' m n f c rs i j} ec pc hi hj => by
        have hir : i < rs.length := by rw [pc.length, tab_len]; exact hi
        obtain ⟨row, h1, h2⟩ := pair_at pc (List.getElem?_eq_getElem hir)
        rw [tab_row hi] at h1
        cases h1
        refine ⟨rs[i], SqL.of (sG _ _ (pa.same _ _ ec)), by rw [List.getElem?_map, List.getElem?_eq_getElem hir]; rfl, SqL.of (sG _ _ (pa.same _ _ h2)), ?_⟩
        rw [List.getElem?_map, List.getElem?_map, List.getElem?_range hj]; rfl
      obtain ⟨r1, c1, c2, c3, c4⟩ := cell (K' := K) (n := n) e1 pr1 (dv a ha') (dv b hb')
      obtain ⟨r2, d1, d2, d3, d4⟩ := cell (K' := K) (n := n) e2 pr2 (md a) (md b)
      have eD : ∀ x : Nat, ((0 : Int) + (x : Int)) / (n : Int) = ((x / n : Nat) : Int) := fun x => by rw [z0]; exact (Int.natCast_ediv x n).symm
      have eM : ∀ x : Nat, ((0 : Int) + (x : Int)) % (n : Int) = ((x % n : Nat) : Int) := fun x => by rw [z0]; exact (Int.natCast_emod x n).symm
      refine ⟨_, rfl, _, rfl, _, rfl, _, _, rfl, rfl, ⟨by omega, by omega⟩, a1, _, _, _, rfl, rfl, c1, at_of (eD a) c2, _, rfl, _, rfl, _, _, rfl, rfl, ⟨by omega, by omega⟩, r1, _, _, _, rfl, rfl, c3, at_of (eD b) c4, ?_⟩
      refine ⟨_, rfl, Or.inl ⟨rfl, _, SqL.of eq⟩, _, rfl, _, rfl, _, _, rfl, rfl, .inr ⟨by omega, by omega⟩, _, rfl, _, rfl, _, rfl, _, _, rfl, rfl, (by show (0 : Int) < (n : Int); omega), a2, _, _, _, rfl, rfl, d1, at_of (eM a) d2,
        _, rfl, _, rfl, _, _, rfl, rfl, (by show (0 : Int) < (n : Int); omega), r2, _, _, _, rfl, rfl, d3, at_of (eM b) d4, _, _, rfl, rfl, qa, _, _, rfl, rfl, eq, by rw [rowTo_len]; exact small1000 (by omega), ?_⟩
      refine ⟨fun c o ec => by rw [upd_ne (ne_of_none ec hqa)]; exact sG c o ec, ?_, _, _, rfl⟩
      rw [upd_same, rowTo_next, List.map_append]
      refine congrArg (fun z => some (HO.lst (_ ++ [V.int z]))) ?_
      show ((f (a / n) (b / n) : Nat) : Int) * (n : Int) + ((g (a % n) (b % n) : Nat) : Int) = ((f (a / n) (b / n) * n + g (a % n) (b % n) : Nat) : Int)
      rw [Int.natCast_add, Int.natCast_mul]
    · rintro _ G ⟨sG, eq, y6, y7, rfl⟩
      obtain ⟨acc, ea, la, p1⟩ := pa.add sG hqa eq
      refine ⟨_, rfl, Or.inl ⟨rfl, _, SqL.of ea⟩, _, rfl, fa, acc, _, rfl, rfl, ea, by rw [la, rowsTo_len]; exact small1000 (by omega), ?_, _, _, _, _, rfl⟩
      rw [Int.toNat_natCast] at p1
      rw [rowsTo_next]
      exact p1
  · rintro _ J ⟨pa, x4, x5, x6, x7, rfl⟩
    have pa' : Part H J fa (tab (m * n) (fpr n f g)) := by
      rw [Int.toNat_natCast] at pa
      exact pa
    exact ⟨_, rfl, q _ _ pa'.fin pa'.same⟩
theorem scGrid : FnScope ["box", "shift", "found", "a", "row", "b", "value", "k"] ["box"] (defScope sGrid) := ⟨rfl, rfl, rfl, by decide +kernel, rfl, by decide +kernel, by decide +kernel⟩
theorem ok_grid (F : Fun K "_law_grid" "_law_grid" sGrid f fd) (M : Mn mg) (G : FnOk P w K mg base CX0 1 g gd ["box", "size"] spTake) (bG : Binds K gd ["box", "size"] []) (kG : PySem.W.keepIn K (.ref g) = true) (mG : mg "_law_take" = some (.ref g)) :
    FnOk P w K mg base CX0 2 f fd ["box"] spGrid := by
  refine F.ok scGrid (fun vs H Q E h => ?_) (fun cdv A outer s H vs Q E hr h => ?_)
  · obtain ⟨p, rfl, _⟩ := h
    rfl
  obtain ⟨p, rfl, hb, q⟩ := h
  refine ⟨_, pss_cons (ps_setLc (i := 1) (own := [("k", 7)]) (g := gName 7) (tt := tYes) rfl scGrid.nd rfl rfl (sw_true rfl rfl rfl (by decide +kernel)) (pi_range1 (by rfl) M.range (pa_cons pe_int pa_nil))
      (blkOk_by (N := ["box", "shift", "found", "a", "row", "b", "value", "k"]) (sc := defScope sGrid) (by decide +kernel)) (fun _ _ _ _ _ => pg_name (i := 7) scGrid.nd rfl (Or.inl rfl)) (fun _ _ _ _ _ => pts_nil)
      (fun _ _ _ _ _ => pe_call G hr (by rfl) mG kG bG .nil pass0 (pa_cons (pv 0) (pa_cons pe_int pa_nil))))
    (pss_cons (ps_set (i := 2) scGrid.nd rfl (Or.inl rfl) (pe_lst pa_nil))
    (pss_cons (ps_for PassesOwn.never rfl (pi_range1 (by rfl) M.range (pa_cons pe_int pa_nil)) (pg_name (i := 3) scGrid.nd rfl (Or.inl rfl))
      (pss_cons (ps_set (i := 4) scGrid.nd rfl (Or.inl rfl) (pe_lst pa_nil))
      (pss_cons (ps_for PassesOwn.never rfl (pi_range1 (by rfl) M.range (pa_cons pe_int pa_nil)) (pg_name (i := 5) scGrid.nd rfl (Or.inl rfl))
        (pss_cons (ps_set (i := 6) scGrid.nd rfl (Or.inl rfl) (pe_op op_mod (pe_op op_add (pe_op op_add (pe_op op_fdiv (pv 3) pe_int) (pe_op op_fdiv (pv 5) pe_int))
          (pe_ix ix_list (pv 1) (pe_op op_add (pe_op op_mul (pe_op op_mod (pv 3) pe_int) pe_int) (pe_op op_fdiv (pv 5) pe_int)) (fun _ _ => rfl))) pe_int))
        (pss_one (ps_expr (pe_bm PySem.F.plainAttrs_list PySem.F.slot_list_append PySem.F.type_list_append mt_append (pv 4) (pa_cons (pe_op op_add (pe_op op_add (pe_op op_mul (pe_op op_fdiv (pv 3) pe_int) pe_int)
          (pe_op op_mul (pv 6) pe_int)) (pe_op op_mod (pv 5) pe_int)) pa_nil))))))
      (pss_one (ps_expr (pe_bm PySem.F.plainAttrs_list PySem.F.slot_list_append PySem.F.type_list_append mt_append (pv 2) (pa_cons (pv 4) pa_nil)))))))
    (pss_one (ps_ret (pv 2))))), ?_⟩
  refine ⟨4, rfl, by decide, by decide, fun D hD => ?_⟩
  have nD : D ≠ p := hb.ne hD
  refine lc_range (lo := 0) (n := Int.toNat 4) (fun i J => Bx J p ∧ Sx p H J ∧ ∃ xs : List Nat, J D = some (.lst (xs.map fun x : Nat => V.int ((x : Nat) : Int))) ∧ xs.length = i ∧ ∀ x, x ∈ xs → x < 2)
    ⟨hb.new hD, Sx.new hD, [], upd_same, rfl, fun _ z => nomatch z⟩ ?_ ?_
  · rintro i J hi ⟨bJ, sJ, xs, eD, lx, hx⟩
    have hi4 : i < 4 := hi
    refine ⟨rfl, _, rfl, p, 2, rfl, bJ, by decide, by decide, fun r J1 ra rb bJ1 sJ1 => ?_⟩
    refine ⟨_, sJ1 D _ nD eD, by rw [List.length_map, lx]; exact small1000 (by omega), bJ1.at_ne nD, fun b o hbp e => ?_, xs ++ [r.toNat], ?_, by simp [lx], fun x h => ?_⟩
    · rw [upd_ne (ne_of_none e hD)]; exact sJ1 b o hbp (sJ b o hbp e)
    · rw [upd_same, List.map_append]
      show _ = some (HO.lst (_ ++ [V.int ((r.toNat : Nat) : Int)]))
      rw [Int.toNat_of_nonneg ra]
    · rcases List.mem_append.mp h with h | h
      · exact hx x h
      · rw [List.mem_singleton.mp h]; omega
  · rintro H1 ⟨b1, s1, xs, eD, lx, hx⟩
    have lx4 : xs.length = 4 := lx
    let sh : Nat → Nat := fun i => xs.getD i 0
    have hsh : ∀ i, sh i < 2 := fun i => by
      show xs.getD i 0 < 2
      rw [List.getD_eq_getElem?_getD]
      by_cases h : i < xs.length
      · rw [List.getElem?_eq_getElem h]; exact hx _ (List.getElem_mem h)
      · rw [List.getElem?_eq_none (by omega)]; decide
    refine ⟨(by show 0 ≤ sizeLine; decide), fun fa hfa => ?_⟩
    refine ⟨8, rfl, by decide, by decide, ?_⟩
    refine for_range (lo := 0) (n := Int.toNat 8) (fun a σ J => Part H1 J fa (rowsTo 8 (fgr sh) a) ∧ ∃ x3 x4 x5 x6 x7, σ = [some (.ref p), some (.ref D), some (.ref fa), x3, x4, x5, x6, x7])
      ⟨Part.start (Same.refl H1) hfa, _, _, _, _, _, rfl⟩ ?_ ?_
    · rintro a _ J ha ⟨pa, x3, x4, x5, x6, x7, rfl⟩
      have ha' : a < 8 := ha
      refine ⟨(by show 0 ≤ sizeLine; decide), fun qa hqa => ?_⟩
      refine ⟨8, rfl, by decide, by decide, ?_⟩
      refine for_range (lo := 0) (n := Int.toNat 8) (fun b σ G => Same J G ∧ G qa = some (.lst ((rowTo (fgr sh) a b).map V.int)) ∧ ∃ x5 x6 x7, σ = [some (.ref p), some (.ref D), some (.ref fa), some (.int (0 + (a : Int))), some (.ref qa), x5, x6, x7])
        ⟨Same.new hqa _, upd_same, _, _, _, rfl⟩ ?_ ?_
      · rintro b _ G hb2 ⟨sG, eq, y5, y6, y7, rfl⟩
        have hb' : b < 8 := hb2
        have h4 : a % 2 * 2 + b / 4 < 4 := by omega
        have at4 : (xs.map fun x : Nat => V.int ((x : Nat) : Int))[a % 2 * 2 + b / 4]? = some (.int ((sh (a % 2 * 2 + b / 4) : Nat) : Int)) := by
          rw [List.getElem?_map, List.getElem?_eq_getElem (by omega)]
          show some (V.int ((xs[a % 2 * 2 + b / 4] : Nat) : Int)) = some (V.int ((xs.getD (a % 2 * 2 + b / 4) 0 : Nat) : Int))
          rw [List.getD_eq_getElem?_getD, List.getElem?_eq_getElem (by omega)]; rfl
        refine ⟨_, rfl, _, _, rfl, rfl, ⟨by decide, by decide⟩, _, rfl, _, _, rfl, rfl, ⟨by decide, by decide⟩, _, _, rfl, rfl, _, rfl, _, rfl, _, _, rfl, rfl, (by show (0 : Int) < 2; decide), _, _, rfl, rfl, .inr ⟨by decide, by decide⟩, _, rfl, _, _, rfl, rfl, ⟨by decide, by decide⟩, _, _, rfl, rfl,
          D, _, _, _, rfl, rfl, SqL.of (sG _ _ (pa.same _ _ eD)), at_of (j := a % 2 * 2 + b / 4) (by omega) at4, _, _, rfl, rfl, _, _, rfl, rfl, (by show (0 : Int) < 2; decide), ?_⟩
        refine ⟨_, rfl, Or.inl ⟨rfl, _, SqL.of eq⟩, _, rfl, _, _, rfl, rfl, ⟨by decide, by decide⟩, _, _, rfl, rfl, .inr ⟨by decide, by decide⟩, _, rfl, _, _, rfl, rfl, .inr ⟨by decide, by decide⟩, _, _, rfl, rfl, _, rfl, _, _, rfl, rfl, (by show (0 : Int) < 2; decide), _, _, rfl, rfl,
          qa, _, _, rfl, rfl, eq, by rw [rowTo_len]; exact small1000 (by omega), ?_⟩
        refine ⟨fun c o ec => by rw [upd_ne (ne_of_none ec hqa)]; exact sG c o ec, ?_, _, _, _, rfl⟩
        rw [upd_same, rowTo_next, List.map_append]
        refine congrArg (fun z => some (HO.lst (_ ++ [V.int z]))) ?_
        show (0 + (a : Int)) / 4 * 4 + ((0 + (a : Int)) / 2 + (0 + (b : Int)) / 2 + ((sh (a % 2 * 2 + b / 4) : Nat) : Int)) % 2 * 2 + (0 + (b : Int)) % 2 = ((a / 4 * 4 + (a / 2 + b / 2 + sh (a % 2 * 2 + b / 4)) % 2 * 2 + b % 2 : Nat) : Int)
        generalize sh (a % 2 * 2 + b / 4) = z
        omega
      · rintro _ G ⟨sG, eq, y5, y6, y7, rfl⟩
        obtain ⟨acc, ea, la, p1⟩ := pa.add sG hqa eq
        refine ⟨_, rfl, Or.inl ⟨rfl, _, SqL.of ea⟩, _, rfl, fa, acc, _, rfl, rfl, ea, by rw [la, rowsTo_len]; exact small1000 (by omega), ?_, _, _, _, _, _, rfl⟩
        rw [rowsTo_next]
        exact p1
    · rintro _ J ⟨pa, x3, x4, x5, x6, x7, rfl⟩
      have pa' : Part H1 J fa (tab 8 (fgr sh)) := pa
      have bJ : Bx J p := by
        obtain ⟨c0, c1, c2, e, z⟩ := b1
        exact ⟨c0, c1, c2, pa'.same _ _ e, z⟩
      exact ⟨_, rfl, q _ _ sh hsh (pa'.fin.same (nw_back s1 b1)) bJ (s1.trans (Sx.of pa'.same))⟩
end
end L

set_option Elab.async false
set_option linter.all false
set_option maxRecDepth 100000
set_option maxHeartbeats 4000000
namespace L
open PySem L2 KX
abbrev sWords : Stmt := top 61
def wds : List Str := ["a", "b", "aa", "ab", "ba", "bb", ""]
def wd (i : Nat) : Str := wds.getD i ""
def fwd (a b : Nat) : Nat := if a < 2 ∧ b < 2 then 2 + 2 * a + b else 6
theorem asf_words : Asf 7 fwd := by
  refine ⟨fun a b ha hb => by unfold fwd; split <;> omega, fun a b c ha hb hc => ?_⟩
  have e : ∀ x y, ¬ fwd x y < 2 := fun x y => by unfold fwd; split <;> omega
  have l : fwd (fwd a b) c = 6 := if_neg fun z => e a b z.1
  have r : fwd a (fwd b c) = 6 := if_neg fun z => e b c z.2
  rw [l, r]
def bothOf (x y : Str) : Str := if (!decide (V.str x = V.str "")) = true then (if (!decide (V.str y = V.str "")) = true then x ++ y else "") else ""
def keyOf (z : Str) : Str := if decide (((z.length : Nat) : Int) < 3) = true then z else ""
def wOk (a b : Nat) : Bool := (wds[fwd a b]? == some (keyOf (bothOf (wd a) (wd b)))) && decide ((wd a).length + (wd b).length ≤ 4) && decide ((bothOf (wd a) (wd b)).length ≤ 4) &&
  eqV (.str (keyOf (bothOf (wd a) (wd b)))) (.str (keyOf (bothOf (wd a) (wd b)))) && (List.range (fwd a b)).all fun m => !eqV (.str (wd m)) (.str (keyOf (bothOf (wd a) (wd b))))
theorem wOk_all : ((List.range 7).all fun a => (List.range 7).all fun b => wOk a b) = true := by decide +kernel
theorem wd_at {m : Nat} {z : V} (h : (wds.map V.str)[m]? = some z) : z = .str (wd m) := by
  rw [List.getElem?_map] at h
  obtain ⟨x, h1, rfl⟩ := Option.map_eq_some_iff.mp h
  unfold wd
  rw [List.getD_eq_getElem?_getD, h1]; rfl
theorem w_facts {a b : Nat} (ha : a < 7) (hb : b < 7) : (wds.map V.str)[fwd a b]? = some (.str (keyOf (bothOf (wd a) (wd b)))) ∧ (wd a).length + (wd b).length ≤ 4 ∧ (bothOf (wd a) (wd b)).length ≤ 4 ∧
    eqV (.str (keyOf (bothOf (wd a) (wd b)))) (.str (keyOf (bothOf (wd a) (wd b)))) = true ∧ ∀ (m : Nat) (z' : V), m < fwd a b → (wds.map V.str)[m]? = some z' → eqV z' (.str (keyOf (bothOf (wd a) (wd b)))) = false := by
  have h := List.all_eq_true.mp (List.all_eq_true.mp wOk_all a (List.mem_range.mpr ha)) b (List.mem_range.mpr hb)
  unfold wOk at h
  obtain ⟨h, h5⟩ := Bool.and_eq_true_iff.mp h
  obtain ⟨h, h4⟩ := Bool.and_eq_true_iff.mp h
  obtain ⟨h, h3⟩ := Bool.and_eq_true_iff.mp h
  obtain ⟨h1, h2⟩ := Bool.and_eq_true_iff.mp h
  refine ⟨by rw [List.getElem?_map, eq_of_beq h1]; rfl, of_decide_eq_true h2, of_decide_eq_true h3, h4, fun m z' hm hz => ?_⟩
  have e := List.all_eq_true.mp h5 m (List.mem_range.mpr hm)
  rw [wd_at hz]
  exact Bool.not_eq_true' _ |>.mp e
def spWords : Sp := fun vs H Q _ => vs = [] ∧ ∀ v H', RowsL (nw H H') v (tab 7 fwd) → Same H H' → Q v H'
section
variable {P : Program} {w : World} {K : PySem.W.Frag} {mg : Str → Option Value} {base : Heap} {f g gn : Addr} {fd gd gnd : FuncData}
theorem scWords : FnScope ["words", "found", "one", "row", "other", "both"] [] (defScope sWords) := ⟨rfl, rfl, rfl, by decide +kernel, rfl, by decide +kernel, by decide +kernel⟩
theorem ok_words (F : Fun K "_law_words" "_law_words" sWords f fd) (M : Mn mg) : FnOk P w K mg base CX0 1 f fd [] spWords := by
  refine F.ok scWords (fun vs H Q E h => ?_) (fun cdv A outer s H vs Q E hr h => ?_)
  · obtain ⟨rfl, _⟩ := h
    rfl
  obtain ⟨rfl, q⟩ := h
  refine ⟨_, pss_cons (ps_set (i := 0) scWords.nd rfl (Or.inl rfl) (pe_lst (pa_cons pe_str (pa_cons pe_str (pa_cons pe_str (pa_cons pe_str (pa_cons pe_str (pa_cons pe_str (pa_cons pe_str pa_nil)))))))))
    (pss_cons (ps_set (i := 1) scWords.nd rfl (Or.inl rfl) (pe_lst pa_nil))
    (pss_cons (ps_for PassesOwn.never rfl (pi_list (pv 0)) (pg_name (i := 2) scWords.nd rfl (Or.inl rfl))
      (pss_cons (ps_set (i := 3) scWords.nd rfl (Or.inl rfl) (pe_lst pa_nil))
      (pss_cons (ps_for PassesOwn.never rfl (pi_list (pv 0)) (pg_name (i := 4) scWords.nd rfl (Or.inl rfl))
        (pss_cons (ps_set (i := 5) scWords.nd rfl (Or.inl rfl) (pe_mo (pe_ifExp (pw_and (pt_cmpR op_ne (pv 2) pe_str (nomark _)) (pw_and1 (pt_cmpR op_ne (pv 4) pe_str (nomark _)))).pt (pe_op op_add_str (pv 2) (pv 4)) pe_str)))
        (pss_one (ps_expr (pe_bm PySem.F.plainAttrs_list PySem.F.slot_list_append PySem.F.type_list_append mt_append (pv 3) (pa_cons
          (pe_bm PySem.F.plainAttrs_list PySem.F.slot_list_index PySem.F.type_list_index mt_index (pv 0) (pa_cons
            (pe_mo (pe_ifExp (pt_cmpR op_lt (pe_callB call_len_str (by rfl) M.len PySem.boot_len (pa_cons (pv 5) pa_nil)) pe_int (nomark _)) (pv 5) pe_str)) pa_nil)) pa_nil))))))
      (pss_one (ps_expr (pe_bm PySem.F.plainAttrs_list PySem.F.slot_list_append PySem.F.type_list_append mt_append (pv 1) (pa_cons (pv 3) pa_nil)))))))
    (pss_one (ps_ret (pv 1))))), ?_⟩
  refine ⟨(by show 7 ≤ sizeLine; decide), fun wa hwa => ?_⟩
  have s0 : Same H (upd H wa (.lst (wds.map V.str))) := Same.new hwa _
  have e0 : (upd H wa (.lst (wds.map V.str))) wa = some (.lst (wds.map V.str)) := upd_same
  refine ⟨(by show 0 ≤ sizeLine; decide), fun fa hfa => ?_⟩
  have hwf : wa ≠ fa := ne_of_none e0 hfa
  have hfn : H fa = none := s0.free hfa
  have L7 : (wds.map V.str).length = 7 := rfl
  refine ⟨_, rfl, wa, rfl, ⟨_, SqL.of (by rw [upd_ne hwf]; exact e0)⟩, ?_⟩
  refine for_it (walk_list (xs := wds.map V.str)) (fun a σ J => J wa = some (.lst (wds.map V.str)) ∧ Part H J fa (rowsTo 7 fwd a) ∧ ∃ x2 x3 x4 x5, σ = [some (.ref wa), some (.ref fa), x2, x3, x4, x5])
    ⟨by rw [upd_ne hwf]; exact e0, ⟨s0.trans (Same.new hfa _), hfn, [], upd_same, .nil⟩, _, _, _, _, rfl⟩ (fun i σ J _ z => SqL.of z.1) ?_ ?_
  · rintro a x _ J J1 ha ⟨eW, pa, x2, x3, x4, x5, rfl⟩ ⟨rfl, hx⟩
    cases wd_at hx
    refine ⟨(by show 0 ≤ sizeLine; decide), fun qa hqa => ?_⟩
    have hwq : wa ≠ qa := ne_of_none eW hqa
    refine ⟨_, rfl, wa, rfl, ⟨_, SqL.of (by rw [upd_ne hwq]; exact eW)⟩, ?_⟩
    refine for_it (walk_list (xs := wds.map V.str)) (fun b σ G => G wa = some (.lst (wds.map V.str)) ∧ Same J1 G ∧ G qa = some (.lst ((rowTo fwd a b).map V.int)) ∧ ∃ x4 x5, σ = [some (.ref wa), some (.ref fa), some (.str (wd a)), some (.ref qa), x4, x5])
      ⟨by rw [upd_ne hwq]; exact eW, Same.new hqa _, upd_same, _, _, rfl⟩ (fun i σ J _ z => SqL.of z.1) ?_ ?_
    · rintro b y _ G G1 hb ⟨eW2, sG, eq, y4, y5, rfl⟩ ⟨rfl, hy⟩
      cases wd_at hy
      obtain ⟨f1, f2, f3, f4, f5⟩ := w_facts (a := a) (b := b) ha hb
      refine ⟨fun z G2 => G1 = G2 ∧ z = .str (bothOf (wd a) (wd b)), ?_, ?_⟩
      · have le : (wd a).length + (wd b).length ≤ sizeLine := Nat.le_trans f2 (by decide)
        refine ⟨_, rfl, rfl, _, rfl, ite2 (fun c => ⟨_, rfl, rfl, _, rfl, ite2 (fun d => ⟨_, rfl, _, rfl, _, _, rfl, rfl, le, rfl, ?_⟩) fun d => ⟨rfl, ?_⟩⟩) fun c => iteF ⟨rfl, ?_⟩⟩
        · unfold bothOf; rw [if_pos c, if_pos d]
        · unfold bothOf; rw [if_pos c, if_neg d]
        · unfold bothOf; rw [if_neg c]
      rintro _ _ ⟨rfl, rfl⟩
      refine ⟨_, rfl, Or.inl ⟨rfl, _, SqL.of eq⟩, _, rfl, Or.inl ⟨rfl, _, SqL.of eW2⟩, fun z G2 => G1 = G2 ∧ z = .str (keyOf (bothOf (wd a) (wd b))), ?_, ?_⟩
      · refine ⟨_, rfl, _, rfl, Nat.le_trans f3 (by decide), _, _, rfl, rfl, _, rfl, ite2 (fun c => ⟨_, rfl, rfl, ?_⟩) fun c => ⟨rfl, ?_⟩⟩
        · unfold keyOf; rw [if_pos c]
        · unfold keyOf; rw [if_neg c]
      rintro _ _ ⟨rfl, rfl⟩
      refine ⟨wa, _, _, fwd a b, _, rfl, rfl, SqL.of eW2, rfl, rfl, f1, f4, f5, qa, _, _, rfl, rfl, eq, by rw [rowTo_len]; exact small1000 (by have : b < 7 := hb; omega), ?_⟩
      refine ⟨by rw [upd_ne hwq]; exact eW2, fun c o ec => by rw [upd_ne (ne_of_none ec hqa)]; exact sG c o ec, ?_, _, _, rfl⟩
      rw [upd_same, rowTo_next, List.map_append]; rfl
    · rintro _ G ⟨eW2, sG, eq, y4, y5, rfl⟩
      obtain ⟨acc, ea, la, p1⟩ := pa.add sG hqa eq
      refine ⟨_, rfl, Or.inl ⟨rfl, _, SqL.of ea⟩, _, rfl, fa, acc, _, rfl, rfl, ea, by rw [la, rowsTo_len]; exact small1000 (by have : a < 7 := ha; omega), by rw [upd_ne hwf]; exact eW2, ?_, _, _, _, _, rfl⟩
      rw [rowsTo_next]
      exact p1
  · rintro _ J ⟨eW, pa, x2, x3, x4, x5, rfl⟩
    have pa' : Part H J fa (tab 7 fwd) := pa
    exact ⟨_, rfl, q _ _ pa'.fin pa'.same⟩
end
end L

set_option Elab.async false
set_option linter.all false
set_option maxRecDepth 100000
set_option maxHeartbeats 4000000
/-! Own layer: tables of maps under composition. Plain lists and numbers. -/
namespace KX
/-- a map of k states -/
def Mp (k : Nat) (m : List Nat) : Prop := m.length = k ∧ ∀ x, x ∈ m → x < k
/-- first x, then y -/
def cmp (x y : List Nat) : List Nat := x.map fun s => y.getD s 0
theorem getD_lt {k : Nat} {m : List Nat} (h : Mp k m) {s : Nat} (hs : s < k) : m.getD s 0 < k := by
  have hl : s < m.length := by rw [h.1]; exact hs
  rw [List.getD_eq_getElem?_getD, List.getElem?_eq_getElem hl]
  exact h.2 _ (List.getElem_mem hl)
theorem cmp_mp {k : Nat} {x y : List Nat} (hx : Mp k x) (hy : Mp k y) : Mp k (cmp x y) := by
  refine ⟨by unfold cmp; rw [List.length_map]; exact hx.1, fun z hz => ?_⟩
  obtain ⟨s, hs, rfl⟩ := List.mem_map.mp hz
  exact getD_lt hy (hx.2 s hs)
theorem cmp_as {k : Nat} {x y z : List Nat} (hx : Mp k x) (hy : Mp k y) : cmp (cmp x y) z = cmp x (cmp y z) := by
  unfold cmp
  rw [List.map_map]
  refine List.map_congr_left fun s hs => ?_
  have hl : s < y.length := by rw [hy.1]; exact hx.2 s hs
  show z.getD (y.getD s 0) 0 = (y.map fun s => z.getD s 0).getD s 0
  rw [List.getD_eq_getElem?_getD (l := y.map _), List.getElem?_map, List.getElem?_eq_getElem hl, List.getD_eq_getElem?_getD (l := y), List.getElem?_eq_getElem hl]; rfl
/-- made of letters -/
inductive Gen (ls : List (List Nat)) : List Nat → Prop
  | base {l : List Nat} : l ∈ ls → Gen ls l
  | step {x l : List Nat} : Gen ls x → l ∈ ls → Gen ls (cmp x l)
theorem Gen.mp {k : Nat} {ls : List (List Nat)} (hl : ∀ l, l ∈ ls → Mp k l) {m : List Nat} (g : Gen ls m) : Mp k m := by
  induction g with
  | base h => exact hl _ h
  | step _ h ih => exact cmp_mp ih (hl _ h)
theorem gen_closed {k : Nat} {ls ms : List (List Nat)} (hl : ∀ l, l ∈ ls → Mp k l) (hg : ∀ x, x ∈ ms → Gen ls x) (hc : ∀ x, x ∈ ms → ∀ l, l ∈ ls → cmp x l ∈ ms) {x y : List Nat} (hx : x ∈ ms) (g : Gen ls y) : cmp x y ∈ ms := by
  induction g with
  | base h => exact hc x hx _ h
  | step g h ih =>
    rw [← cmp_as ((hg x hx).mp hl) (g.mp hl)]
    exact hc _ ih _ h
/-- the place of a map -/
def fmp (ms : List (List Nat)) (a b : Nat) : Nat := ms.idxOf (cmp (ms.getD a []) (ms.getD b []))
theorem getD_mem {ms : List (List Nat)} {a : Nat} (h : a < ms.length) : ms.getD a [] ∈ ms := by
  rw [List.getD_eq_getElem?_getD, List.getElem?_eq_getElem h]
  exact List.getElem_mem h
theorem idx_get {ms : List (List Nat)} {m : List Nat} (h : m ∈ ms) : ms.idxOf m < ms.length ∧ ms[ms.idxOf m]? = some m := by
  have hl : ms.idxOf m < ms.length := List.idxOf_lt_length_iff.mpr h
  exact ⟨hl, by rw [List.getElem?_eq_getElem hl, List.getElem_idxOf hl]⟩
theorem idx_ahead {ms : List (List Nat)} {m : List Nat} : ∀ {j : Nat} {z : List Nat}, j < ms.idxOf m → ms[j]? = some z → z ≠ m := by
  induction ms with
  | nil => intro j z h e; cases e
  | cons a ms ih =>
    intro j z h e hz
    subst hz
    rw [List.idxOf_cons] at h
    by_cases ha : a = z
    · subst ha
      rw [show (a == a) = true from beq_self_eq_true a] at h
      exact absurd h (Nat.not_lt_zero _)
    · rw [show (a == z) = false from beq_eq_false_iff_ne.mpr ha] at h
      cases j with
      | zero => exact ha (Option.some.inj e)
      | succ j =>
        have h' : j + 1 < ms.idxOf z + 1 := h
        exact ih (j := j) (by omega) e rfl
/-- a list of maps closed under composition -/
structure Cl (k : Nat) (ms : List (List Nat)) : Prop where
  mp : ∀ m, m ∈ ms → Mp k m
  cl : ∀ x, x ∈ ms → ∀ y, y ∈ ms → cmp x y ∈ ms
theorem Cl.at_ {k : Nat} {ms : List (List Nat)} (C : Cl k ms) {a b : Nat} (ha : a < ms.length) (hb : b < ms.length) : fmp ms a b < ms.length ∧ ms[fmp ms a b]? = some (cmp (ms.getD a []) (ms.getD b [])) :=
  idx_get (C.cl _ (getD_mem ha) _ (getD_mem hb))
theorem asf_maps {k : Nat} {ms : List (List Nat)} (C : Cl k ms) : Asf ms.length (fmp ms) := by
  refine ⟨fun a b ha hb => (C.at_ ha hb).1, fun a b c ha hb hc => ?_⟩
  have h1 := C.at_ ha hb
  have h2 := C.at_ hb hc
  have e1 : ms.getD (fmp ms a b) [] = cmp (ms.getD a []) (ms.getD b []) := by rw [List.getD_eq_getElem?_getD, h1.2]; rfl
  have e2 : ms.getD (fmp ms b c) [] = cmp (ms.getD b []) (ms.getD c []) := by rw [List.getD_eq_getElem?_getD, h2.2]; rfl
  unfold fmp at *
  rw [e1, e2, cmp_as (C.mp _ (getD_mem ha)) (C.mp _ (getD_mem hb))]
/-- what the search knows: letters ls, found ms, i of them walked -/
structure Srch (k : Nat) (ls ms : List (List Nat)) (i : Nat) : Prop where
  lm : ∀ l, l ∈ ls → Mp k l
  sub : ∀ l, l ∈ ls → l ∈ ms
  gen : ∀ x, x ∈ ms → Gen ls x
  done : ∀ j, j < i → ∀ x, ms[j]? = some x → ∀ l, l ∈ ls → cmp x l ∈ ms
theorem Srch.cl {k : Nat} {ls ms : List (List Nat)} {i : Nat} (S : Srch k ls ms i) (h : ms.length ≤ i) : Cl k ms := by
  refine ⟨fun m hm => (S.gen m hm).mp S.lm, fun x hx y hy => gen_closed S.lm S.gen (fun x hx l hl => ?_) hx (S.gen y hy)⟩
  obtain ⟨j, hj, rfl⟩ := List.mem_iff_getElem.mp hx
  exact S.done j (by omega) _ (List.getElem?_eq_getElem hj) l hl
theorem Srch.more {k : Nat} {ls ms : List (List Nat)} {i : Nat} (S : Srch k ls ms i) {m : List Nat} (g : Gen ls m) (hi : i ≤ ms.length) : Srch k ls (ms ++ [m]) i := by
  refine ⟨S.lm, fun l hl => List.mem_append_left _ (S.sub l hl), fun x hx => ?_, fun j hj x hx l hl => ?_⟩
  · rcases List.mem_append.mp hx with h | h
    · exact S.gen x h
    · rw [List.mem_singleton.mp h]; exact g
  · rw [List.getElem?_append_left (by omega)] at hx
    exact List.mem_append_left _ (S.done j hj x hx l hl)
end KX

set_option Elab.async false
set_option linter.all false
set_option maxRecDepth 100000
set_option maxHeartbeats 4000000
namespace L
open PySem L2 KX
abbrev sMaps : Stmt := top 57
/-! ### tuples of numbers as data -/
def nv (m : List Nat) : List V := m.map fun x : Nat => V.int ((x : Nat) : Int)
def nD (m : List Nat) : List PyData := m.map fun x : Nat => PyData.int ((x : Nat) : Int)
def tD (m : List Nat) : PyData := .tuple (nD m)
theorem nD_lay : ∀ m : List Nat, PyData.canLayAll0 (nD m) = true
  | [] => by unfold nD; simp [PyData.canLayAll0]
  | x :: m => by
    have h := nD_lay m
    unfold nD at h ⊢
    simp [PyData.canLayAll0, PyData.canLay0, h]
theorem nD_depth : ∀ m : List Nat, PyData.depthAll (nD m) = 0
  | [] => by unfold nD; simp [PyData.depthAll]
  | x :: m => by
    have h := nD_depth m
    unfold nD at h ⊢
    simp [PyData.depthAll, PyData.depth, h]
theorem tD_lay : ∀ ms : List (List Nat), PyData.canLayAll0 (ms.map tD) = true
  | [] => by simp [PyData.canLayAll0]
  | m :: ms => by
    have h := tD_lay ms
    have h2 := nD_lay m
    simp only [List.map_cons, PyData.canLayAll0, tD, PyData.canLay0, h2, Bool.true_and]
    exact h
theorem tD_depth : ∀ ms : List (List Nat), PyData.depthAll (ms.map tD) ≤ 1
  | [] => by simp [PyData.depthAll]
  | m :: ms => by
    have h := tD_depth ms
    have h2 := nD_depth m
    have h3 : (tD m).depth = 1 := by unfold tD; simp only [PyData.depth, h2]
    simp only [List.map_cons, PyData.depthAll, h3]
    omega
theorem tD_shaped (m : List Nat) : SeqAt.shaped (tD m) = true := by
  have h2 : (tD m).depth = 1 := by unfold tD; simp only [PyData.depth, nD_depth m]
  have h1 : (tD m).canLay0 = true := by unfold tD; simp only [PyData.canLay0]; exact nD_lay m
  show ((tD m).canLay0 && decide ((tD m).depth ≤ 64)) = true
  rw [Bool.and_eq_true]
  exact ⟨h1, decide_eq_true (by omega)⟩
theorem tDs_shaped (ms : List (List Nat)) : SeqAt.shaped (.list (ms.map tD)) = true := by
  have h1 := tD_depth ms
  have h2 : PyData.depth (.list (ms.map tD)) ≤ 64 := by
    simp only [PyData.depth]
    omega
  show (PyData.canLay0 (.list (ms.map tD)) && decide (PyData.depth (.list (ms.map tD)) ≤ 64)) = true
  rw [Bool.and_eq_true]
  exact ⟨by simp only [PyData.canLay0]; exact tD_lay ms, decide_eq_true h2⟩
theorem nD_eqv : ∀ a b : List Nat, PyData.eqvAll (nD a) (nD b) = decide (a = b)
  | [], [] => by unfold nD; simp [PyData.eqvAll]
  | [], _ :: _ => by unfold nD; simp [PyData.eqvAll]
  | _ :: _, [] => by unfold nD; simp [PyData.eqvAll]
  | x :: a, y :: b => by
    have h := nD_eqv a b
    unfold nD at h ⊢
    simp only [List.map_cons, PyData.eqvAll, PyData.eqv, h]
    by_cases e : x = y
    · subst e
      rw [show (((x : Int) == (x : Int))) = true from beq_self_eq_true _, Bool.true_and]
      by_cases e2 : a = b
      · subst e2; simp
      · rw [decide_eq_false e2, decide_eq_false fun z => e2 (List.cons.inj z).2]
    · rw [show (((x : Int) == (y : Int))) = false from beq_eq_false_iff_ne.mpr (by omega), Bool.false_and, decide_eq_false fun z => e (List.cons.inj z).1]
theorem tD_eqv (a b : List Nat) : PyData.eqv (tD a) (tD b) = decide (a = b) := by
  unfold tD
  simp only [PyData.eqv]
  exact nD_eqv a b
theorem tD_any (ms : List (List Nat)) (m : List Nat) : ((ms.map tD).any fun z => PyData.eqv z (tD m)) = decide (m ∈ ms) := by
  rw [List.any_map]
  rw [Bool.eq_iff_iff, List.any_eq_true, decide_eq_true_iff]
  constructor
  · rintro ⟨x, hx, e⟩
    have e' : PyData.eqv (tD x) (tD m) = true := e
    rw [tD_eqv] at e'
    exact (of_decide_eq_true e') ▸ hx
  · intro h
    refine ⟨m, h, ?_⟩
    show PyData.eqv (tD m) (tD m) = true
    rw [tD_eqv]; exact decide_eq_true rfl
theorem dp_nv {K : PySem.W.Frag} {G : Hp} : ∀ m : List Nat, DpAll K G (nv m) (nD m)
  | [] => .nil
  | x :: m => .cons (.int _) (dp_nv m)
theorem dp_tup {K : PySem.W.Frag} {G : Hp} {t : Addr} {m : List Nat} (h : G t = some (.tup (nv m))) : Dp K G (.ref t) (tD m) := .tup (SqT.of h) (dp_nv m)
theorem dp_tups {K : PySem.W.Frag} {G : Hp} {ts : List Addr} {ms : List (List Nat)} (h : Paired (fun t m => G t = some (.tup (nv m))) ts ms) : DpAll K G (ts.map V.ref) (ms.map tD) := by
  induction h with
  | nil => exact .nil
  | cons h _ ih => exact .cons (dp_tup h) ih
/-- the maps found so far stand at fa -/
structure Mi (H : Hp) (p fa : Addr) (J : Hp) (ms : List (List Nat)) : Prop where
  bx : Bx J p
  sx : Sx p H J
  nf : H fa = none
  np : fa ≠ p
  fm : ∃ ts, J fa = some (.lst (ts.map V.ref)) ∧ Paired (fun t m => J t = some (.tup (nv m))) ts ms
section
variable {H J G : Hp} {p fa q : Addr} {ms : List (List Nat)} {m : List Nat}
theorem Bx.same (b : Bx H p) (s : Same H J) : Bx J p := let ⟨b0, b1, b2, e, r⟩ := b; ⟨b0, b1, b2, s _ _ e, r⟩
theorem Mi.to (h : Mi H p fa J ms) (s : Same J G) : Mi H p fa G ms :=
  let ⟨ts, e, pr⟩ := h.fm
  ⟨h.bx.same s, h.sx.trans (Sx.of s), h.nf, h.np, ts, s _ _ e, L2.Paired.mapP pr fun _ _ z => s _ _ z⟩
theorem Bx.ne_tup {t : Addr} {xs : List V} (b : Bx H p) (h : H t = some (.tup xs)) : t ≠ p := fun z => by
  obtain ⟨b0, b1, b2, e, r⟩ := b
  rw [z, e] at h
  cases h
theorem Mi.took (h : Mi H p fa J ms) (s : Sx p J G) (b : Bx G p) : Mi H p fa G ms :=
  let ⟨ts, e, pr⟩ := h.fm
  ⟨b, h.sx.trans s, h.nf, h.np, ts, s _ _ h.np e, L2.Paired.mapP pr fun _ _ z => s _ _ (h.bx.ne_tup z) z⟩
theorem Mi.start (b : Bx G p) (s : Sx p H G) (n : G fa = none) : Mi H p fa (upd G fa (.lst [])) [] :=
  ⟨b.new n, s.trans (Sx.new n), s.free b n, b.ne n, [], upd_same, .nil⟩
theorem Mi.add (h : Mi H p fa J ms) (e : J q = some (.tup (nv m))) : ∃ acc, J fa = some (.lst acc) ∧ acc.length = ms.length ∧ Mi H p fa (upd J fa (.lst (acc ++ [V.ref q]))) (ms ++ [m]) := by
  obtain ⟨ts, e1, pr⟩ := h.fm
  refine ⟨_, e1, by rw [List.length_map]; exact pr.length, h.bx.at_ne h.np, fun b o nb eb => by rw [upd_ne (ne_of_none eb h.nf)]; exact h.sx b o nb eb, h.nf, h.np, ts ++ [q], by rw [upd_same, List.map_append]; rfl, ?_⟩
  have nt : ∀ {t : Addr} {xs : List V}, J t = some (.tup xs) → t ≠ fa := fun {t xs} z y => by rw [y, e1] at z; cases z
  exact pair_app (L2.Paired.mapP pr fun t m z => by rw [upd_ne (nt z)]; exact z) (by rw [upd_ne (nt e)]; exact e)
theorem Mi.sq {K : PySem.W.Frag} (h : Mi H p fa J ms) : ∃ xs, SqL K J fa xs ∧ xs.length = ms.length := let ⟨ts, e, pr⟩ := h.fm; ⟨_, SqL.of e, by rw [List.length_map]; exact pr.length⟩
theorem Mi.dp {K : PySem.W.Frag} (h : Mi H p fa J ms) : Dp K J (.ref fa) (.list (ms.map tD)) := let ⟨ts, e, pr⟩ := h.fm; .lst (SqL.of e) (dp_tups pr)
end
end L

set_option Elab.async false
set_option linter.all false
set_option maxRecDepth 100000
set_option maxHeartbeats 4000000
namespace L
open PySem L2 KX
theorem ixt {X : Cx} {K : PySem.W.Frag} (hK : X.K = K) : IxR X (rIxT K) := by subst hK; exact ix_tup
theorem pit {X : Cx} {K : PySem.W.Frag} (hK : X.K = K) {tg l : Expr} {tl : TE} (h : PE X l tl) : PI X tg l (iTup K tl) := by subst hK; exact pi_tup h
theorem pe_idx {X : Cx} {K : PySem.W.Frag} (hK : X.K = K) (hu : X.A.units + 65 < cLine) {o e : Expr} {apos cpos : Pos} {to : TE} {t : TA} (ho : PE X o to) (ha : PA X [e] t)
    (hbase : attributeBase o "index" X.env (eval o X.env) = eval o X.env := by rfl)
    (hfew : ((backTo cpos (starEach [e] X.env)).all (fun x => !x.1) && (backToKw cpos (keywordEach [] X.env)).all (fun x => x.1.isSome)
      && decide (([e] : List Expr).length + ([] : List Keyword).length + (if ([] : List Keyword).isEmpty then 0 else 1) < 30)) = true := by rfl)
    (hline : (apos.endLine == cpos.line) = true := by rfl) (hs : starEach [e] X.env = (false, eval e X.env) :: starEach [] X.env := by rfl) (hplain : (backTo cpos (starEach [] X.env)).any (·.1) = false := by rfl) :
    PE X (.Call (.Attribute o "index" apos) [e] [] cpos) (tBM K "list" (rIndexD K) to t) := by
  subst hK
  exact pe_bm PySem.F.plainAttrs_list PySem.F.slot_list_index PySem.F.type_list_index (mt_indexD hu) ho ha hbase hfew hline hs hplain
theorem hu65 {k : Nat} {A : Around} (r : Room k A) : A.units + 65 < cLine := by have := r.un; omega
def scReached : Scope := { kind := .function, names := [(Str.ofString ".0", .local), (Str.ofString "other", .cell), (Str.ofString "tuple", .globalImplicit), (Str.ofString "one", .cell)], isGenerator := false, isCoroutine := false }
/-- the letters stand at la -/
def Lt (la : Addr) (ts : List Addr) (ms : List (List Nat)) (J : Hp) : Prop := J la = some (.lst (ts.map V.ref)) ∧ Paired (fun t m => J t = some (.tup (nv m))) ts ms
theorem Lt.to {la : Addr} {ts : List Addr} {ms : List (List Nat)} {J G : Hp} (h : Lt la ts ms J) (s : Same J G) : Lt la ts ms G := ⟨s _ _ h.1, L2.Paired.mapP h.2 fun _ _ z => s _ _ z⟩
theorem Lt.upd {la fa : Addr} {ts : List Addr} {ms : List (List Nat)} {J : Hp} {acc xs : List V} (h : Lt la ts ms J) (n : la ≠ fa) (e : J fa = some (.lst acc)) : Lt la ts ms (upd J fa (.lst xs)) :=
  ⟨by rw [upd_ne n]; exact h.1, L2.Paired.mapP h.2 fun t m z => by rw [upd_ne fun y => by rw [y, e] at z; cases z]; exact z⟩
theorem nv_at {m : List Nat} {i : Nat} {v : V} (h : (nv m)[i]? = some v) : ∃ x : Nat, m[i]? = some x ∧ v = .int (x : Int) := by
  unfold nv at h
  rw [List.getElem?_map] at h
  obtain ⟨x, h1, h2⟩ := Option.map_eq_some_iff.mp h
  exact ⟨x, h1, h2.symm⟩
theorem nv_get {k : Nat} {m : List Nat} (h : Mp k m) {s : Nat} (hs : s < k) : (nv m)[s]? = some (.int ((m.getD s 0 : Nat) : Int)) := by
  have hl : s < m.length := by rw [h.1]; exact hs
  unfold nv
  rw [List.getElem?_map, List.getD_eq_getElem?_getD, List.getElem?_eq_getElem hl]; rfl
theorem nv_len (m : List Nat) : (nv m).length = m.length := by unfold nv; rw [List.length_map]
theorem cmp_take {x l : List Nat} {b s : Nat} (h : x[b]? = some s) : (cmp x l).take (b + 1) = (cmp x l).take b ++ [l.getD s 0] := by
  rw [List.take_add_one]
  unfold cmp
  rw [List.getElem?_map, h]; rfl
theorem ref_at {ts : List Addr} {i : Nat} {v : V} (h : (ts.map V.ref)[i]? = some v) : ∃ t, ts[i]? = some t ∧ v = .ref t := by
  rw [List.getElem?_map] at h
  obtain ⟨x, h1, h2⟩ := Option.map_eq_some_iff.mp h
  exact ⟨x, h1, h2.symm⟩
theorem pair_to {α β : Type} {F : α → β → Prop} : ∀ {as : List α} {bs : List β} {i : Nat} {b : β}, Paired F as bs → bs[i]? = some b → ∃ a, as[i]? = some a ∧ F a b
  | _, _, _, _, .nil, e => by simp at e
  | _, _, 0, _, .cons h _, e => by simp at e; subst e; exact ⟨_, rfl, h⟩
  | _, _, i + 1, _, .cons _ t, e => by
    simp at e
    obtain ⟨a, h1, h2⟩ := pair_to t e
    exact ⟨a, by simpa using h1, h2⟩
def spMaps : Sp := fun vs H Q _ => ∃ p, vs = [.ref p] ∧ Bx H p ∧ ∀ v H', (v = .non ∨ ∃ n f, 1 ≤ n ∧ n ≤ 16 ∧ Asf n f ∧ RowsL (nw H H') v (tab n f)) → Bx H' p → Sx p H H' → Q v H'
abbrev nMaps : List Str := ["box", "size", "found", "turn", "one", "letters", "at", "letter", "rows", "reached", "state", "other"]
section
variable {P : Program} {w : World} {K : PySem.W.Frag} {mg : Str → Option Value} {base : Heap} {f g gn : Addr} {fd gd gnd : FuncData}
theorem scMaps : FnScope nMaps ["box"] (defScope sMaps) := ⟨rfl, rfl, rfl, by decide +kernel, rfl, by decide +kernel, by decide +kernel⟩
theorem ok_maps (F : Fun K "_law_maps" "_law_maps" sMaps f fd) (M : Mn mg) (G : FnOk P w K mg base CX0 1 g gd ["box", "size"] spTake) (bG : Binds K gd ["box", "size"] []) (kG : PySem.W.keepIn K (.ref g) = true) (mG : mg "_law_take" = some (.ref g)) :
    FnOk P w K mg base CX0 2 f fd ["box"] spMaps := by
  refine F.ok scMaps (fun vs H Q E h => ?_) (fun cdv A outer s H vs Q E hr h => ?_)
  · obtain ⟨p, rfl, _⟩ := h
    rfl
  obtain ⟨p, rfl, hb, q⟩ := h
  refine ⟨_, pss_cons (ps_set (i := 1) scMaps.nd rfl (Or.inr rfl) (pe_op op_add pe_int (pe_call G hr (by rfl) mG kG bG .nil pass0 (pa_cons (pv 0) (pa_cons pe_int pa_nil)))))
    (pss_cons (ps_set (i := 2) scMaps.nd rfl (Or.inr rfl) (pe_lst pa_nil))
    (pss_cons (ps_for PassesOwn.never rfl (pi_range1 (by rfl) M.range (pa_cons (pe_op op_add pe_int (pe_call G hr (by rfl) mG kG bG .nil pass0 (pa_cons (pv 0) (pa_cons pe_int pa_nil)))) pa_nil)) (pg_name (i := 3) scMaps.nd rfl (Or.inl rfl))
      (pss_cons (ps_set (i := 4) scMaps.nd rfl (Or.inr rfl) (pe_callTy call_tuple_of (by rfl) M.tuple (by decide +kernel) (pa_cons (pe_lc (own := [("state", 10)]) (g := gName 10) (tt := tYes) rfl scMaps.nd (pi_range1 (by rfl) M.range (pa_cons (pv 1) pa_nil))
        (blkOk_by (N := nMaps) (sc := defScope sMaps) (by decide +kernel)) (fun _ _ _ _ _ => pg_name (i := 10) scMaps.nd rfl (Or.inl rfl)) (fun _ _ _ _ _ => pts_nil)
        (fun _ _ _ _ _ => pe_call G hr (by rfl) mG kG bG .nil pass0 (pa_cons (pv 0) (pa_cons (pv 1) pa_nil)))) pa_nil)))
      (pss_one (ps_if (pt_cmpR (op_notInD (hu65 hr)) (pv 4) (pv 2) rfl) (pss_one (ps_expr (pe_bm PySem.F.plainAttrs_list PySem.F.slot_list_append PySem.F.type_list_append mt_append (pv 2) (pa_cons (pv 4) pa_nil)))) pss_nil))))
    (pss_cons (ps_par (i := 5) (j := 6) rfl scMaps.nd rfl rfl (by decide) rfl rfl (pa_cons (pe_callTy call_list_of (by rfl) M.list (by decide +kernel) (pa_cons (pv 2) pa_nil)) (pa_cons pe_int pa_nil)) (by rfl))
    (pss_cons (ps_while PassesOwn.never (pt_mo (pw_and (pt_cmpR op_lt (pv 6) (pe_callB call_len_seq (by rfl) M.len PySem.boot_len (pa_cons (pv 2) pa_nil)) (nomark _))
        (pw_and1 (pt_cmpR op_lt (pe_callB call_len_seq (by rfl) M.len PySem.boot_len (pa_cons (pv 2) pa_nil)) pe_int (nomark _)))).pt)
      (pss_cons (ps_for PassesOwn.never rfl (pi_list (pv 5)) (pg_name (i := 7) scMaps.nd rfl (Or.inr rfl))
        (pss_cons (ps_set (i := 4) scMaps.nd rfl (Or.inr rfl) (pe_callTy call_tuple_of (by rfl) M.tuple (by decide +kernel) (pa_cons (pe_lc (own := [("state", 10)]) (g := gName 10) (tt := tYes) rfl scMaps.nd (pi_tup (pe_ix ix_list (pv 2) (pv 6) (fun _ _ => rfl)))
          (blkOk_by (N := nMaps) (sc := defScope sMaps) (by decide +kernel)) (fun _ _ _ _ _ => pg_name (i := 10) scMaps.nd rfl (Or.inl rfl)) (fun _ _ _ _ _ => pts_nil)
          (fun _ _ _ _ _ => pe_ix (ixt (K := K) rfl) (pv 7) (pv 10) (fun _ _ => rfl))) pa_nil)))
        (pss_one (ps_if (pt_cmpR (op_notInD (hu65 hr)) (pv 4) (pv 2) rfl) (pss_one (ps_expr (pe_bm PySem.F.plainAttrs_list PySem.F.slot_list_append PySem.F.type_list_append mt_append (pv 2) (pa_cons (pv 4) pa_nil)))) pss_nil))))
      (pss_one (ps_aug (i := 6) scMaps.nd rfl (.inl rfl) pe_int ip_add))))
    (pss_cons (ps_if (pt_cmpR op_gt (pe_callB call_len_seq (by rfl) M.len PySem.boot_len (pa_cons (pv 2) pa_nil)) pe_int (nomark _)) (pss_one (ps_ret pe_non)) pss_nil)
    (pss_cons (ps_set (i := 8) scMaps.nd rfl (Or.inl rfl) (pe_lst pa_nil))
    (pss_cons (ps_for PassesOwn.never rfl (pi_list (pv 2)) (pg_name (i := 4) scMaps.nd rfl (Or.inr rfl))
      (pss_cons (ps_setLc (i := 9) (own := [("other", 11)]) (g := gName 11) (tt := tYes) rfl scMaps.nd rfl rfl (sw_true rfl rfl rfl (by decide +kernel)) (pi_list (pv 2))
        (blkOk_by (N := nMaps) (sc := defScope sMaps) (by decide +kernel)) (fun _ _ _ _ _ => pg_name (i := 11) scMaps.nd rfl (Or.inr rfl)) (fun _ _ _ _ _ => pts_nil)
        (fun _ _ _ _ _ => pe_callTy (T := "tuple") (ctuple (K := K) rfl) (by rfl) M.tuple (by decide +kernel) (pa_cons (pe_lc (own := [("state", 10)]) (g := gName 10) (tt := tYes) rfl scMaps.nd (pit (K := K) rfl (pv 4))
          (blkOk_by (N := nMaps) (sc := scReached) (by decide +kernel)) (fun _ _ _ _ _ => pg_name (i := 10) scMaps.nd rfl (Or.inl rfl)) (fun _ _ _ _ _ => pts_nil)
          (fun _ _ _ _ _ => pe_ix (ixt (K := K) rfl) (pv 11) (pv 10) (fun _ _ => rfl))) pa_nil)))
      (pss_one (ps_expr (pe_bm PySem.F.plainAttrs_list PySem.F.slot_list_append PySem.F.type_list_append mt_append (pv 8) (pa_cons (pe_lc (own := [("other", 11)]) (g := gName 11) (tt := tYes) rfl scMaps.nd (pi_list (pv 9))
        (blkOk_by (N := nMaps) (sc := defScope sMaps) (by decide +kernel)) (fun _ _ _ _ _ => pg_name (i := 11) scMaps.nd rfl (Or.inl rfl)) (fun _ _ _ _ _ => pts_nil)
        (fun _ _ _ _ _ => pe_idx (K := K) rfl (hu65 hr) (pv 2) (pa_cons (pv 11) pa_nil))) pa_nil))))))
    (pss_one (ps_ret (pv 8)))))))))), ?_⟩
  have z05 : 0 ≤ sizeLine := by decide
  refine ⟨_, rfl, p, 3, rfl, hb, by decide, by decide, fun r J0 ra rb b0 s0 => ?_⟩
  obtain ⟨r, rfl⟩ := Int.eq_ofNat_of_zero_le ra
  refine ⟨_, _, rfl, rfl, ?_⟩
  have ek : (2 : Int) + ((r : Nat) : Int) = ((2 + r : Nat) : Int) := by omega
  dsimp only
  rw [ek]
  have k2 : 2 ≤ 2 + r := by omega
  have k4 : 2 + r ≤ 4 := by omega
  generalize 2 + r = k at k2 k4 ⊢
  refine ⟨z05, fun fa hfa => ?_⟩
  have m0 : Mi H p fa (upd J0 fa (.lst [])) [] := Mi.start b0 s0 hfa
  refine ⟨_, rfl, p, 3, rfl, m0.bx, by decide, by decide, fun t J1 ta tb b1 s1 => ?_⟩
  obtain ⟨t, rfl⟩ := Int.eq_ofNat_of_zero_le ta
  refine ⟨_, _, rfl, rfl, (1 : Int) + ((t : Nat) : Int), rfl, by omega, by omega, ?_⟩
  refine for_range (lo := 0) (n := ((1 : Int) + ((t : Nat) : Int)).toNat) (fun i σ J => ∃ ms, Mi H p fa J ms ∧ ms.length ≤ i ∧ (0 < i → 0 < ms.length) ∧ (∀ m, m ∈ ms → Mp k m) ∧ ∃ x3 x4 x5 x6 x7 x8 x9 x10 x11, σ = [some (.ref p), some (.int k), some (.ref fa), x3, x4, x5, x6, x7, x8, x9, x10, x11])
    ⟨[], m0.took s1 b1, Nat.le_refl _, fun z => absurd z (Nat.lt_irrefl 0), (fun _ z => nomatch z), _, _, _, _, _, _, _, _, _, rfl⟩ ?_ ?_
  · rintro i _ J hi ⟨ms, mi, l1, l2, l3, x3, x4, x5, x6, x7, x8, x9, x10, x11, rfl⟩
    refine ⟨_, rfl, (k : Int), rfl, by omega, by omega, fun D hD => ?_⟩
    have nD : D ≠ p := mi.bx.ne hD
    refine lc_range (lo := 0) (n := (k : Int).toNat) (fun i G => Bx G p ∧ Sx p J G ∧ ∃ xs : List Nat, G D = some (.lst (nv xs)) ∧ xs.length = i ∧ ∀ x, x ∈ xs → x < k)
      ⟨mi.bx.new hD, Sx.new hD, [], upd_same, rfl, fun _ z => nomatch z⟩ ?_ ?_
    · rintro j G hj ⟨bG, sG, xs, eD, lx, hx⟩
      have hjk : j < k := by simpa using hj
      refine ⟨rfl, _, rfl, _, rfl, p, (k : Int), rfl, bG, by omega, by omega, fun r G1 ra rb b1 s1 => ?_⟩
      obtain ⟨r, rfl⟩ := Int.eq_ofNat_of_zero_le ra
      refine ⟨_, s1 D _ nD eD, by rw [nv_len, lx]; exact small1000 (by omega), b1.at_ne nD, fun b o hbp e => ?_, xs ++ [r], ?_, by simp [lx], fun x h => ?_⟩
      · rw [upd_ne (ne_of_none e hD)]; exact s1 b o hbp (sG b o hbp e)
      · rw [upd_same]; unfold nv; rw [List.map_append]; rfl
      · rcases List.mem_append.mp h with h | h
        · exact hx x h
        · rw [List.mem_singleton.mp h]; omega
    · rintro G ⟨bG, sG, xs, eD, lx, hx⟩
      have lk : xs.length = k := by rw [lx]; exact Int.toNat_natCast k
      have mG := mi.took sG bG
      refine ⟨D, _, rfl, .inl ⟨SqL.of eD, fun l hl => ?_⟩⟩
      have mG1 := mG.to (Same.new hl (.tup (nv xs)))
      have el : (upd G l (.tup (nv xs))) l = some (.tup (nv xs)) := upd_same
      refine ⟨_, rfl, _, rfl, tD xs, ms.map tD, dp_tup el, mG1.dp, tD_shaped xs, tDs_shaped ms, _, rfl, ?_⟩
      rw [tD_any]
      have i4 : i < 4 := by omega
      refine ite2 (fun c => ?_) (fun c => ?_)
      · obtain ⟨acc, ea, la, m2⟩ := mG1.add el
        refine ⟨_, rfl, Or.inl ⟨rfl, _, SqL.of ea⟩, _, rfl, fa, acc, _, rfl, rfl, ea, by rw [la]; exact small1000 (by omega), ms ++ [xs], m2, by rw [List.length_append, List.length_singleton]; omega, fun _ => by rw [List.length_append, List.length_singleton]; omega, fun m hm => ?_, _, _, _, _, _, _, _, _, _, rfl⟩
        rcases List.mem_append.mp hm with h | h
        · exact l3 m h
        · rw [List.mem_singleton.mp h]; exact ⟨lk, hx⟩
      · have hin : xs ∈ ms := by
          by_cases hm : xs ∈ ms
          · exact hm
          · rw [decide_eq_false hm] at c; exact absurd rfl c
        exact ⟨ms, mG1, by omega, fun _ => List.length_pos_of_mem hin, l3, _, _, _, _, _, _, _, _, _, rfl⟩
  rintro _ J ⟨ms, mi, l1, l2, l3, x3, x4, x5, x6, x7, x8, x9, x10, x11, rfl⟩
  have ln3 : ms.length ≤ 3 := by omega
  have ln0 : 0 < ms.length := l2 (by omega)
  obtain ⟨ts, ets, pts⟩ := id mi.fm
  refine ⟨_, rfl, fa, _, rfl, .inl (SqL.of ets), fun la hla => ?_⟩
  refine ⟨_, _, rfl, ?_⟩
  have naf : la ≠ fa := (ne_of_none ets hla).symm
  have sla := Same.new hla (.lst (ts.map V.ref))
  have lts : ts.length = ms.length := pts.length
  dsimp only [tSeq]
  change tWhile _ _ _ [some (.ref p), some (.int k), some (.ref fa), x3, x4, some (.ref la), some (.int ((0 : Nat) : Int)), x7, x8, x9, x10, x11] _
  refine while_by (fun σ G => ∃ fs i, Mi H p fa G fs ∧ Lt la ts ms G ∧ Srch k ms fs i ∧ i ≤ fs.length ∧ i ≤ 17 ∧ fs.length ≤ 19 ∧ ∃ x3 x4 x7 x8 x9 x10 x11, σ = [some (.ref p), some (.int k), some (.ref fa), x3, x4, some (.ref la), some (.int (i : Nat)), x7, x8, x9, x10, x11])
    (fun σ _ => match σ.getD 6 none with | some (.int i) => 20 - i.toNat | _ => 0)
    ⟨ms, 0, mi.to sla, ⟨upd_same, L2.Paired.mapP pts fun _ _ z => sla _ _ z⟩, ⟨l3, fun _ h => h, fun x h => .base h, fun j hj => absurd hj (Nat.not_lt_zero _)⟩, Nat.zero_le _, by omega, by omega, _, _, _, _, _, _, _, rfl⟩ ?_ ?_
  rotate_left
  · rintro σ H Q Q' k ⟨R, h, r⟩
    exact ⟨R, h, fun x H1 z => k _ _ (r x H1 z)⟩
  rintro _ G ⟨fs, i, mG, lt, S, h1, h2, h3, x3, x4, x7, x8, x9, x10, x11, rfl⟩
  obtain ⟨xs, hxs, lxs⟩ := mG.sq (K := K)
  refine ⟨fun b G1 => G = G1 ∧ b = (decide (i < fs.length) && decide (fs.length < 17)), ?_, ?_⟩
  · refine ⟨_, rfl, _, rfl, fa, xs, rfl, .inl hxs, _, _, rfl, rfl, _, rfl, ite2 (fun c => ⟨_, rfl, fa, xs, rfl, .inl hxs, _, _, rfl, rfl, _, rfl, rfl, ?_⟩) (fun c => ⟨rfl, ?_⟩)⟩
    · have c' : ((i : Nat) : Int) < ((xs.length : Nat) : Int) := of_decide_eq_true c
      rw [decide_eq_true (show i < fs.length by omega), Bool.true_and, lxs]
      rw [Bool.eq_iff_iff, decide_eq_true_iff, decide_eq_true_iff]
      omega
    · have c' : ¬ ((i : Nat) : Int) < ((xs.length : Nat) : Int) := of_decide_eq_false (Bool.eq_false_iff.mpr c)
      rw [decide_eq_false (show ¬ i < fs.length by omega), Bool.false_and]
  rintro _ _ ⟨rfl, rfl⟩
  refine ite2 (fun c => ?_) (fun c => ?_)
  · obtain ⟨ca, cb⟩ := Bool.and_eq_true_iff.mp c
    have hi : i < fs.length := of_decide_eq_true ca
    have h17 : fs.length < 17 := of_decide_eq_true cb
    obtain ⟨x, hx⟩ : ∃ x, fs[i]? = some x := ⟨_, List.getElem?_eq_getElem hi⟩
    have xm : x ∈ fs := List.mem_of_getElem? hx
    have xk : Mp k x := (S.gen x xm).mp S.lm
    refine ⟨_, rfl, la, rfl, ⟨_, SqL.of lt.1⟩, ?_⟩
    refine for_it (walk_list (xs := ts.map V.ref)) (fun j σ G => ∃ gs, Mi H p fa G gs ∧ Lt la ts ms G ∧ Srch k ms gs i ∧ i < gs.length ∧ gs.length ≤ fs.length + j ∧ gs[i]? = some x ∧ (∀ l, l ∈ ms.take j → cmp x l ∈ gs) ∧
        ∃ x3 x4 x7 x8 x9 x10 x11, σ = [some (.ref p), some (.int k), some (.ref fa), x3, x4, some (.ref la), some (.int (i : Nat)), x7, x8, x9, x10, x11])
      ⟨fs, mG, lt, S, hi, Nat.le_refl _, hx, (fun _ z => by rw [List.take_zero] at z; cases z), _, _, _, _, _, _, _, rfl⟩ (fun _ _ _ _ ⟨_, _, z, _⟩ => SqL.of z.1) ?_ ?_
    · rintro j y _ G1 G2 hj ⟨gs, mG, lt, S, hi, hl, hx, hd, x3, x4, x7, x8, x9, x10, x11, rfl⟩ ⟨rfl, hy⟩
      have hj3 : j < ms.length := by rw [List.length_map, lts] at hj; exact hj
      obtain ⟨tl, htl, rfl⟩ := ref_at hy
      obtain ⟨l, hl1, el⟩ := pair_at lt.2 htl
      have lm : l ∈ ms := List.mem_of_getElem? hl1
      have lk : Mp k l := S.lm l lm
      obtain ⟨fts, efts, pf⟩ := id mG.fm
      obtain ⟨ti, hti, et⟩ := pair_to pf hx
      have wk : (nv x).length = k := by rw [nv_len]; exact xk.1
      refine ⟨_, rfl, _, rfl, fa, _, _, _, rfl, rfl, SqL.of efts, at_of (j := i) rfl (by rw [List.getElem?_map, hti]; rfl), ti, rfl, ⟨_, SqT.of et⟩, fun D hD => ?_⟩
      refine lc_it (walk_tup (xs := nv x)) (fun b G => Same G2 G ∧ G D = some (.lst (nv ((cmp x l).take b)))) ⟨Same.new hD _, upd_same⟩ (fun b G _ z => SqT.of (z.1 _ _ et)) ?_ ?_
      · rintro b v G3 G4 hb ⟨sG, eD⟩ ⟨rfl, hv⟩
        rw [wk] at hb
        obtain ⟨s, hs, rfl⟩ := nv_at hv
        have sk : s < k := xk.2 s (List.mem_of_getElem? hs)
        refine ⟨rfl, _, rfl, _, rfl, tl, _, _, _, rfl, rfl, SqT.of (sG _ _ el), at_of (j := s) rfl (nv_get lk sk), _, eD, ?_, fun c o ec => by rw [upd_ne (ne_of_none ec hD)]; exact sG c o ec, ?_⟩
        · rw [nv_len, List.length_take]; exact small1000 (by omega)
        · rw [upd_same, cmp_take hs]; unfold nv; rw [List.map_append]; rfl
      · rintro G3 ⟨sG, eD⟩
        rw [List.take_of_length_le (by rw [wk]; have := (cmp_mp xk lk).1; omega)] at eD
        refine ⟨D, _, rfl, .inl ⟨SqL.of eD, fun q hq => ?_⟩⟩
        have s3 : Same G2 (upd G3 q (.tup (nv (cmp x l)))) := sG.trans (Same.new hq _)
        have mG1 := mG.to s3
        have lt1 := lt.to s3
        have eq : (upd G3 q (.tup (nv (cmp x l)))) q = some (.tup (nv (cmp x l))) := upd_same
        have tk : ms.take (j + 1) = ms.take j ++ [l] := by rw [List.take_add_one, hl1]; rfl
        refine ⟨_, rfl, _, rfl, tD (cmp x l), gs.map tD, dp_tup eq, mG1.dp, tD_shaped _, tDs_shaped gs, _, rfl, ?_⟩
        rw [tD_any]
        refine ite2 (fun c => ?_) (fun c => ?_)
        · obtain ⟨acc, ea, lacc, m2⟩ := mG1.add eq
          refine ⟨_, rfl, Or.inl ⟨rfl, _, SqL.of ea⟩, _, rfl, fa, acc, _, rfl, rfl, ea, by rw [lacc]; exact small1000 (by omega), gs ++ [cmp x l], m2, lt1.upd naf ea, S.more (.step (S.gen x (List.mem_of_getElem? hx)) lm) (by omega), by rw [List.length_append, List.length_singleton]; omega,
            by rw [List.length_append, List.length_singleton]; omega, by rw [List.getElem?_append_left hi]; exact hx, fun l' hl' => ?_, _, _, _, _, _, _, _, rfl⟩
          rw [tk] at hl'
          rcases List.mem_append.mp hl' with h | h
          · exact List.mem_append_left _ (hd l' h)
          · rw [List.mem_singleton.mp h]; exact List.mem_append_right _ (List.mem_singleton.mpr rfl)
        · have hin : cmp x l ∈ gs := by
            by_cases hm : cmp x l ∈ gs
            · exact hm
            · rw [decide_eq_false hm] at c; exact absurd rfl c
          refine ⟨gs, mG1, lt1, S, hi, by omega, hx, fun l' hl' => ?_, _, _, _, _, _, _, _, rfl⟩
          rw [tk] at hl'
          rcases List.mem_append.mp hl' with h | h
          · exact hd l' h
          · rw [List.mem_singleton.mp h]; exact hin
    · rintro _ G1 ⟨gs, mG, lt, S', hi, hl, hx', hd, x3, x4, x7, x8, x9, x10, x11, rfl⟩
      rw [List.length_map, lts] at hl hd
      rw [List.take_of_length_le (Nat.le_refl _)] at hd
      refine ⟨_, rfl, _, _, rfl, rfl, ⟨gs, i + 1, mG, lt, ⟨S'.lm, S'.sub, S'.gen, fun j hj z hz l hl => ?_⟩, hi, by omega, by omega, _, _, _, _, _, _, _, rfl⟩, ?_⟩
      · by_cases e : j = i
        · subst e
          rw [hx'] at hz
          cases hz
          exact hd l hl
        · exact S'.done j (by omega) z hz l hl
      · show 20 - (((i : Nat) : Int) + 1).toNat < 20 - ((i : Nat) : Int).toNat
        omega
  · refine ⟨_, rfl, fa, xs, rfl, .inl hxs, _, _, rfl, rfl, _, rfl, ite2 (fun d => ?_) (fun d => ?_)⟩
    · exact q _ _ (.inl rfl) mG.bx mG.sx
    have d' : ¬ (16 : Int) < ((xs.length : Nat) : Int) := of_decide_eq_false (Bool.eq_false_iff.mpr d)
    have n16 : fs.length ≤ 16 := by omega
    have hi : fs.length ≤ i := by
      by_cases z : i < fs.length
      · exact absurd (by rw [decide_eq_true z, decide_eq_true (show fs.length < 17 by omega)]; rfl) c
      · omega
    have C : Cl k fs := S.cl hi
    have n1 : 1 ≤ fs.length := by
      obtain ⟨m, hm⟩ : ∃ m, m ∈ ms := ⟨_, List.getElem_mem ln0⟩
      exact List.length_pos_of_mem (S.sub m hm)
    obtain ⟨fts, efts, pf⟩ := id mG.fm
    have lf : fts.length = fs.length := pf.length
    refine ⟨z05, fun ra hra => ?_⟩
    refine ⟨_, rfl, fa, rfl, ⟨_, SqL.of (Same.new hra _ _ _ efts)⟩, ?_⟩
    refine for_it (walk_list (xs := fts.map V.ref)) (fun a σ J => Part G J ra (rowsTo fs.length (fmp fs) a) ∧ ∃ x3 x4 x5 x6 x7 x9 x10 x11, σ = [some (.ref p), some (.int k), some (.ref fa), x3, x4, x5, x6, x7, some (.ref ra), x9, x10, x11])
      ⟨Part.start (Same.refl G) hra, _, _, _, _, _, _, _, _, rfl⟩ (fun _ _ _ _ z => SqL.of (z.1.same _ _ efts)) ?_ ?_
    · rintro a y _ J1 J2 ha ⟨pa, x3, x4, x5, x6, x7, x9, x10, x11, rfl⟩ ⟨rfl, hy⟩
      have ha' : a < fs.length := by rw [List.length_map, lf] at ha; exact ha
      obtain ⟨ta, hta, rfl⟩ := ref_at hy
      obtain ⟨x, hx, ex⟩ := pair_at pf hta
      have xk : Mp k x := C.mp x (List.mem_of_getElem? hx)
      have wk : (nv x).length = k := by rw [nv_len]; exact xk.1
      have sGJ := pa.same
      refine ⟨_, rfl, fa, rfl, ⟨_, SqL.of (sGJ _ _ efts)⟩, fun D hD => ?_⟩
      refine lc_it (walk_list (xs := fts.map V.ref)) (fun b G3 => Same J2 G3 ∧ ∃ rts : List Addr, G3 D = some (.lst (rts.map V.ref)) ∧ rts.length = b ∧ Paired (fun t m => G3 t = some (.tup (nv m))) rts ((fs.take b).map (cmp x)))
        ⟨Same.new hD _, [], upd_same, rfl, .nil⟩ (fun b G3 _ z => SqL.of (z.1 _ _ (sGJ _ _ efts))) ?_ ?_
      · rintro b z G3 G4 hb ⟨sG, rts, eD, lr, pr⟩ ⟨rfl, hz⟩
        obtain ⟨tb, htb, rfl⟩ := ref_at hz
        obtain ⟨y, hy, ey⟩ := pair_at pf htb
        have yk : Mp k y := C.mp y (List.mem_of_getElem? hy)
        have hb' : b < fs.length := by rw [List.length_map, lf] at hb; exact hb
        have tk : fs.take (b + 1) = fs.take b ++ [y] := by rw [List.take_add_one, hy]; rfl
        refine ⟨rfl, _, rfl, ta, rfl, ⟨_, SqT.of (sG _ _ (sGJ _ _ ex))⟩, fun D2 hD2 => ?_⟩
        have nD : D ≠ D2 := ne_of_none eD hD2
        refine lc_it (walk_tup (xs := nv x)) (fun c G5 => Same G4 G5 ∧ G5 D2 = some (.lst (nv ((cmp x y).take c)))) ⟨Same.new hD2 _, upd_same⟩ (fun c G5 _ z => SqT.of (z.1 _ _ (sG _ _ (sGJ _ _ ex)))) ?_ ?_
        · rintro c v G5 G6 hc ⟨sG5, eD2⟩ ⟨rfl, hv⟩
          rw [wk] at hc
          obtain ⟨s, hs, rfl⟩ := nv_at hv
          have sk : s < k := xk.2 s (List.mem_of_getElem? hs)
          refine ⟨rfl, _, rfl, _, rfl, tb, _, _, _, rfl, rfl, SqT.of (sG5 _ _ (sG _ _ (sGJ _ _ ey))), at_of (j := s) rfl (nv_get yk sk), _, eD2, ?_, fun c o ec => by rw [upd_ne (ne_of_none ec hD2)]; exact sG5 c o ec, ?_⟩
          · rw [nv_len, List.length_take]; exact small1000 (by omega)
          · rw [upd_same, cmp_take hs]; unfold nv; rw [List.map_append]; rfl
        · rintro G5 ⟨sG5, eD2⟩
          rw [List.take_of_length_le (by rw [wk]; have := (cmp_mp xk yk).1; omega)] at eD2
          refine ⟨D2, _, rfl, .inl ⟨SqL.of eD2, fun t ht => ?_⟩⟩
          have s6 : Same G4 (upd G5 t (.tup (nv (cmp x y)))) := sG5.trans (Same.new ht _)
          have eD6 := s6 _ _ eD
          have nt : t ≠ D := (ne_of_none (sG5 _ _ eD) ht).symm
          have nDt : ∀ {c : Addr} {vs : List V}, G4 c = some (.tup vs) → c ≠ D := fun {c vs} z w => by rw [w, eD] at z; cases z
          refine ⟨_, eD6, by rw [List.length_map, lr]; exact small1000 (by omega), fun c o ec => by rw [upd_ne (ne_of_none ec hD)]; exact s6 _ _ (sG c o ec), rts ++ [t], by rw [upd_same, List.map_append]; rfl, by simp [lr], ?_⟩
          rw [tk, List.map_append]
          exact pair_app (L2.Paired.mapP pr fun c m z => by rw [upd_ne (nDt z)]; exact s6 _ _ z) (by rw [upd_ne nt, upd_same])
      · rintro G3 ⟨sG, rts, eD, lr, pr⟩
        rw [List.length_map, lf] at lr pr
        rw [List.take_of_length_le (Nat.le_refl _)] at pr
        have pa3 := pa.to sG
        obtain ⟨rs0, er, _⟩ := id pa3.at_
        refine ⟨_, rfl, Or.inl ⟨rfl, _, SqL.of er⟩, _, rfl, D, rfl, ⟨_, SqL.of eD⟩, fun D3 hD3 => ?_⟩
        refine lc_it (walk_list (xs := rts.map V.ref)) (fun b G5 => Same G3 G5 ∧ G5 D3 = some (.lst ((rowTo (fmp fs) a b).map V.int))) ⟨Same.new hD3 _, upd_same⟩ (fun b G5 _ z => SqL.of (z.1 _ _ eD)) ?_ ?_
        · rintro b z G5 G6 hb ⟨sG5, eD3⟩ ⟨rfl, hz⟩
          have hb' : b < fs.length := by rw [List.length_map, lr] at hb; exact hb
          obtain ⟨tz, htz, rfl⟩ := ref_at hz
          obtain ⟨m, hm, em⟩ := pair_at pr htz
          have em' : m = cmp (fs.getD a []) (fs.getD b []) := by
            rw [List.getElem?_map, List.getElem?_eq_getElem hb'] at hm
            rw [List.getD_eq_getElem?_getD, hx, List.getD_eq_getElem?_getD, List.getElem?_eq_getElem hb']
            exact (Option.some.inj hm).symm
          have at1 := C.at_ ha' hb'
          rw [← em'] at at1
          refine ⟨rfl, _, rfl, Or.inl ⟨rfl, _, SqL.of (sG5 _ _ (sG _ _ (sGJ _ _ efts)))⟩, _, rfl, fa, .ref tz, tD m, fs.map tD, fmp fs a b, tD m, rfl, rfl, .lst (SqL.of (sG5 _ _ (sG _ _ (sGJ _ _ efts)))) (dp_tups (L2.Paired.mapP pf fun _ _ w => sG5 _ _ (sG _ _ (sGJ _ _ w)))),
            dp_tup (sG5 _ _ em), tDs_shaped fs, tD_shaped m, by rw [List.getElem?_map, at1.2]; rfl, by rw [tD_eqv]; exact decide_eq_true rfl, fun j z' hj hz' => ?_, _, eD3, by rw [rowTo_len]; exact small1000 (by omega), fun c o ec => by rw [upd_ne (ne_of_none ec hD3)]; exact sG5 c o ec, ?_⟩
          · rw [List.getElem?_map] at hz'
            obtain ⟨w, hw, rfl⟩ := Option.map_eq_some_iff.mp hz'
            rw [tD_eqv]
            refine decide_eq_false (idx_ahead (ms := fs) (m := m) ?_ hw)
            unfold fmp at hj
            rw [← em'] at hj
            exact hj
          · rw [upd_same, rowTo_next, List.map_append]; rfl
        · rintro G5 ⟨sG5, eD3⟩
          rw [List.length_map, lr] at eD3
          obtain ⟨acc, ea, lacc, p1⟩ := pa.add (q := D3) (sG.trans sG5) (sG.free hD3) eD3
          refine ⟨ra, acc, _, rfl, rfl, ea, by rw [lacc, rowsTo_len]; exact small1000 (by omega), ?_, _, _, _, _, _, _, _, _, rfl⟩
          rw [rowsTo_next]
          exact p1
    · rintro _ J1 ⟨pa, x3, x4, x5, x6, x7, x9, x10, x11, rfl⟩
      have pa' : Part G J1 ra (tab fs.length (fmp fs)) := by
        rw [List.length_map, lf] at pa
        exact pa
      exact ⟨_, rfl, q _ _ (.inr ⟨_, _, n1, n16, asf_maps C, pa'.fin.same (nw_back mG.sx mG.bx)⟩) (mG.bx.same pa'.same) (mG.sx.trans (Sx.of pa'.same))⟩
end
end L

set_option Elab.async false
set_option linter.all false
set_option maxRecDepth 100000
set_option maxHeartbeats 4000000
namespace L
open PySem L2 KX
abbrev sRows : Stmt := top 63
theorem erase_pm {α : Type} : ∀ {l : List α} {i : Nat} {y : α}, l[i]? = some y → (y :: l.eraseIdx i).Perm l
  | [], _, _, h => by simp at h
  | x :: l, 0, y, h => by simp at h; subst h; exact List.Perm.refl _
  | x :: l, i + 1, y, h => (List.Perm.swap x y _).trans ((erase_pm (l := l) (i := i) (by simpa using h)).cons x)
theorem erase_nv : ∀ {m : List Nat} {i : Nat}, (nv m).eraseIdx i = nv (m.eraseIdx i)
  | [], _ => rfl
  | x :: m, 0 => rfl
  | x :: m, i + 1 => congrArg (V.int ((x : Nat) : Int) :: ·) (erase_nv (m := m) (i := i))
theorem idx_ahead1 {ms : List Nat} {m : Nat} : ∀ {j : Nat} {z : Nat}, j < ms.idxOf m → ms[j]? = some z → z ≠ m := by
  induction ms with
  | nil => intro j z h e; cases e
  | cons a ms ih =>
    intro j z h e hz
    subst hz
    rw [List.idxOf_cons] at h
    by_cases ha : a = z
    · subst ha
      rw [show (a == a) = true from beq_self_eq_true a] at h
      exact absurd h (Nat.not_lt_zero _)
    · rw [show (a == z) = false from beq_eq_false_iff_ne.mpr ha] at h
      cases j with
      | zero => exact ha (Option.some.inj e)
      | succ j =>
        have h' : j + 1 < ms.idxOf z + 1 := h
        exact ih (j := j) (by omega) e rfl
section
variable {X : Cx} {K : PySem.W.Frag}
/-- a statement by what is known behind it -/
theorem ps_cut {st : Stmt} {t : TS} (h : PS X st t) : PS X st (fun D σ H => ∃ R : L2.St → Hp → Prop, t { D with nx := R } σ H ∧ ∀ σ' H', R σ' H' → D.nx σ' H') := by
  refine ⟨fun pins s σ H D I ⟨R, h1, k⟩ => thn (h.run pins s σ H { D with nx := R } I h1) fun f s1 q => ?_⟩
  cases f with
  | next =>
    obtain ⟨σ', H', I', q⟩ := q
    exact ⟨σ', H', I', k _ _ q⟩
  | ret v => exact q
  | brk => exact q
  | cont => exact q
theorem pil (hK : X.K = K) {tg l : Expr} {tl : TE} (h : PE X l tl) : PI X tg l (iList K tl) := by subst hK; exact pi_list h
theorem pe_bK (hK : X.K = K) {o e : Expr} {to : TE} {t : TA} {r : V → List V → Hp → VK → Prop} {name : Str} {apos cpos : Pos} (h : PE X (.Call (.Attribute o name apos) [e] [] cpos) (tBM X.K "list" r to t)) :
    PE X (.Call (.Attribute o name apos) [e] [] cpos) (tBM K "list" r to t) := by subst hK; exact h
theorem mt_idx1 (hK : X.K = K) : MtR X "list.index" (rIndex K) := by subst hK; exact mt_index
end
def scOut : Scope := { kind := .function, names := [(Str.ofString ".0", .local), (Str.ofString "a", .cell), (Str.ofString "order", .cell), (Str.ofString "rows", .cell)], isGenerator := false, isCoroutine := false }
/-- the rows so far: a new table at v -/
structure RwAt (H : Hp) (p : Addr) (J : Hp) (v : V) (n : Nat) (f : Nat → Nat → Nat) : Prop where
  bx : Bx J p
  sx : Sx p H J
  n1 : 1 ≤ n
  n16 : n ≤ 16
  as : Asf n f
  rows : RowsL (nw H J) v (tab n f)
theorem nw_to {H J : Hp} : Same (nw H J) J := fun c o h => (nw_some h).2
theorem RwAt.took {H J G : Hp} {p : Addr} {v : V} {n : Nat} {f : Nat → Nat → Nat} (h : RwAt H p J v n f) (hb : Bx H p) (s : Sx p J G) (b : Bx G p) : RwAt H p G v n f := ⟨b, h.sx.trans s, h.n1, h.n16, h.as, h.rows.same (nw_step hb s)⟩
theorem RwAt.to {H J G : Hp} {p : Addr} {v : V} {n : Nat} {f : Nat → Nat → Nat} (h : RwAt H p J v n f) (hb : Bx H p) (s : Same J G) : RwAt H p G v n f := h.took hb (Sx.of s) (h.bx.same s)
theorem RwAt.of {H J G : Hp} {p : Addr} {v : V} {n : Nat} {f : Nat → Nat → Nat} (b : Bx J p) (sx : Sx p H J) (s : Same J G) (n1 : 1 ≤ n) (n16 : n ≤ 16) (as : Asf n f) (r : RowsL (nw J G) v (tab n f)) : RwAt H p G v n f :=
  ⟨b.same s, sx.trans (Sx.of s), n1, n16, as, r.same (nw_back sx b)⟩
theorem RwAt.ofS {H J G : Hp} {p : Addr} {v : V} {n : Nat} {f : Nat → Nat → Nat} (b : Bx J p) (sx : Sx p H J) (s : Sx p J G) (bG : Bx G p) (n1 : 1 ≤ n) (n16 : n ≤ 16) (as : Asf n f) (r : RowsL (nw J G) v (tab n f)) : RwAt H p G v n f :=
  ⟨bG, sx.trans s, n1, n16, as, r.same (nw_back sx b)⟩
/-- the rows as a list -/
theorem RwAt.lst {K : PySem.W.Frag} {H J : Hp} {p : Addr} {v : V} {n : Nat} {f : Nat → Nat → Nat} (h : RwAt H p J v n f) : ∃ a xs, v = .ref a ∧ SqL K J a xs ∧ xs.length = n :=
  let ⟨a, rs, e, ea, pr⟩ := h.rows
  ⟨a, _, e, SqL.of (nw_to _ _ ea), by rw [List.length_map, pr.length, tab_len]⟩
theorem RwAt.ne {H J : Hp} {p : Addr} {v : V} {n : Nat} {f : Nat → Nat → Nat} (h : RwAt H p J v n f) : v ≠ .non := fun e => by
  obtain ⟨a, rs, e', _⟩ := h.rows
  rw [e'] at e; cases e
theorem rg_nv (n : Nat) : rgV 0 (n : Int) = nv (List.range n) := by
  unfold rgV nv
  rw [Int.sub_zero, Int.toNat_natCast]
  exact List.map_congr_left fun x _ => by rw [Int.zero_add]
def spRows : Sp := fun vs H Q _ => ∃ p, vs = [.ref p] ∧ Bx H p ∧ ∀ v H' n f, RwAt H p H' v n f → Q v H'
abbrev nRows : List Str := ["box", "kind", "rows", "more", "other", "left", "order", "k", "b", "a"]
section
variable {P : Program} {w : World} {K : PySem.W.Frag} {mg : Str → Option Value} {base : Heap} {f g gn : Addr} {fd gd gnd : FuncData} {g1 g2 g3 g4 g5 g6 : Addr} {d1 d2 d3 d4 d5 d6 : FuncData}
theorem scRows : FnScope nRows ["box"] (defScope sRows) := ⟨rfl, rfl, rfl, by decide +kernel, rfl, by decide +kernel, by decide +kernel⟩
theorem ok_rows (F : Fun K "_law_rows" "_law_rows" sRows f fd) (M : Mn mg) (G : FnOk P w K mg base CX0 1 g gd ["box", "size"] spTake) (bG : Binds K gd ["box", "size"] []) (kG : PySem.W.keepIn K (.ref g) = true) (mG : mg "_law_take" = some (.ref g))
    (G1 : FnOk P w K mg base CX0 2 g1 d1 ["box"] spMaps) (b1 : Binds K d1 ["box"] []) (k1 : PySem.W.keepIn K (.ref g1) = true) (m1 : mg "_law_maps" = some (.ref g1))
    (G2 : FnOk P w K mg base CX0 2 g2 d2 ["box"] spGrid) (b2 : Binds K d2 ["box"] []) (k2 : PySem.W.keepIn K (.ref g2) = true) (m2 : mg "_law_grid" = some (.ref g2))
    (G3 : FnOk P w K mg base CX0 1 g3 d3 [] spWords) (b3 : Binds K d3 [] []) (k3 : PySem.W.keepIn K (.ref g3) = true) (m3 : mg "_law_words" = some (.ref g3))
    (G4 : FnOk P w K mg base CX0 1 g4 d4 ["kind", "n"] spPlain) (b4 : Binds K d4 ["kind", "n"] []) (k4 : PySem.W.keepIn K (.ref g4) = true) (m4 : mg "_law_plain" = some (.ref g4))
    (G5 : FnOk P w K mg base CX0 1 g5 d5 ["rows", "kind"] spExt) (b5 : Binds K d5 ["rows", "kind"] []) (k5 : PySem.W.keepIn K (.ref g5) = true) (m5 : mg "_law_extended" = some (.ref g5))
    (G6 : FnOk P w K mg base CX0 1 g6 d6 ["one", "other"] spPairs) (b6 : Binds K d6 ["one", "other"] []) (k6 : PySem.W.keepIn K (.ref g6) = true) (m6 : mg "_law_pairs" = some (.ref g6)) :
    FnOk P w K mg base CX0 3 f fd ["box"] spRows := by
  refine F.ok scRows (fun vs H Q E h => ?_) (fun cdv A outer s H vs Q E hr2 h => ?_)
  · obtain ⟨p, rfl, _⟩ := h
    rfl
  obtain ⟨p, rfl, hb, q⟩ := h
  have hr : Room 1 _ := hr2.mono (by decide)
  refine ⟨_, pss_cons (ps_asg (pe_tup (pa_cons (pe_call G hr (by rfl) mG kG bG .nil pass0 (pa_cons (pv 0) (pa_cons pe_int pa_nil))) (pa_cons pe_non pa_nil)))
      (pg_tup rfl (pgs_cons (pg_name (i := 1) scRows.nd rfl (Or.inl rfl)) (pgs_cons (pg_name (i := 2) scRows.nd rfl (Or.inr rfl)) pgs_nil))))
    (pss_cons (ps_cut (ps_if (pt_cmpR op_lt (pv 1) pe_int (nomark _)) (pss_one (ps_set (i := 2) scRows.nd rfl (Or.inr rfl) (pe_call G1 hr2 (by rfl) m1 k1 b1 .nil pass0 (pa_cons (pv 0) pa_nil))))
      (pss_one (ps_if (pt_cmpR op_eq (pv 1) pe_int (nomark _)) (pss_one (ps_set (i := 2) scRows.nd rfl (Or.inr rfl) (pe_call G2 hr2 (by rfl) m2 k2 b2 .nil pass0 (pa_cons (pv 0) pa_nil))))
        (pss_one (ps_if (pt_cmpR op_eq (pv 1) pe_int (nomark _)) (pss_one (ps_set (i := 2) scRows.nd rfl (Or.inr rfl) (pe_call0 G3 hr (by rfl) m3 k3 b3 .nil pass0))) pss_nil))))))
    (pss_cons (ps_cut (ps_if (pt_cmp (pc_isN (pv 2))) (pss_cons (ps_set (i := 1) scRows.nd rfl (Or.inl rfl) (pe_call G hr (by rfl) mG kG bG .nil pass0 (pa_cons (pv 0) (pa_cons pe_int pa_nil))))
      (pss_one (ps_set (i := 2) scRows.nd rfl (Or.inr rfl) (pe_call G4 hr (by rfl) m4 k4 b4 .nil pass0 (pa_cons (pv 1) (pa_cons (pe_op op_add pe_int (pe_call G hr (by rfl) mG kG bG .nil pass0 (pa_cons (pv 0) (pa_cons
        (pe_ix ix_list (pe_lst (pa_cons pe_int (pa_cons pe_int (pa_cons pe_int pa_nil)))) (pe_call G hr (by rfl) mG kG bG .nil pass0 (pa_cons (pv 0) (pa_cons pe_int pa_nil))) (fun _ _ => rfl)) pa_nil)))) pa_nil)))))) pss_nil))
    (pss_cons (ps_set (i := 3) scRows.nd rfl (Or.inl rfl) (pe_call G hr (by rfl) mG kG bG .nil pass0 (pa_cons (pv 0) (pa_cons pe_int pa_nil))))
    (pss_cons (ps_cut (ps_if (pt_mo (pw_and (pt_cmpR op_lt (pv 3) pe_int (nomark _)) (pw_and1 (pt_cmpR op_lt (pe_callB call_len_seq (by rfl) M.len PySem.boot_len (pa_cons (pv 2) pa_nil)) pe_int (nomark _)))).pt)
      (pss_one (ps_set (i := 2) scRows.nd rfl (Or.inr rfl) (pe_call G5 hr (by rfl) m5 k5 b5 .nil pass0 (pa_cons (pv 2) (pa_cons (pv 3) pa_nil))))) pss_nil))
    (pss_cons (ps_set (i := 4) scRows.nd rfl (Or.inl rfl) (pe_call G4 hr (by rfl) m4 k4 b4 .nil pass0 (pa_cons (pe_call G hr (by rfl) mG kG bG .nil pass0 (pa_cons (pv 0) (pa_cons pe_int pa_nil)))
      (pa_cons (pe_op op_add pe_int (pe_call G hr (by rfl) mG kG bG .nil pass0 (pa_cons (pv 0) (pa_cons pe_int pa_nil)))) pa_nil))))
    (pss_cons (ps_cut (ps_if (pw_and (pt_cmpR op_eq (pe_call G hr (by rfl) mG kG bG .nil pass0 (pa_cons (pv 0) (pa_cons pe_int pa_nil))) pe_int (nomark _))
        (pw_and1 (pt_cmpR op_le (pe_op op_mul (pe_callB call_len_seq (by rfl) M.len PySem.boot_len (pa_cons (pv 2) pa_nil)) (pe_callB call_len_seq (by rfl) M.len PySem.boot_len (pa_cons (pv 4) pa_nil))) pe_int (nomark _)))).pt
      (pss_one (ps_set (i := 2) scRows.nd rfl (Or.inr rfl) (pe_call G6 hr (by rfl) m6 k6 b6 .nil pass0 (pa_cons (pv 2) (pa_cons (pv 4) pa_nil))))) pss_nil))
    (pss_cons (ps_set (i := 5) scRows.nd rfl (Or.inr rfl) (pe_listRg rfl (by rfl) M.list (prg_1 (by rfl) M.range (pe_callB call_len_seq (by rfl) M.len PySem.boot_len (pa_cons (pv 2) pa_nil)))))
    (pss_cons (ps_set (i := 6) scRows.nd rfl (Or.inr rfl) (pe_lc (own := [("k", 7)]) (g := gName 7) (tt := tYes) rfl scRows.nd (pi_range1 (by rfl) M.range (pa_cons (pe_callB call_len_seq (by rfl) M.len PySem.boot_len (pa_cons (pv 2) pa_nil)) pa_nil))
      (blkOk_by (N := nRows) (sc := defScope sRows) (by decide +kernel)) (fun _ _ _ _ _ => pg_name (i := 7) scRows.nd rfl (Or.inl rfl)) (fun _ _ _ _ _ => pts_nil)
      (fun _ _ _ _ _ => pe_bK (K := K) rfl (pe_bm PySem.F.plainAttrs_list PySem.F.slot_list_pop PySem.F.type_list_pop mt_popAt (pv 5) (pa_cons (pe_call G hr (by rfl) mG kG bG .nil pass0 (pa_cons (pv 0)
        (pa_cons (pe_callB (lenl (K := K) rfl) (by rfl) M.len PySem.boot_len (pa_cons (pv 5) pa_nil)) pa_nil))) pa_nil)))))
    (pss_one (ps_ret (pe_lc (own := [("a", 9)]) (g := gName 9) (tt := tYes) rfl scRows.nd (pi_list (pv 6))
      (blkOk_by (N := nRows) (sc := defScope sRows) (by decide +kernel)) (fun _ _ _ _ _ => pg_name (i := 9) scRows.nd rfl (Or.inr rfl)) (fun _ _ _ _ _ => pts_nil)
      (fun _ _ _ _ _ => pe_lc (own := [("b", 8)]) (g := gName 8) (tt := tYes) rfl scRows.nd (pil (K := K) rfl (pv 6))
        (blkOk_by (N := nRows) (sc := scOut) (by decide +kernel)) (fun _ _ _ _ _ => pg_name (i := 8) scRows.nd rfl (Or.inl rfl)) (fun _ _ _ _ _ => pts_nil)
        (fun _ _ _ _ _ => pe_bK (K := K) rfl (pe_bm PySem.F.plainAttrs_list PySem.F.slot_list_index PySem.F.type_list_index (mt_idx1 (K := K) rfl) (pv 6)
          (pa_cons (pe_ix (ixl (K := K) rfl) (pe_ix (ixl (K := K) rfl) (pv 2) (pv 9) (fun _ _ => rfl)) (pv 8) (fun _ _ => rfl)) pa_nil))))))))))))))), ?_⟩
  refine ⟨_, rfl, p, 10, rfl, hb, by decide, by decide, fun r J ra rb bJ sJ => ?_⟩
  refine ⟨(by show 2 ≤ sizeLine; decide), fun t ht => ⟨t, _, rfl, SqT.of upd_same, rfl, _, _, rfl, _, _, rfl, rfl, ?_⟩⟩
  have bx1 : Bx (upd J t (.tup [.int r, .non])) p := bJ.new ht
  have sx1 : Sx p H (upd J t (.tup [.int r, .non])) := sJ.trans (Sx.new ht)
  refine ⟨fun σ G => ∃ v x1, Bx G p ∧ Sx p H G ∧ (v = .non ∨ ∃ n f, RwAt H p G v n f) ∧ ∃ x3 x4 x5 x6 x7 x8 x9, σ = [some (.ref p), x1, some v, x3, x4, x5, x6, x7, x8, x9], ?_, ?_⟩
  · refine ⟨_, rfl, _, _, rfl, rfl, _, rfl, ite2 (fun c => ?_) (fun c => ?_)⟩
    · refine ⟨_, rfl, p, rfl, bx1, fun v G hv b s => ⟨v, _, b, sx1.trans s, ?_, _, _, _, _, _, _, _, rfl⟩⟩
      rcases hv with hv | ⟨n, f, h1, h2, h3, h4⟩
      · exact .inl hv
      · exact .inr ⟨n, f, RwAt.ofS bx1 sx1 s b h1 h2 h3 h4⟩
    · refine ⟨_, rfl, rfl, _, rfl, ite2 (fun c => ?_) (fun c => ?_)⟩
      · exact ⟨_, rfl, p, rfl, bx1, fun v G sh hs rw b s => ⟨v, _, b, sx1.trans s, .inr ⟨8, fgr sh, RwAt.ofS bx1 sx1 s b (by decide) (by decide) (asf_grid sh hs) rw⟩, _, _, _, _, _, _, _, rfl⟩⟩
      · refine ⟨_, rfl, rfl, _, rfl, ite2 (fun c => ?_) (fun c => ?_)⟩
        · exact ⟨rfl, fun v G rw s => ⟨v, _, bx1.same s, sx1.trans (Sx.of s), .inr ⟨7, fwd, RwAt.of bx1 sx1 s (by decide) (by decide) asf_words rw⟩, _, _, _, _, _, _, _, rfl⟩⟩
        · exact ⟨.non, _, bx1, sx1, .inl rfl, _, _, _, _, _, _, _, rfl⟩
  rintro _ G ⟨v, x1, b, sx, hv, x3, x4, x5, x6, x7, x8, x9, rfl⟩
  refine ⟨fun σ G => ∃ v x1 n f, RwAt H p G v n f ∧ ∃ x3 x4 x5 x6 x7 x8 x9, σ = [some (.ref p), x1, some v, x3, x4, x5, x6, x7, x8, x9], ?_, ?_⟩
  · refine ⟨_, rfl, _, rfl, ite2 (fun c => ?_) (fun c => ?_)⟩
    · refine ⟨_, rfl, p, 6, rfl, b, by decide, by decide, fun kd G1 ka kb b1 s1 => ?_⟩
      obtain ⟨kd, rfl⟩ := Int.eq_ofNat_of_zero_le ka
      refine ⟨_, rfl, _, rfl, (by show 3 ≤ sizeLine; decide), fun l hl => ⟨_, rfl, p, 3, rfl, b1.new hl, by decide, by decide, fun i G2 ia ib b2 s2 => ?_⟩⟩
      have nl : l ≠ p := b1.ne hl
      have el : G2 l = some (.lst [.int 7, .int 7, .int 16]) := s2 l _ nl upd_same
      obtain ⟨z, hz, z1, z2⟩ : ∃ z : Int, atI [V.int 7, .int 7, .int 16] i = some (.int z) ∧ 0 < z ∧ z ≤ 16 := by
        obtain ⟨i, rfl⟩ := Int.eq_ofNat_of_zero_le ia
        have i3 : i < 3 := by omega
        match i, i3 with
        | 0, _ => exact ⟨7, rfl, by decide, by decide⟩
        | 1, _ => exact ⟨7, rfl, by decide, by decide⟩
        | 2, _ => exact ⟨16, rfl, by decide, by decide⟩
      refine ⟨l, _, _, _, rfl, rfl, SqL.of el, hz, p, z, rfl, b2, z1, by omega, fun m G3 ma mb b3 s3 => ?_⟩
      obtain ⟨m, rfl⟩ := Int.eq_ofNat_of_zero_le ma
      refine ⟨_, _, rfl, rfl, kd, 1 + m, congrArg (fun z => [V.int (kd : Int), V.int z]) (by omega), by omega, by omega, by omega, fun v' G4 rw s4 => ?_⟩
      have sx3 : Sx p H G3 := ((sx.trans s1).trans (Sx.new hl)).trans (s2.trans s3)
      exact ⟨v', _, 1 + m, fpl kd (1 + m), RwAt.of b3 sx3 s4 (by omega) (by omega) (asf_plain kd (1 + m) (by omega)) rw, _, _, _, _, _, _, _, rfl⟩
    · rcases hv with rfl | ⟨n, f, hv⟩
      · exact absurd (decide_eq_true rfl) c
      · exact ⟨v, _, n, f, hv, _, _, _, _, _, _, _, rfl⟩
  clear b sx hv x1
  rintro _ G ⟨v, x1, n, f, h, x3, x4, x5, x6, x7, x8, x9, rfl⟩
  refine ⟨_, rfl, p, 5, rfl, h.bx, by decide, by decide, fun mo G1 ma mb b1 s1 => ?_⟩
  obtain ⟨mo, rfl⟩ := Int.eq_ofNat_of_zero_le ma
  have h1 := h.took hb s1 b1
  refine ⟨fun σ G => ∃ v x1 x3 n f, RwAt H p G v n f ∧ ∃ x4 x5 x6 x7 x8 x9, σ = [some (.ref p), x1, some v, x3, x4, x5, x6, x7, x8, x9], ?_, ?_⟩
  · obtain ⟨a, xs, rfl, hxs, lxs⟩ := h1.lst (K := K)
    refine ⟨fun b G' => G1 = G' ∧ (b = true → mo < 2 ∧ n < 16), ?_, ?_⟩
    · refine ⟨_, rfl, _, _, rfl, rfl, _, rfl, ite2 (fun c => ⟨_, rfl, a, xs, rfl, .inl hxs, _, _, rfl, rfl, _, rfl, rfl, fun d => ?_⟩) (fun c => ⟨rfl, fun z => by cases z⟩)⟩
      have c' : ((mo : Nat) : Int) < 2 := of_decide_eq_true c
      have d' : ((xs.length : Nat) : Int) < 16 := of_decide_eq_true d
      exact ⟨by omega, by omega⟩
    rintro bb _ ⟨rfl, hbb⟩
    refine ite2 (fun c => ?_) (fun c => ?_)
    · obtain ⟨c1, c2⟩ := hbb c
      exact ⟨_, rfl, _, rfl, .ref a, mo, n, f, rfl, c1, h1.n1, c2, h1.rows.same nw_to, fun v' G2 rw sm => ⟨v', _, _, n + 1, fex mo n f, RwAt.of h1.bx h1.sx sm (by omega) (by omega) (asf_extended h1.as) rw, _, _, _, _, _, _, rfl⟩⟩
    · exact ⟨.ref a, _, _, n, f, h1, _, _, _, _, _, _, rfl⟩
  clear h h1 b1 s1
  rintro _ G ⟨v, x1, x3, n, f, h, x4, x5, x6, x7, x8, x9, rfl⟩
  refine ⟨_, rfl, p, 6, rfl, h.bx, by decide, by decide, fun kd G1 ka kb b1 s1 => ?_⟩
  obtain ⟨kd, rfl⟩ := Int.eq_ofNat_of_zero_le ka
  refine ⟨_, rfl, p, 3, rfl, b1, by decide, by decide, fun m G2 ma mb b2 s2 => ?_⟩
  obtain ⟨m, rfl⟩ := Int.eq_ofNat_of_zero_le ma
  refine ⟨_, _, rfl, rfl, kd, 2 + m, congrArg (fun z => [V.int (kd : Int), V.int z]) (by omega), by omega, by omega, by omega, fun v2 G3 rw2 sm2 => ?_⟩
  have h2 := (h.took hb (s1.trans s2) b2).to hb sm2
  have o2 : RwAt H p G3 v2 (2 + m) (fpl kd (2 + m)) := RwAt.of b2 (h.sx.trans (s1.trans s2)) sm2 (by omega) (by omega) (asf_plain kd (2 + m) (by omega)) rw2
  refine ⟨fun σ G => ∃ v x1 x3 n f, RwAt H p G v n f ∧ ∃ x4 x5 x6 x7 x8 x9, σ = [some (.ref p), x1, some v, x3, x4, x5, x6, x7, x8, x9], ?_, ?_⟩
  · refine ⟨_, rfl, p, 3, rfl, h2.bx, by decide, by decide, fun r G4 ra rb b4 s4 => ?_⟩
    have h3 := h2.took hb s4 b4
    have o3 := o2.took hb s4 b4
    have stay : ∃ (v' : V) (x1' x3' : Option V) (n' : Nat) (f' : Nat → Nat → Nat), RwAt H p G4 v' n' f' ∧ ∃ x4' x5' x6' x7' x8' x9', ([some (.ref p), x1, some v, x3, some v2, x5, x6, x7, x8, x9] : L2.St) = [some (.ref p), x1', some v', x3', x4', x5', x6', x7', x8', x9'] := ⟨v, _, _, n, f, h3, _, _, _, _, _, _, rfl⟩
    obtain ⟨a, xs, rfl, hxs, lxs⟩ := h3.lst (K := K)
    obtain ⟨a2, xs2, rfl, hxs2, lxs2⟩ := o3.lst (K := K)
    have hn16 := h3.n16
    refine ⟨rfl, _, rfl, ite2 (fun c => ⟨_, rfl, a, xs, rfl, .inl hxs, _, rfl, a2, xs2, rfl, .inl hxs2, _, _, rfl, rfl, .inl ⟨by omega, by omega⟩, _, _, rfl, rfl, _, rfl, ite2 (fun d => ?_) (fun d => stay)⟩) (fun c => iteF stay)⟩
    have d' : ((xs.length : Nat) : Int) * ((xs2.length : Nat) : Int) ≤ 16 := of_decide_eq_true d
    rw [lxs, lxs2] at d'
    have hmul : n * (2 + m) ≤ 16 := by
      have e := Int.natCast_mul n (2 + m)
      omega
    refine ⟨_, rfl, _, rfl, .ref a, .ref a2, n, 2 + m, f, fpl kd (2 + m), rfl, h3.n1, o3.n1, hmul, h3.rows.same nw_to, o3.rows.same nw_to, fun v' G5 rw sm => ⟨v', _, _, n * (2 + m), fpr (2 + m) f (fpl kd (2 + m)), RwAt.of h3.bx h3.sx sm ?_ hmul (asf_pairs o3.n1 h3.as o3.as) rw, _, _, _, _, _, _, rfl⟩⟩
    exact Nat.mul_pos h3.n1 o3.n1
  clear h2 o2 h b1 s1 b2 s2 sm2 rw2
  rintro _ G4 ⟨v, x1, x3, n, f, h, x4, x5, x6, x7, x8, x9, rfl⟩
  obtain ⟨av, xs, rfl, hxs, lxs⟩ := h.lst (K := K)
  have n1 := h.n1
  have n16 := h.n16
  refine ⟨_, rfl, av, xs, rfl, .inl hxs, _, rfl, RgOk.of_le (by omega) (by omega) (by omega) (by omega), fun la hla => ?_⟩
  rw [lxs, rg_nv]
  have nla : la ≠ p := h.bx.ne hla
  have sla : Same G4 (upd G4 la (.lst (nv (List.range n)))) := Same.new hla _
  have hl := h.to hb sla
  obtain ⟨_, xs', e', hxs', lxs'⟩ := hl.lst (K := K)
  cases e'
  refine ⟨_, rfl, av, xs', rfl, .inl hxs', _, rfl, by omega, by omega, fun D hD => ?_⟩
  have nDp : D ≠ p := hl.bx.ne hD
  have nDl : la ≠ D := ne_of_none (show (upd G4 la (.lst (nv (List.range n)))) la = some _ from upd_same) hD
  have D4 : G4 D = none := sla.free hD
  rw [lxs']
  refine lc_range (lo := 0) (n := ((n : Nat) : Int).toNat) (fun i J => Bx J p ∧ Sx p G4 J ∧ ∃ od lf : List Nat, J la = some (.lst (nv lf)) ∧ J D = some (.lst (nv od)) ∧ (od ++ lf).Perm (List.range n) ∧ od.length = i)
    ⟨hl.bx.new hD, (Sx.of sla).trans (Sx.new hD), [], List.range n, by rw [upd_ne nDl]; exact upd_same, upd_same, List.Perm.refl _, rfl⟩ ?_ ?_
  · rintro i J hi ⟨bJ, sJ, od, lf, eL, eD, pm, lo⟩
    have hi' : i < n := by simpa using hi
    have ll : lf.length = n - i := by
      have := pm.length_eq
      rw [List.length_append, List.length_range, lo] at this
      omega
    refine ⟨rfl, _, rfl, Or.inl ⟨rfl, _, SqL.of eL⟩, _, rfl, _, rfl, la, _, rfl, .inl (SqL.of eL), p, _, rfl, bJ, ?_, ?_, fun r J1 ra rb b1 s1 => ?_⟩
    · rw [nv_len]; omega
    · rw [nv_len]; omega
    rw [nv_len] at rb
    obtain ⟨r, rfl⟩ := Int.eq_ofNat_of_zero_le ra
    have hr : r < lf.length := by omega
    have eL1 := s1 la _ nla eL
    have eD1 := s1 D _ nDp eD
    have sq : seqIndex? ((r : Nat) : Int) (nv lf).length = some r := by
      unfold seqIndex?
      have h0 : ¬ ((r : Nat) : Int) < 0 := by omega
      simp only [if_neg h0]
      rw [nv_len, if_pos (by simp; omega), Int.toNat_natCast]
    refine ⟨la, nv lf, _, r, .int ((lf[r] : Nat) : Int), rfl, rfl, eL1, by omega, by omega, sq, by unfold nv; rw [List.getElem?_map, List.getElem?_eq_getElem hr]; rfl, ?_⟩
    refine ⟨nv od, by rw [upd_ne nDl.symm]; exact eD1, by rw [nv_len, lo]; exact small1000 (by omega), (b1.at_ne nla).at_ne nDp, fun b o hbp e => ?_, od ++ [lf[r]], lf.eraseIdx r, ?_, ?_, ?_, by simp [lo]⟩
    · rw [upd_ne (ne_of_none e D4), upd_ne (ne_of_none e hla)]; exact s1 b o hbp (sJ b o hbp e)
    · rw [upd_ne nDl, upd_same, erase_nv]
    · rw [upd_same]; unfold nv; rw [List.map_append]; rfl
    · refine List.Perm.trans ?_ pm
      rw [List.append_assoc]
      exact (erase_pm (List.getElem?_eq_getElem hr)).append_left od
  rintro J ⟨bJ, sJ, o, lf, eL, eD, pm, lo⟩
  rw [Int.toNat_natCast] at lo
  have lf0 : lf = [] := by
    have := pm.length_eq
    rw [List.length_append, List.length_range, lo] at this
    exact List.eq_nil_of_length_eq_zero (by omega)
  subst lf0
  rw [List.append_nil] at pm
  have hJ := h.took hb sJ bJ
  obtain ⟨av', rs, e', eR, pr⟩ := id hJ.rows
  cases e'
  have eR' := nw_to _ _ eR
  have om : ∀ x, x ∈ o → x < n := fun x hx => List.mem_range.mp (pm.mem_iff.mp hx)
  have oi : ∀ x, x < n → x ∈ o := fun x hx => pm.mem_iff.mpr (List.mem_range.mpr hx)
  refine ⟨_, rfl, D, rfl, ⟨_, SqL.of eD⟩, fun D4 hD4 => ?_⟩
  refine lc_it (walk_list (xs := nv o)) (fun i G => Part J G D4 (rowsTo n (frn o f) i)) (Part.start (Same.refl J) hD4) (fun i G _ z => SqL.of (z.same _ _ eD)) ?_ ?_
  · rintro i x G1 G2 hi pa ⟨rfl, hx⟩
    rw [nv_len, lo] at hi
    obtain ⟨ai, hai, rfl⟩ := nv_at hx
    have an : ai < n := om ai (List.mem_of_getElem? hai)
    refine ⟨rfl, _, rfl, D, rfl, ⟨_, SqL.of (pa.same _ _ eD)⟩, fun D5 hD5 => ?_⟩
    refine lc_it (walk_list (xs := nv o)) (fun j G => Same G2 G ∧ G D5 = some (.lst ((rowTo (frn o f) i j).map V.int))) ⟨Same.new hD5 _, upd_same⟩ (fun j G _ z => SqL.of (z.1 _ _ (pa.same _ _ eD))) ?_ ?_
    · rintro j y G3 G4' hj ⟨sG, e5⟩ ⟨rfl, hy⟩
      rw [nv_len, lo] at hj
      obtain ⟨bj, hbj, rfl⟩ := nv_at hy
      have bn : bj < n := om bj (List.mem_of_getElem? hbj)
      have lrs : rs.length = n := by rw [pr.length, tab_len]
      obtain ⟨row, hrow, er⟩ := pair_at pr (List.getElem?_eq_getElem (show ai < rs.length by omega))
      rw [tab_row an] at hrow
      cases hrow
      have er' := sG _ _ (pa.same _ _ (nw_to _ _ er))
      have fl := hJ.as.lt ai bj an bn
      have gt : o.idxOf (f ai bj) < o.length := List.idxOf_lt_length_iff.mpr (oi _ fl)
      refine ⟨rfl, _, rfl, Or.inl ⟨rfl, _, SqL.of (sG _ _ (pa.same _ _ eD))⟩, _, rfl, _, rfl, av, _, _, _, rfl, rfl, SqL.of (sG _ _ (pa.same _ _ eR')), at_of (j := ai) rfl (by rw [List.getElem?_map, List.getElem?_eq_getElem (show ai < rs.length by omega)]; rfl), _, rfl, rs[ai], _, _, .int ((f ai bj : Nat) : Int), rfl, rfl, SqL.of er',
        at_of (j := bj) rfl (by rw [List.getElem?_map, List.getElem?_map, List.getElem?_range bn]; rfl), ?_⟩
      refine ⟨D, nv o, .int ((f ai bj : Nat) : Int), o.idxOf (f ai bj), .int ((f ai bj : Nat) : Int), rfl, rfl, SqL.of (sG _ _ (pa.same _ _ eD)), rfl, ?_, ?_, beq_self_eq_true _, fun m z' hm hz' => ?_, _, e5, by rw [rowTo_len]; exact small1000 (by omega), fun c ob ec => by rw [upd_ne (ne_of_none ec hD5)]; exact sG c ob ec, ?_⟩
      · unfold nv; rw [List.all_map]; exact List.all_eq_true.mpr fun _ _ => rfl
      · unfold nv; rw [List.getElem?_map, List.getElem?_eq_getElem gt, List.getElem_idxOf gt]; rfl
      · obtain ⟨w, hw, rfl⟩ := nv_at hz'
        have ne := idx_ahead1 hm hw
        exact beq_eq_false_iff_ne.mpr (by omega)
      · rw [upd_same, rowTo_next, List.map_append]
        refine congrArg (fun z => some (HO.lst (_ ++ [V.int z]))) ?_
        show ((o.idxOf (f ai bj) : Nat) : Int) = ((frn o f i j : Nat) : Int)
        unfold frn plc
        rw [List.getD_eq_getElem?_getD, hai, List.getD_eq_getElem?_getD, hbj]; rfl
    · rintro G3 ⟨sG, e5⟩
      rw [nv_len, lo] at e5
      obtain ⟨acc, ea, lacc, p1⟩ := pa.add sG hD5 e5
      refine ⟨acc, ea, by rw [lacc, rowsTo_len]; exact small1000 (by omega), ?_⟩
      rw [rowsTo_next]
      exact p1
  · rintro G1 pa
    rw [nv_len, lo] at pa
    have pa' : Part J G1 D4 (tab n (frn o f)) := pa
    exact q _ _ n (frn o f) (RwAt.of hJ.bx hJ.sx pa'.same n1 n16 (asf_renum hJ.as pm) pa'.fin)
end
end L

set_option Elab.async false
set_option linter.all false
set_option maxRecDepth 100000
set_option maxHeartbeats 4000000
/-! Own layer: set(a list of whole numbers), to be sorted or walked. -/
namespace KX
open PySem PySem.Spec PyProof.Rows L2
/-- an empty set, as it is made -/
abbrev freshSet (w : World) : Obj := { cls := .type "set", dict := none, data := .set #[] 0 (.fresh 0 0 (!w.params.followText "set-order")) }
abbrev listIt (l : Addr) : Obj := { cls := .type "list_iterator", data := .fields #[.ref l, .int 0 0] }
section
variable {P : Program} {w : World} {A : Around} {E : Value → Shared → Prop} {st : Shared}
/-- what stands behind set(l) -/
def SetMade (w : World) (st : Shared) (ns : List Int) (h' : Heap) (c : Nat) : Prop := SetR w h' st.heap.objs.size (fun j => decide (j ∈ ns)) c ∧ c ≤ ns.length ∧ ∀ b o, st.heap.get? b = some o → h'.get? b = some o
theorem set_init_list {l : Addr} {items : Array Value} (ns : List Int) (hh : A.handled = none) (hl : st.heap.IsList l items) (hit : IntsAre items.toList ns) (hb : ns.length + 1 < scanBound) :
    codeAny (model P w) A (.call (.builtin "set.__init__") ⟨[.ref st.heap.objs.size, .ref l], []⟩) (wants (fun r s₂ => r = .none ∧ ∃ h' tk c, s₂ = { st with heap := h', toks := tk } ∧ SetMade w st ns h' c) E) { st with heap := st.heap.push (freshSet w) } := by
  have hz : items.size = ns.length := by
    have := IntsAre.length hit
    rwa [Array.length_toList] at this
  have e0 : (st.heap.push (freshSet w)).get? st.heap.objs.size = some (freshSet w) := Heap.get?_push_size _ rfl
  have ty : Shared.TypeIs { st with heap := st.heap.push (freshSet w) } (.ref st.heap.objs.size) "set" := ⟨_, e0, rfl⟩
  refine codeAny_call_builtin F.called_set.init.plain F.entry_set_init (check_set_init_1 ty ?_)
  obtain ⟨⟨lcls, ldict, ldata, lslots⟩, hol, hcl, nl, hdl⟩ := hl
  simp only at hcl hdl
  subst hcl; subst hdl
  have hol2 : (st.heap.push (freshSet w)).get? l = some { cls := .type "list", dict := ldict, data := .seq items nl, slots := lslots } := Heap.get?_push_of_some _ hol
  have q1 := F.sub_list_set
  have q2 := F.sub_list_frozenset
  have q3 : (Value.type "list" == Value.type "dict") = false := by decide
  have isl : (st.heap.push (freshSet w)).IsList l items := ⟨_, hol2, rfl, nl, rfl⟩
  unfold Builtin.«set.__init__» noKeywords Builtin.Frozenset.updateFrom
  generalize hPI : pyIter = walk
  wp_walk
  subst hPI
  refine wpAny_pyIter_list isl ?_
  refine wpAny_bind (wpAny_runValue ?_)
  have small : l < st.heap.objs.size := Heap.lt_size hol
  have sz1 : (st.heap.push (freshSet w)).objs.size = st.heap.objs.size + 1 := Heap.size_push ..
  have calm3 : A.in1.in1.handled = none := by simp [hh]
  have apart : l ≠ (st.heap.push (freshSet w)).objs.size := by rw [sz1]; exact Nat.ne_of_lt (Nat.lt_succ_of_lt small)
  have off : st.heap.objs.size ∉ [(st.heap.push (freshSet w)).objs.size, l] := by
    rw [sz1]; simp only [List.mem_cons, List.not_mem_nil, or_false, not_or]
    exact ⟨Nat.ne_of_lt (Nat.lt_succ_self _), Nat.ne_of_gt small⟩
  have vals : ∀ (i : Nat) (v : Value), items[i]? = some v → ∃ k t, ns[i]? = some k ∧ v = .int k t := fun i v hv => by
    have hi : i < ns.length := hz ▸ (Array.getElem?_eq_some_iff.mp hv).1
    obtain ⟨t, e⟩ := IntsAre.int_at hit i v (by rw [Array.getElem?_toList]; exact hv)
    rw [List.getD_eq_getElem?_getD, List.getElem?_eq_getElem hi] at e
    exact ⟨ns[i], t, List.getElem?_eq_getElem hi, e⟩
  refine set_update_ints ((Walks.list calm3 _ l apart items).toS) st.heap.objs.size off ns hz hb vals (items.size - 0) 0 _ (by omega) (Nat.zero_le _)
    ⟨⟨_, Heap.get?_push_size _ rfl, rfl, rfl⟩, isl.push _⟩ ?first ?last
  case first =>
    have keep : ((st.heap.push (freshSet w)).push (listIt l)).get? st.heap.objs.size = some (freshSet w) := Heap.get?_push_of_some _ e0
    exact ⟨0, Nat.le_refl 0, setR_new_at keep⟩
  case last =>
    rintro ⟨h', g2, d2, tk, os2⟩ c hm hc hR
    have e1 : g2 = st.gens := hm.gens
    have e2 : d2 = st.drawn := hm.drawn
    have e3 : os2 = st.os := hm.os
    subst e1; subst e2; subst e3
    show wpAny _ _ _ _ _ _
    refine wpAny_pure ?_
    show wpAny _ _ (ret Value.none) _ _ _
    rw [hz] at hc
    refine wpAny_pure ⟨rfl, h', tk, c, rfl, hR, hc, fun b o e => ?_⟩
    have hlt : b < st.heap.objs.size := Heap.lt_size e
    refine hm.heap b o ?_ (Heap.get?_push_of_some _ (Heap.get?_push_of_some _ e))
    simp only [List.mem_cons, List.not_mem_nil, or_false, not_or]
    exact ⟨Nat.ne_of_lt hlt, by rw [sz1]; exact Nat.ne_of_lt (Nat.lt_succ_of_lt hlt)⟩
theorem set_of_list {l : Addr} {items : Array Value} (ns : List Int) {Q : Value → Shared → Prop} (hh : A.handled = none) (hl : st.heap.IsList l items) (hit : IntsAre items.toList ns) (hb : ns.length + 1 < scanBound)
    (h : ∀ h' tk c, SetMade w st ns h' c → Q (.ref st.heap.objs.size) { st with heap := h', toks := tk }) : wpAny (model P w) A (call (.type "set") [.ref l]) Q E st := by
  obtain ⟨c0, tl, hmro⟩ := F.called_set.mro
  have m1 := F.called_set.made
  have m2 := F.called_set.sub
  refine wpAny_call (codeAny_of_tree ?_)
  show wpAny _ _ (callAny (.type "set") _) _ _ _
  refine wpAny_pure ⟨Code.quiet_builtin _ (by decide +kernel), codeAny_builtin F.entry_type_call ?_⟩
  rw [Around.under_plain (weight_type_call_type "set" [.ref l] []) rfl]
  have t1 := F.called_set.notType
  have t2 := F.called_set.canCreate
  have t3 := F.typeCall_set_1 (.ref l)
  repeat (any_goals (first | assumption | wp_step))
  refine codeAny_mono (code_set_led1 (.ref l) (E := E) (Q₁ := fun ob s₁ => ob = .ref st.heap.objs.size ∧ s₁ = { st with heap := st.heap.push (freshSet w) }) ⟨rfl, rfl⟩) fun r s₁ hr => ?_
  match r, hr with
  | .error e, hr => exact hr
  | .ok .next, hr => exact hr.elim
  | .ok .brk, hr => exact hr.elim
  | .ok .cont, hr => exact hr.elim
  | .ok (.ret ob), hr =>
    obtain ⟨rfl, rfl⟩ := hr
    have e0 : (st.heap.push (freshSet w)).get? st.heap.objs.size = some (freshSet w) := Heap.get?_push_size _ rfl
    have ty : Shared.TypeIs { st with heap := st.heap.push (freshSet w) } (.ref st.heap.objs.size) "set" := ⟨_, e0, rfl⟩
    have i1 := F.called_set.init.lookup
    have i2 := F.called_set.init.bind (.ref st.heap.objs.size)
    repeat (any_goals (first | assumption | wp_step))
    refine codeAny_mono (set_init_list (P := P) (w := w) (A := A.in1) (E := E) ns ?_ hl hit hb) fun r₂ s₂ hr₂ => ?_
    · simp [hh]
    match r₂, hr₂ with
    | .error e, hr₂ => exact hr₂
    | .ok .next, hr₂ => exact hr₂.elim
    | .ok .brk, hr₂ => exact hr₂.elim
    | .ok .cont, hr₂ => exact hr₂.elim
    | .ok (.ret rr), hr₂ =>
      obtain ⟨rfl, h', tk, c, rfl, made⟩ := hr₂
      repeat (any_goals (first | assumption | wp_step))
      exact h _ _ _ made
end
section
variable {X : Cx}
/-- set(l), l a list of whole numbers -/
def rSetL (K : PySem.W.Frag) (w : World) : List V → Hp → VK → Prop := fun xs H Q => ∃ (l : Addr) (ns : List Int), xs = [.ref l] ∧ SqL K H l (ns.map V.int) ∧ ns.length ≤ 4000 ∧
  ∀ p c, H p = none → c ≤ ns.length → Q (.ref p) (upd H p (SetO w p (fun j => decide (j ∈ ns)) c))
theorem ct_set (hc : X.calm = true) {K : PySem.W.Frag} (hK : X.K = K) {w : World} (hw : X.w = w) : CallR X (.type "set") (rSetL K w) := by
  subst hK; subst hw
  intro pins s σ H xs us Q I r h
  obtain ⟨l, ns, rfl, hS, hn, q⟩ := h
  obtain ⟨u, rfl, rx⟩ := vals1 r
  cases rx
  obtain ⟨its, rv, pl, hz⟩ := I.list hS
  refine set_of_list ns (I.ok.hd hc) pl.isList (by simpa using ints_of_vals rv) (by unfold scanBound; omega) fun h' tk c ⟨R, hc', k⟩ => ?_
  exact ⟨.ref s.heap.objs.size, _, I.laid (t' := tk) k (Nat.le_refl _) (setO_new R), rfl, q _ c (I.hok.fresh (Nat.le_refl _)) hc'⟩
end
end KX

set_option Elab.async false
set_option linter.all false
set_option maxRecDepth 100000
set_option maxHeartbeats 4000000
namespace L
open PySem L2 KX
abbrev sLen : Stmt := inClass (top 21) 1
abbrev sRowsM : Stmt := inClass (top 21) 3
theorem clist {X : Cx} {K : PySem.W.Frag} (hK : X.K = K) : CallR X (.type "list") (fun xs H Q => ∃ p ys, xs = [.ref p] ∧ (SqL K H p ys ∨ SqT K H p ys) ∧ ∀ l, H l = none → Q (.ref l) (upd H l (.lst ys))) := by subst hK; exact call_list_of
theorem fldK {X : Cx} {K : PySem.W.Frag} (hK : X.K = K) {e : Expr} {f : Str} {ta : TE} {pos : Pos} (he : PE X e ta) (hb : attributeBase e f X.env (eval e X.env) = eval e X.env) : PE X (.Attribute e f pos) (tFld K ta f) := by subst hK; exact pe_fld he hb
/-! ### lists of ints as data -/
def iD (m : List Int) : List PyData := m.map PyData.int
theorem iD_lay : ∀ m : List Int, PyData.canLayAll0 (iD m) = true
  | [] => by unfold iD; simp [PyData.canLayAll0]
  | x :: m => by
    have h := iD_lay m
    unfold iD at h ⊢
    simp [PyData.canLayAll0, PyData.canLay0, h]
theorem iD_depth : ∀ m : List Int, PyData.depthAll (iD m) = 0
  | [] => by unfold iD; simp [PyData.depthAll]
  | x :: m => by
    have h := iD_depth m
    unfold iD at h ⊢
    simp [PyData.depthAll, PyData.depth, h]
theorem iD_shaped (m : List Int) : SeqAt.shaped (.list (iD m)) = true := by
  have h2 : PyData.depth (.list (iD m)) = 1 := by simp only [PyData.depth, iD_depth m]
  have h1 : PyData.canLay0 (.list (iD m)) = true := by simp only [PyData.canLay0]; exact iD_lay m
  show (PyData.canLay0 (.list (iD m)) && decide (PyData.depth (.list (iD m)) ≤ 64)) = true
  rw [Bool.and_eq_true]
  exact ⟨h1, decide_eq_true (by omega)⟩
theorem iD_eqvAll : ∀ a b : List Int, PyData.eqvAll (iD a) (iD b) = decide (a = b)
  | [], [] => by unfold iD; simp [PyData.eqvAll]
  | [], _ :: _ => by unfold iD; simp [PyData.eqvAll]
  | _ :: _, [] => by unfold iD; simp [PyData.eqvAll]
  | x :: a, y :: b => by
    have h := iD_eqvAll a b
    unfold iD at h ⊢
    simp only [List.map_cons, PyData.eqvAll, PyData.eqv, h]
    by_cases e : x = y
    · subst e
      rw [show (x == x) = true from beq_self_eq_true _, Bool.true_and]
      by_cases e2 : a = b
      · subst e2; simp
      · rw [decide_eq_false e2, decide_eq_false fun z => e2 (List.cons.inj z).2]
    · rw [show (x == y) = false from beq_eq_false_iff_ne.mpr e, Bool.false_and, decide_eq_false fun z => e (List.cons.inj z).1]
theorem iD_eqv (a b : List Int) : PyData.eqv (.list (iD a)) (.list (iD b)) = decide (a = b) := by
  simp only [PyData.eqv]; exact iD_eqvAll a b
theorem dp_ints {K : PySem.W.Frag} {G : Hp} : ∀ m : List Int, DpAll K G (m.map V.int) (iD m)
  | [] => .nil
  | x :: m => .cons (.int _) (dp_ints m)
/-- the numbers 0 .. n-1 -/
def nums (n : Nat) : List Int := (List.range n).map fun i : Nat => ((i : Nat) : Int)
theorem rg_nums (n : Nat) : rgV 0 (n : Int) = (nums n).map V.int := by
  unfold rgV nums
  rw [Int.sub_zero, Int.toNat_natCast, List.map_map]
  exact List.map_congr_left fun x _ => by rw [Int.zero_add]; rfl
def spLenM (K : PySem.W.Frag) (C : Addr) : Sp := fun vs H Q _ => ∃ p tb, vs = [.ref p] ∧ TbA K C H p tb ∧ Q (.int tb.length) H
def spRowsM (K : PySem.W.Frag) (C : Addr) : Sp := fun vs H Q _ => ∃ p tb, vs = [.ref p] ∧ TbA K C H p tb ∧ tb.length ≤ 16 ∧ ∀ v H', RowsL (nw H H') v tb → Same H H' → Q v H'
section
variable {P : Program} {w : World} {K : PySem.W.Frag} {mg : Str → Option Value} {base : Heap} {f g gn : Addr} {fd gd gnd : FuncData} {C CE fE : Addr} {dE : FuncData}
theorem scLen : FnScope ["self"] ["self"] (defScope sLen) := ⟨rfl, rfl, rfl, by decide +kernel, rfl, by decide +kernel, by decide +kernel⟩
theorem ok_len (F : Fun K "__len__" "ProductTable.__len__" sLen f fd) (M : Mn mg) (T : CTx K mg C) : FnOk P w K mg base CX0 1 f fd ["self"] (spLenM K C) := by
  refine F.ok scLen (fun vs H Q E h => ?_) (fun cdv A outer s H vs Q E hr h => ?_)
  · obtain ⟨p, tb, rfl, _⟩ := h
    rfl
  obtain ⟨p, tb, rfl, ⟨dx, t, rs, hp, ht, pr⟩, q⟩ := h
  refine ⟨_, pss_one (ps_ret (pe_callB call_len_seq (by rfl) M.len PySem.boot_len (pa_cons (pe_fld (pv 0) rfl) pa_nil))), ?_⟩
  refine ⟨_, rfl, p, C, dx, _, _, rfl, hp, T.cl, T.nR, rfl, t, rs, rfl, .inr ht, ?_⟩
  rw [pr.length]
  exact q
theorem scRowsM : FnScope ["self", "row"] ["self"] (defScope sRowsM) := ⟨rfl, rfl, rfl, by decide +kernel, rfl, by decide +kernel, by decide +kernel⟩
theorem ok_rowsM (F : Fun K "rows" "ProductTable.rows" sRowsM f fd) (M : Mn mg) (T : CTx K mg C) : FnOk P w K mg base CX0 1 f fd ["self"] (spRowsM K C) := by
  refine F.ok scRowsM (fun vs H Q E h => ?_) (fun cdv A outer s H vs Q E hr h => ?_)
  · obtain ⟨p, tb, rfl, _⟩ := h
    rfl
  obtain ⟨p, tb, rfl, ⟨dx, t, rs, hp, ht, pr⟩, n16, q⟩ := h
  refine ⟨_, pss_one (ps_ret (pe_lc (own := [("row", 1)]) (g := gName 1) (tt := tYes) rfl scRowsM.nd (pi_tup (pe_fld (pv 0) rfl))
    (blkOk_by (N := ["self", "row"]) (sc := defScope sRowsM) (by decide +kernel)) (fun _ _ _ _ _ => pg_name (i := 1) scRowsM.nd rfl (Or.inl rfl)) (fun _ _ _ _ _ => pts_nil)
    (fun _ _ _ _ _ => pe_callTy (T := "list") (clist (K := K) rfl) (by rfl) M.list (by decide +kernel) (pa_cons (pv 1) pa_nil)))), ?_⟩
  refine ⟨_, rfl, p, C, dx, _, _, rfl, hp, T.cl, T.nR, rfl, t, rfl, ⟨_, ht⟩, fun D hD => ?_⟩
  refine lc_it (walk_tup (xs := rs)) (fun i J => Part H J D (tb.take i)) (Part.start (Same.refl H) hD) (fun i J _ z => Same.tup z.same ht) ?_ ?_
  · rintro i x J J1 hi pa ⟨rfl, hx⟩
    obtain ⟨row, hrow, r, rfl, hr1⟩ := pair_at pr hx
    refine ⟨rfl, _, rfl, r, _, rfl, .inr (Same.tup pa.same hr1), fun l hl => ?_⟩
    have hi' : i < tb.length := by rw [← pr.length]; exact hi
    obtain ⟨acc, ea, la, p1⟩ := pa.add (q := l) (row := row) (Same.new hl _) hl upd_same
    have tk : tb.take (i + 1) = tb.take i ++ [row] := by rw [List.take_add_one, hrow]; rfl
    refine ⟨acc, ea, by rw [la, List.length_take]; exact small1000 (by omega), ?_⟩
    rw [tk]
    exact p1
  · rintro J pa
    rw [pr.length, List.take_of_length_le (Nat.le_refl _)] at pa
    exact q _ _ pa.fin pa.same
theorem row_at {H : Hp} {rs : List V} {tb : List (List Int)} (pr : Paired (fun x row => ∃ r, x = V.ref r ∧ SqT K H r (row.map V.int)) rs tb) (S : Sqr tb) {a : Nat} (ha : a < tb.length) :
    ∃ r, rs[a]? = some (V.ref r) ∧ SqT K H r ((tb.getD a []).map V.int) ∧ ∀ b, b < tb.length → ((tb.getD a []).map V.int)[b]? = some (.int (mu tb a b)) := by
  have hrs : a < rs.length := by rw [pr.length]; exact ha
  obtain ⟨row, h1, r, e1, hr1⟩ := pair_at pr (List.getElem?_eq_getElem hrs)
  have er : tb.getD a [] = row := by rw [List.getD_eq_getElem?_getD, h1]; rfl
  have hl : row.length = tb.length := S.row row (List.mem_of_getElem? h1)
  refine ⟨r, (List.getElem?_eq_getElem hrs).trans (congrArg some e1), by rw [er]; exact hr1, fun b hb => ?_⟩
  unfold mu
  rw [er, List.getElem?_map, List.getElem?_eq_getElem (by omega), List.getD_eq_getElem?_getD, List.getElem?_eq_getElem (by omega)]; rfl
end
end L

set_option Elab.async false
set_option linter.all false
set_option maxRecDepth 100000
set_option maxHeartbeats 4000000
namespace L
open PySem L2 KX
abbrev sChkTX : Stmt := top 22
section
variable {X : Cx} {op op' op3 : CmpOp} {r r' r3 : R2} {a b c d : Expr} {ta tb tc td : TE} {pos : Pos}
/-- a op1 b op2 c op3 d -/
def tChain3 (r r' r3 : R2) (ta tb tc td : TE) : TE := fun σ H Q => ta σ H fun x H1 => tb σ H1 fun y H2 => r x y H2 fun z H3 => ∃ k, z = .bl k ∧
  (if k = true then tc σ H3 fun u H4 => r' y u H4 fun z' H5 => ∃ k', z' = .bl k' ∧ (if k' = true then td σ H5 fun v H6 => r3 u v H6 Q else Q (.bl false) H5) else Q (.bl false) H3)
theorem pe_chain3 (ho : OpR X (compareOp op) r) (ho' : OpR X (compareOp op') r') (ho3 : OpR X (compareOp op3) r3) (ha : PE X a ta) (hb : PE X b tb) (hc : PE X c tc) (hd : PE X d td)
    (hm : PySem.lastMarks [op, op', op3] [b, c, d] = false := by with_unfolding_all rfl) : PE X (.Compare a [op, op', op3] [b, c, d] pos) (tChain3 r r' r3 ta tb tc td) := by
  refine ⟨fun pins s σ H Q I h => ?_⟩
  refine PyProof.Rows.Compare_chain (thn (ha.run pins s σ H _ I h) fun v s1 ⟨x, H1, I1, r1, q1⟩ => PyProof.Rows.chain_link (thn (hb.run pins s1 σ H1 _ I1 q1) fun u s2 ⟨y, H2, I2, r2, q2⟩ =>
    thn (ho pins s2 σ H2 x y v u _ I2 r1 r2 q2) fun e s3 ⟨z, H3, I3, rz, k, ek, q3⟩ => ?_)) hm
  subst ek
  cases rz
  refine PySem.wpAny_truthy_bool ?_
  cases k with
  | false => exact PyProof.Rows.ite_ff ⟨.bl false, H3, I3, rfl, q3⟩
  | true =>
    refine PyProof.Rows.ite_tt (PyProof.Rows.chain_link (thn (hc.run pins s3 σ H3 _ I3 q3) fun u' s4 ⟨w', H4, I4, r4, q4⟩ => thn (ho' pins s4 σ H4 y w' u u' _ I4 r2 r4 q4) fun e2 s5 ⟨z2, H5, I5, rz2, k2, ek2, q5⟩ => ?_))
    subst ek2
    cases rz2
    refine PySem.wpAny_truthy_bool ?_
    cases k2 with
    | false => exact PyProof.Rows.ite_ff ⟨.bl false, H5, I5, rfl, q5⟩
    | true => exact PyProof.Rows.ite_tt (PyProof.Rows.chain_last (thn (hd.run pins s5 σ H5 _ I5 q5) fun v' s6 ⟨x6, H6, I6, r6, q6⟩ => ho3 pins s6 σ H6 w' x6 u' v' Q I6 r4 r6 q6))
/-- a slice of a list or of a tuple -/
def rSlSq (K : PySem.W.Frag) : V → Option Int → Option Int → Hp → VK → Prop := fun x lo hi H Q => (∃ p xs, x = .ref p ∧ SqL K H p xs ∧ ∀ l H', Same H H' → SqL K H' l (cutV xs lo hi) → Q (.ref l) H') ∨
  ∃ p xs, x = .ref p ∧ SqT K H p xs ∧ ∀ l H', Same H H' → SqT K H' l (cutV xs lo hi) → Q (.ref l) H'
theorem sl_sq : SlR X (rSlSq X.K) := by
  intro pins s σ H x v vl vu lo hi sl Q I rx hs pl pu h
  rcases h with ⟨p, xs, rfl, h, q⟩ | ⟨p, xs, rfl, h, q⟩
  · exact sl_list pins s σ H _ v vl vu lo hi sl Q I rx hs pl pu ⟨p, xs, rfl, h, fun y hy => q _ _ (Same.new hy _) (SqL.of upd_same)⟩
  · refine sl_tupA pins s σ H _ v vl vu lo hi sl Q I rx hs pl pu ⟨p, xs, rfl, h, fun z => q _ _ (Same.refl H) ?_, fun _ y hy => q _ _ (Same.new hy _) (SqT.of upd_same)⟩
    have e : cutV xs lo hi = xs := by
      unfold cutV
      rw [z.1, z.2, Nat.sub_zero, List.drop_zero, List.take_length]
    rw [e]; exact h
/-- .. whichever it is -/
theorem rSlSq.of {K : PySem.W.Frag} {H : Hp} {x : V} {xs : List V} {lo hi : Option Int} {Q : VK} (h : Sq K H x xs) (q : ∀ y H', Same H H' → Sq K H' y (cutV xs lo hi) → Q y H') : rSlSq K x lo hi H Q := by
  obtain ⟨p, rfl, h | h⟩ := h
  · exact .inl ⟨p, xs, rfl, h, fun l H' s k => q _ H' s ⟨l, rfl, .inl k⟩⟩
  · exact .inr ⟨p, xs, rfl, h, fun l H' s k => q _ H' s ⟨l, rfl, .inr k⟩⟩
end
/-- no table -/
def NotT (K : PySem.W.Frag) (C : Addr) (H : Hp) (v : V) : Prop := ∃ t, TyX K H v t ∧ PySem.W.kitOne K t (.ref C) = some false
theorem NotT.same {K : PySem.W.Frag} {C : Addr} {H G : Hp} {v : V} (s : Same H G) (h : NotT K C H v) : NotT K C G v := let ⟨t, a, b⟩ := h; ⟨t, TyX.same s a, b⟩
structure CTi (K : PySem.W.Frag) (C : Addr) : Prop where
  ha : PySem.W.findIn K (.ref C) "__class__" = some (some (.builtin "object.__class__"))
  hn : PySem.W.specialIn K (.builtin "object.__class__") "__get__" = some (some (.builtin "getset_descriptor.__get__"))
  htk : PySem.W.takesIn K (.builtin "object.__class__") = some true
  hm : PySem.W.mroIn K C (.type "object") = some true
theorem kit_self (K : PySem.W.Frag) (C : Addr) : PySem.W.kitOne K (.ref C) (.ref C) = some true := by
  unfold PySem.W.kitOne
  rw [show ((Value.ref C) == (Value.ref C)) = true from beq_self_eq_true _, if_pos rfl]
theorem TbA.to {K : PySem.W.Frag} {C : Addr} {H J : Hp} {p : Addr} {tb : List (List Int)} (s : Same H J) (h : TbA K C H p tb) : TbA K C J p tb :=
  let ⟨dx, t, rs, hp, ht, pr⟩ := h.ob
  ⟨dx, t, rs, s _ _ hp, Same.tup s ht, L2.Paired.mapP pr fun _ _ ⟨r, e, hr⟩ => ⟨r, e, Same.tup s hr⟩⟩
theorem TbA.ty {K : PySem.W.Frag} {mg : Str → Option Value} {C : Addr} {H : Hp} {p : Addr} {tb : List (List Int)} (T : CTx K mg C) (Y : CTi K C) (h : TbA K C H p tb) : TyX K H (.ref p) (.ref C) :=
  let ⟨_, _, _, hp, _, _⟩ := h.ob
  .base (.ins hp T.cl Y.ha Y.hn Y.htk Y.hm)
def okS (n : Nat) : Option (List V) → Bool
  | some xs => decide ((1 : Int) ≤ (xs.length : Int)) && decide ((xs.length : Int) ≤ 2000) && xs.all (nb (n : Int))
  | none => false
/-- the bounds of a range -/
def rgB (n : Int) (x y : V) : Bool := match x, y with
  | .int a, .int b => decide (0 ≤ a) && decide (a < b) && decide (b ≤ n)
  | _, _ => false
/-- the product of some elements -/
def fld (tb : List (List Int)) : List Nat → Nat
  | [] => 0
  | w :: r => r.foldl (fun acc x => (mu tb acc x).toNat) w
theorem fld_lt {tb : List (List Int)} (S : Sqr tb) : ∀ {ws : List Nat}, (∀ x, x ∈ ws → x < tb.length) → ws ≠ [] → fld tb ws < tb.length
  | [], _, h => absurd rfl h
  | w :: r, h, _ => by
    have go : ∀ (r : List Nat) (a : Nat), a < tb.length → (∀ x, x ∈ r → x < tb.length) → r.foldl (fun acc x => (mu tb acc x).toNat) a < tb.length := fun r => by
      induction r with
      | nil => exact fun a ha _ => ha
      | cons y r ih =>
        intro a ha hr
        have hy := hr y List.mem_cons_self
        have e := S.el a y ha hy
        exact ih _ (show (mu tb a y).toNat < tb.length by omega) fun x hx => hr x (List.mem_cons_of_mem _ hx)
    exact go r w (h w List.mem_cons_self) fun x hx => h x (List.mem_cons_of_mem _ hx)
def spChkTX (K : PySem.W.Frag) (C CT : Addr) : Sp := fun vs H Q E => ∃ v, vs = [v] ∧ ((∃ p tb, v = .ref p ∧ TbA K C H p tb ∧ Q .non H) ∨ (NotT K C H v ∧ ∀ d, H d = none → E (.ref CT) (some d) (upd H d (.xd [("value", v)]))))
def spChkS (K : PySem.W.Frag) (C CS : Addr) : Sp := fun vs H Q E => ∃ p v tb o, vs = [.ref p, v] ∧ TbA K C H p tb ∧ tb.length ≤ 16 ∧ RowD K H v o ∧ (okS tb.length o = true → ∀ H', Same H H' → Q .non H') ∧
  (okS tb.length o = false → ∀ H' d, Same H H' → H' d = none → E (.ref CS) (some d) (upd H' d (.xd [("value", v)])))
def spIsRg (K : PySem.W.Frag) : Sp := fun vs H Q _ => ∃ x y n, vs = [x, y, .int n] ∧ Itm K H x ∧ Itm K H y ∧ Q (.bl (rgB n x y)) H
def spMultd (K : PySem.W.Frag) : Sp := fun vs H Q _ => ∃ (v u : V) (tb : List (List Int)) (ws : List Nat), vs = [v, u] ∧ RowsL H v tb ∧ Sqr tb ∧ Sq K H u (nv ws) ∧ ws ≠ [] ∧ (∀ x, x ∈ ws → x < tb.length) ∧ ∀ H', Same H H' → Q (.int (fld tb ws : Nat)) H'
section
variable {P : Program} {w : World} {K : PySem.W.Frag} {mg : Str → Option Value} {base : Heap} {f g gn fl g1 g2 g3 fE : Addr} {fd gd gnd dl d1 d2 d3 dE : FuncData} {C CT CS CR : Addr}
theorem scChkTX : FnScope ["table"] ["table"] (defScope sChkTX) := ⟨rfl, rfl, rfl, by decide +kernel, rfl, by decide +kernel, by decide +kernel⟩
theorem ok_chkTX (F : Fun K "check_table" "check_table" sChkTX f fd) (M : Mn mg) (T : CTx K mg C) (Y : CTi K C) (TE : ETx K mg "InvalidTable" "value" CT fE) (FE : FnOk P w K mg base CX0 1 fE dE ["self", "value"] (spEi K CT "value")) (bE : Binds K dE ["self", "value"] []) :
    FnOk P w K mg base (L2.CX P w) 3 f fd ["table"] (spChkTX K C CT) := by
  refine F.okX scChkTX (fun vs H Q E h => ?_) (fun cdv A outer s H vs Q E hr h => ?_)
  · obtain ⟨v, rfl, _⟩ := h
    rfl
  obtain ⟨v, rfl, h⟩ := h
  refine ⟨_, pss_one (ps_if (pt_not (pt_val (pe_callB call_isi (by rfl) M.isin (by decide +kernel) (pa_cons (pv 0) (pa_cons (pe_glob (v := .ref C) (by rfl) T.mgC rfl) pa_nil)))))
    (pss_one (ps_raise rfl (takes_of rfl rfl rfl rfl) (pmk_val TE.ox TE.iC TE.tI TE.noF FE hr bE (by rfl) TE.mgC (pa_cons (pv 0) pa_nil)))) pss_nil), ?_⟩
  rcases h with ⟨p, tb, rfl, ht, q⟩ | ⟨⟨t, ty, kt⟩, q⟩
  · exact ⟨_, rfl, _, .ref C, _, .ref C, true, rfl, .own C, ht.ty T Y, kit_self K C, _, rfl, iteF q⟩
  · exact ⟨_, rfl, _, .ref C, t, .ref C, false, rfl, .own C, ty, kt, _, rfl, iteT ⟨fun vs H1 => vs = [v] ∧ H1 = H, ⟨_, rfl, rfl, rfl⟩, by rintro _ _ ⟨rfl, rfl⟩; exact ⟨v, rfl, q⟩⟩⟩
end
end L

set_option Elab.async false
set_option linter.all false
set_option maxRecDepth 100000
set_option maxHeartbeats 4000000
namespace L
open PySem L2 KX
/-- two parts of a heap -/
def un (F G : Hp) : Hp := fun b => match F b with
  | some o => some o
  | none => G b
theorem un_l {F G : Hp} : Same F (un F G) := fun b o e => by unfold un; rw [e]
theorem un_n {F G : Hp} {b : Addr} (h : F b = none) : un F G b = G b := by unfold un; rw [h]
theorem un_to {F G J : Hp} (s1 : Same F J) (s2 : Same G J) : Same (un F G) J := fun b o e => by
  cases h : F b with
  | some o' =>
    have : un F G b = some o' := un_l _ _ h
    rw [this] at e
    cases e
    exact s1 _ _ h
  | none => rw [un_n h] at e; exact s2 _ _ e
/-- what is known of a part of the heap, when some more is new -/
theorem ext {F J J1 : Hp} (s : Same F J) (s1 : Same F J1) : ∃ F', Same F F' ∧ Same (nw J J1) F' ∧ Same F' J1 ∧ ∀ b, F b = none → J b ≠ none → F' b = none :=
  ⟨un F (nw J J1), un_l, fun b o e => by
    have h := nw_some e
    have hf : F b = none := by
      cases hf : F b with
      | none => rfl
      | some u => rw [s _ _ hf] at h; exact nomatch h.1
    rw [un_n hf]; exact e, un_to s1 nw_same, fun b h1 h2 => by
    rw [un_n h1]
    unfold nw
    cases hj : J b with
    | none => exact absurd hj h2
    | some u => rfl⟩
theorem fx {F J J' : Hp} {p : Addr} (s : Same F J) (n : F p = none) (x : Sx p J J') : Same F J' := fun b o e => x b o (ne_of_none e n) (s b o e)
theorem fu {F J : Hp} {t : Addr} {o : HO} (s : Same F J) (n : F t = none) : Same F (upd J t o) := fun b u e => by rw [upd_ne (ne_of_none e n)]; exact s b u e
theorem TbA.sx {K : PySem.W.Frag} {C : Addr} {H J : Hp} {p x : Addr} {tb : List (List Int)} (s : Sx p H J) (b : Bx H p) (h : TbA K C H x tb) : TbA K C J x tb := by
  obtain ⟨b0, b1, b2, eb, _⟩ := b
  have up : ∀ {r : Addr} {xs : List V}, SqT K H r xs → SqT K J r xs := fun {r xs} h => by
    rcases h with (h | ⟨o, h⟩) | h
    · exact .inl (.inl (s _ _ (fun z => by rw [z, eb] at h; cases h) h))
    · exact .inl (.inr ⟨o, s _ _ (fun z => by rw [z, eb] at h; cases h) h⟩)
    · exact .inr h
  obtain ⟨dx, t, rs, hp, ht, pr⟩ := h.ob
  exact ⟨dx, t, rs, s _ _ (fun z => by rw [z, eb] at hp; cases hp) hp, up ht, L2.Paired.mapP pr fun _ _ ⟨r, e, hr⟩ => ⟨r, e, up hr⟩⟩
/-- the heap but the box -/
def mn (p : Addr) (J : Hp) : Hp := fun b => if b = p then none else J b
theorem mn_same {p : Addr} {J : Hp} : Same (mn p J) J := fun b o e => by
  unfold mn at e
  by_cases h : b = p
  · rw [if_pos h] at e; cases e
  · rw [if_neg h] at e; exact e
theorem mn_p {p : Addr} {J : Hp} : mn p J p = none := if_pos rfl
theorem mn_sx {p : Addr} {J : Hp} : Sx p J (mn p J) := fun b o n e => by unfold mn; rw [if_neg n]; exact e
theorem mn_nw {p : Addr} {H J : Hp} (h : H p ≠ none) : Same (nw H J) (mn p J) := fun b o e => by
  have q := nw_some e
  exact mn_sx _ _ (fun z => h (z ▸ q.1)) q.2
end L

set_option Elab.async false
set_option linter.all false
set_option maxRecDepth 100000
set_option maxHeartbeats 4000000
set_option pp.maxSteps 400
namespace L
open PySem L2 KX
abbrev sChkE : Stmt := top 23
abbrev sPrd : Stmt := inClass (top 21) 4
abbrev sEiT : Stmt := inClass (top 5) 0
abbrev sEiM : Stmt := inClass (top 10) 0
def spChkE (K : PySem.W.Frag) (C : Addr) : Sp := fun vs H Q _ => ∃ (p : Addr) (a : Nat) (tb : List (List Int)), vs = [.ref p, .int (a : Int)] ∧ TbA K C H p tb ∧ a < tb.length ∧ tb.length ≤ 16 ∧ Q .non H
def spPrd (K : PySem.W.Frag) (C : Addr) : Sp := fun vs H Q _ => ∃ (p : Addr) (a b : Nat) (tb : List (List Int)), vs = [.ref p, .int (a : Int), .int (b : Int)] ∧ TbA K C H p tb ∧ Sqr tb ∧ a < tb.length ∧ b < tb.length ∧ Q (.int (mu tb a b)) H
theorem mu_nat {tb : List (List Int)} (S : Sqr tb) {a b : Nat} (ha : a < tb.length) (hb : b < tb.length) : mu tb a b = (((mu tb a b).toNat : Nat) : Int) ∧ (mu tb a b).toNat < tb.length := by
  have := S.el a b ha hb
  omega
theorem row_g {tb : List (List Int)} (S : Sqr tb) {a b : Nat} (ha : a < tb.length) (hb : b < tb.length) : ((tb.getD a []).map V.int)[b]? = some (.int (mu tb a b)) := by
  have e : tb.getD a [] = tb[a] := by rw [List.getD_eq_getElem?_getD, List.getElem?_eq_getElem ha]; rfl
  have l := S.row _ (List.getElem_mem ha)
  unfold mu
  rw [e, List.getElem?_map, List.getD_eq_getElem?_getD (l := tb[a]), List.getElem?_eq_getElem (by omega)]; rfl
/-- a row by its place -/
theorem rw_at {G : Hp} {v : V} {ms : List (List Int)} {a : Nat} (h : RowsL G v ms) (ha : a < ms.length) : ∃ (l : Addr) (rs : List Addr) (r : Addr), v = .ref l ∧ G l = some (.lst (rs.map V.ref)) ∧ (rs.map V.ref)[a]? = some (.ref r) ∧ G r = some (.lst ((ms.getD a []).map V.int)) := by
  obtain ⟨l, rs, rfl, e, pr⟩ := h
  have hl : rs.length = ms.length := pr.length
  have h1 : rs[a]? = some rs[a] := List.getElem?_eq_getElem (by omega)
  obtain ⟨row, hrow, er⟩ := pair_at pr h1
  refine ⟨l, rs, rs[a], rfl, e, by rw [List.getElem?_map, h1]; rfl, ?_⟩
  rw [List.getD_eq_getElem?_getD, hrow]; exact er
/-- rows as a list -/
theorem RowsL.sq {G : Hp} {v : V} {tb : List (List Int)} (h : RowsL G v tb) : ∃ a xs, v = .ref a ∧ G a = some (.lst xs) ∧ xs.length = tb.length := by
  obtain ⟨a, rs, e, h1, pr⟩ := h
  exact ⟨a, _, e, h1, by rw [List.length_map]; exact pr.length⟩
section
variable {P : Program} {w : World} {K : PySem.W.Frag} {mg : Str → Option Value} {base : Heap} {f g gn fl g1 g2 g3 fE : Addr} {fd gd gnd dl d1 d2 d3 dE : FuncData} {C CT CS CR : Addr}
theorem scChkE : FnScope ["table", "element"] ["table", "element"] (defScope sChkE) := ⟨rfl, rfl, rfl, by decide +kernel, rfl, by decide +kernel, by decide +kernel⟩
theorem ok_chkE (F : Fun K "check_element" "check_element" sChkE f fd) (M : Mn mg) (G : FnOk P w K mg base CX0 2 g gd ["value", "limit"] (spBelow K)) (bG : Binds K gd ["value", "limit"] []) (kG : PySem.W.keepIn K (.ref g) = true) (mG : mg "is_number_below" = some (.ref g))
    (GL : FnOk P w K mg base CX0 1 fl dl ["self"] (spLenM K C)) (bL : Binds K dl ["self"] []) (hL : PySem.W.findIn K (.ref C) "__len__" = some (some (.ref fl))) (tL : PySem.W.typeIn K (.ref fl) = some (.type "function")) : FnOk P w K mg base CX0 3 f fd ["table", "element"] (spChkE K C) := by
  refine F.ok scChkE (fun vs H Q E h => ?_) (fun cdv A outer s H vs Q E hr h => ?_)
  · obtain ⟨p, a, tb, rfl, _⟩ := h
    rfl
  obtain ⟨p, a, tb, rfl, ht, ha, n16, q⟩ := h
  refine ⟨_, pss_one (ps_if (pt_not (pt_val (pe_call G hr (by rfl) mG kG bG .nil pass0 (pa_cons (pv 1) (pa_cons (pe_callB (call_lenOwn hL tL GL hr bL) (by rfl) M.len PySem.boot_len (pa_cons (pv 0) pa_nil)) pa_nil))))) pss_dead pss_nil), ?_⟩
  obtain ⟨dx, t, rs, hp, _, _⟩ := ht.ob
  refine ⟨_, rfl, _, rfl, p, dx, _, rfl, hp, p, tb, rfl, ht, tb.length, rfl, by omega, _, _, rfl, .inl ⟨_, rfl⟩, _, rfl, ?_⟩
  have e : nb (tb.length : Int) (.int (a : Int)) = true := by
    show (decide ((0 : Int) ≤ (a : Int)) && decide ((a : Int) < (tb.length : Int))) = true
    rw [decide_eq_true (by omega), decide_eq_true (by omega)]; rfl
  rw [e]
  exact iteF q
theorem scPrd : FnScope ["self", "first", "second"] ["self", "first", "second"] (defScope sPrd) := ⟨rfl, rfl, rfl, by decide +kernel, rfl, by decide +kernel, by decide +kernel⟩
theorem ok_prd (F : Fun K "product" "ProductTable.product" sPrd f fd) (T : CTx K mg C)
    (G2 : FnOk P w K mg base CX0 3 g2 d2 ["table", "element"] (spChkE K C)) (b2 : Binds K d2 ["table", "element"] []) (k2 : PySem.W.keepIn K (.ref g2) = true) (m2 : mg "check_element" = some (.ref g2)) :
    FnOk P w K mg base CX0 4 f fd ["self", "first", "second"] (spPrd K C) := by
  refine F.ok scPrd (fun vs H Q E h => ?_) (fun cdv A outer s H vs Q E hr h => ?_)
  · obtain ⟨p, a, b, tb, rfl, _⟩ := h
    rfl
  obtain ⟨p, a, b, tb, rfl, ht0, S, ha, hb, q⟩ := h
  refine ⟨_, pss_cons (ps_expr (pe_call G2 hr (by rfl) m2 k2 b2 .nil pass0 (pa_cons (pv 0) (pa_cons (pv 1) pa_nil))))
    (pss_cons (ps_expr (pe_call G2 hr (by rfl) m2 k2 b2 .nil pass0 (pa_cons (pv 0) (pa_cons (pv 2) pa_nil))))
    (pss_one (ps_ret (pe_ix ix_tup (pe_ix ix_tup (pe_fld (pv 0) rfl) (pv 1) (fun _ _ => rfl)) (pv 2) (fun _ _ => rfl))))), ?_⟩
  obtain ⟨dx, t, rs, hp, ht, pr⟩ := ht0.ob
  obtain ⟨r, h1, h2, h3⟩ := row_at pr S ha
  refine ⟨_, rfl, _, rfl, p, a, tb, rfl, ht0, ha, S.ge, _, rfl, _, rfl, p, b, tb, rfl, ht0, hb, S.ge, ?_⟩
  refine ⟨_, rfl, p, C, dx, _, _, rfl, hp, T.cl, T.nR, rfl, _, rfl, t, rs, _, _, rfl, rfl, ht, at_of (j := a) rfl h1, _, rfl, r, _, _, _, rfl, rfl, h2, at_of (j := b) rfl (h3 b hb), ?_⟩
  exact q
theorem scEiT : FnScope ["self", "value"] ["self", "value"] (defScope sEiT) := ⟨rfl, rfl, rfl, by decide +kernel, rfl, by decide +kernel, by decide +kernel⟩
theorem ok_eiT (F : Fun K "__init__" "InvalidTable.__init__" sEiT f fd) : FnOk P w K mg base CX0 1 f fd ["self", "value"] (spEi K C "value") := by
  refine F.ok scEiT (fun vs H Q E h => ?_) (fun cdv A outer s H vs Q E hr h => ?_)
  · obtain ⟨a, v, rfl, _⟩ := h
    rfl
  obtain ⟨a, v, rfl, ha, T, no, q⟩ := h
  exact ⟨_, pss_one (ps_ost (pv 0) (pv 1)), ⟨_, rfl, _, rfl, a, C, rfl, T, no, .inl ⟨ha, fun dx h1 h2 => q dx h1 h2⟩⟩⟩
theorem scEiM : FnScope ["self", "count"] ["self", "count"] (defScope sEiM) := ⟨rfl, rfl, rfl, by decide +kernel, rfl, by decide +kernel, by decide +kernel⟩
theorem ok_eiM (F : Fun K "__init__" "TooMany.__init__" sEiM f fd) : FnOk P w K mg base CX0 1 f fd ["self", "count"] (spEi K C "count") := by
  refine F.ok scEiM (fun vs H Q E h => ?_) (fun cdv A outer s H vs Q E hr h => ?_)
  · obtain ⟨a, v, rfl, _⟩ := h
    rfl
  obtain ⟨a, v, rfl, ha, T, no, q⟩ := h
  exact ⟨_, pss_one (ps_ost (pv 0) (pv 1)), ⟨_, rfl, _, rfl, a, C, rfl, T, no, .inl ⟨ha, fun dx h1 h2 => q dx h1 h2⟩⟩⟩
end
end L

set_option Elab.async false
set_option linter.all false
set_option maxRecDepth 100000
set_option maxHeartbeats 4000000
/-! Own layer: lists and tuples of data that repr shows in few signs. -/
namespace KX
open PySem PySem.Spec PyProof.Rows L2
theorem okAll {n W : Nat} : ∀ {ds : List PyData}, (∀ d, d ∈ ds → OkD n W d) → PyData.leavesShortAll 110 ds = true ∧ PyData.showableAll ds = true ∧ PyData.depthAll ds ≤ n ∧ PyData.weightAll ds ≤ ds.length * (W + 1)
  | [], _ => ⟨rfl, rfl, Nat.zero_le _, Nat.zero_le _⟩
  | d :: ds, h => by
    have hd := h d List.mem_cons_self
    obtain ⟨g2, g3, g4, g5⟩ := okAll (ds := ds) fun x hx => h x (List.mem_cons_of_mem _ hx)
    refine ⟨?_, ?_, ?_, ?_⟩
    · simp only [PyData.leavesShortAll, hd.short, g2, Bool.and_self]
    · simp only [PyData.showableAll, hd.shows, g3, Bool.and_self]
    · have := hd.deep
      simp only [PyData.depthAll]; omega
    · have := hd.wt
      simp only [PyData.weightAll, List.length_cons, Nat.succ_mul]; omega
theorem okLi {n W m : Nat} {ds : List PyData} (h : ∀ d, d ∈ ds → OkD n W d) (l : ds.length ≤ m) : OkD (n + 1) (m * (W + 1)) (.list ds) := by
  obtain ⟨g2, g3, g4, g5⟩ := okAll h
  have := Nat.mul_le_mul_right (W + 1) l
  exact ⟨by simpa only [PyData.leavesShort] using g2, by simpa only [PyData.showable] using g3, by simp only [PyData.depth]; omega, by simp only [PyData.weight]; omega⟩
theorem okTu {n W m : Nat} {ds : List PyData} (h : ∀ d, d ∈ ds → OkD n W d) (l : ds.length ≤ m) : OkD (n + 1) (m * (W + 1)) (.tuple ds) := by
  obtain ⟨g2, g3, g4, g5⟩ := okAll h
  have := Nat.mul_le_mul_right (W + 1) l
  exact ⟨by simpa only [PyData.leavesShort] using g2, by simpa only [PyData.showable] using g3, by simp only [PyData.depth]; omega, by simp only [PyData.weight]; omega⟩
/-- two items of unlike weights -/
theorem okL2 {n W : Nat} {a b : PyData} (h : OkD n W a) (k : OkD n W b) : OkD (n + 1) (2 * (W + 1)) (.list [a, b]) := okLi (fun d hd => by
  rcases List.mem_cons.mp hd with e | e
  · rw [e]; exact h
  · rw [List.mem_singleton.mp e]; exact k) (Nat.le_refl 2)
theorem okT2 {n W : Nat} {a b : PyData} (h : OkD n W a) (k : OkD n W b) : OkD (n + 1) (2 * (W + 1)) (.tuple [a, b]) := okTu (fun d hd => by
  rcases List.mem_cons.mp hd with e | e
  · rw [e]; exact h
  · rw [List.mem_singleton.mp e]; exact k) (Nat.le_refl 2)
end KX

set_option Elab.async false
set_option linter.all false
set_option maxRecDepth 100000
set_option maxHeartbeats 4000000
set_option pp.maxSteps 400
namespace L
open PySem L2 KX
/-- a class that is no builtin type's ancestor -/
structure CNb (K : PySem.W.Frag) (C : Addr) : Prop where
  ma : PySem.W.makesIn K C = true
  tt : PySem.W.typeIn K (.ref C) = some (.type "type")
theorem CNb.cl {K : PySem.W.Frag} {C : Addr} (h : CNb K C) : (PySem.W.clsIn K C).isSome = true := by
  have h := h.ma
  unfold PySem.W.makesIn at h
  unfold PySem.W.clsIn
  split at h
  · rename_i e
    rw [e]; rfl
  · exact nomatch h
theorem CNb.no {K : PySem.W.Frag} {C : Addr} (h : CNb K C) {T : String} (e : (fastBuiltinMro T).map (·.contains (.ref C)) = some false) : PySem.W.kitOne K (.type T) (.ref C) = some false := by
  unfold PySem.W.kitOne
  rw [show ((Value.type T) == (Value.ref C)) = false from rfl, if_neg Bool.false_ne_true]
  show (if ((PySem.W.clsIn K C).isSome && PySem.W.typeIn K (.ref C) == some (.type "type")) = true then PySem.W.subIn K (.type T) (.ref C) else none) = some false
  rw [h.cl, h.tt]
  have e2 : (some (Value.type "type") == some (Value.type "type")) = true := by rfl
  rw [e2]
  exact e
theorem notT_of {K : PySem.W.Frag} {C : Addr} (N : CNb K C) {H : Hp} {v : V} {d : PyData} (h : Dq H v d) : NotT K C H v := by
  cases h with
  | non => exact ⟨_, .base .non, N.no (by rfl)⟩
  | bl b => exact ⟨_, .base (.bl b), N.no (by rfl)⟩
  | int i => exact ⟨_, .base (.int i), N.no (by rfl)⟩
  | str x => exact ⟨_, .base (.str x), N.no (by rfl)⟩
  | lst e _ => exact ⟨_, .base (.lst e), N.no (by rfl)⟩
  | tup e _ => exact ⟨_, .base (.tup e), N.no (by rfl)⟩
  | dct e _ => exact ⟨_, .base (.dK e), N.no (by rfl)⟩
/-- a value that is no table, as data -/
def BV (K : PySem.W.Frag) (C : Addr) (H : Hp) (v : V) : Prop := NotT K C H v ∧ ∃ d, Dq H v d ∧ OkD 3 8000 d
theorem BV.same {K : PySem.W.Frag} {C : Addr} {H G : Hp} {v : V} (s : Same H G) (h : BV K C H v) : BV K C G v := ⟨h.1.same s, let ⟨d, a, b⟩ := h.2; ⟨d, Dq.same s _ _ a, b⟩⟩
theorem BV.of {K : PySem.W.Frag} {C : Addr} (N : CNb K C) {H : Hp} {v : V} {d : PyData} (h : Dq H v d) (ok : OkD 3 8000 d) : BV K C H v := ⟨notT_of N h, d, h, ok⟩
/-! rows as data -/
def rD (tb : List (List Int)) : List PyData := tb.map fun r => .list (iD r)
theorem rD_lay : ∀ tb : List (List Int), PyData.canLayAll0 (rD tb) = true
  | [] => by unfold rD; simp [PyData.canLayAll0]
  | r :: tb => by
    have h := rD_lay tb
    have h2 : PyData.canLay0 (.list (iD r)) = true := by simp only [PyData.canLay0]; exact iD_lay r
    show (PyData.canLay0 (.list (iD r)) && PyData.canLayAll0 (rD tb)) = true
    rw [h, h2]; rfl
theorem rD_depth : ∀ tb : List (List Int), PyData.depthAll (rD tb) ≤ 1
  | [] => by unfold rD; simp [PyData.depthAll]
  | r :: tb => by
    have h := rD_depth tb
    have h2 : PyData.depth (.list (iD r)) = 1 := by simp only [PyData.depth, iD_depth r]
    show max (PyData.depth (.list (iD r))) (PyData.depthAll (rD tb)) ≤ 1
    omega
theorem rD_shaped (tb : List (List Int)) : SeqAt.shaped (.list (rD tb)) = true := by
  have h2 : PyData.depth (.list (rD tb)) ≤ 2 := by simp only [PyData.depth]; have := rD_depth tb; omega
  have h1 : PyData.canLay0 (.list (rD tb)) = true := by simp only [PyData.canLay0]; exact rD_lay tb
  show (PyData.canLay0 (.list (rD tb)) && decide (PyData.depth (.list (rD tb)) ≤ 64)) = true
  rw [Bool.and_eq_true]
  exact ⟨h1, decide_eq_true (by omega)⟩
theorem rD_dp {K : PySem.W.Frag} {G : Hp} {rs : List Addr} {tb : List (List Int)} (h : Paired (fun r row => G r = some (.lst (row.map V.int))) rs tb) : DpAll K G (rs.map V.ref) (rD tb) := by
  induction h with
  | nil => exact .nil
  | cons h _ ih => exact .cons (.lst (SqL.of h) (dp_ints _)) ih
theorem RowsL.dp {K : PySem.W.Frag} {G : Hp} {v : V} {tb : List (List Int)} (h : RowsL G v tb) : Dp K G v (.list (rD tb)) := by
  obtain ⟨a, rs, rfl, e, pr⟩ := h
  exact .lst (SqL.of e) (rD_dp pr)
theorem rD_refl_all : ∀ tb : List (List Int), PyData.eqvAll (rD tb) (rD tb) = true
  | [] => by unfold rD; simp [PyData.eqvAll]
  | r :: tb => by
    have h := rD_refl_all tb
    have h2 := iD_eqv r r
    rw [decide_eq_true rfl] at h2
    show PyData.eqvAll (.list (iD r) :: rD tb) (.list (iD r) :: rD tb) = true
    simp only [PyData.eqvAll, h, h2, Bool.and_self]
theorem rD_refl (tb : List (List Int)) : PyData.eqv (.list (rD tb)) (.list (rD tb)) = true := by simp only [PyData.eqv]; exact rD_refl_all tb
theorem szl (n : Nat) (h : n ≤ 5000) : n ≤ sizeLine := Nat.le_trans h (by rw [sizeLine_eq]; omega)
/-- a table made of the rows at v -/
theorem init_at {K : PySem.W.Frag} {C : Addr} {H : Hp} {v : V} {tb : List (List Int)} {x dx : Addr} {Q : Hp → Prop} {E : XK} (R : RowsL H v tb) (T : Tb tb) (hx : H x = none) (hdx : H dx = none) (nex : dx ≠ x) (q : ∀ J, Same H J → TbA K C J x tb → Q J) :
    spInit K C (.ref x :: ([v] ++ [])) (upd (upd H dx (.own x)) x (.ins C dx [])) (fun u H2 => u = .non ∧ Q H2) E := by
  have sn : Same H (upd (upd H dx (.own x)) x (.ins C dx [])) := fun b o e => by rw [upd_ne (ne_of_none e hx), upd_ne (ne_of_none e hdx)]; exact e
  have nD : ∀ b, v = .ref b → b ≠ x := fun b e => by
    obtain ⟨_, _, e', ed, _⟩ := id R
    rw [e'] at e
    cases e
    exact ne_of_none ed hx
  exact ⟨x, dx, v, tb, rfl, upd_same, (R.same sn).rws, T.sq, T.as, nD, fun J tx kx => ⟨rfl, q J (fun b o e => kx b o (ne_of_none e hx) (sn b o e)) tx⟩⟩
theorem iteTt {c : Bool} {A B : Prop} (e : c = true) (h : A) : if c = true then A else B := by rw [if_pos e]; exact h
theorem iteFf {c : Bool} {A B : Prop} (e : c = false) (h : B) : if c = true then A else B := by rw [if_neg (by rw [e]; exact Bool.false_ne_true)]; exact h
end L

set_option Elab.async false
set_option linter.all false
set_option maxRecDepth 100000
set_option maxHeartbeats 4000000
set_option pp.maxSteps 400
namespace L
open PySem L2 KX
abbrev sChkEX : Stmt := top 23
abbrev sEiE : Stmt := inClass (top 7) 0
abbrev sF_levels : Stmt := top 32
abbrev sF_group_cells : Stmt := top 37
abbrev sF_height_bound : Stmt := top 39
abbrev sF_color_bound : Stmt := top 40
abbrev sF_right_class : Stmt := top 27
abbrev sF_left_class : Stmt := top 28
abbrev sF_level_of : Stmt := top 33
abbrev sF_inverse : Stmt := top 38
abbrev sF_find_factors : Stmt := top 35
abbrev sF_is_above : Stmt := top 36
abbrev sF_cell_of : Stmt := top 31
/-- what is due of a table, an element, one more: n of them are asked -/
def Rz (K : PySem.W.Frag) (C : Addr) (H : Hp) (n : Nat) (x y z : V) (c : Bool) (u : V) : Prop := (NotT K C H x ∧ c = true ∧ u = x) ∨ ∃ p tb, x = .ref p ∧ TbA K C H p tb ∧ tb.length ≤ 16 ∧ 2 ≤ n ∧ Itm K H y ∧ c = false ∧
  ((nb (tb.length : Int) y = false ∧ u = y) ∨ (3 ≤ n ∧ nb (tb.length : Int) y = true ∧ Itm K H z ∧ nb (tb.length : Int) z = false ∧ u = z))
theorem Rz.same {K : PySem.W.Frag} {C : Addr} {H G : Hp} {n : Nat} {x y z : V} {c : Bool} {u : V} (s : Same H G) (h : Rz K C H n x y z c u) : Rz K C G n x y z c u :=
  h.imp (fun ⟨a, b⟩ => ⟨a.same s, b⟩) fun ⟨p, tb, a, b, c, d, e, f, g⟩ => ⟨p, tb, a, b.to s, c, d, e.same s, f, g.imp id fun ⟨a, b, c, d⟩ => ⟨a, b, c.same s, d⟩⟩
def spRn (K : PySem.W.Frag) (C CT CE : Addr) (n : Nat) : Sp := fun vs H Q E => ∃ x y z c u, vs = [x, y, z].take n ∧ Rz K C H n x y z c u ∧ ∀ d, H d = none → E (.ref (if c then CT else CE)) (some d) (upd H d (.xd [("value", u)]))
def spChkEX (K : PySem.W.Frag) (C CE : Addr) : Sp := fun vs H Q E => ∃ p v tb, vs = [.ref p, v] ∧ TbA K C H p tb ∧ tb.length ≤ 16 ∧ Itm K H v ∧ (nb (tb.length : Int) v = true → Q .non H) ∧ (nb (tb.length : Int) v = false → ∀ d, H d = none → E (.ref CE) (some d) (upd H d (.xd [("value", v)])))
section
variable {P : Program} {w : World} {K : PySem.W.Frag} {mg : Str → Option Value} {base : Heap} {f g g1 g2 fl fE : Addr} {fd gd d1 d2 dl dE : FuncData} {C CT CE : Addr}
theorem scEiE : FnScope ["self", "value"] ["self", "value"] (defScope sEiE) := ⟨rfl, rfl, rfl, by decide +kernel, rfl, by decide +kernel, by decide +kernel⟩
theorem ok_eiE (F : Fun K "__init__" "InvalidElement.__init__" sEiE f fd) : FnOk P w K mg base CX0 1 f fd ["self", "value"] (spEi K C "value") := by
  refine F.ok scEiE (fun vs H Q E h => ?_) (fun cdv A outer s H vs Q E hr h => ?_)
  · obtain ⟨a, v, rfl, _⟩ := h
    rfl
  obtain ⟨a, v, rfl, ha, T, no, q⟩ := h
  exact ⟨_, pss_one (ps_ost (pv 0) (pv 1)), ⟨_, rfl, _, rfl, a, C, rfl, T, no, .inl ⟨ha, fun dx h1 h2 => q dx h1 h2⟩⟩⟩
theorem scChkEX : FnScope ["table", "element"] ["table", "element"] (defScope sChkEX) := ⟨rfl, rfl, rfl, by decide +kernel, rfl, by decide +kernel, by decide +kernel⟩
theorem ok_chkEX (F : Fun K "check_element" "check_element" sChkEX f fd) (M : Mn mg)
    (TE : ETx K mg "InvalidElement" "value" CE fE) (FE : FnOk P w K mg base CX0 1 fE dE ["self", "value"] (spEi K CE "value")) (bE : Binds K dE ["self", "value"] [])
    (G : FnOk P w K mg base CX0 2 g gd ["value", "limit"] (spBelow K)) (bG : Binds K gd ["value", "limit"] []) (kG : PySem.W.keepIn K (.ref g) = true) (mG : mg "is_number_below" = some (.ref g))
    (GL : FnOk P w K mg base CX0 1 fl dl ["self"] (spLenM K C)) (bL : Binds K dl ["self"] []) (hL : PySem.W.findIn K (.ref C) "__len__" = some (some (.ref fl))) (tL : PySem.W.typeIn K (.ref fl) = some (.type "function")) : FnOk P w K mg base (L2.CX P w) 3 f fd ["table", "element"] (spChkEX K C CE) := by
  refine F.okX scChkEX (fun vs H Q E h => ?_) (fun cdv A outer s H vs Q E hr h => ?_)
  · obtain ⟨p, v, tb, rfl, _⟩ := h
    rfl
  obtain ⟨p, v, tb, rfl, ht, n16, hv, q1, q2⟩ := h
  have hr2 : Room 2 _ := hr
  refine ⟨_, pss_one (ps_if (pt_not (pt_val (pe_call G hr2 (by rfl) mG kG bG .nil pass0 (pa_cons (pv 1) (pa_cons (pe_callB (call_lenOwn hL tL GL hr2 bL) (by rfl) M.len PySem.boot_len (pa_cons (pv 0) pa_nil)) pa_nil))))) (pss_one (ps_raise rfl (takes_of rfl rfl rfl rfl) (pmk_val TE.ox TE.iC TE.tI TE.noF FE hr2 bE (by rfl) TE.mgC (pa_cons (pv 1) pa_nil)))) pss_nil), ?_⟩
  obtain ⟨dx, t, rs, hp, _, _⟩ := ht.ob
  refine ⟨_, rfl, _, rfl, p, dx, _, rfl, hp, p, tb, rfl, ht, tb.length, rfl, by omega, v, _, rfl, hv, _, rfl, ?_⟩
  cases e : nb (tb.length : Int) v with
  | true => exact iteF (q1 e)
  | false => exact iteTt rfl ⟨fun vs H1 => vs = [v] ∧ H1 = H, ⟨_, rfl, rfl, rfl⟩, by rintro _ _ ⟨rfl, rfl⟩; exact ⟨_, rfl, fun d hd => q2 e d hd⟩⟩
theorem sc_levels : FnScope ["table"] ["table"] (defScope sF_levels) := ⟨rfl, rfl, rfl, by decide +kernel, rfl, by decide +kernel, by decide +kernel⟩
theorem ok_levels (F : Fun K "levels" "levels" sF_levels f fd) (G1 : FnOk P w K mg base (L2.CX P w) 3 g1 d1 ["table"] (spChkTX K C CT)) (b1 : Binds K d1 ["table"] []) (k1 : PySem.W.keepIn K (.ref g1) = true) (m1 : mg "check_table" = some (.ref g1)) : FnOk P w K mg base (L2.CX P w) 4 f fd ["table"] (spRn K C CT CE 1) := by
  refine F.okX sc_levels (fun vs H Q E h => ?_) (fun cdv A outer s H vs Q E hr h => ?_)
  · obtain ⟨x, y, z, c, u, rfl, _⟩ := h
    rfl
  obtain ⟨x, y, z, c, u, rfl, h, q⟩ := h
  have hr3 : Room 3 _ := hr
  refine ⟨_, (pss_cons (ps_expr (pe_call G1 hr3 (by rfl) m1 k1 b1 .nil (passes_call (takes_of rfl rfl rfl rfl) (fun _ _ _ _ h => h)) (pa_cons (pv 0) pa_nil))) pss_dead), ?_⟩
  rcases h with ⟨nt, rfl, rfl⟩ | ⟨p, tb, rfl, ht, n16, h2, hy, rfl, h⟩
  · exact ⟨_, rfl, _, rfl, .inr ⟨nt, q⟩⟩
  · omega
theorem sc_group_cells : FnScope ["table"] ["table"] (defScope sF_group_cells) := ⟨rfl, rfl, rfl, by decide +kernel, rfl, by decide +kernel, by decide +kernel⟩
theorem ok_group_cells (F : Fun K "group_cells" "group_cells" sF_group_cells f fd) (G1 : FnOk P w K mg base (L2.CX P w) 3 g1 d1 ["table"] (spChkTX K C CT)) (b1 : Binds K d1 ["table"] []) (k1 : PySem.W.keepIn K (.ref g1) = true) (m1 : mg "check_table" = some (.ref g1)) : FnOk P w K mg base (L2.CX P w) 4 f fd ["table"] (spRn K C CT CE 1) := by
  refine F.okX sc_group_cells (fun vs H Q E h => ?_) (fun cdv A outer s H vs Q E hr h => ?_)
  · obtain ⟨x, y, z, c, u, rfl, _⟩ := h
    rfl
  obtain ⟨x, y, z, c, u, rfl, h, q⟩ := h
  have hr3 : Room 3 _ := hr
  refine ⟨_, (pss_cons (ps_expr (pe_call G1 hr3 (by rfl) m1 k1 b1 .nil (passes_call (takes_of rfl rfl rfl rfl) (fun _ _ _ _ h => h)) (pa_cons (pv 0) pa_nil))) pss_dead), ?_⟩
  rcases h with ⟨nt, rfl, rfl⟩ | ⟨p, tb, rfl, ht, n16, h2, hy, rfl, h⟩
  · exact ⟨_, rfl, _, rfl, .inr ⟨nt, q⟩⟩
  · omega
theorem sc_height_bound : FnScope ["table"] ["table"] (defScope sF_height_bound) := ⟨rfl, rfl, rfl, by decide +kernel, rfl, by decide +kernel, by decide +kernel⟩
theorem ok_height_bound (F : Fun K "height_bound" "height_bound" sF_height_bound f fd) (G1 : FnOk P w K mg base (L2.CX P w) 3 g1 d1 ["table"] (spChkTX K C CT)) (b1 : Binds K d1 ["table"] []) (k1 : PySem.W.keepIn K (.ref g1) = true) (m1 : mg "check_table" = some (.ref g1)) : FnOk P w K mg base (L2.CX P w) 4 f fd ["table"] (spRn K C CT CE 1) := by
  refine F.okX sc_height_bound (fun vs H Q E h => ?_) (fun cdv A outer s H vs Q E hr h => ?_)
  · obtain ⟨x, y, z, c, u, rfl, _⟩ := h
    rfl
  obtain ⟨x, y, z, c, u, rfl, h, q⟩ := h
  have hr3 : Room 3 _ := hr
  refine ⟨_, (pss_cons (ps_expr (pe_call G1 hr3 (by rfl) m1 k1 b1 .nil (passes_call (takes_of rfl rfl rfl rfl) (fun _ _ _ _ h => h)) (pa_cons (pv 0) pa_nil))) pss_dead), ?_⟩
  rcases h with ⟨nt, rfl, rfl⟩ | ⟨p, tb, rfl, ht, n16, h2, hy, rfl, h⟩
  · exact ⟨_, rfl, _, rfl, .inr ⟨nt, q⟩⟩
  · omega
theorem sc_color_bound : FnScope ["table"] ["table"] (defScope sF_color_bound) := ⟨rfl, rfl, rfl, by decide +kernel, rfl, by decide +kernel, by decide +kernel⟩
theorem ok_color_bound (F : Fun K "color_bound" "color_bound" sF_color_bound f fd) (G1 : FnOk P w K mg base (L2.CX P w) 3 g1 d1 ["table"] (spChkTX K C CT)) (b1 : Binds K d1 ["table"] []) (k1 : PySem.W.keepIn K (.ref g1) = true) (m1 : mg "check_table" = some (.ref g1)) : FnOk P w K mg base (L2.CX P w) 4 f fd ["table"] (spRn K C CT CE 1) := by
  refine F.okX sc_color_bound (fun vs H Q E h => ?_) (fun cdv A outer s H vs Q E hr h => ?_)
  · obtain ⟨x, y, z, c, u, rfl, _⟩ := h
    rfl
  obtain ⟨x, y, z, c, u, rfl, h, q⟩ := h
  have hr3 : Room 3 _ := hr
  refine ⟨_, (pss_cons (ps_expr (pe_call G1 hr3 (by rfl) m1 k1 b1 .nil (passes_call (takes_of rfl rfl rfl rfl) (fun _ _ _ _ h => h)) (pa_cons (pv 0) pa_nil))) pss_dead), ?_⟩
  rcases h with ⟨nt, rfl, rfl⟩ | ⟨p, tb, rfl, ht, n16, h2, hy, rfl, h⟩
  · exact ⟨_, rfl, _, rfl, .inr ⟨nt, q⟩⟩
  · omega
theorem sc_right_class : FnScope ["table", "element"] ["table", "element"] (defScope sF_right_class) := ⟨rfl, rfl, rfl, by decide +kernel, rfl, by decide +kernel, by decide +kernel⟩
theorem ok_right_class (F : Fun K "right_class" "right_class" sF_right_class f fd) (G1 : FnOk P w K mg base (L2.CX P w) 3 g1 d1 ["table"] (spChkTX K C CT)) (b1 : Binds K d1 ["table"] []) (k1 : PySem.W.keepIn K (.ref g1) = true) (m1 : mg "check_table" = some (.ref g1)) (G2 : FnOk P w K mg base (L2.CX P w) 3 g2 d2 ["table", "element"] (spChkEX K C CE)) (b2 : Binds K d2 ["table", "element"] []) (k2 : PySem.W.keepIn K (.ref g2) = true) (m2 : mg "check_element" = some (.ref g2)) : FnOk P w K mg base (L2.CX P w) 4 f fd ["table", "element"] (spRn K C CT CE 2) := by
  refine F.okX sc_right_class (fun vs H Q E h => ?_) (fun cdv A outer s H vs Q E hr h => ?_)
  · obtain ⟨x, y, z, c, u, rfl, _⟩ := h
    rfl
  obtain ⟨x, y, z, c, u, rfl, h, q⟩ := h
  have hr3 : Room 3 _ := hr
  refine ⟨_, (pss_cons (ps_expr (pe_call G1 hr3 (by rfl) m1 k1 b1 .nil (passes_call (takes_of rfl rfl rfl rfl) (fun _ _ _ _ h => h)) (pa_cons (pv 0) pa_nil))) (pss_cons (ps_expr (pe_call G2 hr3 (by rfl) m2 k2 b2 .nil (passes_call (takes_of rfl rfl rfl rfl) (fun _ _ _ _ h => h)) (pa_cons (pv 0) (pa_cons (pv 1) pa_nil)))) pss_dead)), ?_⟩
  rcases h with ⟨nt, rfl, rfl⟩ | ⟨p, tb, rfl, ht, n16, h2, hy, rfl, h⟩
  · exact ⟨_, rfl, _, rfl, .inr ⟨nt, q⟩⟩
  rcases h with ⟨e, rfl⟩ | ⟨h3, _⟩
  · exact ⟨_, rfl, _, rfl, .inl ⟨p, tb, rfl, ht, _, rfl, _, rfl, p, _, tb, rfl, ht, n16, hy, (fun e' => by rw [e] at e'; cases e'), fun _ => q⟩⟩
  · omega
theorem sc_left_class : FnScope ["table", "element"] ["table", "element"] (defScope sF_left_class) := ⟨rfl, rfl, rfl, by decide +kernel, rfl, by decide +kernel, by decide +kernel⟩
theorem ok_left_class (F : Fun K "left_class" "left_class" sF_left_class f fd) (G1 : FnOk P w K mg base (L2.CX P w) 3 g1 d1 ["table"] (spChkTX K C CT)) (b1 : Binds K d1 ["table"] []) (k1 : PySem.W.keepIn K (.ref g1) = true) (m1 : mg "check_table" = some (.ref g1)) (G2 : FnOk P w K mg base (L2.CX P w) 3 g2 d2 ["table", "element"] (spChkEX K C CE)) (b2 : Binds K d2 ["table", "element"] []) (k2 : PySem.W.keepIn K (.ref g2) = true) (m2 : mg "check_element" = some (.ref g2)) : FnOk P w K mg base (L2.CX P w) 4 f fd ["table", "element"] (spRn K C CT CE 2) := by
  refine F.okX sc_left_class (fun vs H Q E h => ?_) (fun cdv A outer s H vs Q E hr h => ?_)
  · obtain ⟨x, y, z, c, u, rfl, _⟩ := h
    rfl
  obtain ⟨x, y, z, c, u, rfl, h, q⟩ := h
  have hr3 : Room 3 _ := hr
  refine ⟨_, (pss_cons (ps_expr (pe_call G1 hr3 (by rfl) m1 k1 b1 .nil (passes_call (takes_of rfl rfl rfl rfl) (fun _ _ _ _ h => h)) (pa_cons (pv 0) pa_nil))) (pss_cons (ps_expr (pe_call G2 hr3 (by rfl) m2 k2 b2 .nil (passes_call (takes_of rfl rfl rfl rfl) (fun _ _ _ _ h => h)) (pa_cons (pv 0) (pa_cons (pv 1) pa_nil)))) pss_dead)), ?_⟩
  rcases h with ⟨nt, rfl, rfl⟩ | ⟨p, tb, rfl, ht, n16, h2, hy, rfl, h⟩
  · exact ⟨_, rfl, _, rfl, .inr ⟨nt, q⟩⟩
  rcases h with ⟨e, rfl⟩ | ⟨h3, _⟩
  · exact ⟨_, rfl, _, rfl, .inl ⟨p, tb, rfl, ht, _, rfl, _, rfl, p, _, tb, rfl, ht, n16, hy, (fun e' => by rw [e] at e'; cases e'), fun _ => q⟩⟩
  · omega
theorem sc_level_of : FnScope ["table", "element"] ["table", "element"] (defScope sF_level_of) := ⟨rfl, rfl, rfl, by decide +kernel, rfl, by decide +kernel, by decide +kernel⟩
theorem ok_level_of (F : Fun K "level_of" "level_of" sF_level_of f fd) (G1 : FnOk P w K mg base (L2.CX P w) 3 g1 d1 ["table"] (spChkTX K C CT)) (b1 : Binds K d1 ["table"] []) (k1 : PySem.W.keepIn K (.ref g1) = true) (m1 : mg "check_table" = some (.ref g1)) (G2 : FnOk P w K mg base (L2.CX P w) 3 g2 d2 ["table", "element"] (spChkEX K C CE)) (b2 : Binds K d2 ["table", "element"] []) (k2 : PySem.W.keepIn K (.ref g2) = true) (m2 : mg "check_element" = some (.ref g2)) : FnOk P w K mg base (L2.CX P w) 4 f fd ["table", "element"] (spRn K C CT CE 2) := by
  refine F.okX sc_level_of (fun vs H Q E h => ?_) (fun cdv A outer s H vs Q E hr h => ?_)
  · obtain ⟨x, y, z, c, u, rfl, _⟩ := h
    rfl
  obtain ⟨x, y, z, c, u, rfl, h, q⟩ := h
  have hr3 : Room 3 _ := hr
  refine ⟨_, (pss_cons (ps_expr (pe_call G1 hr3 (by rfl) m1 k1 b1 .nil (passes_call (takes_of rfl rfl rfl rfl) (fun _ _ _ _ h => h)) (pa_cons (pv 0) pa_nil))) (pss_cons (ps_expr (pe_call G2 hr3 (by rfl) m2 k2 b2 .nil (passes_call (takes_of rfl rfl rfl rfl) (fun _ _ _ _ h => h)) (pa_cons (pv 0) (pa_cons (pv 1) pa_nil)))) pss_dead)), ?_⟩
  rcases h with ⟨nt, rfl, rfl⟩ | ⟨p, tb, rfl, ht, n16, h2, hy, rfl, h⟩
  · exact ⟨_, rfl, _, rfl, .inr ⟨nt, q⟩⟩
  rcases h with ⟨e, rfl⟩ | ⟨h3, _⟩
  · exact ⟨_, rfl, _, rfl, .inl ⟨p, tb, rfl, ht, _, rfl, _, rfl, p, _, tb, rfl, ht, n16, hy, (fun e' => by rw [e] at e'; cases e'), fun _ => q⟩⟩
  · omega
theorem sc_inverse : FnScope ["table", "element"] ["table", "element"] (defScope sF_inverse) := ⟨rfl, rfl, rfl, by decide +kernel, rfl, by decide +kernel, by decide +kernel⟩
theorem ok_inverse (F : Fun K "inverse" "inverse" sF_inverse f fd) (G1 : FnOk P w K mg base (L2.CX P w) 3 g1 d1 ["table"] (spChkTX K C CT)) (b1 : Binds K d1 ["table"] []) (k1 : PySem.W.keepIn K (.ref g1) = true) (m1 : mg "check_table" = some (.ref g1)) (G2 : FnOk P w K mg base (L2.CX P w) 3 g2 d2 ["table", "element"] (spChkEX K C CE)) (b2 : Binds K d2 ["table", "element"] []) (k2 : PySem.W.keepIn K (.ref g2) = true) (m2 : mg "check_element" = some (.ref g2)) : FnOk P w K mg base (L2.CX P w) 4 f fd ["table", "element"] (spRn K C CT CE 2) := by
  refine F.okX sc_inverse (fun vs H Q E h => ?_) (fun cdv A outer s H vs Q E hr h => ?_)
  · obtain ⟨x, y, z, c, u, rfl, _⟩ := h
    rfl
  obtain ⟨x, y, z, c, u, rfl, h, q⟩ := h
  have hr3 : Room 3 _ := hr
  refine ⟨_, (pss_cons (ps_expr (pe_call G1 hr3 (by rfl) m1 k1 b1 .nil (passes_call (takes_of rfl rfl rfl rfl) (fun _ _ _ _ h => h)) (pa_cons (pv 0) pa_nil))) (pss_cons (ps_expr (pe_call G2 hr3 (by rfl) m2 k2 b2 .nil (passes_call (takes_of rfl rfl rfl rfl) (fun _ _ _ _ h => h)) (pa_cons (pv 0) (pa_cons (pv 1) pa_nil)))) pss_dead)), ?_⟩
  rcases h with ⟨nt, rfl, rfl⟩ | ⟨p, tb, rfl, ht, n16, h2, hy, rfl, h⟩
  · exact ⟨_, rfl, _, rfl, .inr ⟨nt, q⟩⟩
  rcases h with ⟨e, rfl⟩ | ⟨h3, _⟩
  · exact ⟨_, rfl, _, rfl, .inl ⟨p, tb, rfl, ht, _, rfl, _, rfl, p, _, tb, rfl, ht, n16, hy, (fun e' => by rw [e] at e'; cases e'), fun _ => q⟩⟩
  · omega
theorem sc_find_factors : FnScope ["table", "start", "goal"] ["table", "start", "goal"] (defScope sF_find_factors) := ⟨rfl, rfl, rfl, by decide +kernel, rfl, by decide +kernel, by decide +kernel⟩
theorem ok_find_factors (F : Fun K "find_factors" "find_factors" sF_find_factors f fd) (G1 : FnOk P w K mg base (L2.CX P w) 3 g1 d1 ["table"] (spChkTX K C CT)) (b1 : Binds K d1 ["table"] []) (k1 : PySem.W.keepIn K (.ref g1) = true) (m1 : mg "check_table" = some (.ref g1)) (G2 : FnOk P w K mg base (L2.CX P w) 3 g2 d2 ["table", "element"] (spChkEX K C CE)) (b2 : Binds K d2 ["table", "element"] []) (k2 : PySem.W.keepIn K (.ref g2) = true) (m2 : mg "check_element" = some (.ref g2)) : FnOk P w K mg base (L2.CX P w) 4 f fd ["table", "start", "goal"] (spRn K C CT CE 3) := by
  refine F.okX sc_find_factors (fun vs H Q E h => ?_) (fun cdv A outer s H vs Q E hr h => ?_)
  · obtain ⟨x, y, z, c, u, rfl, _⟩ := h
    rfl
  obtain ⟨x, y, z, c, u, rfl, h, q⟩ := h
  have hr3 : Room 3 _ := hr
  refine ⟨_, (pss_cons (ps_expr (pe_call G1 hr3 (by rfl) m1 k1 b1 .nil (passes_call (takes_of rfl rfl rfl rfl) (fun _ _ _ _ h => h)) (pa_cons (pv 0) pa_nil))) (pss_cons (ps_expr (pe_call G2 hr3 (by rfl) m2 k2 b2 .nil (passes_call (takes_of rfl rfl rfl rfl) (fun _ _ _ _ h => h)) (pa_cons (pv 0) (pa_cons (pv 1) pa_nil)))) (pss_cons (ps_expr (pe_call G2 hr3 (by rfl) m2 k2 b2 .nil (passes_call (takes_of rfl rfl rfl rfl) (fun _ _ _ _ h => h)) (pa_cons (pv 0) (pa_cons (pv 2) pa_nil)))) pss_dead))), ?_⟩
  rcases h with ⟨nt, rfl, rfl⟩ | ⟨p, tb, rfl, ht, n16, h2, hy, rfl, h⟩
  · exact ⟨_, rfl, _, rfl, .inr ⟨nt, q⟩⟩
  refine ⟨_, rfl, _, rfl, .inl ⟨p, tb, rfl, ht, _, rfl, _, rfl, p, _, tb, rfl, ht, n16, hy, ?_⟩⟩
  rcases h with ⟨e, rfl⟩ | ⟨h3, e, hz, ez, rfl⟩
  · exact ⟨(fun e' => by rw [e] at e'; cases e'), fun _ => q⟩
  · exact ⟨fun _ => ⟨_, rfl, _, rfl, p, _, tb, rfl, ht, n16, hz, (fun e' => by rw [ez] at e'; cases e'), fun _ => q⟩, (fun e' => by rw [e] at e'; cases e')⟩
theorem sc_is_above : FnScope ["table", "first", "second"] ["table", "first", "second"] (defScope sF_is_above) := ⟨rfl, rfl, rfl, by decide +kernel, rfl, by decide +kernel, by decide +kernel⟩
theorem ok_is_above (F : Fun K "is_above" "is_above" sF_is_above f fd) (G1 : FnOk P w K mg base (L2.CX P w) 3 g1 d1 ["table"] (spChkTX K C CT)) (b1 : Binds K d1 ["table"] []) (k1 : PySem.W.keepIn K (.ref g1) = true) (m1 : mg "check_table" = some (.ref g1)) (G2 : FnOk P w K mg base (L2.CX P w) 3 g2 d2 ["table", "element"] (spChkEX K C CE)) (b2 : Binds K d2 ["table", "element"] []) (k2 : PySem.W.keepIn K (.ref g2) = true) (m2 : mg "check_element" = some (.ref g2)) : FnOk P w K mg base (L2.CX P w) 4 f fd ["table", "first", "second"] (spRn K C CT CE 3) := by
  refine F.okX sc_is_above (fun vs H Q E h => ?_) (fun cdv A outer s H vs Q E hr h => ?_)
  · obtain ⟨x, y, z, c, u, rfl, _⟩ := h
    rfl
  obtain ⟨x, y, z, c, u, rfl, h, q⟩ := h
  have hr3 : Room 3 _ := hr
  refine ⟨_, (pss_cons (ps_expr (pe_call G1 hr3 (by rfl) m1 k1 b1 .nil (passes_call (takes_of rfl rfl rfl rfl) (fun _ _ _ _ h => h)) (pa_cons (pv 0) pa_nil))) (pss_cons (ps_expr (pe_call G2 hr3 (by rfl) m2 k2 b2 .nil (passes_call (takes_of rfl rfl rfl rfl) (fun _ _ _ _ h => h)) (pa_cons (pv 0) (pa_cons (pv 1) pa_nil)))) (pss_cons (ps_expr (pe_call G2 hr3 (by rfl) m2 k2 b2 .nil (passes_call (takes_of rfl rfl rfl rfl) (fun _ _ _ _ h => h)) (pa_cons (pv 0) (pa_cons (pv 2) pa_nil)))) pss_dead))), ?_⟩
  rcases h with ⟨nt, rfl, rfl⟩ | ⟨p, tb, rfl, ht, n16, h2, hy, rfl, h⟩
  · exact ⟨_, rfl, _, rfl, .inr ⟨nt, q⟩⟩
  refine ⟨_, rfl, _, rfl, .inl ⟨p, tb, rfl, ht, _, rfl, _, rfl, p, _, tb, rfl, ht, n16, hy, ?_⟩⟩
  rcases h with ⟨e, rfl⟩ | ⟨h3, e, hz, ez, rfl⟩
  · exact ⟨(fun e' => by rw [e] at e'; cases e'), fun _ => q⟩
  · exact ⟨fun _ => ⟨_, rfl, _, rfl, p, _, tb, rfl, ht, n16, hz, (fun e' => by rw [ez] at e'; cases e'), fun _ => q⟩, (fun e' => by rw [e] at e'; cases e')⟩
theorem pg_dead {X : Cx} {g : Expr} : PG X g (fun _ _ _ _ => False) := ⟨fun _ _ _ _ _ _ _ _ _ h => h.elim⟩
theorem sc_cell_of : FnScope ["table", "element"] ["table", "element"] (defScope sF_cell_of) := ⟨rfl, rfl, rfl, by decide +kernel, rfl, by decide +kernel, by decide +kernel⟩
theorem ok_cell_of (F : Fun K "cell_of" "cell_of" sF_cell_of f fd) (G1 : FnOk P w K mg base (L2.CX P w) 4 g1 d1 ["table", "element"] (spRn K C CT CE 2)) (b1 : Binds K d1 ["table", "element"] []) (k1 : PySem.W.keepIn K (.ref g1) = true) (m1 : mg "right_class" = some (.ref g1)) : FnOk P w K mg base (L2.CX P w) 5 f fd ["table", "element"] (spRn K C CT CE 2) := by
  refine F.okX sc_cell_of (fun vs H Q E h => ?_) (fun cdv A outer s H vs Q E hr h => ?_)
  · obtain ⟨x, y, z, c, u, rfl, _⟩ := h
    rfl
  obtain ⟨x, y, z, c, u, rfl, h, q⟩ := h
  have hr4 : Room 4 _ := hr
  refine ⟨_, (pss_cons (ps_asg (pe_call G1 hr4 (by rfl) m1 k1 b1 .nil (passes_call (takes_of rfl rfl rfl rfl) (fun _ _ _ _ h => h)) (pa_cons (pv 0) (pa_cons (pv 1) pa_nil))) pg_dead) pss_dead), ?_⟩
  exact ⟨_, rfl, _, rfl, x, y, z, c, u, rfl, h, q⟩
end
end L

set_option Elab.async false
set_option linter.all false
set_option maxRecDepth 100000
set_option maxHeartbeats 4000000
set_option pp.maxSteps 400
namespace L
open PySem L2 KX LamX
abbrev sRai : Stmt := top 64
/-- what a lambda does with [x, y, z], n of which it asks for -/
def spAsk (K : PySem.W.Frag) (C CT CE : Addr) (n : Nat) : Sp := fun vs H Q E => ∃ (l : Addr) (x y z : V) (c : Bool) (u : V), vs = [.ref l] ∧ H l = some (.lst [x, y, z]) ∧ Rz K C H n x y z c u ∧ ∀ d, H d = none → E (.ref (if c then CT else CE)) (some d) (upd H d (.xd [("value", u)]))
/-- v is one of the lambdas -/
def AskAt (P : Program) (w : World) (K : PySem.W.Frag) (mg : Str → Option Value) (base : Heap) (C CT CE : Addr) (H : Hp) (v : V) (n : Nat) : Prop := ∃ f F, v = .ref f ∧ H f = some (LamO f F) ∧ H F.c = some (CodeO F.c F.q) ∧ LamOk P w K mg base (L2.CX P w) 6 F (spAsk K C CT CE n)
def kN (c : Bool) : Str := if c then Str.ofString "table" else Str.ofString "element"
section
variable {P : Program} {w : World} {K : PySem.W.Frag} {mg : Str → Option Value} {base : Heap} {f f1 f2 : Addr} {fd : FuncData} {C CT CE : Addr}
theorem AskAt.same {H G : Hp} {v : V} {n : Nat} (s : ∀ b o, H b = some o → (∀ ps, o ≠ .tbl ps) → G b = some o) (h : AskAt P w K mg base C CT CE H v n) : AskAt P w K mg base C CT CE G v n := by
  obtain ⟨f, F, e, h1, h2, h3⟩ := h
  exact ⟨f, F, e, s _ _ h1 lamO_tbl, s _ _ h2 codeO_ne, h3⟩
def spRai (P : Program) (w : World) (K : PySem.W.Frag) (mg : Str → Option Value) (base : Heap) (C CT CE : Addr) : Sp := fun vs H Q _ => ∃ (a : V) (l : Addr) (x y z : V) (c : Bool) (u : V) (n : Nat), vs = [a, .ref l] ∧ AskAt P w K mg base C CT CE H a n ∧ H l = some (.lst [x, y, z]) ∧ Rz K C H n x y z c u ∧
  ∀ r H', Same H H' → H r = none → H' r = some (.lst [.str (kN c), u]) → Q (.ref r) H'
theorem scRai : FnScope ["ask", "things", "e"] ["ask", "things"] (defScope sRai) := ⟨rfl, rfl, rfl, by decide +kernel, rfl, by decide +kernel, by decide +kernel⟩
theorem ok_rai (F : Fun K "_law_raised" "_law_raised" sRai f fd) (T1 : ETx K mg "InvalidTable" "value" CT f1) (T2 : ETx K mg "InvalidElement" "value" CE f2)
    (x11 : PySem.W.exmOne K (.ref CT) (.ref CT) = some true) (x21 : PySem.W.exmOne K (.ref CE) (.ref CT) = some false) (x22 : PySem.W.exmOne K (.ref CE) (.ref CE) = some true) :
    FnOk P w K mg base CX0 7 f fd ["ask", "things"] (spRai P w K mg base C CT CE) := by
  refine F.ok scRai (fun vs H Q E h => ?_) (fun cdv A outer s H vs Q E hr h => ?_)
  · obtain ⟨a, l, x, y, z, c, u, n, rfl, _⟩ := h
    rfl
  obtain ⟨a, l, x, y, z, c, u, n, rfl, ⟨fa, FA, rfl, h1, h2, h3⟩, el, hz, q⟩ := h
  have hr6 : Room 6 _ := hr
  refine ⟨_, pss_cons (ps_try_to (tb := fun W => tDrop (tCallM 0 (fun F sp => LamOk P w K mg base (L2.CX P w) 6 F sp) (WE W) (tCons (tVar 1) tNil)))
      (l := [(.ref CT, 2, fun a cls d => tRet (tLst (tCons (tC (.str (Str.ofString "table"))) (tCons (tXf a cls d CT "value" (tVar 2)) tNil)))),
        (.ref CE, 2, fun a cls d => tRet (tLst (tCons (tC (.str (Str.ofString "element"))) (tCons (tXf a cls d CE "value" (tVar 2)) tNil))))]) rfl rfl scRai.nd
    (.cons ⟨rfl, by decide, .inl T1.mgC⟩ rfl rfl (fun a oe cls d pn hz hf => pss_one (ps_ret (pe_lst (pa_cons pe_str (pa_cons (by exact pe_xf T1.xf T1.noF hz hf (pv 2)) pa_nil)))))
      (.cons ⟨rfl, by decide, .inl T2.mgC⟩ rfl rfl (fun a oe cls d pn hz hf => pss_one (ps_ret (pe_lst (pa_cons pe_str (pa_cons (by exact pe_xf T2.xf T2.noF hz hf (pv 2)) pa_nil))))) .rest))
    (fun W pn xe tk _ => pss_one (ps_expr (by exact pe_callM (i := 0) (fun F sp h => h) hr6 (Nat.le_refl _) (fun σ => passAt tk σ) rfl (Or.inl rfl) (pa_cons (pv 1) pa_nil)))))
    pss_dead, ?_⟩
  refine ⟨fa, FA, _, rfl, h1, h3, _, rfl, h1, h2, l, x, y, z, c, u, rfl, el, hz, fun d hd => ?_⟩
  have sd := Same.new hd (.xd [("value", u)])
  cases c with
  | true =>
    refine ⟨true, x11, fun _ a ha => ?_, fun z => nomatch z⟩
    exact ⟨_, rfl, rfl, rfl, d, _, u, rfl, upd_same, rfl, (by show 2 ≤ sizeLine; decide), fun a' ha' => q a' _ (sd.trans (Same.new ha' _)) (sd.free ha') upd_same⟩
  | false =>
    refine ⟨false, x21, (fun z => nomatch z), fun _ => ⟨true, x22, fun _ a ha => ?_, fun z => nomatch z⟩⟩
    exact ⟨_, rfl, rfl, rfl, d, _, u, rfl, upd_same, rfl, (by show 2 ≤ sizeLine; decide), fun a' ha' => q a' _ (sd.trans (Same.new ha' _)) (sd.free ha') upd_same⟩
end
end L

set_option Elab.async false
set_option linter.all false
set_option maxRecDepth 100000
set_option maxHeartbeats 4000000
set_option pp.maxSteps 400
namespace L
open PySem L2 KX LamX
abbrev sAsk : Stmt := top 67
abbrev nAsk : List Str := ["one", "more", "pair"]
/-- a lambda is made: one of those that ask for n of [x, y, z] -/
def tAsk (P : Program) (w : World) (K : PySem.W.Frag) (mg : Str → Option Value) (base : Heap) (C CT CE : Addr) (T : List (Addr × Str)) (n : Nat) : TE := fun σ H Q => Tabs T H ∧ ∀ v H1, ExtN H H1 → (∀ b, H1 b = Option.none → H b = Option.none) → Tabs T H1 → AskAt P w K mg base C CT CE H1 v n → Q v H1
section
variable {P : Program} {w : World} {K : PySem.W.Frag} {mg : Str → Option Value} {base : Heap} {C CT CE : Addr}
theorem pe_ask {X : Cx} {T : List (Addr × Str)} {n : Nat} {c Pt : Addr} {params : Arguments} {body : Expr} {scope : Scope} {pos : Pos} (TB : TabB X.base X.mg c Pt) (hcode : X.env.code = .ref c)
    (hm : (Pt, X.env.qual ++ "<lambda>") ∈ T) (hu : ∀ p ∈ T, p.1 = Pt → p.2 = X.env.qual ++ "<lambda>") (hL : ∀ c', LamOk P w K mg base (L2.CX P w) 6 ⟨X.env.qual ++ "<lambda>", params, body, scope, c'⟩ (spAsk K C CT CE n)) (hdef : defaultsOf params X.env = ([], []) := by rfl) (hcl : cloFrom X.env.cells scope.names [] = [] := by rfl) (hfree : ∀ y ∈ scope.names, y.2 ≠ .free := by decide +kernel) :
    PE X (.Lambda params body scope pos) (tAsk P w K mg base C CT CE T n) := by
  refine ⟨fun pins s σ H Q I h => (pe_lamO TB hcode hm hu hdef hcl hfree).run pins s σ H Q I ⟨h.1, fun f c' H1 e n t f0 f1 c1 => h.2 _ _ e n t ⟨f, _, rfl, f1, c1, hL c'⟩⟩⟩
/-- one list that is indexed by its places -/
theorem ask_1 {H : Hp} {l : Addr} {x y z : V} (el : H l = some (.lst [x, y, z])) : SqL K H l [x, y, z] := SqL.of el
end
section
variable {P : Program} {w : World} {K : PySem.W.Frag} {mg : Str → Option Value} {base : Heap} {f g1 g2 g3 g4 g5 g6 g7 g8 g9 g10 g11 c Pt : Addr} {fd d1 d2 d3 d4 d5 d6 d7 d8 d9 d10 d11 : FuncData} {C CT CE : Addr}
theorem AskAt.upd {G : Hp} {v : V} {n : Nat} {m : Addr} {xs : List V} (h : AskAt P w K mg base C CT CE G v n) (e : G m = some (.lst xs)) (ys : List V) : AskAt P w K mg base C CT CE (L2.upd G m (.lst ys)) v n := by
  obtain ⟨f, F, rfl, h1, h2, h3⟩ := h
  refine ⟨f, F, rfl, ?_, ?_, h3⟩
  · rw [upd_ne (fun z => by rw [z, e] at h1; unfold LamO at h1; cases h1)]; exact h1
  · rw [upd_ne (fun z => by rw [z, e] at h2; unfold CodeO at h2; cases h2)]; exact h2
theorem Tabs.updL {G : Hp} {T : List (Addr × Str)} {m : Addr} {xs : List V} (h : Tabs T G) (e : G m = some (.lst xs)) (ys : List V) : Tabs T (L2.upd G m (.lst ys)) := fun p hp => by
  obtain ⟨ps, h1, h2, h3⟩ := h p hp
  refine ⟨ps, ?_, h2, fun pos cv hc => ?_⟩
  · rw [upd_ne (fun z => by rw [z, e] at h1; cases h1)]; exact h1
  · obtain ⟨c, a, b⟩ := h3 pos cv hc
    refine ⟨c, a, ?_⟩
    rw [upd_ne (fun z => by rw [z, e] at b; unfold CodeO at b; cases b)]; exact b
theorem fun_okC {x qual : Str} {st : Stmt} {f c : Addr} {fd : FuncData} {N ps : List Str} {k : Nat} {sp : Sp} (F : Fun K x qual st f fd) (hc : fd.code = .ref c) (S : FnScope N ps (defScope st)) (len : ∀ vs H Q E, sp vs H Q E → vs.length = ps.length)
    (hbody : ∀ (A : Around) (outer : List Env) (s : Shared) (H : Hp) (vs : List V) (Q : VK) (E : XK), Room k (A.deeper (PyProof.Rows.envOfC qual (defScope st) s.heap.objs.size f (.ref c))) → sp vs H Q E →
      ∃ t, PSs (cxOf CX0 P w K mg base N qual (defScope st) f (.ref c) A outer s H E).nox (defBody st) t ∧ t { nx := fun _ H' => Q .non H', rt := Q } (L2.start N vs) H) : FnOk P w K mg base CX0 (k + 1) f fd ps sp := by
  obtain ⟨oc, od, kV, doc, pm, an, cdv, ct, osl, rfl, lk, hcd⟩ := F.ex
  have e : cdv = .ref c := hc
  subst e
  refine fn_of lk hcd S len fun A outer s H vs Q E hr hsp => ?_
  obtain ⟨t, h, q⟩ := hbody A outer s H vs Q E hr hsp
  exact ⟨t, h.nox, q⟩
theorem scAsk : FnScope nAsk [] (defScope sAsk) := ⟨rfl, rfl, rfl, by decide +kernel, rfl, by decide +kernel, by decide +kernel⟩
/-- three lists of lambdas -/
def Asks (P : Program) (w : World) (K : PySem.W.Frag) (mg : Str → Option Value) (base : Heap) (C CT CE : Addr) (H : Hp) (r : Addr) : Prop := ∃ (o m p : Addr) (xs ys zs : List V), H r = some (.lst [.ref o, .ref m, .ref p]) ∧ H o = some (.lst xs) ∧ H m = some (.lst ys) ∧ H p = some (.lst zs) ∧
  xs.length = 4 ∧ ys.length = 5 ∧ zs.length = 2 ∧ (∀ v, v ∈ xs → AskAt P w K mg base C CT CE H v 1) ∧ (∀ v, v ∈ ys → AskAt P w K mg base C CT CE H v 2) ∧ (∀ v, v ∈ zs → AskAt P w K mg base C CT CE H v 3)
def spAsks (P : Program) (w : World) (K : PySem.W.Frag) (mg : Str → Option Value) (base : Heap) (C CT CE : Addr) (T : List (Addr × Str)) : Sp := fun vs H Q _ => vs = [] ∧ Tabs T H ∧ ∀ r H', ExtN H H' → Tabs T H' → Asks P w K mg base C CT CE H' r → Q (.ref r) H'
theorem ok_asks (F : Fun K "_law_asks" "_law_asks" sAsk f fd) (TB : TabB base mg c Pt) (hcd : fd.code = .ref c) {T : List (Addr × Str)} (hT1 : (Pt, ("_law_asks.<locals>.<lambda>" : Str)) ∈ T) (hT2 : ∀ p ∈ T, p.1 = Pt → p.2 = ("_law_asks.<locals>.<lambda>" : Str))
    (G1 : FnOk P w K mg base (L2.CX P w) 4 g1 d1 ["table"] (spRn K C CT CE 1)) (b1 : Binds K d1 ["table"] []) (k1 : PySem.W.keepIn K (.ref g1) = true) (m1 : mg "levels" = some (.ref g1))
    (G2 : FnOk P w K mg base (L2.CX P w) 4 g2 d2 ["table"] (spRn K C CT CE 1)) (b2 : Binds K d2 ["table"] []) (k2 : PySem.W.keepIn K (.ref g2) = true) (m2 : mg "group_cells" = some (.ref g2))
    (G3 : FnOk P w K mg base (L2.CX P w) 4 g3 d3 ["table"] (spRn K C CT CE 1)) (b3 : Binds K d3 ["table"] []) (k3 : PySem.W.keepIn K (.ref g3) = true) (m3 : mg "height_bound" = some (.ref g3))
    (G4 : FnOk P w K mg base (L2.CX P w) 4 g4 d4 ["table"] (spRn K C CT CE 1)) (b4 : Binds K d4 ["table"] []) (k4 : PySem.W.keepIn K (.ref g4) = true) (m4 : mg "color_bound" = some (.ref g4))
    (G5 : FnOk P w K mg base (L2.CX P w) 4 g5 d5 ["table", "element"] (spRn K C CT CE 2)) (b5 : Binds K d5 ["table", "element"] []) (k5 : PySem.W.keepIn K (.ref g5) = true) (m5 : mg "right_class" = some (.ref g5))
    (G6 : FnOk P w K mg base (L2.CX P w) 4 g6 d6 ["table", "element"] (spRn K C CT CE 2)) (b6 : Binds K d6 ["table", "element"] []) (k6 : PySem.W.keepIn K (.ref g6) = true) (m6 : mg "left_class" = some (.ref g6))
    (G7 : FnOk P w K mg base (L2.CX P w) 5 g7 d7 ["table", "element"] (spRn K C CT CE 2)) (b7 : Binds K d7 ["table", "element"] []) (k7 : PySem.W.keepIn K (.ref g7) = true) (m7 : mg "cell_of" = some (.ref g7))
    (G8 : FnOk P w K mg base (L2.CX P w) 4 g8 d8 ["table", "element"] (spRn K C CT CE 2)) (b8 : Binds K d8 ["table", "element"] []) (k8 : PySem.W.keepIn K (.ref g8) = true) (m8 : mg "level_of" = some (.ref g8))
    (G9 : FnOk P w K mg base (L2.CX P w) 4 g9 d9 ["table", "element"] (spRn K C CT CE 2)) (b9 : Binds K d9 ["table", "element"] []) (k9 : PySem.W.keepIn K (.ref g9) = true) (m9 : mg "inverse" = some (.ref g9))
    (G10 : FnOk P w K mg base (L2.CX P w) 4 g10 d10 ["table", "start", "goal"] (spRn K C CT CE 3)) (b10 : Binds K d10 ["table", "start", "goal"] []) (k10 : PySem.W.keepIn K (.ref g10) = true) (m10 : mg "find_factors" = some (.ref g10))
    (G11 : FnOk P w K mg base (L2.CX P w) 4 g11 d11 ["table", "first", "second"] (spRn K C CT CE 3)) (b11 : Binds K d11 ["table", "first", "second"] []) (k11 : PySem.W.keepIn K (.ref g11) = true) (m11 : mg "is_above" = some (.ref g11)) :
    FnOk P w K mg base CX0 1 f fd [] (spAsks P w K mg base C CT CE T) := by
  refine fun_okC F hcd scAsk (fun vs H Q E h => ?_) (fun A outer s H vs Q E hr h => ?_)
  · obtain ⟨rfl, _⟩ := h
    rfl
  obtain ⟨rfl, hT, q⟩ := h
  refine ⟨_, (pss_cons (ps_set (i := 0) scAsk.nd rfl (Or.inl rfl) (pe_lst (pa_cons (pe_ask (n := 1) TB (by rfl) (by exact hT1) (by exact hT2) (by
      intro c'
      refine lamok_of (k := 5) (N := ["two"]) (ps := ["two"]) (by dsimp only; exact ⟨rfl, rfl, rfl, by decide +kernel, rfl, by decide +kernel, by decide +kernel⟩) (fun pm ctv us hus => by
        obtain ⟨u, rfl⟩ := List.length_eq_one_iff.mp hus
        rfl) (fun vs H Q E h => by obtain ⟨l, x, y, z, c, u, rfl, _⟩ := h; rfl) (fun f A outer s H vs Q E hr h => ⟨_, pe_call G1 (hr.mono (by decide)) (by rfl) m1 k1 b1 .nil (passes_call (takes_of rfl rfl rfl rfl) (fun _ _ _ _ h => h)) (pa_cons (pe_ix (ixl (K := K) rfl) (pv 0) pe_int (fun _ _ => rfl)) pa_nil), ?_⟩)
      obtain ⟨l, x, y, z, c, u, rfl, el, hz, q⟩ := h
      exact ⟨_, rfl, l, _, _, _, rfl, rfl, ask_1 el, at_of (j := 0) rfl rfl, x, y, z, c, u, rfl, hz, q⟩)) (pa_cons (pe_ask (n := 1) TB (by rfl) (by exact hT1) (by exact hT2) (by
      intro c'
      refine lamok_of (k := 5) (N := ["three"]) (ps := ["three"]) (by dsimp only; exact ⟨rfl, rfl, rfl, by decide +kernel, rfl, by decide +kernel, by decide +kernel⟩) (fun pm ctv us hus => by
        obtain ⟨u, rfl⟩ := List.length_eq_one_iff.mp hus
        rfl) (fun vs H Q E h => by obtain ⟨l, x, y, z, c, u, rfl, _⟩ := h; rfl) (fun f A outer s H vs Q E hr h => ⟨_, pe_call G2 (hr.mono (by decide)) (by rfl) m2 k2 b2 .nil (passes_call (takes_of rfl rfl rfl rfl) (fun _ _ _ _ h => h)) (pa_cons (pe_ix (ixl (K := K) rfl) (pv 0) pe_int (fun _ _ => rfl)) pa_nil), ?_⟩)
      obtain ⟨l, x, y, z, c, u, rfl, el, hz, q⟩ := h
      exact ⟨_, rfl, l, _, _, _, rfl, rfl, ask_1 el, at_of (j := 0) rfl rfl, x, y, z, c, u, rfl, hz, q⟩)) pa_nil)))) (pss_cons (ps_set (i := 0) scAsk.nd rfl (Or.inl rfl) (pe_op op_cat (pv 0) (pe_lst (pa_cons (pe_ask (n := 1) TB (by rfl) (by exact hT1) (by exact hT2) (by
      intro c'
      refine lamok_of (k := 5) (N := ["two"]) (ps := ["two"]) (by dsimp only; exact ⟨rfl, rfl, rfl, by decide +kernel, rfl, by decide +kernel, by decide +kernel⟩) (fun pm ctv us hus => by
        obtain ⟨u, rfl⟩ := List.length_eq_one_iff.mp hus
        rfl) (fun vs H Q E h => by obtain ⟨l, x, y, z, c, u, rfl, _⟩ := h; rfl) (fun f A outer s H vs Q E hr h => ⟨_, pe_call G3 (hr.mono (by decide)) (by rfl) m3 k3 b3 .nil (passes_call (takes_of rfl rfl rfl rfl) (fun _ _ _ _ h => h)) (pa_cons (pe_ix (ixl (K := K) rfl) (pv 0) pe_int (fun _ _ => rfl)) pa_nil), ?_⟩)
      obtain ⟨l, x, y, z, c, u, rfl, el, hz, q⟩ := h
      exact ⟨_, rfl, l, _, _, _, rfl, rfl, ask_1 el, at_of (j := 0) rfl rfl, x, y, z, c, u, rfl, hz, q⟩)) (pa_cons (pe_ask (n := 1) TB (by rfl) (by exact hT1) (by exact hT2) (by
      intro c'
      refine lamok_of (k := 5) (N := ["three"]) (ps := ["three"]) (by dsimp only; exact ⟨rfl, rfl, rfl, by decide +kernel, rfl, by decide +kernel, by decide +kernel⟩) (fun pm ctv us hus => by
        obtain ⟨u, rfl⟩ := List.length_eq_one_iff.mp hus
        rfl) (fun vs H Q E h => by obtain ⟨l, x, y, z, c, u, rfl, _⟩ := h; rfl) (fun f A outer s H vs Q E hr h => ⟨_, pe_call G4 (hr.mono (by decide)) (by rfl) m4 k4 b4 .nil (passes_call (takes_of rfl rfl rfl rfl) (fun _ _ _ _ h => h)) (pa_cons (pe_ix (ixl (K := K) rfl) (pv 0) pe_int (fun _ _ => rfl)) pa_nil), ?_⟩)
      obtain ⟨l, x, y, z, c, u, rfl, el, hz, q⟩ := h
      exact ⟨_, rfl, l, _, _, _, rfl, rfl, ask_1 el, at_of (j := 0) rfl rfl, x, y, z, c, u, rfl, hz, q⟩)) pa_nil))))) (pss_cons (ps_set (i := 1) scAsk.nd rfl (Or.inl rfl) (pe_lst (pa_cons (pe_ask (n := 2) TB (by rfl) (by exact hT1) (by exact hT2) (by
      intro c'
      refine lamok_of (k := 5) (N := ["two"]) (ps := ["two"]) (by dsimp only; exact ⟨rfl, rfl, rfl, by decide +kernel, rfl, by decide +kernel, by decide +kernel⟩) (fun pm ctv us hus => by
        obtain ⟨u, rfl⟩ := List.length_eq_one_iff.mp hus
        rfl) (fun vs H Q E h => by obtain ⟨l, x, y, z, c, u, rfl, _⟩ := h; rfl) (fun f A outer s H vs Q E hr h => ⟨_, pe_call G5 (hr.mono (by decide)) (by rfl) m5 k5 b5 .nil (passes_call (takes_of rfl rfl rfl rfl) (fun _ _ _ _ h => h)) (pa_cons (pe_ix (ixl (K := K) rfl) (pv 0) pe_int (fun _ _ => rfl)) (pa_cons (pe_ix (ixl (K := K) rfl) (pv 0) pe_int (fun _ _ => rfl)) pa_nil)), ?_⟩)
      obtain ⟨l, x, y, z, c, u, rfl, el, hz, q⟩ := h
      exact ⟨_, rfl, l, _, _, _, rfl, rfl, ask_1 el, at_of (j := 0) rfl rfl, _, rfl, l, _, _, _, rfl, rfl, ask_1 el, at_of (j := 1) rfl rfl, x, y, z, c, u, rfl, hz, q⟩)) (pa_cons (pe_ask (n := 2) TB (by rfl) (by exact hT1) (by exact hT2) (by
      intro c'
      refine lamok_of (k := 5) (N := ["three"]) (ps := ["three"]) (by dsimp only; exact ⟨rfl, rfl, rfl, by decide +kernel, rfl, by decide +kernel, by decide +kernel⟩) (fun pm ctv us hus => by
        obtain ⟨u, rfl⟩ := List.length_eq_one_iff.mp hus
        rfl) (fun vs H Q E h => by obtain ⟨l, x, y, z, c, u, rfl, _⟩ := h; rfl) (fun f A outer s H vs Q E hr h => ⟨_, pe_call G6 (hr.mono (by decide)) (by rfl) m6 k6 b6 .nil (passes_call (takes_of rfl rfl rfl rfl) (fun _ _ _ _ h => h)) (pa_cons (pe_ix (ixl (K := K) rfl) (pv 0) pe_int (fun _ _ => rfl)) (pa_cons (pe_ix (ixl (K := K) rfl) (pv 0) pe_int (fun _ _ => rfl)) pa_nil)), ?_⟩)
      obtain ⟨l, x, y, z, c, u, rfl, el, hz, q⟩ := h
      exact ⟨_, rfl, l, _, _, _, rfl, rfl, ask_1 el, at_of (j := 0) rfl rfl, _, rfl, l, _, _, _, rfl, rfl, ask_1 el, at_of (j := 1) rfl rfl, x, y, z, c, u, rfl, hz, q⟩)) pa_nil)))) (pss_cons (ps_set (i := 1) scAsk.nd rfl (Or.inl rfl) (pe_op op_cat (pv 1) (pe_lst (pa_cons (pe_ask (n := 2) TB (by rfl) (by exact hT1) (by exact hT2) (by
      intro c'
      refine lamok_of (k := 5) (N := ["two"]) (ps := ["two"]) (by dsimp only; exact ⟨rfl, rfl, rfl, by decide +kernel, rfl, by decide +kernel, by decide +kernel⟩) (fun pm ctv us hus => by
        obtain ⟨u, rfl⟩ := List.length_eq_one_iff.mp hus
        rfl) (fun vs H Q E h => by obtain ⟨l, x, y, z, c, u, rfl, _⟩ := h; rfl) (fun f A outer s H vs Q E hr h => ⟨_, pe_call G7 (hr.mono (by decide)) (by rfl) m7 k7 b7 .nil (passes_call (takes_of rfl rfl rfl rfl) (fun _ _ _ _ h => h)) (pa_cons (pe_ix (ixl (K := K) rfl) (pv 0) pe_int (fun _ _ => rfl)) (pa_cons (pe_ix (ixl (K := K) rfl) (pv 0) pe_int (fun _ _ => rfl)) pa_nil)), ?_⟩)
      obtain ⟨l, x, y, z, c, u, rfl, el, hz, q⟩ := h
      exact ⟨_, rfl, l, _, _, _, rfl, rfl, ask_1 el, at_of (j := 0) rfl rfl, _, rfl, l, _, _, _, rfl, rfl, ask_1 el, at_of (j := 1) rfl rfl, x, y, z, c, u, rfl, hz, q⟩)) (pa_cons (pe_ask (n := 2) TB (by rfl) (by exact hT1) (by exact hT2) (by
      intro c'
      refine lamok_of (k := 5) (N := ["three"]) (ps := ["three"]) (by dsimp only; exact ⟨rfl, rfl, rfl, by decide +kernel, rfl, by decide +kernel, by decide +kernel⟩) (fun pm ctv us hus => by
        obtain ⟨u, rfl⟩ := List.length_eq_one_iff.mp hus
        rfl) (fun vs H Q E h => by obtain ⟨l, x, y, z, c, u, rfl, _⟩ := h; rfl) (fun f A outer s H vs Q E hr h => ⟨_, pe_call G8 (hr.mono (by decide)) (by rfl) m8 k8 b8 .nil (passes_call (takes_of rfl rfl rfl rfl) (fun _ _ _ _ h => h)) (pa_cons (pe_ix (ixl (K := K) rfl) (pv 0) pe_int (fun _ _ => rfl)) (pa_cons (pe_ix (ixl (K := K) rfl) (pv 0) pe_int (fun _ _ => rfl)) pa_nil)), ?_⟩)
      obtain ⟨l, x, y, z, c, u, rfl, el, hz, q⟩ := h
      exact ⟨_, rfl, l, _, _, _, rfl, rfl, ask_1 el, at_of (j := 0) rfl rfl, _, rfl, l, _, _, _, rfl, rfl, ask_1 el, at_of (j := 1) rfl rfl, x, y, z, c, u, rfl, hz, q⟩)) pa_nil))))) (pss_cons (ps_expr (pe_bm PySem.F.plainAttrs_list PySem.F.slot_list_append PySem.F.type_list_append mt_append (pv 1) (pa_cons (pe_ask (n := 2) TB (by rfl) (by exact hT1) (by exact hT2) (by
      intro c'
      refine lamok_of (k := 5) (N := ["two"]) (ps := ["two"]) (by dsimp only; exact ⟨rfl, rfl, rfl, by decide +kernel, rfl, by decide +kernel, by decide +kernel⟩) (fun pm ctv us hus => by
        obtain ⟨u, rfl⟩ := List.length_eq_one_iff.mp hus
        rfl) (fun vs H Q E h => by obtain ⟨l, x, y, z, c, u, rfl, _⟩ := h; rfl) (fun f A outer s H vs Q E hr h => ⟨_, pe_call G9 (hr.mono (by decide)) (by rfl) m9 k9 b9 .nil (passes_call (takes_of rfl rfl rfl rfl) (fun _ _ _ _ h => h)) (pa_cons (pe_ix (ixl (K := K) rfl) (pv 0) pe_int (fun _ _ => rfl)) (pa_cons (pe_ix (ixl (K := K) rfl) (pv 0) pe_int (fun _ _ => rfl)) pa_nil)), ?_⟩)
      obtain ⟨l, x, y, z, c, u, rfl, el, hz, q⟩ := h
      exact ⟨_, rfl, l, _, _, _, rfl, rfl, ask_1 el, at_of (j := 0) rfl rfl, _, rfl, l, _, _, _, rfl, rfl, ask_1 el, at_of (j := 1) rfl rfl, x, y, z, c, u, rfl, hz, q⟩)) pa_nil))) (pss_cons (ps_set (i := 2) scAsk.nd rfl (Or.inl rfl) (pe_lst (pa_cons (pe_ask (n := 3) TB (by rfl) (by exact hT1) (by exact hT2) (by
      intro c'
      refine lamok_of (k := 5) (N := ["two"]) (ps := ["two"]) (by dsimp only; exact ⟨rfl, rfl, rfl, by decide +kernel, rfl, by decide +kernel, by decide +kernel⟩) (fun pm ctv us hus => by
        obtain ⟨u, rfl⟩ := List.length_eq_one_iff.mp hus
        rfl) (fun vs H Q E h => by obtain ⟨l, x, y, z, c, u, rfl, _⟩ := h; rfl) (fun f A outer s H vs Q E hr h => ⟨_, pe_call G10 (hr.mono (by decide)) (by rfl) m10 k10 b10 .nil (passes_call (takes_of rfl rfl rfl rfl) (fun _ _ _ _ h => h)) (pa_cons (pe_ix (ixl (K := K) rfl) (pv 0) pe_int (fun _ _ => rfl)) (pa_cons (pe_ix (ixl (K := K) rfl) (pv 0) pe_int (fun _ _ => rfl)) (pa_cons (pe_ix (ixl (K := K) rfl) (pv 0) pe_int (fun _ _ => rfl)) pa_nil))), ?_⟩)
      obtain ⟨l, x, y, z, c, u, rfl, el, hz, q⟩ := h
      exact ⟨_, rfl, l, _, _, _, rfl, rfl, ask_1 el, at_of (j := 0) rfl rfl, _, rfl, l, _, _, _, rfl, rfl, ask_1 el, at_of (j := 1) rfl rfl, _, rfl, l, _, _, _, rfl, rfl, ask_1 el, at_of (j := 2) rfl rfl, x, y, z, c, u, rfl, hz, q⟩)) (pa_cons (pe_ask (n := 3) TB (by rfl) (by exact hT1) (by exact hT2) (by
      intro c'
      refine lamok_of (k := 5) (N := ["three"]) (ps := ["three"]) (by dsimp only; exact ⟨rfl, rfl, rfl, by decide +kernel, rfl, by decide +kernel, by decide +kernel⟩) (fun pm ctv us hus => by
        obtain ⟨u, rfl⟩ := List.length_eq_one_iff.mp hus
        rfl) (fun vs H Q E h => by obtain ⟨l, x, y, z, c, u, rfl, _⟩ := h; rfl) (fun f A outer s H vs Q E hr h => ⟨_, pe_call G11 (hr.mono (by decide)) (by rfl) m11 k11 b11 .nil (passes_call (takes_of rfl rfl rfl rfl) (fun _ _ _ _ h => h)) (pa_cons (pe_ix (ixl (K := K) rfl) (pv 0) pe_int (fun _ _ => rfl)) (pa_cons (pe_ix (ixl (K := K) rfl) (pv 0) pe_int (fun _ _ => rfl)) (pa_cons (pe_ix (ixl (K := K) rfl) (pv 0) pe_int (fun _ _ => rfl)) pa_nil))), ?_⟩)
      obtain ⟨l, x, y, z, c, u, rfl, el, hz, q⟩ := h
      exact ⟨_, rfl, l, _, _, _, rfl, rfl, ask_1 el, at_of (j := 0) rfl rfl, _, rfl, l, _, _, _, rfl, rfl, ask_1 el, at_of (j := 1) rfl rfl, _, rfl, l, _, _, _, rfl, rfl, ask_1 el, at_of (j := 2) rfl rfl, x, y, z, c, u, rfl, hz, q⟩)) pa_nil)))) (pss_one (ps_ret (pe_lst (pa_cons (pv 0) (pa_cons (pv 1) (pa_cons (pv 2) pa_nil)))))))))))), ?_⟩
  have ap : ∀ {G G' : Hp} {v : V} {n : Nat}, ExtN G G' → AskAt P w K mg base C CT CE G v n → AskAt P w K mg base C CT CE G' v n := fun e h => h.same e
  have sE : ∀ {G G' : Hp}, Same G G' → ExtN G G' := fun s => ExtN.of s
  have eL : ∀ {G G' : Hp} {a : Addr} {xs : List V}, ExtN G G' → G a = some (.lst xs) → G' a = some (.lst xs) := fun e h => e _ _ h (fun _ z => nomatch z)
  refine ⟨hT, fun v1 H1 e1 _ T1 a1 => ⟨T1, fun v2 H2 e2 _ T2 a2 => ⟨szl _ (by simp), fun l1 hl1 => ?_⟩⟩⟩
  have s1 := Same.new hl1 (.lst [v1, v2])
  have E1 := e1.trans (e2.trans (sE s1))
  have T3 := T2.ext s1
  have el1 := upd_same (H := H2) (a := l1) (o := .lst [v1, v2])
  have b1' := ap (e2.trans (sE s1)) a1
  have b2' := ap (sE s1) a2
  generalize upd H2 l1 (.lst [v1, v2]) = H3 at E1 T3 el1 b1' b2' ⊢
  clear s1 hl1 a1 a2 e1 e2 T1 T2
  refine ⟨_, rfl, T3, fun v3 H4 e3 _ T4 a3 => ⟨T4, fun v4 H5 e4 _ T5 a4 => ⟨szl _ (by simp), fun l2 hl2 => ?_⟩⟩⟩
  have s2 := Same.new hl2 (.lst [v3, v4])
  have E2 := e3.trans (e4.trans (sE s2))
  refine ⟨l1, l2, _, _, rfl, rfl, eL E2 el1, upd_same, szl _ (by simp), fun o ho => ?_⟩
  have s3 := Same.new ho (.lst ([v1, v2] ++ [v3, v4]))
  have E3 := E2.trans (sE s3)
  have T6 := (T5.ext s2).ext s3
  have eo := upd_same (H := upd H5 l2 (.lst [v3, v4])) (a := o) (o := .lst ([v1, v2] ++ [v3, v4]))
  have c1 := ap E3 b1'
  have c2 := ap E3 b2'
  have c3 := ap (e4.trans ((sE s2).trans (sE s3))) a3
  have c4 := ap ((sE s2).trans (sE s3)) a4
  have E4 := E1.trans E3
  generalize upd (upd H5 l2 (.lst [v3, v4])) o (.lst ([v1, v2] ++ [v3, v4])) = H6 at E4 T6 eo c1 c2 c3 c4 ⊢
  clear E1 E2 E3 s2 s3 ho hl2 a3 a4 e3 e4 T3 T4 T5 b1' b2' el1
  have aO : ∀ v, v ∈ ([v1, v2] ++ [v3, v4] : List V) → AskAt P w K mg base C CT CE H6 v 1 := fun v hv => by
    simp only [List.mem_append, List.mem_cons, List.not_mem_nil, or_false] at hv
    rcases hv with (rfl | rfl) | rfl | rfl <;> assumption
  clear c1 c2 c3 c4
  refine ⟨T6, fun w1 H7 e1 _ T7 a1 => ⟨T7, fun w2 H8 e2 _ T8 a2 => ⟨szl _ (by simp), fun l3 hl3 => ?_⟩⟩⟩
  have s1 := Same.new hl3 (.lst [w1, w2])
  have E5 := e1.trans (e2.trans (sE s1))
  have T9 := T8.ext s1
  have el3 := upd_same (H := H8) (a := l3) (o := .lst [w1, w2])
  have b1' := ap (e2.trans (sE s1)) a1
  have b2' := ap (sE s1) a2
  have eo9 := eL E5 eo
  have aO9 := fun v hv => ap E5 (aO v hv)
  have E6 := E4.trans E5
  generalize upd H8 l3 (.lst [w1, w2]) = H9 at E6 T9 el3 b1' b2' eo9 aO9 ⊢
  clear s1 hl3 a1 a2 e1 e2 T6 T7 T8 E5 E4 eo aO
  refine ⟨_, rfl, T9, fun w3 HA e3 _ TA a3 => ⟨TA, fun w4 HB e4 _ TB' a4 => ⟨szl _ (by simp), fun l4 hl4 => ?_⟩⟩⟩
  have s2 := Same.new hl4 (.lst [w3, w4])
  have E2 := e3.trans (e4.trans (sE s2))
  refine ⟨l3, l4, _, _, rfl, rfl, eL E2 el3, upd_same, szl _ (by simp), fun m hm => ?_⟩
  have nom : o ≠ m := ne_of_none (eL E2 eo9) hm
  have nbm : ∀ b u, H b = some u → (∀ ps, u ≠ .tbl ps) → b ≠ m := fun b u e n => ne_of_none ((E6.trans E2) b u e n) hm
  have s3 := Same.new hm (.lst ([w1, w2] ++ [w3, w4]))
  have E3 := E2.trans (sE s3)
  have TC := (TB'.ext s2).ext s3
  have em := upd_same (H := upd HB l4 (.lst [w3, w4])) (a := m) (o := .lst ([w1, w2] ++ [w3, w4]))
  have c1 := ap E3 b1'
  have c2 := ap E3 b2'
  have c3 := ap (e4.trans ((sE s2).trans (sE s3))) a3
  have c4 := ap ((sE s2).trans (sE s3)) a4
  have eoC := eL E3 eo9
  have aOC := fun v hv => ap E3 (aO9 v hv)
  have E7 := E6.trans E3
  generalize upd (upd HB l4 (.lst [w3, w4])) m (.lst ([w1, w2] ++ [w3, w4])) = HC at E7 TC em c1 c2 c3 c4 eoC aOC ⊢
  clear E6 E2 E3 s2 s3 hm hl4 a3 a4 e3 e4 T9 TA TB' b1' b2' el3 eo9 aO9
  refine ⟨_, rfl, .inl ⟨rfl, _, SqL.of em⟩, TC, fun w5 HD e5 _ TD a5 => ?_⟩
  refine ⟨m, _, w5, rfl, rfl, eL e5 em, szl _ (by simp), ?_⟩
  have em5 := eL e5 em
  have E8 := E7.trans e5
  have eoE : (upd HD m (.lst (([w1, w2] ++ [w3, w4]) ++ [w5]))) o = some (.lst ([v1, v2] ++ [v3, v4])) := by rw [upd_ne nom]; exact eL e5 eoC
  have emE := upd_same (H := HD) (a := m) (o := .lst (([w1, w2] ++ [w3, w4]) ++ [w5]))
  have aOE := fun v hv => (ap e5 (aOC v hv)).upd em5 (([w1, w2] ++ [w3, w4]) ++ [w5])
  have TE := Tabs.updL TD em5 (([w1, w2] ++ [w3, w4]) ++ [w5])
  have aME : ∀ v, v ∈ (([w1, w2] ++ [w3, w4]) ++ [w5] : List V) → AskAt P w K mg base C CT CE (upd HD m (.lst (([w1, w2] ++ [w3, w4]) ++ [w5]))) v 2 := fun v hv => by
    simp only [List.mem_append, List.mem_cons, List.not_mem_nil, or_false] at hv
    rcases hv with ((rfl | rfl) | rfl | rfl) | rfl
    · exact (ap e5 c1).upd em5 _
    · exact (ap e5 c2).upd em5 _
    · exact (ap e5 c3).upd em5 _
    · exact (ap e5 c4).upd em5 _
    · exact a5.upd em5 _
  have E9 : ExtN H (upd HD m (.lst (([w1, w2] ++ [w3, w4]) ++ [w5]))) := fun b u e n => by rw [upd_ne (nbm b u e n)]; exact E8 b u e n
  generalize upd HD m (.lst (([w1, w2] ++ [w3, w4]) ++ [w5])) = HE at eoE emE aOE TE aME E9 ⊢
  clear E8 em5 a5 e5 TD c1 c2 c3 c4 em TC eoC aOC E7 nbm nom
  refine ⟨TE, fun u1 HF e1 _ TF a1 => ⟨TF, fun u2 HG e2 _ TG' a2 => ⟨szl _ (by simp), fun z hz => ?_⟩⟩⟩
  have s1 := Same.new hz (.lst [u1, u2])
  have ez := upd_same (H := HG) (a := z) (o := .lst [u1, u2])
  have E3 := e1.trans (e2.trans (sE s1))
  have b1' := ap (e2.trans (sE s1)) a1
  have b2' := ap (sE s1) a2
  refine ⟨_, rfl, _, rfl, _, rfl, szl _ (by simp), fun r hr' => ?_⟩
  have s2 := Same.new hr' (.lst [.ref o, .ref m, .ref z])
  have E4 := E3.trans (sE s2)
  refine q r _ (E9.trans E4) ((TG'.ext s1).ext s2) ⟨o, m, z, _, _, _, upd_same, eL E4 eoE, eL E4 emE, s2 _ _ ez, rfl, rfl, rfl, fun v hv => ap E4 (aOE v hv), fun v hv => ap E4 (aME v hv), fun v hv => ?_⟩
  simp only [List.mem_cons, List.not_mem_nil, or_false] at hv
  rcases hv with rfl | rfl
  · exact ap (sE s2) b1'
  · exact ap (sE s2) b2'
end
end L

set_option Elab.async false
set_option linter.all false
set_option maxRecDepth 100000
set_option maxHeartbeats 4000000
/-! Own layer: min of a list of pairs (int, list of ints): an item with the least first part. -/
namespace KX
open PySem PySem.Spec PyProof.Rows L2
/-- v is the pair of p's number and a list of p's numbers -/
def PairAt (H : Hp) (v : V) (p : Int × List Int) : Prop := ∃ t m, v = .ref t ∧ H t = some (.tup [.int p.1, .ref m]) ∧ H m = some (.lst (p.2.map V.int))
theorem PairAt.dq {H : Hp} {v : V} {p : Int × List Int} (h : PairAt H v p) : Dq H v (PySem.W.Datum.toD p) := by
  obtain ⟨t, m, rfl, e1, e2⟩ := h
  have go : ∀ l : List Int, DqAll H (l.map V.int) (l.map PySem.W.Datum.toD) := fun l => by
    induction l with
    | nil => exact .nil
    | cons x l ih => exact .cons (.int x) ih
  exact .tup e1 (.cons (.int _) (.cons (.lst e2 (go _)) .nil))
theorem pairs_dq {H : Hp} {vs : List V} {ps : List (Int × List Int)} (h : Paired (PairAt H) vs ps) : DqAll H vs (ps.map PySem.W.Datum.toD) := by
  induction h with
  | nil => exact .nil
  | cons h _ ih => exact .cons h.dq ih
theorem lt_fst {p q : Int × List Int} (h : PySem.W.DatumOrd.lt p q = true) : p.1 ≤ q.1 := by
  have h : (if p.1 = q.1 then PySem.W.DatumOrd.lt p.2 q.2 else decide (p.1 < q.1)) = true := h
  split at h
  · rename_i e; rw [e]; exact Int.le_refl _
  · exact Int.le_of_lt (of_decide_eq_true h)
theorem nlt_fst {p q : Int × List Int} (h : ¬ PySem.W.DatumOrd.lt p q = true) : q.1 ≤ p.1 := by
  have h : ¬ (if p.1 = q.1 then PySem.W.DatumOrd.lt p.2 q.2 else decide (p.1 < q.1)) = true := h
  split at h
  · rename_i e; rw [e]; exact Int.le_refl _
  · have : ¬ p.1 < q.1 := fun z => h (decide_eq_true z)
    omega
theorem minOf_fst : ∀ (xs : List (Int × List Int)) (x : Int × List Int), (PySem.W.minOf x xs).1 ≤ x.1 ∧ ∀ q, q ∈ xs → (PySem.W.minOf x xs).1 ≤ q.1
  | [], x => ⟨Int.le_refl _, fun _ z => nomatch z⟩
  | y :: xs, x => by
    have e : PySem.W.minOf x (y :: xs) = PySem.W.minOf (if PySem.W.DatumOrd.lt y x = true then y else x) xs := rfl
    rw [e]
    obtain ⟨h1, h2⟩ := minOf_fst xs (if PySem.W.DatumOrd.lt y x = true then y else x)
    by_cases c : PySem.W.DatumOrd.lt y x = true
    · rw [if_pos c] at h1 h2 ⊢
      refine ⟨Int.le_trans h1 (lt_fst c), fun q hq => ?_⟩
      rcases List.mem_cons.mp hq with rfl | hq
      · exact h1
      · exact h2 q hq
    · rw [if_neg c] at h1 h2 ⊢
      refine ⟨h1, fun q hq => ?_⟩
      rcases List.mem_cons.mp hq with rfl | hq
      · exact Int.le_trans h1 (nlt_fst c)
      · exact h2 q hq
theorem minOf_mem : ∀ (xs : List (Int × List Int)) (x : Int × List Int), PySem.W.minOf x xs ∈ x :: xs
  | [], x => List.mem_cons_self
  | y :: xs, x => by
    have e : PySem.W.minOf x (y :: xs) = PySem.W.minOf (if PySem.W.DatumOrd.lt y x = true then y else x) xs := rfl
    rw [e]
    by_cases c : PySem.W.DatumOrd.lt y x = true
    · rw [if_pos c]
      exact List.mem_cons_of_mem _ (minOf_mem xs y)
    · rw [if_neg c]
      rcases List.mem_cons.mp (minOf_mem xs x) with h | h
      · rw [h]; exact List.mem_cons_self
      · exact List.mem_cons_of_mem _ (List.mem_cons_of_mem _ h)
theorem paired_get {α β : Type} {R : α → β → Prop} : ∀ {as : List α} {bs : List β} {i : Nat} {a : α}, Paired R as bs → as[i]? = some a → ∃ b, bs[i]? = some b ∧ R a b
  | _, _, _, _, .nil, e => by simp at e
  | _, _, 0, _, .cons h _, e => by simp at e; subst e; exact ⟨_, rfl, h⟩
  | _, _, i + 1, a, .cons _ t, e => by
    obtain ⟨b, h1, h2⟩ := paired_get (i := i) (a := a) t (by simpa using e)
    exact ⟨b, by simpa using h1, h2⟩
section
variable {X : Cx}
/-- min(xs), xs a list of pairs (int, list of ints) -/
def rMinP (K : PySem.W.Frag) : List V → Hp → VK → Prop := fun xs H Q => ∃ (l : Addr) (vs : List V) (ps : List (Int × List Int)), xs = [.ref l] ∧ SqL K H l vs ∧ Paired (PairAt H) vs ps ∧ vs ≠ [] ∧
  ∀ (j : Nat) (v : V) (p : Int × List Int), vs[j]? = some v → ps[j]? = some p → (∀ q, q ∈ ps → p.1 ≤ q.1) → Q v H
theorem call_minP {K : PySem.W.Frag} (hK : X.K = K) (hc : X.calm = true) (hu : X.A.units + 64 < cLine) : CallR X (.builtin "min") (rMinP K) := by
  subst hK
  intro pins s σ H xs us Q I r h
  obtain ⟨l, vs, ps, rfl, hs, hp, ne, q⟩ := h
  obtain ⟨its, rv, hl, _⟩ := I.list hs
  rw [Vals.ref1 r]
  match ps, vs, hp, ne with
  | [], _, .nil, ne => exact absurd rfl ne
  | p :: ps, vs, hp, _ =>
    obtain ⟨as, hr, _⟩ := Dq.readsAll I _ _ _ (pairs_dq hp) rv
    refine PySem.W.min_list_datum (x := p) (xs := ps) (I.ok.hd hc) hl.isList ⟨as, by simpa using hr⟩ (by show X.A.units + 1 + _ < _; simp only [PySem.W.Datum.depth]; omega) fun i u h' tk hi hm hk => ?_
    have hi' : its[i]? = some u := by simpa using hi
    have hlen := rv.length
    have il : i < its.length := (List.getElem?_eq_some_iff.mp hi').1
    obtain ⟨u', e', r'⟩ := rv.get (List.getElem?_eq_getElem (show i < vs.length by omega))
    rw [hi'] at e'
    cases e'
    obtain ⟨pi, hpi, hat⟩ := paired_get hp (List.getElem?_eq_getElem (show i < vs.length by omega))
    refine ⟨vs[i], H, I.kept hk, r', q i _ pi (List.getElem?_eq_getElem _) hpi fun z hz => ?_⟩
    obtain ⟨bs, rd⟩ := hm
    obtain ⟨cs, rd', _⟩ := Dq.reads I _ _ _ hat.dq r'
    obtain ⟨e, _⟩ := PyProof.Rows.reads_det (fun b o e _ => hk b o e) rd' rd
    have e1 : PySem.W.minOf p ps = pi := by
      have : decide (PySem.W.minOf p ps = pi) = true := by rw [← PySem.W.Datum.eqv, e]; exact PySem.SeqAt.eqv_refl_plain _ (PySem.W.Datum.plain _)
      exact of_decide_eq_true this
    rw [← e1]
    rcases List.mem_cons.mp hz with rfl | hz
    · exact (minOf_fst ps _).1
    · exact (minOf_fst ps _).2 z hz
end
end KX

set_option Elab.async false
set_option linter.all false
set_option maxRecDepth 100000
set_option maxHeartbeats 4000000
/-! Own layer: dict(xs) of a list of pairs whose first parts are tuples of numbers and texts. -/
namespace KX
open PySem PySem.Spec PyProof.Rows L2
section
variable {X : Cx}
/-- T is the pair of a key's tuple and a value -/
def PT (K : PySem.W.Frag) (H : Hp) (T : Addr) (kv : List Key × V) : Prop := ∃ b, SqT K H T [.ref b, kv.2] ∧ H b = some (.tup (kv.1.map kV))
theorem pairs_ofT {pins : List (Addr × Obj)} {σ : L2.St} {H : Hp} {s : Shared} (I : Inv X pins σ H s) : ∀ {Ts : List Addr} {kvs : List (List Key × V)}, Paired (PT X.K H) Ts kvs →
    ∃ prs : List (List Key × Addr × Value), KT H kvs prs ∧ prs.length = Ts.length ∧ ∀ (j : Nat) (q : List Key × Addr × Value), prs[j]? = some q → ∃ T, Ts[j]? = some T ∧ s.heap.IsTuple T #[.ref q.2.1, q.2.2]
  | _, _, .nil => ⟨[], .nil, rfl, fun j q e => by simp at e⟩
  | _, _, .cons (a := T) (b := kv) h t => by
    obtain ⟨prs, r, hl, hp⟩ := pairs_ofT I t
    obtain ⟨b, hT, hb⟩ := h
    obtain ⟨its, rv, ht, _⟩ := I.tuple hT
    obtain ⟨u, y, ei, ru, ry⟩ := vals2 rv
    subst ei
    obtain rfl : u = .ref b := ru
    refine ⟨(kv.1, b, y) :: prs, .cons ⟨rfl, hb, ry⟩ r, by rw [List.length_cons, List.length_cons, hl], fun j q e => ?_⟩
    cases j with
    | zero =>
      have e' : (kv.1, b, y) = q := Option.some.inj e
      subst e'
      exact ⟨T, rfl, ht⟩
    | succ j =>
      obtain ⟨T', e1, e2⟩ := hp j q (by simpa using e)
      exact ⟨T', by simpa using e1, e2⟩
theorem call_dictPT {K : PySem.W.Frag} (hK : X.K = K) (hcalm : X.calm = true) (hu : X.A.units + 64 < cLine) : CallR X (.type "dict") (fun xs H Q => ∃ (a : Addr) (Ts : List Addr) (kvs : List (List Key × V)), xs = [.ref a] ∧ SqL K H a (Ts.map V.ref) ∧ Paired (PT K H) Ts kvs ∧ (kvs.map (·.1)).Nodup ∧
    ∀ p, H p = none → Q (.ref p) (upd H p (.dT kvs))) := by
  subst hK
  intro pins s σ H xs us Q I r q
  obtain ⟨a, Ts, kvs, ex, hq, hp, hnd, q⟩ := q
  subst ex
  obtain ⟨u, eu, rx⟩ := vals1 r
  subst eu
  cases rx
  obtain ⟨its, rv, pl, hz⟩ := I.list hq
  have ei := refs_at rv
  subst ei
  rw [List.length_map] at hz
  obtain ⟨prs, rel, hl, hpr⟩ := pairs_ofT I hp
  obtain ⟨o, n, ho, hc, hd, hdat⟩ := pl
  have hkl : kvs.length = prs.length := rel.length
  have hfst : prs.map (·.1) = kvs.map (·.1) := by
    have : ∀ {l : List (List Key × V)} {m : List (List Key × Addr × Value)}, KT H l m → m.map (·.1) = l.map (·.1) := fun h => by
      induction h with
      | nil => rfl
      | cons h _ ih => rw [List.map_cons, List.map_cons, ih, h.1]
    exact this rel
  have gd : ∀ j T, Ts[j]? = some T → Ts.getD j 0 = T := fun j T e => by rw [List.getD_eq_getElem?_getD, e]; rfl
  refine call_dict_pairsH (knd := tupleKind (mixKind X.prog X.w)) (ps := prs) (PairArg.list a (Ts.map Value.ref).toArray (fun j => Ts.getD j 0) (prs.map fun z => (Value.ref z.2.1, z.2.2))) (I.ok.hd hcalm) (tupleKind_room_in1 (by show X.A.units + 1 + 1 < cLine; omega)) ⟨⟨o, n, ho, hc, hd, hdat⟩, ?_, fun j k v e => ?_⟩ ⟨by rw [List.length_map], fun i key v e => ?_⟩ (fun h' hk x hx => ?_) (by rw [List.length_map]; omega) fun h' tk hd' hk => ?_
  · simp [hl]
  · rw [List.getElem?_map] at e
    obtain ⟨z, hz', e⟩ := Option.map_eq_some_iff.mp e
    cases e
    obtain ⟨T, hT, ht⟩ := hpr j z hz'
    show (List.map Value.ref Ts).toArray[j]? = some (Value.ref (Ts.getD j 0)) ∧ PySem.PairAt s.heap (Ts.getD j 0) (Value.ref z.snd.fst) z.snd.snd
    rw [gd j T hT]
    exact ⟨by simp [hT], .inl ht⟩
  · have e : (prs.map fun z => (Value.ref z.2.1, z.2.2))[i]? = some (key, v) := e
    rw [List.getElem?_map] at e
    obtain ⟨z, hz', e⟩ := Option.map_eq_some_iff.mp e
    cases e
    exact ⟨z.1, z.2.1, hz', rfl⟩
  · have all : ∀ {l : List (List Key × V)} {m : List (List Key × Addr × Value)}, KT H l m → ∀ x ∈ m, (tupleKind (mixKind X.prog X.w)).is s.heap x.1 x.2.1 := by
      intro l m q
      induction q with
      | nil => intro x hx; exact nomatch hx
      | cons hq t ih =>
        intro x hx
        rcases List.mem_cons.mp hx with e | hx
        · subst e
          exact key_of I.hok (by rw [← hq.1]; exact hq.2.1)
        · exact ih x hx
    obtain ⟨ob, its, n', h1, h2⟩ := all rel x hx
    exact ⟨ob, its, n', hk _ _ (Nat.ne_of_lt (Heap.lt_size h1)) (by simp) h1, h2⟩
  · rw [storedAllH_nil_of_nodup prs (by rw [hfst]; exact hnd)] at hd'
    have hm : (s.heap.objs.size == sysModules) = false := beq_eq_false_iff_ne.mpr (Nat.ne_of_gt I.big)
    have k0 : ∀ b u, s.heap.get? b = some u → h'.get? b = some u := fun b u e => hk b u (by simp) e
    obtain ⟨o1, es, ep, g1, g2, g3, g4, _, g6⟩ := hd'
    have hnone := I.hok.fresh (Nat.le_refl s.heap.objs.size)
    exact ⟨.ref s.heap.objs.size, upd H s.heap.objs.size (.dT kvs), I.laid (t' := tk) k0 (Nat.le_refl _) (show ObjOk X.prog X.w _ _ _ (.dT kvs) from ⟨by omega, hm, prs, rel.keeps fun b ys e => by rw [upd_ne (ne_of_none e hnone)]; exact e, o1, es, ep, g1, g2, g3, g4, g6⟩), rfl, q _ hnone⟩
end
end KX

set_option Elab.async false
set_option linter.all false
set_option maxRecDepth 100000
set_option maxHeartbeats 4000000
/-! Own layer: list(enumerate(l)), l a list. -/
namespace KX
open PySem PySem.Spec PyProof.Rows L2
theorem enum_no_len : typeLookup (.type "enumerate") "__len__" = pure none := am_miss_of_fast (by decide +kernel)
theorem enum_no_hint : typeLookup (.type "enumerate") "__length_hint__" = pure none := am_miss_of_fast (by decide +kernel)
/-- the walk stands at i -/
def EnS (e it : Addr) (i : Nat) (h : Heap) : Prop := (∃ old, IsEnum h e it i old) ∨ ∃ T old f oT, IsEnumHeld h e it i old T f ∧ h.get? T = some oT ∧ T ≠ e ∧ T ≠ it
/-- the pairs so far, one behind the other -/
def PrS (items : Array Value) (N i : Nat) (h : Heap) : Prop := ∀ j x, j < i → items[j]? = some x → ∃ t, h.get? (N + j) = some { cls := .type "tuple", data := .seq #[.int j t, x] }
def refsTo (N i : Nat) : List Value := (List.range i).map fun j => Value.ref (N + j)
theorem nA0 {n j i : Nat} (h : i < n) : n + j ≠ i := by omega
theorem nA1 {S j n : Nat} (hj : j < n) : ¬ S + 1 + j = S ∧ (S + 1 ≤ S + 1 + j ∧ S + 1 + j < S + 1 + n) ∧ S + 1 + j - (S + 1) = j := by omega
theorem nA2 {b n m : Nat} (h : n + 1 ≤ b ∧ b < n + 1 + m) : b - (n + 1) < m ∧ n + 1 + (b - (n + 1)) = b := by omega
theorem refsTo_next (N i : Nat) : refsTo N (i + 1) = refsTo N i ++ [.ref (N + i)] := by unfold refsTo; rw [List.range_succ, List.map_append]; rfl
theorem refsTo_len (N i : Nat) : (refsTo N i).length = i := by unfold refsTo; rw [List.length_map, List.length_range]
section
variable {prog : Program} {w : World} {A : Around} {R : Result → Shared → Prop} {e it l S : Addr} {items : Array Value} {N : Nat} {res : Value}
theorem enum_loop (hh : A.in1.handled = none) (hz : items.size ≤ sizeLine) (hei : e ≠ it) (hle : l ≠ e) (hli : l ≠ it) (hSe : S ≠ e) (hSi : S ≠ it) (hSl : S ≠ l) (bS : S < N) (be : e < N) (bi : it < N) :
    ∀ (k i : Nat) (s : Shared) (acc : Array Value) (c : Nat), acc.toList = refsTo N i → items.size - i = k → i ≤ items.size → s.heap.objs.size = N + i → EnS e it i s.heap → s.heap.IsListIter it l i → s.heap.IsList l items →
      s.heap.get? S = some { cls := .type "list", dict := none, data := .seq acc c, slots := #[] } → PrS items N i s.heap →
      (∀ h' tk (acc' : Array Value) c', acc'.toList = refsTo N items.size → (∀ b o, b ≠ e → b ≠ it → b ≠ S → s.heap.get? b = some o → h'.get? b = some o) → h'.get? S = some { cls := .type "list", dict := none, data := .seq acc' c', slots := #[] } →
        PrS items N items.size h' → R (.ok (.ret res)) { s with heap := h', toks := tk }) →
      codeAny (model prog w) A (.builtin "list.extend.loop" ⟨[.ref S, .ref e, res], []⟩) R s := by
  intro k
  induction k with
  | zero =>
    intro i s acc c hacc hk hi hN hst hit hl hS hP hR
    have hin : i = items.size := by omega
    subst hin
    refine codeAny_builtin F.entry_extend_loop ?_
    rw [Around.under_plainId F.plain_extend_loop _]
    show wpAny _ A.in1 (pyNext (.ref e) >>= _) _ _ s
    have fin : ∀ h', Heap.ExtBut it s.heap h' → R (.ok (.ret res)) { s with heap := h' } := fun h' x => by
      refine hR h' s.toks acc c hacc (fun b o _ n _ q => x b o n q) (x S _ hSi hS) fun j y hj hy => ?_
      obtain ⟨t, q⟩ := hP j y hj hy
      exact ⟨t, x _ _ (nA0 bi) q⟩
    refine wpAny_bind ?_
    rcases hst with ⟨old, he⟩ | ⟨T, old, f, oT, he, hT, _, _⟩
    · exact wpAny_pyNext_enum_end hh he hit hl (Array.getElem?_eq_none (Nat.le_refl _)) fun h' hx => wpAny_pure (fin h' hx)
    · exact wpAny_pyNext_enum_end_held hh he hit hl (Array.getElem?_eq_none (Nat.le_refl _)) fun h' hx => wpAny_pure (fin h' hx)
  | succ k ih =>
    intro i s acc c hacc hk hi hN hst hit hl hS hP hR
    have hlt : i < items.size := by omega
    refine codeAny_builtin F.entry_extend_loop ?_
    rw [Around.under_plainId F.plain_extend_loop _]
    show wpAny _ A.in1 (pyNext (.ref e) >>= _) _ _ s
    have hx : items[i]? = some items[i] := Array.getElem?_eq_getElem hlt
    have go : ∀ h', EnS e it (i + 1) h' → h'.IsListIter it l (i + 1) → h'.get? s.heap.objs.size = some { cls := .type "tuple", data := .seq #[.int i s.toks, items[i]] } → h'.objs.size = s.heap.objs.size + 1 →
        (∀ b o, b ≠ e → b ≠ it → s.heap.get? b = some o → h'.get? b = some o) →
        wpAny (model prog w) A.in1 (updateSeq S (·.push (.ref s.heap.objs.size)) >>= fun _ => again (.builtin "list.extend.loop" ⟨[.ref S, .ref e, res], []⟩))
          (fun fin s' => match fin with | .done f => R (.ok f) s' | .again c' => c'.quiet = true ∧ codeAny (model prog w) A c' R s') (fun e s' => R (.error e) s') { s with heap := h', toks := s.toks + 1 } := by
      intro h' st' it' hT hsz hk'
      have hS' := hk' S _ hSe hSi hS
      have sz : acc.size = i := by rw [← Array.length_toList, hacc, refsTo_len]
      refine wpAny_bind ?_
      have nN : N + i ≠ S := nA0 bS
      have oth : ∀ b, b ≠ S → (h'.update S (Obj.mapSeq (·.push (.ref s.heap.objs.size)))).get? b = h'.get? b := fun b hb => Heap.get?_update_other _ _ (fun z => hb z.symm)
      refine wpAny_updateSeq hS' rfl (wpAny_pure ⟨plainId_quiet F.plain_extend_loop _, ih (i + 1) _ (acc.push (.ref s.heap.objs.size)) _ (by rw [Array.toList_push, hacc, refsTo_next, hN]) (by omega) hlt ?_ ?_ ?_ ?_ (Heap.get?_update_self _ hS' rfl) ?_ fun h2 tk acc2 c' ha2 hk2 hS2 hP2 => ?_⟩) (by rw [sz]; omega) (by show (acc.push _).size ≤ _; rw [Array.size_push, sz]; omega)
      · show (h'.update S _).objs.size = _
        rw [Heap.size_update, hsz]; omega
      · rcases st' with ⟨old, q⟩ | ⟨T, old, f, oT, q, hT', n1, n2⟩
        · exact .inl ⟨old, (oth e (Ne.symm hSe)).trans q⟩
        · refine .inr ⟨T, old, f, ?_⟩
          by_cases z : T = S
          · rw [z]
            exact ⟨_, (oth e (Ne.symm hSe)).trans (z ▸ q), Heap.get?_update_self _ hS' rfl, z ▸ n1, z ▸ n2⟩
          · exact ⟨oT, (oth e (Ne.symm hSe)).trans q, (oth T z).trans hT', n1, n2⟩
      · obtain ⟨o, q, r⟩ := it'
        exact ⟨o, (oth it (Ne.symm hSi)).trans q, r⟩
      · obtain ⟨o, q, r⟩ := hl
        exact ⟨o, (oth l (Ne.symm hSl)).trans (hk' l o hle hli q), r⟩
      · intro j y hj hy
        by_cases z : j = i
        · subst z
          rw [hx] at hy
          cases hy
          exact ⟨s.toks, (oth _ (nA0 bS)).trans (by rw [← hN]; exact hT)⟩
        · obtain ⟨t, q⟩ := hP j y (by omega) hy
          exact ⟨t, (oth _ (nA0 bS)).trans (hk' _ _ (nA0 be) (nA0 bi) q)⟩
      · exact hR h2 tk acc2 c' ha2 (fun b o n1 n2 n3 q => hk2 b o n1 n2 n3 ((oth b n3).trans (hk' b o n1 n2 q))) hS2 hP2
    refine wpAny_bind ?_
    rcases hst with ⟨old, he⟩ | ⟨T, old, f, oT, he, hT, n1, n2⟩
    · refine wpAny_pyNext_enum_item he hit hl hx hei fun h' ho hit' hT hsz hk' => ?_
      exact go h' (.inr ⟨s.heap.objs.size, items[i], false, _, ho, hT, by rw [hN]; exact nA0 be, by rw [hN]; exact nA0 bi⟩) hit' hT hsz hk'
    · refine wpAny_pyNext_enum_item_held he hT n1 n2 hit hl hx hei fun h' ho hit' hT' hsz hk' => ?_
      exact go h' (.inr ⟨T, old, true, oT, ho, hk' T oT n1 n2 hT, n1, n2⟩) hit' hT' hsz hk'
end
section
variable {prog : Program} {w : World} {A : Around} {E : Value → Shared → Prop} {R : Result → Shared → Prop} {s : Shared} {e it l S : Addr} {items : Array Value}
theorem extend_enum (hh : A.in1.handled = none) (hz : items.size ≤ sizeLine) (hei : e ≠ it) (hle : l ≠ e) (hli : l ≠ it) (hSe : S ≠ e) (hSi : S ≠ it) (hSl : S ≠ l) (he : IsEnum s.heap e it 0 .none) (hit : s.heap.IsListIter it l 0) (hl : s.heap.IsList l items)
    (res : Value) (c₀ : Nat) (hS : s.heap.get? S = some { cls := .type "list", data := .seq #[] c₀ })
    (hR : ∀ h' tk (acc' : Array Value) c', acc'.toList = refsTo s.heap.objs.size items.size → (∀ b o, b ≠ e → b ≠ it → b ≠ S → s.heap.get? b = some o → h'.get? b = some o) → h'.get? S = some { cls := .type "list", dict := none, data := .seq acc' c', slots := #[] } →
        PrS items s.heap.objs.size items.size h' → R (.ok (.ret res)) { s with heap := h', toks := tk }) :
    wpAny (model prog w) A.in1 (Builtin.List.listExtendWith (.ref S) (.ref e) res)
      (fun fin s' => match fin with | .done f => R (.ok f) s' | .again c' => c'.quiet = true ∧ codeAny (model prog w) A c' R s') (fun e s' => R (.error e) s') s := by
  have hT : s.TypeIs (.ref e) "enumerate" := ⟨_, he, rfl⟩
  unfold Builtin.List.listExtendWith
  refine wpAny_bind (wpAny_typeOf hT ?_)
  have h1 : Builtin.List.listSameRef (.ref S) (.ref e) = false := by simp [Builtin.List.listSameRef, hSe]
  have h2 : (Value.type "enumerate" == Value.type "list") = false := by decide
  have h3 : (Value.type "enumerate" == Value.type "tuple") = false := by decide
  simp only [h1, h2, h3, Bool.or_false, Bool.false_eq_true, if_false]
  refine wpAny_bind (wpAny_pyIter_enum he ?_)
  refine wpAny_bind (wpAny_holding ?_)
  unfold Builtin.List.listLengthHint
  refine wpAny_bind (wpAny_specialOf hT enum_no_len ?_)
  show wpAny _ A.in1 (specialOf (Value.ref e) (Str.ofString "__length_hint__") >>= _) _ _ _
  refine wpAny_bind (wpAny_specialOf hT enum_no_hint ?_)
  refine wpAny_pure ?_
  show wpAny _ A.in1 (rule "list.extend.makes-room" >>= fun _ => Builtin.List.listTouch (.ref S) >>= fun _ =>
    again (.builtin "list.extend.loop" ⟨[.ref S, .ref e, res], []⟩)) _ _ _
  refine wpAny_bind (wpAny_rule ?_)
  refine wpAny_bind ?_
  show wpAny _ A.in1 (updateSeq S (·.push .none) >>= fun _ => updateSeq S (·.pop)) _ _ _
  refine wpAny_bind (wpAny_updateSeq hS rfl ?_)
  have hS₂ := Heap.get?_update_self (Obj.mapSeq (·.push Value.none)) hS rfl
  refine wpAny_updateSeq (hz := by seq_fits) hS₂ rfl ?_
  have hS₃ := Heap.get?_update_self (Obj.mapSeq (·.pop)) hS₂ rfl
  have oth : ∀ b o, b ≠ S → s.heap.get? b = some o → ((s.heap.update S (Obj.mapSeq (·.push Value.none))).update S (Obj.mapSeq (·.pop))).get? b = some o :=
    fun b o hb e => (Heap.get?_update_other _ _ (Ne.symm hb)).trans ((Heap.get?_update_other _ _ (Ne.symm hb)).trans e)
  have sz : ((s.heap.update S (Obj.mapSeq (·.push Value.none))).update S (Obj.mapSeq (·.pop))).objs.size = s.heap.objs.size := by rw [Heap.size_update, Heap.size_update]
  have li := Heap.lt_size hS
  have le := Heap.lt_size he
  have lt : it < s.heap.objs.size := by obtain ⟨_, q, _⟩ := hit; exact Heap.lt_size q
  refine wpAny_pure ⟨plainId_quiet F.plain_extend_loop _, enum_loop (N := s.heap.objs.size) hh hz hei hle hli hSe hSi hSl li le lt items.size 0 _ #[] _ rfl (by omega) (Nat.zero_le _) (by show Array.size _ = _; rw [sz]; rfl) (.inl ⟨.none, oth e _ (Ne.symm hSe) he⟩)
    (by obtain ⟨o, q, r⟩ := hit; exact ⟨o, oth it _ (Ne.symm hSi) q, r⟩) (by obtain ⟨o, q, r⟩ := hl; exact ⟨o, oth l _ (Ne.symm hSl) q, r⟩) hS₃ (fun j x hj => absurd hj (Nat.not_lt_zero _)) fun h' tk acc' c' ha hk hS' hP => ?_⟩
  exact hR h' tk acc' c' (by rw [ha]) (fun b o n1 n2 n3 q => hk b o n1 n2 n3 (oth b o n3 q)) hS' hP
theorem list_init_enum (hh : A.in1.handled = none) (hz : items.size ≤ sizeLine) (hei : e ≠ it) (hle : l ≠ e) (hli : l ≠ it) (hSe : S ≠ e) (hSi : S ≠ it) (hSl : S ≠ l) (he : IsEnum s.heap e it 0 .none) (hit : s.heap.IsListIter it l 0) (hl : s.heap.IsList l items)
    (hS : s.heap.get? S = some { cls := .type "list", data := .seq #[] })
    (hR : ∀ h' tk (acc' : Array Value) c', acc'.toList = refsTo s.heap.objs.size items.size → (∀ b o, b ≠ e → b ≠ it → b ≠ S → s.heap.get? b = some o → h'.get? b = some o) → h'.get? S = some { cls := .type "list", dict := none, data := .seq acc' c', slots := #[] } →
        PrS items s.heap.objs.size items.size h' → R (.ok (.ret .none)) { s with heap := h', toks := tk }) :
    wpAny (model prog w) A.in1 (Builtin.«list.__init__» ⟨[.ref S, .ref e], []⟩)
      (fun fin s' => match fin with | .done f => R (.ok f) s' | .again c' => c'.quiet = true ∧ codeAny (model prog w) A c' R s') (fun e s' => R (.error e) s') s := by
  show wpAny _ A.in1 (do let old ← Builtin.List.listItems (.ref S); Builtin.List.listUpdate (.ref S) (fun _ => #[]); letGo old.toList.reverse; Builtin.List.listExtendWith (.ref S) (.ref e) .none) _ _ s
  refine wpAny_bind ?_
  unfold Builtin.List.listItems
  refine wpAny_bind (wpAny_seqItems hS rfl (wpAny_pure ?_))
  show wpAny _ A.in1 (updateSeq S (fun _ => #[]) >>= fun _ => letGo (#[] : Array Value).toList.reverse >>= fun _ => Builtin.List.listExtendWith (.ref S) (.ref e) .none) _ _ s
  refine wpAny_bind (wpAny_updateSeq hS rfl ?_)
  have hS₂ := Heap.get?_update_self (Obj.mapSeq (fun _ => (#[] : Array Value))) hS rfl
  have oth : ∀ b o, b ≠ S → s.heap.get? b = some o → (s.heap.update S (Obj.mapSeq (fun _ => (#[] : Array Value)))).get? b = some o :=
    fun b o hb e => (Heap.get?_update_other _ _ (Ne.symm hb)).trans e
  have sz : (s.heap.update S (Obj.mapSeq (fun _ => (#[] : Array Value)))).objs.size = s.heap.objs.size := Heap.size_update ..
  refine wpAny_bind (wpAny_letGo ?_)
  refine extend_enum hh hz hei hle hli hSe hSi hSl (oth e _ (Ne.symm hSe) he) (by obtain ⟨o, q, r⟩ := hit; exact ⟨o, oth it _ (Ne.symm hSi) q, r⟩) (by obtain ⟨o, q, r⟩ := hl; exact ⟨o, oth l _ (Ne.symm hSl) q, r⟩) .none _ hS₂ fun h' tk acc' c' ha hk hS' hP => ?_
  have sz' : ({ s with heap := s.heap.update S (Obj.mapSeq (fun _ => (#[] : Array Value))) } : Shared).heap.objs.size = s.heap.objs.size := sz
  rw [sz'] at ha hP
  exact hR h' tk acc' c' ha (fun b o n1 n2 n3 q => hk b o n1 n2 n3 (oth b o n3 q)) hS' hP
theorem call_list_enum {Q : Value → Shared → Prop} (hh : A.handled = none) (hz : items.size ≤ sizeLine) (hei : e ≠ it) (hle : l ≠ e) (hli : l ≠ it) (he : IsEnum s.heap e it 0 .none) (hit : s.heap.IsListIter it l 0) (hl : s.heap.IsList l items)
    (hQ : ∀ h' tk (acc' : Array Value) c', acc'.toList = refsTo (s.heap.objs.size + 1) items.size → (∀ b o, b ≠ e → b ≠ it → s.heap.get? b = some o → h'.get? b = some o) → h'.get? s.heap.objs.size = some { cls := .type "list", dict := none, data := .seq acc' c', slots := #[] } →
        PrS items (s.heap.objs.size + 1) items.size h' → Q (.ref s.heap.objs.size) { s with heap := h', toks := tk }) :
    wpAny (model prog w) A (call (.type "list") [.ref e]) Q E s := by
  refine callType_codes (Q₁ := fun obj s₁ => obj = .ref s.heap.objs.size ∧ s₁ = { s with heap := s.heap.push { cls := .type "list", data := .seq #[] } }) F.called_list (F.typeCall_list_1 _) F.entry_list_init
    (code_list_new _ ⟨rfl, rfl⟩) fun obj s₁ h₁ => ?_
  obtain ⟨rfl, rfl⟩ := h₁
  have hS : (s.heap.push { cls := .type "list", data := .seq #[] }).get? s.heap.objs.size = some { cls := .type "list", data := .seq #[] } := Heap.get?_push_size _ rfl
  have le := Heap.lt_size he
  have li : it < s.heap.objs.size := by obtain ⟨_, q, _⟩ := hit; exact Heap.lt_size q
  have ll : l < s.heap.objs.size := by obtain ⟨_, q, _⟩ := hl; exact Heap.lt_size q
  have pz : (s.heap.push { cls := .type "list", data := .seq #[] }).objs.size = s.heap.objs.size + 1 := Heap.size_push ..
  refine ⟨⟨_, hS, rfl⟩, F.args_list_init_2 _ _, list_init_enum (A := A.in1) (by simp [hh]) hz hei hle hli (Nat.ne_of_gt le) (Nat.ne_of_gt li) (Nat.ne_of_gt ll) (Heap.get?_push_of_some _ he)
    (by obtain ⟨o, q, r⟩ := hit; exact ⟨o, Heap.get?_push_of_some _ q, r⟩) (by obtain ⟨o, q, r⟩ := hl; exact ⟨o, Heap.get?_push_of_some _ q, r⟩) hS fun h' tk acc' c' ha hk hS' hP => ?_⟩
  have pz' : ({ s with heap := s.heap.push { cls := .type "list", data := .seq #[] } } : Shared).heap.objs.size = s.heap.objs.size + 1 := pz
  rw [pz'] at ha hP
  exact ⟨rfl, hQ h' tk acc' c' ha (fun b o n1 n2 q => hk b o n1 n2 (Nat.ne_of_lt (Heap.lt_size q)) (Heap.get?_push_of_some _ q)) hS' hP⟩
end
/-- list(enumerate(l)) -/
def tListEnum (K : PySem.W.Frag) (ta : TA) : TE := fun σ H Q => ta σ H fun vs H1 => ∃ (a : Addr) (xs : List V), vs = [.ref a] ∧ SqL K H1 a xs ∧ ∀ (p : Addr) (ts : List Addr) (H2 : Hp), ts.length = xs.length → H1 p = none → Same H1 H2 → H2 p = some (.lst (ts.map V.ref)) →
  (∀ j x, xs[j]? = some x → ∃ T, ts[j]? = some T ∧ H1 T = none ∧ T ≠ p ∧ H2 T = some (.tup [.int (j : Nat), x])) → Q (.ref p) H2
/-- the heap with the list at S, the pairs behind it -/
def enH (H : Hp) (S : Addr) (xs : List V) : Hp := fun b => if b = S then some (.lst ((List.range xs.length).map fun j => V.ref (S + 1 + j))) else if S + 1 ≤ b ∧ b < S + 1 + xs.length then some (.tup [.int ((b - (S + 1) : Nat) : Int), xs.getD (b - (S + 1)) .non]) else H b
theorem enH_S {H : Hp} {S : Addr} {xs : List V} : enH H S xs S = some (.lst ((List.range xs.length).map fun j => V.ref (S + 1 + j))) := if_pos rfl
theorem enH_T {H : Hp} {S : Addr} {xs : List V} {j : Nat} {x : V} (h : xs[j]? = some x) : enH H S xs (S + 1 + j) = some (.tup [.int (j : Nat), x]) := by
  have hj := (List.getElem?_eq_some_iff.mp h).1
  unfold enH
  have z := nA1 (S := S) hj
  rw [if_neg z.1, if_pos z.2.1]
  rw [z.2.2, List.getD_eq_getElem?_getD, h]; rfl
theorem enH_old {H : Hp} {S b : Addr} {xs : List V} (h : b < S) : enH H S xs b = H b := by
  unfold enH
  rw [if_neg (Nat.ne_of_lt h), if_neg (fun z => absurd z.1 (Nat.not_le_of_lt (Nat.lt_succ_of_lt h)))]
theorem vals_refs (N n : Nat) : Vals ((List.range n).map fun j => V.ref (N + j)) (refsTo N n) := by
  unfold refsTo
  induction (List.range n) with
  | nil => exact .nil
  | cons x r ih => exact .cons rfl ih
theorem vals_get : ∀ {xs : List V} {us : List Value} {j : Nat} {x : V}, Vals xs us → xs[j]? = some x → ∃ u, us[j]? = some u ∧ RelV x u
  | _, _, _, _, .nil, h => by simp at h
  | _, _, 0, _, .cons r _, h => by simp at h; subst h; exact ⟨_, rfl, r⟩
  | _, _, j + 1, _, .cons _ t, h => by
    obtain ⟨u, h1, h2⟩ := vals_get (j := j) t (by simpa using h)
    exact ⟨u, by simpa using h1, h2⟩
section
variable {X : Cx}
theorem pe_listEnum {K : PySem.W.Frag} (hK : X.K = K) {e : Expr} {ta : TA} {p p2 pos pos2 : Pos} (hc : X.calm = true) (hg : Gl X "list") (hm : X.mg "list" = none) (hg2 : Gl X "enumerate") (hm2 : X.mg "enumerate" = none) (ha : PA X [e] ta)
    (hs : starEach [e] X.env = [(false, eval e X.env)] := by rfl)
    (na : starEach [.Call (.Name "enumerate" p2) [e] [] pos2] X.env = (false, eval (.Call (.Name "enumerate" p2) [e] [] pos2) X.env) :: starEach [] X.env := by rfl) :
    PE X (.Call (.Name "list" p) [.Call (.Name "enumerate" p2) [e] [] pos2] [] pos) (tListEnum K ta) := by
  subst hK
  refine ⟨fun pins s σ H Q I h => ?_⟩
  refine Call_ (ld_blt I hg hm boot_list (PyProof.Rows.callWith_type1 (args_cons (Call_ (ld_blt I hg2 hm2 boot_enumerate (PyProof.Rows.callWith_type1 (thn (ha.run pos2 pins s σ H _ I h) fun us s1 ⟨vs, H1, I1, r1, q1⟩ => ?_) hs rfl))) na) na))
  obtain ⟨a, xs, ex, hq, q⟩ := q1
  subst ex
  cases r1 with
  | cons r rr =>
    cases rr
    cases r
    obtain ⟨its, rv, p', hz⟩ := I1.list hq
    refine call_enumerate_list p'.isList fun h' he hit hsz hk => args_nil ?_
    have hz' : its.toArray.size ≤ sizeLine := by rw [List.size_toArray, ← rv.length]; exact hz
    have ll : a < s1.heap.objs.size := by obtain ⟨_, q, _⟩ := p'.isList; exact Heap.lt_size q
    have nle : a ≠ s1.heap.objs.size + 1 := Nat.ne_of_lt (Nat.lt_succ_of_lt ll)
    refine call_list_enum (s := { s1 with heap := h' }) (I1.ok.hd hc) hz' (Nat.succ_ne_self _) nle (Nat.ne_of_lt ll) he hit (by obtain ⟨o, q, r⟩ := p'.isList; exact ⟨o, hk _ _ q, r⟩) fun h2 tk acc2 c' ha2 hk2 hS hP => ?_
    have hN : h'.objs.size = s1.heap.objs.size + 2 := hsz
    have zn : its.toArray.size = xs.length := by rw [List.size_toArray, ← rv.length]
    rw [zn] at ha2 hP
    have ea : acc2 = (refsTo (h'.objs.size + 1) xs.length).toArray := by rw [← ha2]
    rw [ea] at hS
    have keep : ∀ b o, s1.heap.get? b = some o → h2.get? b = some o := fun b o e => by
      have := Heap.lt_size e
      exact hk2 b o (Nat.ne_of_lt (Nat.lt_succ_of_lt this)) (Nat.ne_of_lt this) (hk b o e)
    have old : ∀ b o, H1 b = some o → enH H1 h'.objs.size xs b = some o := fun b o e => by
      rw [enH_old (Nat.lt_of_lt_of_le (I1.hok b o e).lt (by rw [hN]; exact Nat.le_add_right _ _))]; exact e
    have new : ∀ b, s1.heap.objs.size ≤ b → H1 b = none := fun b hb => I1.hok.fresh hb
    have ok : HOk X.prog X.w (enH H1 h'.objs.size xs) h2 := fun b u e => by
      by_cases hb : b < h'.objs.size
      · rw [enH_old hb] at e
        exact (I1.hok b u e).stay (fun c v _ q => keep c v q) (fun c q => old c _ q) (fun c ys q => old c _ q)
      · by_cases hS' : b = h'.objs.size
        · rw [hS', enH_S] at e
          cases e
          rw [hS']
          exact ⟨by rw [List.length_map, List.length_range]; exact hz, _, _, vals_refs _ _, hS⟩
        · unfold enH at e
          rw [if_neg hS'] at e
          by_cases hr : h'.objs.size + 1 ≤ b ∧ b < h'.objs.size + 1 + xs.length
          · rw [if_pos hr] at e
            cases e
            have hj : b - (h'.objs.size + 1) < xs.length := (nA2 hr).1
            have hx : xs[b - (h'.objs.size + 1)]? = some (xs.getD (b - (h'.objs.size + 1)) .non) := by rw [List.getD_eq_getElem?_getD, List.getElem?_eq_getElem hj]; rfl
            obtain ⟨v, hv, rl⟩ := vals_get rv hx
            obtain ⟨t, ht⟩ := hP (b - (h'.objs.size + 1)) v hj (by rw [List.getElem?_toArray]; exact hv)
            have eb : h'.objs.size + 1 + (b - (h'.objs.size + 1)) = b := (nA2 hr).2
            rw [show ({ s1 with heap := h' } : Shared).heap.objs.size + 1 + (b - (h'.objs.size + 1)) = b from eb] at ht
            exact ⟨by show 2 ≤ sizeLine; decide, [.int ((b - (h'.objs.size + 1) : Nat) : Int) t, v], .cons ⟨_, rfl⟩ (.cons rl .nil), ⟨_, ht, rfl, _, rfl⟩⟩
          · rw [if_neg hr] at e
            exact absurd (I1.hok b u e).lt (Nat.not_lt_of_le (Nat.le_trans (by rw [hN]; exact Nat.le_add_right _ _) (Nat.le_of_not_lt hb)))
    have un : Un X.fs [] H1 (enH H1 h'.objs.size xs) s1.heap h2 :=
      ⟨fun b o q _ _ _ => keep b o q, fun b o q _ _ _ => ⟨o.slots, keep b o q⟩, fun b o q n _ => by rw [enH_old (Nat.lt_of_lt_of_le (Heap.lt_size q) (by rw [hN]; exact Nat.le_add_right _ _))]; exact n,
        fun b o q _ => ⟨o, keep b o q⟩, fun b ys q => old b _ q, fun b o u q => old b _ q, fun b ps q => ⟨#[], by rw [old b _ q]; simp⟩⟩
    refine ⟨.ref h'.objs.size, enH H1 h'.objs.size xs, I1.un (t' := tk) un ok, rfl, ?_⟩
    refine q h'.objs.size ((List.range xs.length).map fun j => h'.objs.size + 1 + j) _ (by rw [List.length_map, List.length_range]) (new _ (by omega)) old (by rw [enH_S, List.map_map]; rfl) fun j x hx => ?_
    have hj := (List.getElem?_eq_some_iff.mp hx).1
    exact ⟨h'.objs.size + 1 + j, by rw [List.getElem?_map, List.getElem?_range hj]; rfl, new _ (by omega), by show ¬ (h'.objs.size + 1 + j : Nat) = _; omega, enH_T hx⟩
end
end KX

set_option Elab.async false
set_option linter.all false
set_option maxRecDepth 100000
set_option maxHeartbeats 4000000
/-! Own layer: list(d.values()); a method called with keywords alone; dict(t) of a tuple of pairs. -/
namespace KX
open PySem PySem.Spec PyProof.Rows L2
section
variable {X : Cx} {o : Expr} {td : TE} {p pos apos mpos : Pos}
/-- list(d.values()) -/
def tListVals (td : TE) : TE := fun σ H Q => td σ H fun x H1 => ∃ a, x = V.ref a ∧
  ((∃ kvs : List (Key × V), H1 a = some (.dK kvs) ∧ ∀ l, H1 l = none → Q (.ref l) (upd H1 l (.lst (kvs.map (·.2))))) ∨
   (∃ kvs : List (List Key × V), H1 a = some (.dT kvs) ∧ ∀ l, H1 l = none → Q (.ref l) (upd H1 l (.lst (kvs.map (·.2))))))
theorem vals_at {xs : List V} {us : List Value} (hl : xs.length = us.length) (h : ∀ (j : Nat) x u, xs[j]? = some x → us[j]? = some u → RelV x u) : Vals xs us := by
  induction xs generalizing us with
  | nil =>
    cases us with
    | nil => exact .nil
    | cons => cases hl
  | cons x xs ih =>
    cases us with
    | nil => cases hl
    | cons u us => exact .cons (h 0 x u rfl rfl) (ih (by simpa using hl) fun j x u h1 h2 => h (j + 1) x u (by simpa using h1) (by simpa using h2))
theorem pe_listVals (hc : X.calm = true) (hg : Gl X "list") (hm : X.mg "list" = none) (hd : PE X o td) (hbase : attributeBase o "values" X.env (eval o X.env) = eval o X.env := by rfl) (hline : (apos.endLine == mpos.line) = true := by rfl)
    (na : starEach [Expr.Call (.Attribute o "values" apos) [] [] mpos] X.env = (false, eval (Expr.Call (.Attribute o "values" apos) [] [] mpos) X.env) :: starEach [] X.env := by rfl) :
    PE X (.Call (.Name "list" p) [.Call (.Attribute o "values" apos) [] [] mpos] [] pos) (tListVals td) := by
  refine ⟨fun pins s σ H Q I h => ?_⟩
  refine Call_ (ld_blt I hg hm boot_list (PyProof.Rows.callWith_type1 (args_cons (wpAny_Call_method0_late hbase hline (thn (hd.run pins s σ H _ I h) fun v s1 ⟨x, H1, I1, r1, a, ex, q⟩ => ?_)) na) na))
  subst ex
  obtain rfl : v = Value.ref a := r1
  have k1 : ∀ b u, s1.heap.get? b = some u → (s1.heap.push { cls := .type "dict_values", data := .fields #[.ref a] }).get? b = some u := fun b u e => Heap.get?_push_of_some _ e
  have vw : (s1.heap.push { cls := .type "dict_values", data := .fields #[.ref a] }).IsValuesView s1.heap.objs.size a := ⟨_, Heap.get?_push_size _ rfl, rfl, rfl⟩
  have laid : ∀ {h' : Heap} {tk : Nat} {xs : List V} {acc : Array Value} {c : Nat}, (∀ b u, (s1.heap.push { cls := .type "dict_values", data := .fields #[.ref a] }).get? b = some u → h'.get? b = some u) →
      h'.get? (s1.heap.push { cls := .type "dict_values", data := .fields #[.ref a] }).objs.size = some { cls := .type "list", dict := none, data := .seq acc c, slots := #[] } → xs.length ≤ sizeLine → Vals xs acc.toList →
      (∀ l, H1 l = none → Q (.ref l) (upd H1 l (.lst xs))) → EP X pins σ Q (.ref (s1.heap.push { cls := .type "dict_values", data := .fields #[.ref a] }).objs.size) { s1 with heap := h', toks := tk } := fun {h' tk xs acc c} kp hS hz hv q => by
    have hsz : (s1.heap.push { cls := .type "dict_values", data := .fields #[.ref a] }).objs.size = s1.heap.objs.size + 1 := Heap.size_push _ _
    refine ⟨.ref (s1.heap.push { cls := .type "dict_values", data := .fields #[.ref a] }).objs.size, _, I1.laid (t' := tk) (o := .lst xs) (fun b u e => kp b u (k1 b u e)) (by rw [hsz]; exact Nat.le_succ _) ?_, rfl, q _ (I1.hok.fresh (by rw [hsz]; exact Nat.le_succ _))⟩
    exact ⟨hz, acc.toList, c, hv, by rw [Array.toArray_toList]; exact hS⟩
  rcases q with ⟨kvs, ha, q⟩ | ⟨kvs, ha, q⟩
  · obtain ⟨hz, hsys, vs, rel, dof⟩ := dk_of I1.hok ha
    obtain ⟨ep, dat⟩ := dof.dictAt
    have dat' := dat
    obtain ⟨ob, es, ho, ex, hdat, hko, hpr, hnd⟩ := dat'
    refine ⟨"dict", "dict.values", F.plainAttrs_dict, F.slot_dict_values, F.type_dict_values, ⟨ob, ho, ex.1⟩, fun b e => ?_, Calls.callWith_builtin rfl (PySem.evalArgs_none ?_)⟩
    · cases e
      exact ⟨ob, ho, ex.2.1⟩
    refine call_meetsIn F.slot_dict_values ⟨ob, ho, ex.1⟩ F.entry_dict_values (F.args_dict_values_1 _) (meets_dict_values (mixKind X.prog X.w) a hsys) ⟨⟨vs, dof⟩, ?_⟩
    have dat1 : (s1.heap.push { cls := .type "dict_values", data := .fields #[.ref a] }).DictAt (mixKind X.prog X.w) a vs ep := dat.keep k1
    have hl : kvs.length = vs.length := KV.length rel
    refine args_nil (PySem.W.kdl_call (PySem.W.kdl_values (knd := mixKind X.prog X.w) (kvs := vs) (ep := ep)) (I1.ok.hd hc) ⟨vw, dat1⟩ (by rw [← hl]; exact hz) fun h' tk acc' c' hkeep hS hacc => ?_)
    refine laid hkeep hS (by rw [List.length_map]; exact hz) (vals_at (by have q1 : acc'.toList.length = acc'.size := Array.length_toList; rw [q1, hacc.1, ← hl]; exact List.length_map _) fun j x u h1 h2 => ?_) q
    obtain ⟨k, hk⟩ := hacc.2 j u (by rw [← Array.getElem?_toList]; exact h2)
    obtain ⟨x', h3, h4⟩ := KV.at' rel hk
    rw [List.getElem?_map, h3] at h1
    cases h1
    exact h4
  · obtain ⟨z, hs, ks, pr, o', es, ep, ho, hx, hdt, he, hn⟩ := (show ObjOk X.prog X.w H1 s1.heap a (.dT kvs) from I1.hok a _ ha)
    have l1 : es.size = ks.length := size_of_entries he
    have l2 : kvs.length = ks.length := Paired.length pr
    refine ⟨"dict", "dict.values", F.plainAttrs_dict, F.slot_dict_values, F.type_dict_values, ⟨o', ho, hx.1⟩, fun b e => ?_, Calls.callWith_builtin rfl (PySem.evalArgs_none ?_)⟩
    · cases e
      exact ⟨o', ho, hx.2.1⟩
    have raw : s1.heap.DictRaw a es ep := ⟨o', ho, hx, hdt⟩
    refine call_meetsIn F.slot_dict_values ⟨o', ho, hx.1⟩ F.entry_dict_values (F.args_dict_values_1 _) (meets_dict_values_raw a hs) ⟨⟨es, ep, raw⟩, ?_⟩
    have raw1 : (s1.heap.push { cls := .type "dict_values", data := .fields #[.ref a] }).DictRaw a es ep := ⟨o', k1 _ _ ho, hx, hdt⟩
    refine args_nil (PySem.W.kdl_call KdlSrc.rawValues (I1.ok.hd hc) ⟨vw, raw1⟩ (by omega) fun h' tk acc' c' hkeep hS hacc => ?_)
    refine laid hkeep hS (by rw [List.length_map]; omega) (vals_at (by have q1 : acc'.toList.length = acc'.size := Array.length_toList; rw [q1, hacc.1, l1, ← l2]; exact List.length_map _) fun j x u h1 h2 => ?_) q
    obtain ⟨hj, hv⟩ := hacc.2 j u (by rw [← Array.getElem?_toList]; exact h2)
    have e1 := entry_at he j
    rw [Array.getElem?_eq_getElem hj] at e1
    cases hb : ks[j]? with
    | none => rw [hb] at e1; cases e1
    | some b =>
      rw [hb] at e1
      have e2 := Option.some.inj e1
      rw [List.getElem?_map] at h1
      obtain ⟨kv, hkv, rfl⟩ := Option.map_eq_some_iff.mp h1
      obtain ⟨b', hb', hr⟩ := paired_get pr hkv
      rw [hb] at hb'
      cases hb'
      rw [hv, e2]
      exact hr.2.2
end
section
variable {X : Cx} {CX : CXT} {o : Expr} {ta : TE} {tk : TA} {m : Str} {f C : Addr} {fd : FuncData} {k : Nat} {ps ks : List Str} {sp : Sp} {g : List Value → List Value → List Value} {gV : List V → List V → List V} {E : XK} {kws : List Keyword} {pos apos : Pos}
/-- o.m(k = v, ..) -/
def tMethK (C : Addr) (m : Str) (sp : Sp) (gV : List V → List V → List V) (E : XK) (ta : TE) (tk : TA) : TE := fun σ H Q => ta σ H fun x H1 => ∃ a dx fs, x = .ref a ∧ H1 a = some (.ins C dx fs) ∧ fs.lookup m = none ∧ tk σ H1 fun zs H2 => sp (gV [.ref a] zs) H2 Q E
theorem pe_methK0 {pl : Sem Bool} (he : PE X o ta) (c : Cls X.K C) (hm : Meth X.K C m f) (F : FnOk X.prog X.w X.K X.mg X.base CX k f fd ps sp) (hr : Room k X.A) (hb : KBinds X.K fd ps ks g gV) (hx : Passes CX X E) (hkw : PK X kws tk)
    (hall : (backToKw pos (keywordEach kws X.env)).all (·.1.isSome) = true := by rfl) (hks : (backToKw pos (keywordEach kws X.env)).filterMap (·.1) = ks := by rfl)
    (hpl : ((backTo pos (starEach [] X.env)).any (·.1) || (backToKw pos (keywordEach kws X.env)).any (·.1.isNone)) = false := by rfl)
    (ht : eval (.Call (.Attribute o m apos) [] kws pos) X.env = (do
      let ov ← eval o X.env
      standAt apos.atName
      let (f, first) ← holding [ov] (getMethod ov m pl)
      callWith pos f first (backTo pos (starEach [] X.env)) (backToKw pos (keywordEach kws X.env))) := by rfl) :
    PE X (.Call (.Attribute o m apos) [] kws pos) (tMethK C m sp gV E ta tk) := by
  refine ⟨fun pins s σ H Q I h => ?_⟩
  refine PySem.W.methodCall_KW (pl := pl) (thn (he.run pins s σ H _ I h) fun u s1 ⟨x, H1, I1, rx, a, dx, fs, ex, ea, l, q⟩ => ?_) ht
  subst ex
  obtain rfl : u = Value.ref a := rx
  refine getmeth_ok I1 ea c hm l ?_
  refine PySem.W.callWith_KW0 (first := [.ref a]) (h₀ := X.base) I.ok.mod.kin hm.kp hall (thn (hkw.run pos pins s1 σ H1 _ I1 q) fun ws s2 ⟨zs, H2, I2, rz, q2⟩ => ⟨I2.kIn, ?_⟩) hpl
  rw [hks]
  exact run_fnk (us := [.ref a]) (vs := [.ref a]) F hr hb hx I2 (.cons rfl .nil) rz q2
end
/-! a text not at all, or once -/
section
variable {X : Cx}
theorem op_mulZ : OpR X (binaryOp .Mult) (fun x y H Q => ∃ (z : Str) (n : Int), x = V.str z ∧ y = V.int n ∧ ((n = 0 ∧ Q (.str Str.empty) H) ∨ (n = 1 ∧ Q (.str z) H))) := by
  intro pins s σ H x y v u Q I rx ry h
  obtain ⟨z, n, rfl, rfl, h⟩ := h
  obtain ⟨t, rfl⟩ := rx
  obtain ⟨t', rfl⟩ := ry
  rcases h with ⟨rfl, q⟩ | ⟨rfl, q⟩
  · exact PySem.P.mul_str_none (by decide) (by decide) ⟨.str Str.empty, H, I.tok _, ⟨_, rfl⟩, q⟩
  · refine PySem.P.mul_str (by decide) (fun _ e => absurd e (by simp)) (fun _ e => absurd e (by simp)) ?_
    rw [if_neg (by decide), if_pos (by simp)]
    exact ⟨.str z, H, I, ⟨_, rfl⟩, q⟩
/-- the pairs at ps, raw -/
theorem pairs_raw {pins : List (Addr × Obj)} {σ : L2.St} {H : Hp} {s : Shared} (I : Inv X pins σ H s) : ∀ {ps : List Addr} {kvs : List (Key × V)}, Paired (fun p kv => SqT X.K H p [kV kv.1, kv.2]) ps kvs →
    ∃ prs : List (Key × Value × Value), KV kvs (prs.map fun z => (z.1, z.2.2)) ∧ prs.length = ps.length ∧ ∀ (j : Nat) (q : Key × Value × Value), prs[j]? = some q → ∃ b, ps[j]? = some b ∧ s.heap.IsTuple b #[q.2.1, q.2.2] ∧ keyIs q.1 q.2.1 = true
  | _, _, .nil => ⟨[], .nil, rfl, fun j q e => by simp at e⟩
  | _, _, .cons (a := p) (b := kv) h t => by
    obtain ⟨prs, r, hl, hp⟩ := pairs_raw I t
    obtain ⟨its, rv, ht, _⟩ := I.tuple h
    obtain ⟨u, y, ei, ru, ry⟩ := vals2 rv
    subst ei
    refine ⟨(kv.1, u, y) :: prs, .cons ⟨rfl, ry⟩ r, by rw [List.length_cons, List.length_cons, hl], fun j q e => ?_⟩
    cases j with
    | zero =>
      have e' : (kv.1, u, y) = q := Option.some.inj e
      subst e'
      exact ⟨p, rfl, ht, kV_is (P := X.prog) (w := X.w) ru⟩
    | succ j =>
      obtain ⟨b, e1, e2⟩ := hp j q (by simpa using e)
      exact ⟨b, by simpa using e1, e2⟩
/-- dict(t), t a tuple of pairs -/
theorem call_dictF {K : PySem.W.Frag} (hK : X.K = K) (hcalm : X.calm = true) : CallR X (.type "dict") (fun xs H Q => ∃ (a : Addr) (ps : List Addr) (kvs : List (Key × V)), xs = [.ref a] ∧ TupF H a (ps.map V.ref) ∧ Paired (fun p kv => SqT K H p [kV kv.1, kv.2]) ps kvs ∧
    ∀ p, H p = none → Q (.ref p) (upd H p (.dK (mergeK [] kvs)))) := by
  subst hK
  intro pins s σ H xs us Q I r q
  obtain ⟨a, ps, kvs, ex, hq, hp, q⟩ := q
  subst ex
  obtain ⟨u, eu, rx⟩ := vals1 r
  subst eu
  cases rx
  obtain ⟨ob, eH, ed⟩ := hq
  obtain ⟨ho, hz, its, rv, o1, ho1, hc1, n1, hd1⟩ := (show ObjOk X.prog X.w H s.heap a (.frz ob (.tup (ps.map V.ref))) from I.hok a _ eH)
  have ei := refs_at rv
  subst ei
  rw [List.length_map] at hz
  have eo : o1 = ob := by rw [ho] at ho1; exact (Option.some.inj ho1).symm
  subst eo
  obtain ⟨prs, rel, hl, hpr⟩ := pairs_raw I hp
  have gd : ∀ j T, ps[j]? = some T → ps.getD j 0 = T := fun j T e => by rw [List.getD_eq_getElem?_getD, e]; rfl
  refine PySem.call_dict_pairs (knd := mixKind X.prog X.w) (kvs := prs.map fun z => (z.1, z.2.2)) (PairArg.tuple a (ps.map Value.ref).toArray (fun j => ps.getD j 0) (prs.map fun z => (z.2.1, z.2.2))) (I.ok.hd hcalm) ⟨⟨o1, n1, ho, hc1, ed, hd1⟩, ?_, fun j k v e => ?_⟩ ⟨?_, fun i key v e => ?_⟩ ?_ fun h' tk hd' k => ?_
  · simp [hl]
  · rw [List.getElem?_map] at e
    obtain ⟨z, hz', e⟩ := Option.map_eq_some_iff.mp e
    cases e
    obtain ⟨T, hT, ht, _⟩ := hpr j z hz'
    show (List.map Value.ref ps).toArray[j]? = some (Value.ref (ps.getD j 0)) ∧ PySem.PairAt s.heap (ps.getD j 0) z.2.1 z.2.2
    rw [gd j T hT]
    exact ⟨by simp [hT], .inl ht⟩
  · simp
  · have e : (prs.map fun z => (z.2.1, z.2.2))[i]? = some (key, v) := e
    rw [List.getElem?_map] at e
    obtain ⟨z, hz', e⟩ := Option.map_eq_some_iff.mp e
    cases e
    obtain ⟨_, _, _, hk⟩ := hpr i z hz'
    exact ⟨z.1, by rw [List.getElem?_map, hz']; rfl, hk⟩
  · simp only [List.length_map]; omega
  · have hm : (s.heap.objs.size == sysModules) = false := beq_eq_false_iff_ne.mpr (Nat.ne_of_gt I.big)
    have hlen : (mergeK [] kvs).length ≤ sizeLine := by
      refine Nat.le_trans (length_mergeK kvs []) ?_
      have : kvs.length = (prs.map fun z => (z.1, z.2.2)).length := rel.length
      rw [List.length_map] at this
      rw [List.length_nil, Nat.zero_add, this, hl]
      exact hz
    exact ⟨.ref s.heap.objs.size, upd H s.heap.objs.size (.dK (mergeK [] kvs)), I.laid (t' := tk) (fun b o e => k b o (fun z => nomatch z) e) (Nat.le_refl _) (show ObjOk X.prog X.w _ _ _ (.dK (mergeK [] kvs)) from ⟨hlen, hm, merged [] (prs.map fun z => (z.1, z.2.2)), KV.merge rel .nil, hd'⟩), rfl, q _ (I.hok.fresh (Nat.le_refl _))⟩
end
section
variable {X : Cx}
/-- d != {} -/
theorem op_ne_dict0 (hu : X.A.units < cLine) : OpR X (compareOp .NotEq) (fun x y H Q => ∃ (a b : Addr) (ks : List (Key × V)), x = V.ref a ∧ y = V.ref b ∧ H a = some (.dK ks) ∧ H b = some (.dK []) ∧ Q (.bl (!ks.isEmpty)) H) := by
  intro pins s σ H x y v u Q I rx ry h
  obtain ⟨a, b, ks, rfl, rfl, ea, eb, q⟩ := h
  cases ks with
  | nil => exact op_ne_dictA hu pins s σ H _ _ v u Q I rx ry ⟨a, b, [], [], rfl, rfl, ea, eb, rfl, fun _ z => (nomatch z), q⟩
  | cons k ks =>
    obtain rfl : v = Value.ref a := rx
    obtain rfl : u = Value.ref b := ry
    obtain ⟨_, ya, va, ra, da⟩ := (show ObjOk X.prog X.w H s.heap a (.dK (k :: ks)) from I.hok a _ ea)
    obtain ⟨_, yb, vb, rb, db⟩ := (show ObjOk X.prog X.w H s.heap b (.dK []) from I.hok b _ eb)
    have l1 : va.length = ks.length + 1 := ra.length.symm
    have l2 : vb.length = 0 := rb.length.symm
    exact PySem.W.keq_ne (knd := mixKind X.prog X.w) (r := true) ya yb da db hu (fun e => by omega) (fin_bl I q (by simp [l1, l2]))
end
end KX

set_option Elab.async false
set_option linter.all false
set_option maxRecDepth 100000
set_option maxHeartbeats 4000000
/-! The search for the shortest words. -/
namespace L
open PySem L2 KX
abbrev En := List Nat × List Str
abbrev Ltt := List (Str × List Nat)
def keyL (m : List Nat) : List Key := m.map fun x : Nat => (Sum.inl (x : Int) : Key)
theorem keyL_inj : ∀ {a b : List Nat}, keyL a = keyL b → a = b
  | [], [], _ => rfl
  | [], _ :: _, h => by cases h
  | _ :: _, [], h => by cases h
  | x :: a, y :: b, h => by
    have h : (Sum.inl (x : Int) : Key) :: keyL a = Sum.inl (y : Int) :: keyL b := h
    injection h with h1 h2
    have := Sum.inl.inj h1
    rw [keyL_inj h2, show x = y by omega]
theorem keyL_kV (m : List Nat) : (keyL m).map kV = nv m := by unfold keyL nv; rw [List.map_map]; rfl
def keys (S : List En) : List (List Nat) := S.map (·.1)
def ltt (L : Ltt) : List (List Nat) := L.map (·.2)
def new (st : En) (q : Str × List Nat) : En := (cmp st.1 q.2, st.2 ++ [q.1])
def inn (st : En) : Ltt → List En → List En → Option (List En × List En)
  | [], S, lg => some (S, lg)
  | q :: r, S, lg => if cmp st.1 q.2 ∈ keys S then inn st r S lg else if S.length = 16 then none else inn st r (S ++ [new st q]) (lg ++ [new st q])
def lay (L : Ltt) : List En → List En → List En → Option (List En × List En)
  | [], S, lg => some (S, lg)
  | st :: r, S, lg => match inn st L S lg with
    | none => none
    | some p => lay L r p.1 p.2
inductive Bf (L : Ltt) : List En → List En → Option (List En) → Prop
  | done (S : List En) : Bf L S [] (some S)
  | over {S lr : List En} : lr ≠ [] → lay L lr S [] = none → Bf L S lr none
  | next {S lr S' lg : List En} {r : Option (List En)} : lr ≠ [] → lay L lr S [] = some (S', lg) → Bf L S' lg r → Bf L S lr r
theorem Bf.det {L : Ltt} {S lr : List En} {r : Option (List En)} (h : Bf L S lr r) : ∀ {r' : Option (List En)}, Bf L S lr r' → r = r' := by
  induction h with
  | done S =>
    intro r' h'
    cases h' with
    | done => rfl
    | over n _ => exact absurd rfl n
    | next n _ _ => exact absurd rfl n
  | over n e =>
    intro r' h'
    cases h' with
    | done => exact absurd rfl n
    | over _ _ => rfl
    | next _ e' _ => rw [e] at e'; cases e'
  | next n e b ih =>
    intro r' h'
    cases h' with
    | done => exact absurd rfl n
    | over _ e' => rw [e] at e'; cases e'
    | next _ e' b' =>
      rw [e] at e'
      cases e'
      exact ih b'
/-- what a step keeps -/
structure Stp (n : Nat) (ls : List (List Nat)) (S lg S' lg' : List En) : Prop where
  pre : ∃ d : List En, S' = S ++ d ∧ lg' = lg ++ d
  nd : (keys S).Nodup → (keys S').Nodup
  le : S.length ≤ 16 → S'.length ≤ 16
  gen : (∀ m, m ∈ keys S → Gen ls m) → ∀ m, m ∈ keys S' → Gen ls m
theorem Stp.refl {n : Nat} {ls : List (List Nat)} (S lg : List En) : Stp n ls S lg S lg := ⟨⟨[], by simp, by simp⟩, id, id, fun h => h⟩
theorem Stp.trans {n : Nat} {ls : List (List Nat)} {S lg S' lg' S2 lg2 : List En} (a : Stp n ls S lg S' lg') (b : Stp n ls S' lg' S2 lg2) : Stp n ls S lg S2 lg2 := by
  obtain ⟨d, e1, e2⟩ := a.pre
  obtain ⟨d', e3, e4⟩ := b.pre
  exact ⟨⟨d ++ d', by rw [e3, e1, List.append_assoc], by rw [e4, e2, List.append_assoc]⟩, fun h => b.nd (a.nd h), fun h => b.le (a.le h), fun h => b.gen (a.gen h)⟩
theorem Stp.sub {n : Nat} {ls : List (List Nat)} {S lg S' lg' : List En} (a : Stp n ls S lg S' lg') {m : List Nat} (h : m ∈ keys S) : m ∈ keys S' := by
  obtain ⟨d, e1, _⟩ := a.pre
  rw [e1]
  unfold keys at *
  rw [List.map_append]
  exact List.mem_append_left _ h
theorem keys_snoc (S : List En) (e : En) : keys (S ++ [e]) = keys S ++ [e.1] := by unfold keys; rw [List.map_append]; rfl
theorem inn_ok {n : Nat} {st : En} {ls : List (List Nat)} : ∀ {L : Ltt} {S lg S' lg' : List En}, (∀ q, q ∈ L → Gen ls (cmp st.1 q.2)) → inn st L S lg = some (S', lg') → Stp n ls S lg S' lg' ∧ ∀ q, q ∈ L → cmp st.1 q.2 ∈ keys S'
  | [], S, lg, S', lg', _, h => by
    have h : some (S, lg) = some (S', lg') := h
    cases h
    exact ⟨Stp.refl _ _, fun _ z => nomatch z⟩
  | q :: r, S, lg, S', lg', hg, h => by
    unfold inn at h
    by_cases c : cmp st.1 q.2 ∈ keys S
    · rw [if_pos c] at h
      obtain ⟨s, f⟩ := inn_ok (n := n) (fun q' hq => hg q' (List.mem_cons_of_mem _ hq)) h
      refine ⟨s, fun q' hq => ?_⟩
      rcases List.mem_cons.mp hq with rfl | hq
      · exact s.sub c
      · exact f q' hq
    · rw [if_neg c] at h
      by_cases c2 : S.length = 16
      · rw [if_pos c2] at h; cases h
      rw [if_neg c2] at h
      obtain ⟨s, f⟩ := inn_ok (n := n) (fun q' hq => hg q' (List.mem_cons_of_mem _ hq)) h
      have s1 : Stp n ls S lg (S ++ [new st q]) (lg ++ [new st q]) := by
        refine ⟨⟨_, rfl, rfl⟩, fun nd => ?_, fun l => by rw [List.length_append]; show S.length + 1 ≤ 16; omega, fun g m hm => ?_⟩
        · rw [keys_snoc]
          refine List.nodup_append.mpr ⟨nd, by simp, fun a ha b hb e => ?_⟩
          rw [List.mem_singleton] at hb
          exact c (by rw [show cmp st.1 q.2 = a from (e.trans hb).symm]; exact ha)
        · rw [keys_snoc] at hm
          rcases List.mem_append.mp hm with h | h
          · exact g m h
          · rw [List.mem_singleton.mp h]; exact hg q List.mem_cons_self
      refine ⟨s1.trans s, fun q' hq => ?_⟩
      rcases List.mem_cons.mp hq with rfl | hq
      · exact s.sub (by rw [keys_snoc]; exact List.mem_append_right _ (List.mem_singleton.mpr rfl))
      · exact f q' hq
theorem lay_ok {n : Nat} {ls : List (List Nat)} {L : Ltt} : ∀ {lr S lg S' lg' : List En}, (∀ e, e ∈ lr → ∀ q, q ∈ L → Gen ls (cmp e.1 q.2)) → lay L lr S lg = some (S', lg') → Stp n ls S lg S' lg' ∧ ∀ e, e ∈ lr → ∀ q, q ∈ L → cmp e.1 q.2 ∈ keys S'
  | [], S, lg, S', lg', _, h => by
    have h : some (S, lg) = some (S', lg') := h
    cases h
    exact ⟨Stp.refl _ _, fun _ z => nomatch z⟩
  | st :: r, S, lg, S', lg', hg, h => by
    unfold lay at h
    cases hi : inn st L S lg with
    | none => rw [hi] at h; cases h
    | some p =>
      rw [hi] at h
      obtain ⟨s1, f1⟩ := inn_ok (n := n) (hg st List.mem_cons_self) hi
      obtain ⟨s2, f2⟩ := lay_ok (n := n) (fun e he => hg e (List.mem_cons_of_mem _ he)) h
      refine ⟨s1.trans s2, fun e he q hq => ?_⟩
      rcases List.mem_cons.mp he with rfl | he
      · exact s2.sub (f1 q hq)
      · exact f2 e he q hq
/-- the letters of n states -/
structure LOk (n : Nat) (L : Ltt) : Prop where
  le : 1 ≤ L.length
  ge : L.length ≤ 4
  n1 : 1 ≤ n
  n5 : n ≤ 5
  mp : ∀ q, q ∈ L → Mp n q.2
  ss : ∀ q, q ∈ L → Ss 8 q.1
/-- where the search stands -/
structure Sea (n : Nat) (L : Ltt) (S lr : List En) : Prop where
  nd : (keys S).Nodup
  le : S.length ≤ 16
  gen : ∀ m, m ∈ keys S → Gen (ltt L) m
  lg : ∀ e, e ∈ lr → ∀ q, q ∈ L → Gen (ltt L) (cmp e.1 q.2)
  cl : ∀ m, m ∈ keys S → m ∈ keys lr ∨ ∀ q, q ∈ L → cmp m q.2 ∈ keys S
  st : (∀ q, q ∈ L → q.2 ∈ keys S) ∨ ∃ e, e ∈ lr ∧ ∀ q, q ∈ L → cmp e.1 q.2 = q.2
theorem Sea.next {n : Nat} {L : Ltt} {S lr S' lg : List En} (h : Sea n L S lr) (e : lay L lr S [] = some (S', lg)) : Sea n L S' lg := by
  obtain ⟨s, f⟩ := lay_ok (n := n) h.lg e
  obtain ⟨d, e1, e2⟩ := s.pre
  rw [List.nil_append] at e2
  subst e2
  have inl : ∀ m, m ∈ keys S' → m ∈ keys S ∨ m ∈ keys lg := fun m hm => by
    rw [e1] at hm
    unfold keys at *
    rw [List.map_append] at hm
    exact List.mem_append.mp hm
  have gS := s.gen h.gen
  refine ⟨s.nd h.nd, s.le h.le, gS, fun e he q hq => ?_, fun m hm => ?_, .inl fun q hq => ?_⟩
  · refine .step (gS e.1 ?_) (List.mem_map.mpr ⟨q, hq, rfl⟩)
    rw [e1]
    unfold keys
    rw [List.map_append]
    exact List.mem_append_right _ (List.mem_map.mpr ⟨e, he, rfl⟩)
  · rcases inl m hm with hS | hl
    · refine .inr fun q hq => ?_
      rcases h.cl m hS with hr | hc
      · obtain ⟨e, he, rfl⟩ := List.mem_map.mp hr
        exact f e he q hq
      · exact s.sub (hc q hq)
    · exact .inl hl
  · rcases h.st with k | ⟨e, he, k⟩
    · exact s.sub (k q hq)
    · rw [← k q hq]; exact f e he q hq
theorem cmp_id {n : Nat} {m : List Nat} (h : Mp n m) : cmp (List.range n) m = m := by
  unfold cmp
  apply List.ext_getElem
  · rw [List.length_map, List.length_range, h.1]
  · intro i h1 h2
    rw [List.getElem_map, List.getElem_range, List.getD_eq_getElem?_getD, List.getElem?_eq_getElem h2]; rfl
theorem sea0 {n : Nat} {L : Ltt} (o : LOk n L) : Sea n L [] [(List.range n, [])] := by
  have k : ∀ q, q ∈ L → cmp (List.range n) q.2 = q.2 := fun q hq => cmp_id (o.mp q hq)
  refine ⟨List.nodup_nil, Nat.zero_le _, fun _ z => (nomatch z), fun e he q hq => ?_, fun _ z => (nomatch z), .inr ⟨_, List.mem_singleton.mpr rfl, k⟩⟩
  rw [List.mem_singleton.mp he]
  show Gen (ltt L) (cmp (List.range n) q.2)
  rw [k q hq]
  exact .base (List.mem_map.mpr ⟨q, hq, rfl⟩)
/-- the elements found -/
structure Fnd (n : Nat) (L : Ltt) (S : List En) : Prop where
  nd : (keys S).Nodup
  le : S.length ≤ 16
  cl : Cl n (keys S)
  lt : ∀ q, q ∈ L → q.2 ∈ keys S
theorem Sea.fin {n : Nat} {L : Ltt} {S : List En} (o : LOk n L) (h : Sea n L S []) : Fnd n L S := by
  have lm : ∀ l, l ∈ ltt L → Mp n l := fun l hl => by
    obtain ⟨q, hq, rfl⟩ := List.mem_map.mp hl
    exact o.mp q hq
  refine ⟨h.nd, h.le, ⟨fun m hm => (h.gen m hm).mp lm, fun x hx y hy => gen_closed lm h.gen (fun x hx l hl => ?_) hx (h.gen y hy)⟩, fun q hq => ?_⟩
  · obtain ⟨q, hq, rfl⟩ := List.mem_map.mp hl
    rcases h.cl x hx with k | k
    · cases k
    · exact k q hq
  · rcases h.st with k | ⟨_, k, _⟩
    · exact k q hq
    · cases k
theorem Bf.fnd {n : Nat} {L : Ltt} (o : LOk n L) {S lr : List En} {r : Option (List En)} (h : Bf L S lr r) : Sea n L S lr → ∀ S', r = some S' → Fnd n L S' := by
  induction h with
  | done S =>
    intro s S' e
    cases e
    exact s.fin o
  | over _ _ => intro _ _ e; cases e
  | next _ e _ ih => exact fun s => ih (s.next e)
/-- what the search gives -/
def Res (n : Nat) (L : Ltt) (r : Option (List En)) : Prop := Bf L [] [(List.range n, [])] r
theorem Res.fnd {n : Nat} {L : Ltt} (o : LOk n L) {S : List En} (h : Res n L (some S)) : Fnd n L S := Bf.fnd o h (sea0 o) S rfl
theorem Fnd.ne {n : Nat} {L : Ltt} {S : List En} (o : LOk n L) (f : Fnd n L S) : 1 ≤ S.length := by
  cases L with
  | nil => have := o.le; simp at this
  | cons q L =>
    obtain ⟨e, he, _⟩ := List.mem_map.mp (f.lt q List.mem_cons_self)
    exact List.length_pos_of_mem he
end L

set_option Elab.async false
set_option linter.all false
set_option maxRecDepth 100000
set_option maxHeartbeats 4000000
set_option pp.maxSteps 400
namespace L
open PySem L2 KX
abbrev sIsName : Stmt := top 15
abbrev sCd : Stmt := top 51
abbrev sSw : Stmt := top 52
abbrev nSw : List Str := ["states", "letters", "words", "layer", "longer", "start", "word", "name", "targets", "reached"]
/-- the sign c lies from a to z, as both functions compare it -/
def sg (c : Nat) : Bool := if (!decide ((⟨#[c]⟩ : Str).cps.toList < (Str.ofString "a").cps.toList)) = true then !decide ((Str.ofString "z").cps.toList < (⟨#[c]⟩ : Str).cps.toList) else false
def nm (z : Str) : Bool := decide (1 ≤ z.length) && decide (z.length ≤ 8) && z.cps.toList.all sg
/-- a text, or no text -/
def Ist (K : PySem.W.Frag) (H : Hp) (v : V) (r : Bool) : Prop := (∃ z, v = .str z ∧ Ss 4000 z ∧ r = nm z) ∨ (r = false ∧ ∃ t, TyX K H v t ∧ PySem.W.kitOne K t (.type "str") = some false)
def spIsName (K : PySem.W.Frag) : Sp := fun vs H Q _ => ∃ v r, vs = [v] ∧ Ist K H v r ∧ ∀ H', Same H H' → Q (.bl r) H'
theorem inn_cons (st : En) (q : Str × List Nat) (r : Ltt) (S lg : List En) : inn st (q :: r) S lg = if cmp st.1 q.2 ∈ keys S then inn st r S lg else if S.length = 16 then none else inn st r (S ++ [new st q]) (lg ++ [new st q]) := rfl
theorem lay_cons (L : Ltt) (st : En) (r S lg : List En) : lay L (st :: r) S lg = match inn st L S lg with
    | none => none
    | some p => lay L r p.1 p.2 := rfl
def spCd (K : PySem.W.Frag) : Sp := fun vs H Q _ => ∃ (a b : Addr) (k : Nat) (x y : List Nat), vs = [.ref a, .ref b] ∧ SqT K H a (nv x) ∧ SqT K H b (nv y) ∧ Mp k x ∧ Mp k y ∧ k ≤ 5 ∧ ∀ p H', Same H H' → H p = none → H' p = some (.tup (nv (cmp x y))) → Q (.ref p) H'
/-- the letters of an object -/
def Ltr (H : Hp) (l : Addr) (L : Ltt) : Prop := ∃ ps : List Addr, TupF H l (ps.map V.ref) ∧ Paired (fun p (q : Str × List Nat) => ∃ t, H p = some (.tup [.str q.1, .ref t]) ∧ H t = some (.tup (nv q.2))) ps L
theorem Ltr.to {H H' : Hp} {l : Addr} {L : Ltt} (h : Ltr H l L) (s : Same H H') : Ltr H' l L := by
  obtain ⟨ps, e, pr⟩ := h
  exact ⟨ps, e.ext s, L2.Paired.mapP pr fun p q ⟨t, a, b⟩ => ⟨t, s _ _ a, s _ _ b⟩⟩
/-- the words of a dict -/
def Wd (H : Hp) (D : Addr) (S : List En) : Prop := ∃ kvs : List (List Key × V), H D = some (.dT kvs) ∧ Paired (fun (kv : List Key × V) (e : En) => kv.1 = keyL e.1 ∧ ∃ a, kv.2 = .ref a ∧ H a = some (.lst (e.2.map V.str))) kvs S
def ItE (H : Hp) (t : Addr) (e : En) : Prop := ∃ m wd, H t = some (.tup [.ref m, .ref wd]) ∧ H m = some (.tup (nv e.1)) ∧ H wd = some (.lst (e.2.map V.str))
theorem ItE.to {H H' : Hp} {t : Addr} {e : En} (h : ItE H t e) (s : ∀ b o, H b = some o → (∀ k, o ≠ .dT k) → H' b = some o) : ItE H' t e := by
  obtain ⟨m, wd, a, b, c⟩ := h
  exact ⟨m, wd, s _ _ a (fun k z => nomatch z), s _ _ b (fun k z => nomatch z), s _ _ c (fun k z => nomatch z)⟩
def Lay (H : Hp) (l : Addr) (lr : List En) : Prop := ∃ ts : List Addr, H l = some (.lst (ts.map V.ref)) ∧ Paired (ItE H) ts lr
theorem Lay.to {H H' : Hp} {l : Addr} {lr : List En} (h : Lay H l lr) (s : ∀ b o, H b = some o → (∀ k, o ≠ .dT k) → H' b = some o) : Lay H' l lr := by
  obtain ⟨ts, e, pr⟩ := h
  exact ⟨ts, s _ _ e (fun k z => nomatch z), L2.Paired.mapP pr fun t e h => h.to s⟩
theorem Wd.to {H H' : Hp} {D : Addr} {S : List En} (h : Wd H D S) (s : Same H H') : Wd H' D S := by
  obtain ⟨kvs, e, pr⟩ := h
  exact ⟨kvs, s _ _ e, L2.Paired.mapP pr fun kv e ⟨a, x, b, c⟩ => ⟨a, x, b, s _ _ c⟩⟩
theorem Wd.key {H : Hp} {S : List En} {kvs : List (List Key × V)} (pr : Paired (fun (kv : List Key × V) (e : En) => kv.1 = keyL e.1 ∧ ∃ a, kv.2 = .ref a ∧ H a = some (.lst (e.2.map V.str))) kvs S) (x : List Nat) : (valV kvs (keyL x)).isSome = decide (x ∈ keys S) := by
  induction pr with
  | nil => rfl
  | @cons kv e kvs S h _ ih =>
    have hk : keys (e :: S) = e.1 :: keys S := rfl
    rw [hk]
    by_cases c : x = e.1
    · subst c
      have : valV (kv :: kvs) (keyL e.1) = some kv.2 := by
        unfold valV
        simp [h.1]
      rw [this]; simp
    · have : valV (kv :: kvs) (keyL x) = valV kvs (keyL x) := by
        unfold valV
        have n : ¬ kv.1 = keyL x := fun z => c (keyL_inj (h.1 ▸ z)).symm
        simp [n]
      rw [this, ih]
      simp [c]
def spSw (CO : Addr) : Sp := fun vs H Q E => ∃ (n : Nat) (l : Addr) (L : Ltt), vs = [.int (n : Int), .ref l] ∧ LOk n L ∧ Ltr H l L ∧
  (∀ S D H', Res n L (some S) → Wd H' D S → Same H H' → H D = none → Q (.ref D) H') ∧ (∀ H' d, Res n L none → Same H H' → H' d = none → E (.ref CO) (some d) (upd H' d (.xd [("count", .int 17)])))
def muSw (σ : L2.St) (J : Hp) : Nat := (match σ.getD 2 none with
  | some (.ref a) => match J a with
    | some (.dT kvs) => (17 - kvs.length) * 2
    | _ => 0
  | _ => 0) + match σ.getD 3 none with
  | some (.ref a) => match J a with
    | some (.lst xs) => min 1 xs.length
    | _ => 0
  | _ => 0
theorem muSw_of {σ : L2.St} {J : Hp} {a b : Addr} {kvs : List (List Key × V)} {xs : List V} (h : σ.getD 2 none = some (.ref a)) (e : J a = some (.dT kvs)) (h2 : σ.getD 3 none = some (.ref b)) (e2 : J b = some (.lst xs)) : muSw σ J = (17 - kvs.length) * 2 + min 1 xs.length := by
  unfold muSw
  rw [h, h2]
  dsimp only
  rw [e, e2]
section
variable {P : Program} {w : World} {K : PySem.W.Frag} {mg : Str → Option Value} {base : Heap} {f f1 fE : Addr} {fd d1 dE : FuncData} {C CO : Addr}
theorem scIsName : FnScope ["value", "letter"] ["value"] (defScope sIsName) := ⟨rfl, rfl, rfl, by decide +kernel, rfl, by decide +kernel, by decide +kernel⟩
theorem ok_isname (F : Fun K "is_name" "is_name" sIsName f fd) (M : Mn mg) (mL : ∃ t, mg "_MOST_LETTERS" = some (.int 8 t)) : FnOk P w K mg base CX0 1 f fd ["value"] (spIsName K) := by
  refine F.ok scIsName (fun vs H Q E h => ?_) (fun cdv A outer s H vs Q E hr h => ?_)
  · obtain ⟨v, r, rfl, _⟩ := h
    rfl
  obtain ⟨v, r, rfl, hv, q⟩ := h
  obtain ⟨tok, mL⟩ := mL
  refine ⟨_, pss_cons (ps_if (pw_or (pt_not (pt_val (pe_callB call_isi (by rfl) M.isin (by decide +kernel) (pa_cons (pv 0) (pa_cons (pe_bltn (v := .ty "str") (by rfl) M.str (by decide +kernel) rfl) pa_nil)))))
      (pw_or1 (pt_not (pt_chain op_le op_le pe_int (pe_callB call_len_str (by rfl) M.len PySem.boot_len (pa_cons (pv 0) pa_nil)) (pe_glob (v := .int 8) (by rfl) mL ⟨_, rfl⟩))))).pt (pss_one (ps_ret pe_bl)) pss_nil)
    (pss_one (ps_ret (pe_callB (cr_all rfl) (by rfl) M.all (by decide +kernel) (pa_cons (pe_lc (own := [("letter", 1)]) (g := gName 1) (tt := tYes) rfl scIsName.nd (pi_str (pv 0))
      (blkOk_by (N := ["value", "letter"]) (sc := defScope sIsName) (by decide +kernel)) (fun _ _ _ _ _ => pg_name (i := 1) scIsName.nd rfl (Or.inl rfl)) (fun _ _ _ _ _ => pts_nil)
      (fun _ _ _ _ _ => pe_chain op_le_str op_le_str pe_str (pv 1) pe_str)) pa_nil)))), ?_⟩
  rcases hv with ⟨z, rfl, hz, rfl⟩ | ⟨rfl, t, ty, kt⟩
  · have hzs : z.length ≤ sizeLine := Nat.le_trans hz.1 (by decide)
    refine ⟨_, rfl, _, .ty "str", .type "str", .type "str", true, rfl, .ty _, .base (.str z), kit_ty (by decide +kernel), true, rfl, iteF ?_⟩
    refine ⟨_, rfl, z, rfl, hzs, _, _, rfl, rfl, _, rfl, ?_⟩
    refine ite2 (fun c1 => ⟨_, _, rfl, rfl, _, rfl, ite2 (fun c2 => ?_) (fun c2 => ?_)⟩) (fun c1 => ⟨_, rfl, iteT ?_⟩)
    · have e : nm z = false := by
        have c2' : ¬ (z.length : Int) ≤ 8 := of_decide_eq_false (by simpa using c2)
        unfold nm
        rw [decide_eq_false (show ¬ z.length ≤ 8 by omega)]
        simp
      rw [e] at q
      exact q H (Same.refl H)
    · have c2' : (z.length : Int) ≤ 8 := of_decide_eq_true (by simpa using c2)
      have c1' : (1 : Int) ≤ (z.length : Int) := of_decide_eq_true c1
      have e : nm z = z.cps.toList.all sg := by
        unfold nm
        rw [decide_eq_true (show 1 ≤ z.length by omega), decide_eq_true (show z.length ≤ 8 by omega)]
        rfl
      rw [e] at q
      refine ⟨_, rfl, z, rfl, fun D hD => ?_⟩
      refine lc_it (walk_str (z := z)) (fun i J => Same H J ∧ J D = some (.lst (((z.cps.toList.take i).map sg).map V.bl))) ⟨fun b o e => by rw [upd_ne (ne_of_none e hD)]; exact e, upd_same⟩ (fun _ _ _ _ => trivial) ?_ ?_
      · rintro i x Jz J hi ⟨sJ, eD⟩ ⟨rfl, c, hc, rfl⟩
        have hc' : z.cps.toList[i]? = some c := by simpa using hc
        have tk : z.cps.toList.take (i + 1) = z.cps.toList.take i ++ [c] := by
          rw [List.take_add_one, hc']; rfl
        have fin : ∀ b, b = sg c → ∃ acc, J D = some (.lst acc) ∧ acc.length < sizeLine ∧ Same H (upd J D (.lst (acc ++ [V.bl b]))) ∧ (upd J D (.lst (acc ++ [V.bl b]))) D = some (.lst (((z.cps.toList.take (i + 1)).map sg).map V.bl)) := fun b hb => by
          refine ⟨_, eD, ?_, fun b o e => by rw [upd_ne (ne_of_none e hD)]; exact sJ b o e, ?_⟩
          · rw [List.length_map, List.length_map, List.length_take]
            have : z.cps.toList.length = z.length := Array.length_toList
            exact small1000 (by omega)
          · rw [upd_same, tk, List.map_append, List.map_append, hb]; rfl
        refine ⟨rfl, _, rfl, _, _, rfl, rfl, _, rfl, ?_⟩
        refine ite2 (fun c1 => ⟨_, _, rfl, rfl, ?_⟩) (fun c1 => ?_)
        · exact fin _ (by unfold sg; rw [if_pos c1])
        · exact fin _ (by unfold sg; rw [if_neg c1])
      · rintro J ⟨sJ, eD⟩
        have hl : z.cps.toList.take z.cps.size = z.cps.toList := List.take_of_length_le (by rw [Array.length_toList]; exact Nat.le_refl _)
        rw [hl] at eD
        refine ⟨D, _, rfl, SqL.of eD, ?_⟩
        have e2 : (z.cps.toList.map sg).all id = z.cps.toList.all sg := by rw [List.all_map]; rfl
        rw [e2]
        exact q J sJ
    · have c1' : ¬ (1 : Int) ≤ (z.length : Int) := of_decide_eq_false (Bool.eq_false_iff.mpr c1)
      have e : nm z = false := by
        unfold nm
        rw [decide_eq_false (show ¬ 1 ≤ z.length by omega)]
        rfl
      rw [e] at q
      exact q H (Same.refl H)
  · refine ⟨_, rfl, v, .ty "str", t, .type "str", false, rfl, .ty _, ty, kt, false, rfl, iteT ?_⟩
    exact iteT (q H (Same.refl H))

theorem scCd : FnScope ["first", "second", "state"] ["first", "second"] (defScope sCd) := ⟨rfl, rfl, rfl, by decide +kernel, rfl, by decide +kernel, by decide +kernel⟩
theorem ok_cd (F : Fun K "_composed" "_composed" sCd f fd) (M : Mn mg) : FnOk P w K mg base CX0 1 f fd ["first", "second"] (spCd K) := by
  refine F.ok scCd (fun vs H Q E h => ?_) (fun cdv A outer s H vs Q E hr h => ?_)
  · obtain ⟨a, b, k, x, y, rfl, _⟩ := h
    rfl
  obtain ⟨a, b, k, x, y, rfl, ha, hb, hx, hy, k5, q⟩ := h
  refine ⟨_, pss_one (ps_ret (pe_callTy call_tuple_of (by rfl) M.tuple (by decide +kernel) (pa_cons (pe_lc (own := [("state", 2)]) (g := gName 2) (tt := tYes) rfl scCd.nd (pi_tup (pv 0))
    (blkOk_by (N := ["first", "second", "state"]) (sc := defScope sCd) (by decide +kernel)) (fun _ _ _ _ _ => pg_name (i := 2) scCd.nd rfl (Or.inl rfl)) (fun _ _ _ _ _ => pts_nil) (fun _ _ _ _ _ => pe_ix (ixt (K := K) rfl) (pv 1) (pv 2) (fun _ _ => rfl))) pa_nil))), ?_⟩
  refine ⟨_, rfl, a, rfl, ⟨_, ha⟩, fun D hD => ?_⟩
  refine lc_it (walk_tup (xs := nv x)) (fun i G => Same H G ∧ G D = some (.lst (nv ((cmp x y).take i)))) ⟨Same.new hD _, upd_same⟩ (fun i G _ z => Same.tup z.1 ha) ?_ ?_
  · rintro i v G G' hi ⟨sG, eD⟩ ⟨rfl, hv⟩
    obtain ⟨st, hst, rfl⟩ := nv_at hv
    have hs := hx.2 st (List.mem_of_getElem? hst)
    refine ⟨rfl, _, rfl, _, rfl, b, _, _, _, rfl, rfl, Same.tup sG hb, at_of (j := st) rfl (nv_get hy hs), _, eD, ?_, fun c o e => by rw [upd_ne (ne_of_none e hD)]; exact sG _ _ e, ?_⟩
    · rw [nv_len, List.length_take]
      have := (cmp_mp hx hy).1
      exact small1000 (by omega)
    · rw [upd_same, cmp_take hst]
      unfold nv
      rw [List.map_append]; rfl
  rintro G ⟨sG, eD⟩
  have lc : (cmp x y).length = x.length := by unfold cmp; rw [List.length_map]
  rw [nv_len, ← lc, List.take_length] at eD
  exact ⟨D, _, rfl, .inl ⟨SqL.of eD, fun l hl => q l _ (sG.trans (Same.new hl _)) (sG.free hl) upd_same⟩⟩
theorem scSw : FnScope nSw ["states", "letters"] (defScope sSw) := ⟨rfl, rfl, rfl, by decide +kernel, rfl, by decide +kernel, by decide +kernel⟩
theorem ok_sw (F : Fun K "_shortest_words" "_shortest_words" sSw f fd) (M : Mn mg) (mL : ∃ t, mg "LARGEST_TABLE" = some (.int 16 t))
    (TE : ETx K mg "TooMany" "count" CO fE) (FE : FnOk P w K mg base CX0 1 fE dE ["self", "count"] (spEi K CO "count")) (bE : Binds K dE ["self", "count"] [])
    (G1 : FnOk P w K mg base CX0 1 f1 d1 ["first", "second"] (spCd K)) (b1 : Binds K d1 ["first", "second"] []) (k1 : PySem.W.keepIn K (.ref f1) = true) (m1 : mg "_composed" = some (.ref f1)) :
    FnOk P w K mg base (L2.CX P w) 3 f fd ["states", "letters"] (spSw CO) := by
  obtain ⟨tok, mL⟩ := mL
  refine F.okX scSw (fun vs H Q E h => ?_) (fun cdv A outer s H vs Q E hr h => ?_)
  · obtain ⟨n, l, L, rfl, _⟩ := h
    rfl
  obtain ⟨n, l, L, rfl, lo, hl, q, qE⟩ := h
  have hr1 : Room 1 _ := hr.mono (by decide)
  have hu := hr.units
  have hu1 : (A.deeper (PyProof.Rows.envOfC "_shortest_words" (defScope sSw) s.heap.objs.size f cdv)).units + 1 < cLine := by omega
  refine ⟨_, (pss_cons (ps_set (i := 2) scSw.nd rfl (Or.inl rfl) pe_dnewT) (pss_cons (ps_set (i := 3) scSw.nd rfl (Or.inl rfl) (pe_lst (pa_cons (pe_tup (pa_cons (pe_tupRg rfl (by rfl) M.tuple (prg_1 (by rfl) M.range (pv 0))) (pa_cons (pe_lst pa_nil) pa_nil))) pa_nil))) (pss_cons (ps_while (passes_of rfl) (pt_mo (pt_truth (pv 3) (fun _ => rfl))) (pss_cons (ps_set (i := 4) scSw.nd rfl (Or.inl rfl) (pe_lst pa_nil)) (pss_cons (ps_for (passes_of rfl) rfl (pi_list (pv 3)) (pg_tup rfl (pgs_cons (pg_name (i := 5) scSw.nd rfl (Or.inl rfl)) (pgs_cons (pg_name (i := 6) scSw.nd rfl (Or.inl rfl)) pgs_nil))) (pss_one (ps_for (passes_of rfl) rfl (pi_tup (pv 1)) (pg_tup rfl (pgs_cons (pg_name (i := 7) scSw.nd rfl (Or.inl rfl)) (pgs_cons (pg_name (i := 8) scSw.nd rfl (Or.inl rfl)) pgs_nil))) (pss_cons (ps_set (i := 9) scSw.nd rfl (Or.inl rfl) (pe_call G1 hr1 (by rfl) m1 k1 b1 .nil pass0 (pa_cons (pv 5) (pa_cons (pv 8) pa_nil)))) (pss_cons (ps_if (pt_cmp (pc_din (by exact hu1) (pv 9) (pv 2))) (pss_one ps_continue) pss_nil) (pss_cons (ps_if (pt_cmpR op_eq (pe_callB call_len_dT (by rfl) M.len PySem.boot_len (pa_cons (pv 2) pa_nil)) (pe_glob (v := .int 16) (by rfl) mL ⟨_, rfl⟩) (nomark _)) (pss_one (ps_raise rfl (takes_of rfl rfl rfl rfl) (pmk_val TE.ox TE.iC TE.tI TE.noF FE hr bE (by rfl) TE.mgC (pa_cons (pe_op op_add (pe_glob (v := .int 16) (by rfl) mL ⟨_, rfl⟩) pe_int) pa_nil)))) pss_nil) (pss_cons (ps_dput (by exact hu1) (pv 2) (pv 9) (pe_op op_cat (pv 6) (pe_lst (pa_cons (pv 7) pa_nil))) rfl) (pss_one (ps_expr (pe_bm PySem.F.plainAttrs_list PySem.F.slot_list_append PySem.F.type_list_append mt_append (pv 4) (pa_cons (pe_tup (pa_cons (pv 9) (pa_cons (pe_op op_cat (pv 6) (pe_lst (pa_cons (pv 7) pa_nil))) pa_nil))) pa_nil))))))))))) (pss_one (ps_set (i := 3) scSw.nd rfl (Or.inl rfl) (pv 4)))))) (pss_one (ps_ret (pv 2)))))), ?_⟩
  obtain ⟨ps, hps, prl⟩ := id hl
  have Mn0 : Mp n (List.range n) := ⟨List.length_range, fun x hx => List.mem_range.mp hx⟩
  have n5 := lo.n5
  refine fun D hD => ?_
  have s1 := Same.new hD (.dT [])
  have eD0 := upd_same (H := H) (a := D) (o := .dT [])
  generalize upd H D (.dT []) = H1 at s1 eD0 ⊢
  refine ⟨_, rfl, _, rfl, RgOk.of_le (by decide) (by omega) (by decide) (by omega), fun m0 hm0 => ⟨szl _ (by simp), fun w0 hw0 => ⟨szl _ (by simp), fun T0 hT0 => ⟨szl _ (by simp), fun la hla => ?_⟩⟩⟩⟩
  rw [rg_nv] at hw0 hT0 hla ⊢
  have u2 := Same.new hm0 (.tup (nv (List.range n)))
  have u3 := Same.new hw0 (.lst [])
  have u4 := Same.new hT0 (.tup [.ref m0, .ref w0])
  have u5 := Same.new hla (.lst [.ref T0])
  have sH5 := s1.trans (((u2.trans u3).trans u4).trans u5)
  have eD5 := u5 _ _ (u4 _ _ (u3 _ _ (u2 _ _ eD0)))
  have it0 : ItE (upd (upd (upd (upd H1 m0 (.tup (nv (List.range n)))) w0 (.lst [])) T0 (.tup [.ref m0, .ref w0])) la (.lst [.ref T0])) T0 (List.range n, []) :=
    ⟨m0, w0, u5 _ _ upd_same, u5 _ _ (u4 _ _ (u3 _ _ upd_same)), u5 _ _ (u4 _ _ upd_same)⟩
  have ela := upd_same (H := (upd (upd (upd H1 m0 (.tup (nv (List.range n)))) w0 (.lst [])) T0 (.tup [.ref m0, .ref w0]))) (a := la) (o := .lst [.ref T0])
  generalize (upd (upd (upd (upd H1 m0 (.tup (nv (List.range n)))) w0 (.lst [])) T0 (.tup [.ref m0, .ref w0])) la (.lst [.ref T0])) = H5 at sH5 eD5 it0 ela ⊢
  dsimp only [gName, tSeq]
  change tWhile _ _ _ [some (.int (n : Int)), some (.ref l), some (.ref D), some (.ref la), none, none, none, none, none, none] _
  refine while_by (fun σ J => ∃ S lr la x4 x5 x6 x7 x8 x9, σ = [some (.int (n : Int)), some (.ref l), some (.ref D), some (.ref la), x4, x5, x6, x7, x8, x9] ∧ Same H J ∧ Wd J D S ∧ Lay J la lr ∧ Sea n L S lr ∧ (∀ e, e ∈ lr → Mp n e.1 ∧ e.2.length ≤ S.length) ∧ ∀ r, Bf L S lr r → Res n L r) muSw
    ⟨[], [(List.range n, [])], la, _, _, _, _, _, _, rfl, sH5, ⟨[], eD5, .nil⟩, ⟨[T0], ela, .cons it0 .nil⟩, sea0 lo, fun e he => by rw [List.mem_singleton.mp he]; exact ⟨Mn0, Nat.le_refl _⟩, fun r h => h⟩ ?_ ?_
  rotate_left
  · rintro σ H Q Q' k ⟨R, h, r⟩
    exact ⟨R, h, fun x H1 z => k _ _ (r x H1 z)⟩
  rintro _ J ⟨S, lr, la, x4, x5, x6, x7, x8, x9, rfl, sJ, hW, hLy, sea, mpl, bf⟩
  obtain ⟨ts, eLa, prT⟩ := id hLy
  have lts : ts.length = lr.length := prT.length
  have emp : (!(ts.map V.ref).isEmpty) = !lr.isEmpty := by
    cases ts <;> cases lr <;> first | rfl | cases lts
  refine ⟨fun b G1 => J = G1 ∧ b = !lr.isEmpty, ⟨_, rfl, _, .inl ⟨_, SqL.of eLa, rfl⟩, rfl, emp⟩, ?_⟩
  rintro _ _ ⟨rfl, rfl⟩
  by_cases hlr : lr = []
  · subst hlr
    exact iteF ⟨_, rfl, q S D J (bf _ (.done S)) hW sJ hD⟩
  refine iteTt (by cases lr with
    | nil => exact absurd rfl hlr
    | cons => rfl) ?_
  refine ⟨szl _ (by simp), fun lg hlg => ?_⟩
  have mnU : ∀ {A : Hp} {o : HO}, mn lg (upd A lg o) = mn lg A := fun {A o} => by
    funext b
    unfold mn
    by_cases z : b = lg
    · rw [if_pos z, if_pos z]
    · rw [if_neg z, if_neg z, upd_ne z]
  have mnM : ∀ {A B : Hp}, Same A B → Same (mn lg A) (mn lg B) := fun {A B} s b o e => by
    have nb : b ≠ lg := fun z => by rw [z, mn_p] at e; cases e
    exact mn_sx _ _ nb (s _ _ (mn_same _ _ e))
  have sJm : Same J (mn lg J) := fun b o e => mn_sx _ _ (ne_of_none e hlg) e
  refine ⟨_, rfl, la, rfl, ⟨_, SqL.of (by rw [upd_ne (ne_of_none eLa hlg)]; exact eLa)⟩, ?_⟩
  refine for_it (walk_list (xs := ts.map V.ref)) (fun i σ G => ∃ S' lg' ts' x5 x6 x7 x8 x9, σ = [some (.int (n : Int)), some (.ref l), some (.ref D), some (.ref la), some (.ref lg), x5, x6, x7, x8, x9] ∧ Same H (mn lg G) ∧ mn lg G la = some (.lst (ts.map V.ref)) ∧ Paired (ItE (mn lg G)) ts lr ∧ Wd (mn lg G) D S' ∧
      G lg = some (.lst (ts'.map V.ref)) ∧ Paired (ItE (mn lg G)) ts' lg' ∧ lay L (lr.drop i) S' lg' = lay L lr S [] ∧ S'.length ≤ 16 ∧ lg'.length + S.length = S'.length ∧ ∀ e, e ∈ lg' → Mp n e.1 ∧ e.2.length ≤ S'.length)
    ⟨S, [], [], _, _, _, _, _, rfl, by rw [mnU]; exact sJ.trans sJm, by rw [mnU]; exact sJm _ _ eLa, by rw [mnU]; exact L2.Paired.mapP prT fun t e h => h.to fun b o z _ => sJm _ _ z, by rw [mnU]; exact hW.to sJm, upd_same, .nil, rfl, sea.le, by simp, fun _ z => (nomatch z)⟩
    (fun i σ G _ z => by
      obtain ⟨S', lg', ts', x5, x6, x7, x8, x9, _, _, e, _⟩ := z
      exact SqL.of (mn_same _ _ e)) ?_ ?_
  · rintro i y _ G G' hi ⟨S', lg', ts', x5, x6, x7, x8, x9, rfl, sF, eLa', prT', hW', eLo, prL, hlay, l16, ll, mpg⟩ ⟨rfl, hy⟩
    obtain ⟨T, hT, rfl⟩ := ref_at hy
    obtain ⟨st, hst, m, wd, e1, e2, e3⟩ := pair_at prT' hT
    have hil : i < lr.length := (List.getElem?_eq_some_iff.mp hst).1
    have hst' : lr.drop i = st :: lr.drop (i + 1) := by
      rw [List.drop_eq_getElem_cons hil]
      rw [List.getElem?_eq_getElem hil] at hst
      rw [Option.some.inj hst]
    obtain ⟨mst, wst⟩ := mpl st (List.mem_of_getElem? hst)
    refine ⟨T, _, rfl, SqT.of (mn_same _ _ e1), rfl, _, _, rfl, _, _, rfl, rfl, ?_⟩
    refine ⟨_, rfl, l, rfl, ⟨_, (hps.ext (sF.trans mn_same)).sq⟩, ?_⟩
    refine for_it (walk_tup (xs := ps.map V.ref)) (fun j σ G2 => ∃ S2 lg2 ts2 x7 x8 x9, σ = [some (.int (n : Int)), some (.ref l), some (.ref D), some (.ref la), some (.ref lg), some (.ref m), some (.ref wd), x7, x8, x9] ∧ (∀ b o, mn lg G' b = some o → (∀ k, o ≠ .dT k) → mn lg G2 b = some o) ∧ Same H (mn lg G2) ∧ Wd (mn lg G2) D S2 ∧
        G2 lg = some (.lst (ts2.map V.ref)) ∧ Paired (ItE (mn lg G2)) ts2 lg2 ∧ inn st (L.drop j) S2 lg2 = inn st L S' lg' ∧ S2.length ≤ 16 ∧ lg2.length + S.length = S2.length ∧ ∀ e, e ∈ lg2 → Mp n e.1 ∧ e.2.length ≤ S2.length)
      ⟨S', lg', ts', _, _, _, rfl, fun b o e _ => e, sF, hW', eLo, prL, rfl, l16, ll, mpg⟩ (fun j σ G2 _ z => by
        obtain ⟨S2, lg2, ts2, x7, x8, x9, _, _, sF2, _⟩ := z
        exact (hps.ext (sF2.trans mn_same)).sq) ?_ ?_
    · rintro j y _ G2 G3 hj ⟨S2, lg2, ts2, x7, x8, x9, rfl, nd2, sF2, hW2, eLo2, prL2, hin, l16', ll2, mpg2⟩ ⟨rfl, hy⟩
      obtain ⟨p, hp, rfl⟩ := ref_at hy
      obtain ⟨q1, hq1, t, ep, et⟩ := pair_at prl hp
      have hjl : j < L.length := (List.getElem?_eq_some_iff.mp hq1).1
      have hq1' : L.drop j = q1 :: L.drop (j + 1) := by
        rw [List.drop_eq_getElem_cons hjl]
        rw [List.getElem?_eq_getElem hjl] at hq1
        rw [Option.some.inj hq1]
      have hqm := List.mem_of_getElem? hq1
      have mq := lo.mp q1 hqm
      have sF2' := sF2.trans (mn_same (p := lg) (J := G3))
      refine ⟨p, _, rfl, SqT.of (sF2' _ _ ep), rfl, _, _, rfl, _, _, rfl, rfl, ?_⟩
      refine ⟨_, rfl, _, rfl, m, t, n, st.1, q1.2, rfl, SqT.of (mn_same _ _ (nd2 _ _ e2 fun k z => nomatch z)), SqT.of (sF2' _ _ et), mst, mq, n5, fun rx J3 s3 hrx erx => ?_⟩
      have sm3 := mnM s3
      have hW3 := hW2.to sm3
      obtain ⟨kvs, eD3, prD⟩ := id hW3
      have lkv : kvs.length = S2.length := prD.length
      have eD3' := mn_same _ _ eD3
      have nlg : rx ≠ lg := (ne_of_none eLo2 hrx).symm
      have eLo3 := s3 _ _ eLo2
      refine ⟨_, rfl, _, rfl, D, _, rfl, DGet.t (k := keyL (cmp st.1 q1.2)) eD3' (by rw [keyL_kV]; exact erx), ?_⟩
      rw [Wd.key prD]
      rw [hq1', inn_cons] at hin
      have st3 : (∀ b o, mn lg G' b = some o → (∀ k, o ≠ .dT k) → mn lg J3 b = some o) := fun b o e k => sm3 _ _ (nd2 b o e k)
      refine ⟨_, rfl, ?_⟩
      refine ite2 (fun c => ?_) (fun c => ?_)
      · have c' : cmp st.1 q1.2 ∈ keys S2 := of_decide_eq_true c
        rw [if_pos c'] at hin
        exact ⟨S2, lg2, ts2, _, _, _, rfl, st3, sF2.trans sm3, hW3, eLo3, L2.Paired.mapP prL2 fun t e h => h.to fun b o z _ => sm3 _ _ z, hin, l16', ll2, mpg2⟩
      have c' : cmp st.1 q1.2 ∉ keys S2 := fun z => c (decide_eq_true z)
      rw [if_neg c'] at hin
      refine ⟨_, rfl, D, kvs, rfl, eD3', rfl, _, rfl, ?_⟩
      refine ite2 (fun c2 => ?_) (fun c2 => ?_)
      · have c2' : S2.length = 16 := by
          have c3 : V.int ((kvs.length : Nat) : Int) = V.int 16 := of_decide_eq_true c2
          injection c3 with z
          omega
        rw [if_pos c2'] at hin
        have hl0 : lay L lr S [] = none := by
          rw [← hlay, hst', lay_cons, ← hin]
        exact ⟨fun vs H1 => vs = [.int 17] ∧ H1 = J3, ⟨_, _, rfl, rfl, rfl, rfl⟩, by rintro _ _ ⟨rfl, rfl⟩; exact ⟨.int 17, rfl, fun d hd => qE _ d (bf _ (.over hlr hl0)) ((sF2.trans sm3).trans mn_same) hd⟩⟩
      have c2' : ¬ S2.length = 16 := fun z => c2 (decide_eq_true (by rw [lkv, z]; rfl))
      rw [if_neg c2'] at hin
      have ewd := s3 _ _ (mn_same _ _ (nd2 _ _ e3 fun k z => nomatch z))
      have wlen : (st.2.map V.str).length + [V.str q1.1].length ≤ sizeLine := szl _ (by rw [List.length_map]; simp; omega)
      have emap : st.2.map V.str ++ [V.str q1.1] = (st.2 ++ [q1.1]).map V.str := by rw [List.map_append]; rfl
      refine ⟨_, rfl, _, rfl, szl _ (by simp), fun l1 hl1 => ⟨wd, l1, _, _, rfl, rfl, Same.new hl1 _ _ _ ewd, upd_same, wlen, fun w2 hw2 => ?_⟩⟩
      rw [emap]
      have s4 := (Same.new hl1 (.lst [.str q1.1])).trans (Same.new hw2 (.lst ((st.2 ++ [q1.1]).map V.str)))
      have ew2 := upd_same (H := upd J3 l1 (.lst [.str q1.1])) (a := w2) (o := .lst ((st.2 ++ [q1.1]).map V.str))
      have nw2 : w2 ≠ lg := fun z => by rw [z, Same.new hl1 _ _ _ eLo3] at hw2; cases hw2
      generalize upd (upd J3 l1 (.lst [.str q1.1])) w2 (.lst ((st.2 ++ [q1.1]).map V.str)) = J5 at s4 ew2 ⊢
      have eD5 := s4 _ _ eD3'
      have erx5 := s4 _ _ erx
      have vn : valV kvs (keyL (cmp st.1 q1.2)) = none := by
        have := Wd.key prD (cmp st.1 q1.2)
        rw [decide_eq_false c'] at this
        cases hv : valV kvs (keyL (cmp st.1 q1.2)) with
        | none => rfl
        | some v => rw [hv] at this; cases this
      refine ⟨_, rfl, _, rfl, D, _, rfl, DPut.t (k := keyL (cmp st.1 q1.2)) eD5 (by rw [keyL_kV]; exact erx5) (by rw [lkv, sizeLine_eq]; omega), ?_⟩
      rw [putK_new _ vn]
      have n6 : ∀ b o, J5 b = some o → (∀ k, o ≠ .dT k) → (upd J5 D (.dT (kvs ++ [(keyL (cmp st.1 q1.2), .ref w2)]))) b = some o := fun b o e k => by
        rw [upd_ne (fun z => k kvs (by rw [z, eD5] at e; exact (Option.some.inj e).symm))]; exact e
      have sH6 : Same H (upd J5 D (.dT (kvs ++ [(keyL (cmp st.1 q1.2), .ref w2)]))) := fun b o e => by
        rw [upd_ne (ne_of_none e hD)]; exact s4 _ _ (mn_same _ _ (sm3 _ _ (sF2 _ _ e)))
      have eD6 := upd_same (H := J5) (a := D) (o := .dT (kvs ++ [(keyL (cmp st.1 q1.2), .ref w2)]))
      generalize upd J5 D (.dT (kvs ++ [(keyL (cmp st.1 q1.2), .ref w2)])) = J6 at n6 sH6 eD6 ⊢
      have eLo6 := n6 _ _ (s4 _ _ eLo3) fun k z => nomatch z
      have ewd6 := n6 _ _ (s4 _ _ ewd) fun k z => nomatch z
      refine ⟨_, rfl, .inl ⟨rfl, _, SqL.of eLo6⟩, _, rfl, _, rfl, _, rfl, szl _ (by simp), fun l3 hl3 => ⟨wd, l3, _, _, rfl, rfl, Same.new hl3 _ _ _ ewd6, upd_same, wlen, fun w3 hw3 => ⟨szl _ (by simp), fun T2 hT2 => ?_⟩⟩⟩
      rw [emap] at hT2 ⊢
      have s7 := ((Same.new hl3 (.lst [.str q1.1])).trans (Same.new hw3 (.lst ((st.2 ++ [q1.1]).map V.str)))).trans (Same.new hT2 (.tup [.ref rx, .ref w3]))
      have ew3 := Same.new hT2 (.tup [.ref rx, .ref w3]) _ _ (upd_same (H := upd J6 l3 (.lst [.str q1.1])) (a := w3) (o := .lst ((st.2 ++ [q1.1]).map V.str)))
      have eT2 := upd_same (H := upd (upd J6 l3 (.lst [.str q1.1])) w3 (.lst ((st.2 ++ [q1.1]).map V.str))) (a := T2) (o := .tup [.ref rx, .ref w3])
      have nw3 : w3 ≠ lg := fun z => by rw [z, Same.new hl3 _ _ _ eLo6] at hw3; cases hw3
      have nT2 : T2 ≠ lg := (ne_of_none (((Same.new hl3 (.lst [.str q1.1])).trans (Same.new hw3 (.lst ((st.2 ++ [q1.1]).map V.str)))) _ _ eLo6) hT2).symm
      generalize upd (upd (upd J6 l3 (.lst [.str q1.1])) w3 (.lst ((st.2 ++ [q1.1]).map V.str))) T2 (.tup [.ref rx, .ref w3]) = J9 at s7 ew3 eT2 ⊢
      have eLo9 := s7 _ _ eLo6
      have lts2 : ts2.length = lg2.length := prL2.length
      refine ⟨lg, _, _, rfl, rfl, eLo9, by rw [List.length_map]; exact small1000 (by omega), ?_⟩
      have up : ∀ b o, mn lg J3 b = some o → (∀ k, o ≠ .dT k) → mn lg J9 b = some o := fun b o e k => by
        have nb : b ≠ lg := fun z => by rw [z, mn_p] at e; cases e
        exact mn_sx _ _ nb (s7 _ _ (n6 _ _ (s4 _ _ (mn_same _ _ e)) k))
      have nDl : D ≠ lg := fun z => by rw [z, mn_p] at eD3; cases eD3
      refine ⟨S2 ++ [new st q1], lg2 ++ [new st q1], ts2 ++ [T2], _, _, _, rfl, ?_, ?_, ?_, ?_, ?_, hin, ?_, ?_, ?_⟩
      all_goals try rw [mnU]
      · exact fun b o e k => up _ _ (st3 b o e k) k
      · exact fun b o e => mn_sx _ _ (ne_of_none (sJ _ _ e) hlg) (s7 _ _ (sH6 _ _ e))
      · refine ⟨_, mn_sx _ _ nDl (s7 _ _ eD6), pair_app (L2.Paired.mapP prD fun kv e ⟨h1, a, h2, h3⟩ => ⟨h1, a, h2, up _ _ h3 fun k z => nomatch z⟩) ⟨rfl, w2, rfl, ?_⟩⟩
        exact mn_sx _ _ nw2 (s7 _ _ (n6 _ _ ew2 fun k z => nomatch z))
      · rw [upd_same, List.map_append]; rfl
      · refine pair_app (L2.Paired.mapP prL2 fun t e h => h.to fun b o z k => up _ _ (sm3 _ _ z) k) ⟨rx, w3, mn_sx _ _ nT2 eT2, mn_sx _ _ nlg (s7 _ _ (n6 _ _ erx5 fun k z => nomatch z)), mn_sx _ _ nw3 ew3⟩
      · rw [List.length_append]; show S2.length + 1 ≤ 16; omega
      · rw [List.length_append, List.length_append]; simp; omega
      · intro e he
        rw [List.length_append]
        rcases List.mem_append.mp he with h | h
        · obtain ⟨a1, a2⟩ := mpg2 e h
          exact ⟨a1, by simp; omega⟩
        · rw [List.mem_singleton.mp h]
          refine ⟨cmp_mp mst mq, ?_⟩
          show (st.2 ++ [q1.1]).length ≤ _
          rw [List.length_append]; simp; omega
    · rintro _ G2 ⟨S2, lg2, ts2, x7, x8, x9, rfl, nd2, sF2, hW2, eLo2, prL2, hin, l16', ll2, mpg2⟩
      have lps : ps.length = L.length := prl.length
      rw [List.length_map, lps, List.drop_length] at hin
      have hin' : some (S2, lg2) = inn st L S' lg' := hin
      refine ⟨S2, lg2, ts2, _, _, _, _, _, rfl, sF2, nd2 _ _ eLa' (fun k z => nomatch z), L2.Paired.mapP prT' fun t e h => h.to nd2, hW2, eLo2, prL2, ?_, l16', ll2, mpg2⟩
      have e0 : lay L (st :: lr.drop (i + 1)) S' lg' = lay L (lr.drop (i + 1)) S2 lg2 := by
        rw [lay_cons, ← hin']
      rw [← e0, ← hst']
      exact hlay
  · rintro _ G ⟨S', lg', ts', x5, x6, x7, x8, x9, rfl, sF, eLa', prT', hW', eLo, prL, hlay, l16, ll, mpg⟩
    rw [List.length_map, lts, List.drop_length] at hlay
    have hlay' : lay L lr S [] = some (S', lg') := hlay.symm
    refine ⟨_, rfl, ⟨S', lg', lg, _, _, _, _, _, _, rfl, sF.trans mn_same, hW'.to mn_same, ⟨ts', eLo, L2.Paired.mapP prL fun t e h => h.to fun b o z _ => mn_same _ _ z⟩, sea.next hlay', mpg, fun r h => bf r (.next hlr hlay' h)⟩, ?_⟩
    obtain ⟨kvs, eD, prD⟩ := id hW
    obtain ⟨kvs', eD', prD'⟩ := id hW'
    have k1 : kvs.length = S.length := prD.length
    have k2 : kvs'.length = S'.length := prD'.length
    have k3 : ts'.length = lg'.length := prL.length
    have k4 := sea.le
    have k5 : 1 ≤ lr.length := List.length_pos_iff.mpr hlr
    rw [muSw_of (a := D) (b := lg) rfl (mn_same _ _ eD') rfl eLo, muSw_of (a := D) (b := la) rfl eD rfl eLa, k1, k2, List.length_map, List.length_map, lts, k3]
    omega
end
end L

set_option Elab.async false
set_option linter.all false
set_option maxRecDepth 100000
set_option maxHeartbeats 4000000
set_option pp.maxSteps 400
namespace L
open PySem L2 KX
abbrev sAl : Stmt := top 50
abbrev sTi : Stmt := inClass (top 49) 0
abbrev nAl : List Str := ["states", "letters", "name"]
abbrev nTi : List Str := ["self", "states", "letters", "words", "name", "targets"]
theorem ctu {X : Cx} {K : PySem.W.Frag} (hK : X.K = K) : CallR X (.type "tuple") (fun xs H Q => ∃ p ys, xs = [.ref p] ∧ ((SqL K H p ys ∧ ∀ l, H l = none → Q (.ref l) (upd H l (.tup ys))) ∨ (SqT K H p ys ∧ Q (.ref p) H))) := by subst hK; exact call_tuple_of
structure TfX (K : PySem.W.Frag) (CF : Addr) : Prop where
  cl : Cls K CF
  n1 : NoAttr K CF "_states"
  n2 : NoAttr K CF "_letters"
  n3 : NoAttr K CF "_contents"
  n4 : NoAttr K CF "_words"
structure NmOk (L : Ltt) : Prop where
  nd : (L.map (·.1)).Nodup
  nm : ∀ q, q ∈ L → nm q.1 = true
/-- the letters that are passed -/
def GvP (H : Hp) (kvs : List (Key × V)) (L : Ltt) : Prop := Paired (fun (kv : Key × V) (q : Str × List Nat) => kv.1 = Sum.inr q.1 ∧ ∃ a, kv.2 = .ref a ∧ H a = some (.lst (nv q.2))) kvs L
def Gv (H : Hp) (l : Addr) (L : Ltt) : Prop := ∃ kvs, H l = some (.dK kvs) ∧ GvP H kvs L
theorem Gv.to {H H' : Hp} {l : Addr} {L : Ltt} (h : Gv H l L) (s : Same H H') : Gv H' l L := by
  obtain ⟨kvs, e, pr⟩ := h
  exact ⟨kvs, s _ _ e, L2.Paired.mapP pr fun kv q ⟨a, b, c, d⟩ => ⟨a, b, c, s _ _ d⟩⟩
/-- letters whose targets are lists or tuples -/
def GtP (H : Hp) (kvs : List (Key × V)) (L : Ltt) : Prop := Paired (fun (kv : Key × V) (q : Str × List Nat) => kv.1 = Sum.inr q.1 ∧ ∃ a, kv.2 = .ref a ∧ (H a = some (.lst (nv q.2)) ∨ H a = some (.tup (nv q.2)))) kvs L
def Gt (H : Hp) (l : Addr) (L : Ltt) : Prop := ∃ kvs, H l = some (.dK kvs) ∧ GtP H kvs L
theorem Gt.to {H H' : Hp} {l : Addr} {L : Ltt} (h : Gt H l L) (s : Same H H') : Gt H' l L := by
  obtain ⟨kvs, e, pr⟩ := h
  exact ⟨kvs, s _ _ e, L2.Paired.mapP pr fun kv q ⟨a, b, c, d⟩ => ⟨a, b, c, d.imp (s _ _) (s _ _)⟩⟩
theorem Gv.t {H : Hp} {l : Addr} {L : Ltt} (h : Gv H l L) : Gt H l L := by
  obtain ⟨kvs, e, pr⟩ := h
  exact ⟨kvs, e, L2.Paired.mapP pr fun kv q ⟨a, b, c, d⟩ => ⟨a, b, c, .inl d⟩⟩
theorem GtP.keys {H : Hp} {kvs : List (Key × V)} {L : Ltt} (h : GtP H kvs L) : kvs.map (·.1) = L.map fun q => (Sum.inr q.1 : Key) := by
  unfold GtP at h
  induction h with
  | nil => rfl
  | cons h _ ih => rw [List.map_cons, List.map_cons, ih, h.1]
theorem GtP.nd {H : Hp} {kvs : List (Key × V)} {L : Ltt} (h : GtP H kvs L) (n : NmOk L) : (kvs.map (·.1)).Nodup := by
  rw [h.keys]
  exact List.pairwise_map.mpr ((List.pairwise_map.mp n.nd).imp fun ne e => ne (Sum.inr.inj e))
theorem lt_ne {H : Hp} {b a : Addr} {m : List Nat} {o : HO} (h : H b = some (.lst (nv m)) ∨ H b = some (.tup (nv m))) (ha : H a = some o) (n1 : ∀ xs, o ≠ .lst xs) (n2 : ∀ xs, o ≠ .tup xs) : b ≠ a := fun z => by
  rw [z, ha] at h
  rcases h with h | h
  · exact n1 _ (Option.some.inj h)
  · exact n2 _ (Option.some.inj h)
theorem GvP.keys {H : Hp} {kvs : List (Key × V)} {L : Ltt} (h : GvP H kvs L) : kvs.map (·.1) = L.map fun q => (Sum.inr q.1 : Key) := by
  unfold GvP at h
  induction h with
  | nil => rfl
  | cons h _ ih => rw [List.map_cons, List.map_cons, ih, h.1]
theorem GvP.nd {H : Hp} {kvs : List (Key × V)} {L : Ltt} (h : GvP H kvs L) (n : NmOk L) : (kvs.map (·.1)).Nodup := by
  rw [h.keys]
  exact List.pairwise_map.mpr ((List.pairwise_map.mp n.nd).imp fun ne e => ne (Sum.inr.inj e))
structure TrA (CF : Addr) (H : Hp) (a : Addr) (n : Nat) (L : Ltt) (S : List En) : Prop where
  ob : ∃ dx tl cl wl, H a = some (.ins CF dx [("_states", .int (n : Int)), ("_letters", .ref tl), ("_contents", .ref cl), ("_words", .ref wl)]) ∧ Ltr H tl L ∧
    (∃ bs : List Addr, H cl = some (.lst (bs.map V.ref)) ∧ Paired (fun b (e : En) => H b = some (.tup (nv e.1))) bs S) ∧ ∃ ws : List Addr, H wl = some (.lst (ws.map V.ref)) ∧ Paired (fun b (e : En) => H b = some (.lst (e.2.map V.str))) ws S
theorem TrA.to {CF : Addr} {H H' : Hp} {a : Addr} {n : Nat} {L : Ltt} {S : List En} (h : TrA CF H a n L S) (s : Same H H') : TrA CF H' a n L S := by
  obtain ⟨dx, tl, cl, wl, e, hl, ⟨bs, e1, p1⟩, ws, e2, p2⟩ := h.ob
  exact ⟨dx, tl, cl, wl, s _ _ e, hl.to s, ⟨bs, s _ _ e1, L2.Paired.mapP p1 fun b e h => s _ _ h⟩, ws, s _ _ e2, L2.Paired.mapP p2 fun b e h => s _ _ h⟩
theorem pair_join {α β γ : Type} {R : α → β → Prop} {Q : α → γ → Prop} : ∀ {as : List α} {bs : List β} {cs : List γ}, Paired R as bs → Paired Q as cs → Paired (fun b c => ∃ a, R a b ∧ Q a c) bs cs
  | _, _, _, .nil, .nil => .nil
  | _, _, _, .cons h t, .cons h' t' => .cons ⟨_, h, h'⟩ (pair_join t t')
theorem wd_refs {H : Hp} {kvs : List (List Key × V)} {S : List En} (h : Paired (fun (kv : List Key × V) (e : En) => kv.1 = keyL e.1 ∧ ∃ a, kv.2 = .ref a ∧ H a = some (.lst (e.2.map V.str))) kvs S) : ∃ ws : List Addr, kvs.map (·.2) = ws.map V.ref ∧ Paired (fun b (e : En) => H b = some (.lst (e.2.map V.str))) ws S := by
  induction h with
  | nil => exact ⟨[], rfl, .nil⟩
  | cons h _ ih =>
    obtain ⟨ws, e1, e2⟩ := ih
    obtain ⟨_, a, h2, h3⟩ := h
    exact ⟨a :: ws, by rw [List.map_cons, List.map_cons, e1, h2], .cons h3 e2⟩
def spAl : Sp := fun vs H Q _ => ∃ (n : Nat) (l : Addr) (L : Ltt), vs = [.int (n : Int), .ref l] ∧ LOk n L ∧ NmOk L ∧ Gt H l L ∧ ∀ H', Same H H' → Q (.bl true) H'
def spTi (CF CO : Addr) : Sp := fun vs H Q E => ∃ (a dx : Addr) (n : Nat) (l : Addr) (L : Ltt), vs = [.ref a, .int (n : Int), .ref l] ∧ H a = some (.ins CF dx []) ∧ LOk n L ∧ NmOk L ∧ Gt H l L ∧
  (∀ S H', Res n L (some S) → TrA CF H' a n L S → (∀ b o, b ≠ a → H b = some o → H' b = some o) → Q .non H') ∧ (∀ H' d, Res n L none → (∀ b o, b ≠ a → H b = some o → H' b = some o) → H' d = none → E (.ref CO) (some d) (upd H' d (.xd [("count", .int 17)])))
section
variable {P : Program} {w : World} {K : PySem.W.Frag} {mg : Str → Option Value} {base : Heap} {f f1 f2 f3 : Addr} {fd d1 d2 d3 : FuncData} {C CF CO : Addr}
theorem scAl : FnScope nAl ["states", "letters"] (defScope sAl) := ⟨rfl, rfl, rfl, by decide +kernel, rfl, by decide +kernel, by decide +kernel⟩
theorem ok_al (F : Fun K "_are_letters" "_are_letters" sAl f fd) (M : Mn mg) (mL : ∃ t, mg "MOST_LETTERS" = some (.int 4 t))
    (G1 : FnOk P w K mg base CX0 1 f1 d1 ["value"] (spIsName K)) (b1 : Binds K d1 ["value"] []) (k1 : PySem.W.keepIn K (.ref f1) = true) (m1 : mg "is_name" = some (.ref f1))
    (G2 : FnOk P w K mg base CX0 3 f2 d2 ["value", "least", "most", "limit"] (spNumList K)) (b2 : Binds K d2 ["value", "least", "most", "limit"] []) (k2 : PySem.W.keepIn K (.ref f2) = true) (m2 : mg "is_number_list" = some (.ref f2)) :
    FnOk P w K mg base CX0 4 f fd ["states", "letters"] spAl := by
  obtain ⟨tok, mL⟩ := mL
  refine F.ok scAl (fun vs H Q E h => ?_) (fun cdv A outer s H vs Q E hr h => ?_)
  · obtain ⟨n, l, L, rfl, _⟩ := h
    rfl
  obtain ⟨n, l, L, rfl, lo, no, hG, q⟩ := h
  have hr1 : Room 1 _ := hr.mono (by decide)
  have hr3 : Room 3 _ := hr.mono (by decide)
  have hu := hr.units
  have hu1 : (A.deeper (PyProof.Rows.envOfC "_are_letters" (defScope sAl) s.heap.objs.size f cdv)).units + 1 < cLine := by omega
  refine ⟨_, (pss_cons (ps_if (pw_or (pt_not (pt_val (pe_callB call_isi (by rfl) M.isin (by decide +kernel) (pa_cons (pv 1) (pa_cons (pe_bltn (v := .ty "dict") (by rfl) M.dict (by decide +kernel) rfl) pa_nil))))) (pw_or1 (pt_not (pt_chain op_le op_le pe_int (pe_callB call_lenD (by rfl) M.len PySem.boot_len (pa_cons (pv 1) pa_nil)) (pe_glob (v := .int 4) (by rfl) mL ⟨_, rfl⟩))))).pt (pss_one (ps_ret pe_bl)) pss_nil) (pss_one (ps_lock (ps_ret (pe_callB (cr_all rfl) (by rfl) M.all (by decide +kernel) (pa_cons (pe_lc (own := [("name", 2)]) (g := gName 2) (tt := tYes) rfl scAl.nd (pi_keys (pv 1)) (blkOk_by (N := nAl) (sc := defScope sAl) (by decide +kernel)) (fun _ _ _ _ _ => (pg_name (i := 2) scAl.nd rfl (Or.inl rfl))) (fun _ _ _ _ _ => pts_nil) (fun _ _ _ _ _ => (pe_and (pe_call G1 hr1 (by rfl) m1 k1 b1 .nil pass0 (pa_cons (pv 2) pa_nil)) (pe_one (pe_call G2 hr3 (by rfl) m2 k2 b2 .nil pass0 (pa_cons (pe_dget (by exact hu1) (pv 1) (pv 2) (fun _ _ => rfl)) (pa_cons (pv 0) (pa_cons (pv 0) (pa_cons (pv 0) pa_nil))))))))) pa_nil)))))), ?_⟩
  obtain ⟨kvs, eg, pr⟩ := hG
  have lk : kvs.length = L.length := pr.length
  have l1 := lo.le
  have l4 := lo.ge
  have n1 := lo.n1
  have n5 := lo.n5
  have nd := GtP.nd pr no
  refine ⟨_, rfl, _, .ty "dict", .type "dict", .type "dict", true, rfl, .ty _, .base (.dK eg), kit_ty (by decide +kernel), true, rfl, iteF ?_⟩
  refine ⟨_, rfl, l, kvs, rfl, eg, _, _, rfl, rfl, _, rfl, ?_⟩
  rw [lk]
  refine iteTt (decide_eq_true (by omega)) ⟨_, _, rfl, rfl, _, rfl, iteFf (by rw [decide_eq_true (by omega)]; rfl) ?_⟩
  refine ⟨l, .dK kvs, eg, trivial, fun od => ?_⟩
  have eF := upd_same (H := H) (a := l) (o := .frz od (.dK kvs))
  have sHF : ∀ b o, b ≠ l → H b = some o → (upd H l (.frz od (.dK kvs))) b = some o := fun b o n e => by rw [upd_ne n]; exact e
  generalize upd H l (.frz od (.dK kvs)) = F at eF sHF ⊢
  refine ⟨_, rfl, l, od, rfl, .inl ⟨kvs, eF, fun D hD => ?_⟩⟩
  refine lc_it walk_keys (fun i G => Same F G ∧ G D = some (.lst ((List.replicate i true).map V.bl))) ⟨Same.new hD _, upd_same⟩ (fun i G _ z => z.1 _ _ eF) ?_ ?_
  · rintro i y G G' hi ⟨sG, eD⟩ ⟨rfl, k, v, hk, rfl⟩
    obtain ⟨q1, hq1, rfl, b, rfl, eb⟩ := pair_at pr hk
    have hqm := List.mem_of_getElem? hq1
    have nbl : b ≠ l := lt_ne eb eg (fun _ z => nomatch z) (fun _ z => nomatch z)
    have mq := lo.mp q1 hqm
    refine ⟨rfl, _, rfl, .str q1.1, nm q1.1, rfl, .inl ⟨q1.1, rfl, (lo.ss q1 hqm).mono (by decide), rfl⟩, fun G1 s1 => ?_⟩
    rw [no.nm q1 hqm]
    have sF1 := sG.trans s1
    have numb : (nv q1.2).all (nb (n : Int)) = true := List.all_eq_true.mpr fun x hx => by
      obtain ⟨y, hy, rfl⟩ := List.mem_map.mp hx
      have := mq.2 y hy
      show (decide ((0 : Int) ≤ (y : Int)) && decide ((y : Int) < (n : Int))) = true
      rw [decide_eq_true (by omega), decide_eq_true (by omega)]; rfl
    have itm : ∀ x, x ∈ nv q1.2 → Itm K G1 x := fun x hx => by
      obtain ⟨y, _, rfl⟩ := List.mem_map.mp hx
      exact .inl ⟨_, rfl⟩
    have gd : DGet G1 l (.str q1.1) (some (.ref b)) := .inl ⟨kvs, Sum.inr q1.1, .inr ⟨od, sF1 _ _ eF⟩, rfl, (val_nodup nd _ (List.mem_of_getElem? hk)).symm⟩
    refine ⟨_, rfl, iteT ⟨_, rfl, _, rfl, l, _, rfl, gd, _, rfl, _, rfl, _, rfl, .ref b, _, _, _, rfl, .inl ⟨nv q1.2, ⟨b, rfl, eb.elim (fun e => .inl (SqL.of (sF1 _ _ (sHF _ _ nbl e)))) (fun e => .inr (SqT.of (sF1 _ _ (sHF _ _ nbl e))))⟩, itm, by rw [nv_len, mq.1]; omega, fun G2 s2 => ?_⟩⟩⟩
    rw [nv_len, mq.1, decide_eq_true (Int.le_refl _), numb]
    have sF2 := sF1.trans s2
    refine ⟨_, s2 _ _ (s1 _ _ eD), by rw [List.length_map, List.length_replicate]; exact small1000 (by omega), fun c o e => by rw [upd_ne (ne_of_none e hD)]; exact sF2 _ _ e, ?_⟩
    rw [upd_same, List.replicate_succ', List.map_append]; rfl
  rintro G ⟨sG, eD⟩
  refine ⟨D, _, rfl, SqL.of eD, sG _ _ eF, ?_⟩
  rw [show (List.replicate kvs.length true).all id = true from List.all_eq_true.mpr fun x hx => (List.eq_of_mem_replicate hx)]
  refine q _ fun b o e => ?_
  by_cases c : b = l
  · rw [c, upd_same]; rw [c, eg] at e; exact e
  · rw [upd_ne c]; exact sG _ _ (sHF _ _ c e)
theorem scTi : FnScope nTi ["self", "states", "letters"] (defScope sTi) := ⟨rfl, rfl, rfl, by decide +kernel, rfl, by decide +kernel, by decide +kernel⟩
theorem ok_ti (F : Fun K "__init__" "Transformations.__init__" sTi f fd) (M : Mn mg) (U : TfX K CF) (mS : ∃ t, mg "MOST_STATES" = some (.int 5 t))
    (G1 : FnOk P w K mg base CX0 1 f1 d1 ["value"] (spIsInt K)) (b1 : Binds K d1 ["value"] []) (k1 : PySem.W.keepIn K (.ref f1) = true) (m1 : mg "is_integer" = some (.ref f1))
    (G2 : FnOk P w K mg base CX0 4 f2 d2 ["states", "letters"] spAl) (b2 : Binds K d2 ["states", "letters"] []) (k2 : PySem.W.keepIn K (.ref f2) = true) (m2 : mg "_are_letters" = some (.ref f2))
    (G3 : FnOk P w K mg base (L2.CX P w) 3 f3 d3 ["states", "letters"] (spSw CO)) (b3 : Binds K d3 ["states", "letters"] []) (k3 : PySem.W.keepIn K (.ref f3) = true) (m3 : mg "_shortest_words" = some (.ref f3)) :
    FnOk P w K mg base (L2.CX P w) 5 f fd ["self", "states", "letters"] (spTi CF CO) := by
  obtain ⟨tok, mS⟩ := mS
  refine F.okX scTi (fun vs H Q E h => ?_) (fun cdv A outer s H vs Q E hr h => ?_)
  · obtain ⟨a, dx, n, l, L, rfl, _⟩ := h
    rfl
  obtain ⟨a, dx, n, l, L, rfl, ha, lo, no, hG, q, qE⟩ := h
  have hr1 : Room 1 _ := hr.mono (by decide)
  have hr3 : Room 3 _ := hr.mono (by decide)
  have hr4 : Room 4 _ := hr.mono (by decide)
  have hu := hr.units
  refine ⟨_, (pss_cons (ps_if (pw_or (pt_not (pt_val (pe_call G1 hr1 (by rfl) m1 k1 b1 .nil pass0 (pa_cons (pv 1) pa_nil)))) (pw_or1 (pt_not (pt_chain op_le op_le pe_int (pv 1) (pe_glob (v := .int 5) (by rfl) mS ⟨_, rfl⟩))))).pt pss_dead pss_nil) (pss_cons (ps_if (pt_not (pt_val (pe_call G2 hr4 (by rfl) m2 k2 b2 .nil pass0 (pa_cons (pv 1) (pa_cons (pv 2) pa_nil))))) pss_dead pss_nil) (pss_cons (ps_fld (pv 0) (pv 1) rfl) (pss_cons (ps_lock (ps_fld (pv 0) (pe_callTy (call_tuple_F (K := K) rfl) (by rfl) M.tuple (by decide +kernel) (pa_cons (pe_lc (own := [("name", 4), ("targets", 5)]) (g := gTup _ 2 (gCons (gName 4) (gCons (gName 5) gNil))) (tt := tYes) rfl scTi.nd (pi_items (pv 2)) (blkOk_by (N := nTi) (sc := defScope sTi) (by decide +kernel)) (fun _ _ _ _ _ => (pg_tup rfl (pgs_cons (pg_name (i := 4) scTi.nd rfl (Or.inl rfl)) (pgs_cons (pg_name (i := 5) scTi.nd rfl (Or.inl rfl)) pgs_nil)))) (fun _ _ _ _ _ => pts_nil) (fun _ _ _ _ _ => (pe_tup (pa_cons (pv 4) (pa_cons (pe_callTy (ctu (K := K) rfl) (by rfl) M.tuple (by decide +kernel) (pa_cons (pv 5) pa_nil)) pa_nil))))) pa_nil)) rfl)) (pss_cons (ps_set (i := 3) scTi.nd rfl (Or.inl rfl) (pe_call G3 hr3 (by rfl) m3 k3 b3 .nil (passes_call (takes_of rfl rfl rfl rfl) (fun _ _ _ _ h => h)) (pa_cons (pv 1) (pa_cons (pe_fld (pv 0) rfl) pa_nil)))) (pss_cons (ps_fld (pv 0) (pe_callTy (call_list_dT rfl) (by rfl) M.list (by decide +kernel) (pa_cons (pv 3) pa_nil)) rfl) (pss_one (ps_fld (pv 0) (pe_listVals rfl (by rfl) M.list (pv 3)) rfl)))))))), ?_⟩
  obtain ⟨kvs, eg, pr⟩ := id hG
  have nd := GtP.nd pr no
  have n1 := lo.n1
  have n5 := lo.n5
  have l4 := lo.ge
  have nla : l ≠ a := ne_of eg ha fun z => nomatch z
  let FF : Hp := mn a H
  have nF : FF a = none := mn_p
  have sF : Same FF H := mn_same
  have toF : ∀ b o, b ≠ a → H b = some o → FF b = some o := fun b o n e => mn_sx _ _ n e
  have egF : FF l = some (.dK kvs) := toF _ _ nla eg
  have prF : GtP FF kvs L := L2.Paired.mapP pr fun kv q ⟨x, b, y, z⟩ => ⟨x, b, y, z.imp (toF _ _ (lt_ne z ha (fun _ z => nomatch z) (fun _ z => nomatch z))) (toF _ _ (lt_ne z ha (fun _ z => nomatch z) (fun _ z => nomatch z)))⟩
  generalize FF = F at nF sF toF egF prF
  have nx : ∀ {J : Hp} {o : HO}, Same F J → Same F (upd J a o) := fun h b o e => by rw [upd_ne (ne_of_none e nF)]; exact h _ _ e
  have out : ∀ {J : Hp}, Same F J → ∀ b o, b ≠ a → H b = some o → J b = some o := fun h b o n e => h _ _ (toF b o n e)
  refine ⟨_, rfl, _, true, false, rfl, ⟨_, .base (.int _), kit_ty (by decide +kernel), kit_ty (by decide +kernel)⟩, _, rfl, iteF ?_⟩
  refine ⟨_, rfl, _, _, rfl, rfl, _, rfl, iteTt (decide_eq_true (by omega)) ⟨_, _, rfl, rfl, _, rfl, iteFf (by rw [decide_eq_true (by omega)]; rfl) ?_⟩⟩
  refine ⟨_, rfl, _, rfl, n, l, L, rfl, lo, no, hG, fun H1 s1 => ⟨_, rfl, iteF ?_⟩⟩
  have ha1 := s1 _ _ ha
  have sF1 := sF.trans s1
  refine ⟨_, rfl, _, rfl, a, CF, dx, _, rfl, ha1, U.cl, U.n1, (by show 0 < 1000; decide), ?_⟩
  have sF2 := nx (o := .ins CF dx (putF (Str.ofString "_states") (.int (n : Int)) [])) sF1
  have c2 : (upd H1 a (.ins CF dx (putF (Str.ofString "_states") (.int (n : Int)) []))) a = some (.ins CF dx [("_states", .int (n : Int))]) := upd_same
  generalize upd H1 a (.ins CF dx (putF (Str.ofString "_states") (.int (n : Int)) [])) = H2 at sF2 c2 ⊢
  have el2 := sF2 _ _ egF
  refine ⟨l, .dK kvs, el2, trivial, fun od => ?_⟩
  have e3 := upd_same (H := H2) (a := l) (o := .frz od (.dK kvs))
  have s3 : ∀ b o, b ≠ l → H2 b = some o → (upd H2 l (.frz od (.dK kvs))) b = some o := fun b o n e => by rw [upd_ne n]; exact e
  have f3 : ∀ b, (upd H2 l (.frz od (.dK kvs))) b = none → H2 b = none := fun b e => by
    by_cases z : b = l
    · rw [z, e3] at e; cases e
    · rw [upd_ne z] at e; exact e
  generalize upd H2 l (.frz od (.dK kvs)) = H3 at e3 s3 f3 ⊢
  refine ⟨_, rfl, l, od, kvs, rfl, e3, fun D hD => ?_⟩
  refine lc_it walk_items (fun i G => Same H3 G ∧ ∃ ps : List Addr, G D = some (.lst (ps.map V.ref)) ∧ Paired (fun p (q : Str × List Nat) => p ≠ D ∧ ∃ t, t ≠ D ∧ G p = some (.tup [.str q.1, .ref t]) ∧ G t = some (.tup (nv q.2))) ps (L.take i)) ⟨Same.new hD _, [], upd_same, .nil⟩ (fun i G _ z => z.1 _ _ e3) ?_ ?_
  · rintro i y G1 G2 hi ⟨sG, ps, eD, pps⟩ ⟨T, y1, y2, rfl, hT, rfl, g1, g2⟩
    obtain ⟨⟨k, v⟩, hk⟩ : ∃ kv, kvs[i]? = some kv := ⟨kvs[i], List.getElem?_eq_getElem hi⟩
    obtain ⟨q1, hq1, rfl, b, rfl, eb⟩ := pair_at prF hk
    dsimp only at g1 g2
    rw [hk] at g1 g2
    cases g1
    cases g2
    dsimp only
    change gTup _ _ _ _ _ (upd G1 T (.tup [.str q1.1, .ref b])) _
    have lps : ps.length = i := by
      rw [pps.length, List.length_take]
      have : L.length = kvs.length := prF.length.symm
      omega
    have nbl : b ≠ l := lt_ne eb egF (fun _ z => nomatch z) (fun _ z => nomatch z)
    have u1 := Same.new hT (.tup [.str q1.1, .ref b])
    have nDT : D ≠ T := ne_of_none eD hT
    have tk : L.take (i + 1) = L.take i ++ [q1] := by rw [List.take_add_one, hq1]; rfl
    refine ⟨T, _, rfl, SqT.of upd_same, rfl, _, _, rfl, _, _, rfl, rfl, rfl, _, rfl, _, rfl, b, nv q1.2, rfl, ?_⟩
    have fin : ∀ (t : Addr) (J : Hp), Same (upd G1 T (.tup [.str q1.1, .ref b])) J → J t = some (.tup (nv q1.2)) → t ≠ D → ∀ (T2 : Addr), J T2 = none → ∃ xs : List V, (upd J T2 (.tup [.str q1.1, .ref t])) D = some (.lst xs) ∧ xs.length < sizeLine ∧ (Same H3 (upd (upd J T2 (.tup [.str q1.1, .ref t])) D (.lst (xs ++ [.ref T2]))) ∧ ∃ ps : List Addr, (upd (upd J T2 (.tup [.str q1.1, .ref t])) D (.lst (xs ++ [.ref T2]))) D = some (.lst (ps.map V.ref)) ∧ Paired (fun p (q : Str × List Nat) => p ≠ D ∧ ∃ t', t' ≠ D ∧ (upd (upd J T2 (.tup [.str q1.1, .ref t])) D (.lst (xs ++ [.ref T2]))) p = some (.tup [.str q.1, .ref t']) ∧ (upd (upd J T2 (.tup [.str q1.1, .ref t])) D (.lst (xs ++ [.ref T2]))) t' = some (.tup (nv q.2))) ps (L.take (i + 1))) := fun t J sJ et ntD T2 hT2 => by
      have u2 := u1.trans (sJ.trans (Same.new hT2 (.tup [.str q1.1, .ref t])))
      have et' := Same.new hT2 (.tup [.str q1.1, .ref t]) _ _ et
      have eT2 := upd_same (H := J) (a := T2) (o := .tup [.str q1.1, .ref t])
      have nT2D : T2 ≠ D := (ne_of_none (sJ _ _ (u1 _ _ eD)) hT2).symm
      refine ⟨_, u2 _ _ eD, by rw [List.length_map, lps]; exact small1000 (by have : L.length = kvs.length := prF.length.symm; omega), fun c o e => by rw [upd_ne (ne_of_none e hD)]; exact u2 _ _ (sG _ _ e), ps ++ [T2], by rw [upd_same, List.map_append]; rfl, ?_⟩
      rw [tk]
      exact pair_app (L2.Paired.mapP pps fun p q ⟨z1, t', z2, z3, z4⟩ => ⟨z1, t', z2, by rw [upd_ne z1]; exact u2 _ _ z3, by rw [upd_ne z2]; exact u2 _ _ z4⟩) ⟨nT2D, t, ntD, by rw [upd_ne nT2D]; exact eT2, by rw [upd_ne ntD]; exact et'⟩
    rcases eb with eb | eb
    · have eb1 := u1 _ _ (sG _ _ (s3 _ _ nbl (sF2 _ _ eb)))
      refine .inl ⟨SqL.of eb1, fun t ht => ⟨szl _ (by simp), fun T2 hT2 => ?_⟩⟩
      exact fin t _ (Same.new ht (.tup (nv q1.2))) upd_same (ne_of_none (u1 _ _ eD) ht).symm T2 hT2
    · have eb1 := u1 _ _ (sG _ _ (s3 _ _ nbl (sF2 _ _ eb)))
      refine .inr ⟨SqT.of eb1, ⟨szl _ (by simp), fun T2 hT2 => ?_⟩⟩
      exact fin b _ (Same.refl _) eb1 (ne_of eb1 (u1 _ _ eD) fun z => nomatch z) T2 hT2
  rintro G ⟨sG, ps, eD, pps⟩
  have lkL : L.length = kvs.length := prF.length.symm
  rw [← lkL, List.take_length] at pps
  refine ⟨D, _, rfl, SqL.of eD, fun tl ob htl hob => ?_⟩
  have st := Same.new htl (.frz ob (.tup (ps.map V.ref)))
  have na3 : a ≠ l := nla.symm
  have ca := st _ _ (sG _ _ (s3 _ _ na3 c2))
  refine ⟨_, rfl, a, CF, dx, _, rfl, ca, U.cl, U.n2, (by show 1 < 1000; decide), ?_⟩
  have etl := upd_same (H := G) (a := tl) (o := .frz ob (.tup (ps.map V.ref)))
  have ntl : tl ≠ a := (ne_of_none (sG _ _ (s3 _ _ na3 c2)) htl).symm
  have ntl2 : tl ≠ l := (ne_of_none (sG _ _ e3) htl).symm
  refine ⟨by rw [upd_ne nla]; exact st _ _ (sG _ _ e3), ?_⟩
  have sF4 : Same F (upd (upd (upd G tl (.frz ob (.tup (ps.map V.ref)))) a (.ins CF dx (putF (Str.ofString "_letters") (.ref tl) [("_states", .int (n : Int))]))) l (.dK kvs)) := fun b o e => by
    by_cases z : b = l
    · rw [z, upd_same]; rw [z, egF] at e; exact e
    · rw [upd_ne z, upd_ne (ne_of_none e nF)]; exact st _ _ (sG _ _ (s3 _ _ z (sF2 _ _ e)))
  have c4 : (upd (upd (upd G tl (.frz ob (.tup (ps.map V.ref)))) a (.ins CF dx (putF (Str.ofString "_letters") (.ref tl) [("_states", .int (n : Int))]))) l (.dK kvs)) a = some (.ins CF dx [("_states", .int (n : Int)), ("_letters", .ref tl)]) := by rw [upd_ne na3]; exact upd_same
  have keepG : ∀ b o, b ≠ a → b ≠ l → (upd G tl (.frz ob (.tup (ps.map V.ref)))) b = some o → (upd (upd (upd G tl (.frz ob (.tup (ps.map V.ref)))) a (.ins CF dx (putF (Str.ofString "_letters") (.ref tl) [("_states", .int (n : Int))]))) l (.dK kvs)) b = some o := fun b o z1 z2 e => by rw [upd_ne z2, upd_ne z1]; exact e
  have tupk : ∀ b xs, (upd G tl (.frz ob (.tup (ps.map V.ref)))) b = some (.tup xs) → (upd (upd (upd G tl (.frz ob (.tup (ps.map V.ref)))) a (.ins CF dx (putF (Str.ofString "_letters") (.ref tl) [("_states", .int (n : Int))]))) l (.dK kvs)) b = some (.tup xs) := fun b xs e =>
    keepG _ _ (ne_of e ca fun z => nomatch z) (ne_of e (st _ _ (sG _ _ e3)) fun z => nomatch z) e
  have hL4 : Ltr (upd (upd (upd G tl (.frz ob (.tup (ps.map V.ref)))) a (.ins CF dx (putF (Str.ofString "_letters") (.ref tl) [("_states", .int (n : Int))]))) l (.dK kvs)) tl L :=
    ⟨ps, ⟨ob, keepG _ _ ntl ntl2 etl, hob⟩, L2.Paired.mapP pps fun p q ⟨_, t, _, z3, z4⟩ => ⟨t, tupk _ _ (st _ _ z3), tupk _ _ (st _ _ z4)⟩⟩
  generalize (upd (upd (upd G tl (.frz ob (.tup (ps.map V.ref)))) a (.ins CF dx (putF (Str.ofString "_letters") (.ref tl) [("_states", .int (n : Int))]))) l (.dK kvs)) = H4 at sF4 c4 hL4 ⊢
  refine ⟨_, rfl, _, rfl, a, CF, dx, _, _, rfl, c4, U.cl, U.n2, rfl, n, tl, L, rfl, lo, hL4, fun S Dw H5 res wd s5 hDw => ?_, fun H5 d res s5 hd => qE H5 d res (out (sF4.trans s5)) hd⟩
  have c5 := s5 _ _ c4
  have sF5 := sF4.trans s5
  have hL5 := hL4.to s5
  obtain ⟨kw, ew, prw⟩ := id wd
  have nwa : Dw ≠ a := ne_of ew c5 fun z => nomatch z
  refine ⟨_, rfl, Dw, kw, rfl, .inl ew, fun cl bs hcl ik => ?_⟩
  have s6 := Same.new hcl (.lst (bs.map V.ref))
  have c6 := s6 _ _ c5
  have ecl := upd_same (H := H5) (a := cl) (o := .lst (bs.map V.ref))
  have ncl : cl ≠ a := (ne_of_none c5 hcl).symm
  refine ⟨_, rfl, a, CF, dx, _, rfl, c6, U.cl, U.n3, (by show 2 < 1000; decide), ?_⟩
  have k7 : ∀ b o, b ≠ a → H5 b = some o → (upd (upd H5 cl (.lst (bs.map V.ref))) a (.ins CF dx (putF (Str.ofString "_contents") (.ref cl) [("_states", .int (n : Int)), ("_letters", .ref tl)]))) b = some o := fun b o z e => by rw [upd_ne z]; exact s6 _ _ e
  have c7 : (upd (upd H5 cl (.lst (bs.map V.ref))) a (.ins CF dx (putF (Str.ofString "_contents") (.ref cl) [("_states", .int (n : Int)), ("_letters", .ref tl)]))) a = some (.ins CF dx [("_states", .int (n : Int)), ("_letters", .ref tl), ("_contents", .ref cl)]) := upd_same
  have e7 : (upd (upd H5 cl (.lst (bs.map V.ref))) a (.ins CF dx (putF (Str.ofString "_contents") (.ref cl) [("_states", .int (n : Int)), ("_letters", .ref tl)]))) cl = some (.lst (bs.map V.ref)) := by rw [upd_ne ncl]; exact ecl
  generalize (upd (upd H5 cl (.lst (bs.map V.ref))) a (.ins CF dx (putF (Str.ofString "_contents") (.ref cl) [("_states", .int (n : Int)), ("_letters", .ref tl)]))) = H7 at k7 c7 e7 ⊢
  refine ⟨_, rfl, Dw, rfl, .inr ⟨kw, k7 _ _ nwa ew, fun wl hwl => ?_⟩⟩
  have s8 := Same.new hwl (.lst (kw.map (·.2)))
  have c8 := s8 _ _ c7
  have ewl := upd_same (H := H7) (a := wl) (o := .lst (kw.map (·.2)))
  have nwl : wl ≠ a := (ne_of_none c7 hwl).symm
  refine ⟨_, rfl, a, CF, dx, _, rfl, c8, U.cl, U.n4, (by show 3 < 1000; decide), ?_⟩
  have k9 : ∀ b o, b ≠ a → H7 b = some o → (upd (upd H7 wl (.lst (kw.map (·.2)))) a (.ins CF dx (putF (Str.ofString "_words") (.ref wl) [("_states", .int (n : Int)), ("_letters", .ref tl), ("_contents", .ref cl)]))) b = some o := fun b o z e => by rw [upd_ne z]; exact s8 _ _ e
  refine q S _ res ⟨dx, tl, cl, wl, upd_same, ?_, ⟨bs, k9 _ _ ncl e7, ?_⟩, ?_⟩ fun b o z e => k9 _ _ z (k7 _ _ z (out sF5 b o z e))
  · obtain ⟨ps5, ⟨ob5, e5, z5⟩, pr5⟩ := hL5
    refine ⟨ps5, ⟨ob5, k9 _ _ (ne_of e5 c5 fun z => nomatch z) (k7 _ _ (ne_of e5 c5 fun z => nomatch z) e5), z5⟩, L2.Paired.mapP pr5 fun p q ⟨t, x1, x2⟩ => ⟨t, k9 _ _ (ne_of x1 c5 fun z => nomatch z) (k7 _ _ (ne_of x1 c5 fun z => nomatch z) x1), k9 _ _ (ne_of x2 c5 fun z => nomatch z) (k7 _ _ (ne_of x2 c5 fun z => nomatch z) x2)⟩⟩
  · refine L2.Paired.mapP (pair_join ik prw) fun b e ⟨kv, z1, z2, _⟩ => ?_
    rw [z2, keyL_kV] at z1
    exact k9 _ _ (ne_of z1 c5 fun z => nomatch z) (k7 _ _ (ne_of z1 c5 fun z => nomatch z) z1)
  · obtain ⟨ws, e1, e2⟩ := wd_refs prw
    rw [e1] at ewl k9 ⊢
    exact ⟨ws, by rw [upd_ne nwl]; exact ewl, L2.Paired.mapP e2 fun b e z => k9 _ _ (ne_of z c5 fun z => nomatch z) (k7 _ _ (ne_of z c5 fun z => nomatch z) z)⟩
end
end L

set_option Elab.async false
set_option linter.all false
set_option maxRecDepth 100000
set_option maxHeartbeats 4000000
set_option pp.maxSteps 400
namespace L
open PySem L2 KX
abbrev sTe : Stmt := inClass (top 49) 2
def lD (L : Ltt) : List PyData := L.map fun q => .tuple [.str q.1, tD q.2]
theorem ss_ok {n : Nat} {z : Str} (h : Ss n z) : PyData.strOk z = true := by
  unfold PyData.strOk
  rw [← Array.all_toList]
  exact List.all_eq_true.mpr fun c hc => decide_eq_true (h.2 c hc)
theorem lD_lay : ∀ L : Ltt, (∀ q, q ∈ L → Ss 8 q.1) → PyData.canLayAll0 (lD L) = true ∧ PyData.depthAll (lD L) ≤ 2
  | [], _ => ⟨rfl, Nat.zero_le _⟩
  | q :: L, hs => by
    obtain ⟨h1, h2⟩ := lD_lay L fun q' hq => hs q' (List.mem_cons_of_mem _ hq)
    have e3 := ss_ok (hs q List.mem_cons_self)
    have e0 : PyData.depth (tD q.2) = 1 := by unfold tD; simp only [PyData.depth, nD_depth q.2]
    have e1 : PyData.canLay0 (tD q.2) = true := by unfold tD; simp only [PyData.canLay0]; exact nD_lay q.2
    refine ⟨?_, ?_⟩
    · show (PyData.canLay0 (.tuple [.str q.1, tD q.2]) && PyData.canLayAll0 (lD L)) = true
      rw [h1]
      simp [PyData.canLay0, PyData.canLayAll0, e1, e3]
    · show max (PyData.depth (.tuple [.str q.1, tD q.2])) (PyData.depthAll (lD L)) ≤ 2
      have : PyData.depth (.tuple [.str q.1, tD q.2]) = 2 := by simp [PyData.depth, PyData.depthAll, e0]
      omega
theorem lD_shaped {L : Ltt} (hs : ∀ q, q ∈ L → Ss 8 q.1) : SeqAt.shaped (.tuple (lD L)) = true := by
  obtain ⟨h1, h2⟩ := lD_lay L hs
  have c1 : PyData.canLay0 (.tuple (lD L)) = true := by simp only [PyData.canLay0]; exact h1
  have c2 : PyData.depth (.tuple (lD L)) ≤ 64 := by simp only [PyData.depth]; omega
  show (PyData.canLay0 (.tuple (lD L)) && decide (PyData.depth (.tuple (lD L)) ≤ 64)) = true
  rw [c1, decide_eq_true c2]; rfl
theorem lD_refl : ∀ L : Ltt, PyData.eqvAll (lD L) (lD L) = true
  | [] => rfl
  | q :: L => by
    have h := lD_refl L
    have e := tD_eqv q.2 q.2
    rw [decide_eq_true rfl] at e
    show (PyData.eqv (.tuple [.str q.1, tD q.2]) (.tuple [.str q.1, tD q.2]) && PyData.eqvAll (lD L) (lD L)) = true
    rw [h]
    simp [PyData.eqv, PyData.eqvAll, e]
theorem Ltr.dp {K : PySem.W.Frag} {H : Hp} {l : Addr} {L : Ltt} (h : Ltr H l L) : Dp K H (.ref l) (.tuple (lD L)) := by
  obtain ⟨ps, e, pr⟩ := h
  refine .tup e.sq ?_
  clear e
  induction pr with
  | nil => exact .nil
  | @cons p q _ _ h _ ih =>
    obtain ⟨t, e1, e2⟩ := h
    exact .cons (.tup (SqT.of e1) (.cons (.str _) (.cons (dp_tup e2) .nil))) ih
theorem keys_pair {H : Hp} {bs : List Addr} {S : List En} (h : Paired (fun b (e : En) => H b = some (.tup (nv e.1))) bs S) : Paired (fun b m => H b = some (.tup (nv m))) bs (keys S) := by
  induction h with
  | nil => exact .nil
  | cons h _ ih => exact .cons h ih
/-! == of objects that may differ, and of other values -/
theorem lD_eqvAll : ∀ L M : Ltt, PyData.eqvAll (lD L) (lD M) = decide (L = M)
  | [], [] => rfl
  | [], _ :: _ => rfl
  | _ :: _, [] => rfl
  | q :: L, r :: M => by
    have h := lD_eqvAll L M
    show (PyData.eqv (.tuple [.str q.1, tD q.2]) (.tuple [.str r.1, tD r.2]) && PyData.eqvAll (lD L) (lD M)) = _
    have e : PyData.eqv (.tuple [.str q.1, tD q.2]) (.tuple [.str r.1, tD r.2]) = (decide (q.1 = r.1) && decide (q.2 = r.2)) := by
      simp only [PyData.eqv, PyData.eqvAll, tD_eqv, Bool.and_true]
      congr 1
    rw [e, h, Bool.eq_iff_iff, Bool.and_eq_true, Bool.and_eq_true, decide_eq_true_iff, decide_eq_true_iff, decide_eq_true_iff, decide_eq_true_iff, List.cons.injEq]
    obtain ⟨a, b⟩ := q
    obtain ⟨c, d⟩ := r
    rw [Prod.mk.injEq]
/-- what the other may be, and whether it is equal -/
def Oth (K : PySem.W.Frag) (CF : Addr) (H : Hp) (n : Nat) (L : Ltt) (y : V) (r : Bool) : Prop :=
  (∃ b n' L' S', y = .ref b ∧ TrA CF H b n' L' S' ∧ LOk n' L' ∧ r = decide (n = n' ∧ L = L')) ∨ ∃ t, TyX K H y t ∧ PySem.W.kitOne K t (.ref CF) = some false ∧ r = false
def spTeG (K : PySem.W.Frag) (CF : Addr) : Sp := fun vs H Q _ => ∃ a n L S y r, vs = [.ref a, y] ∧ TrA CF H a n L S ∧ LOk n L ∧ Oth K CF H n L y r ∧ Q (.bl r) H
section
variable {P : Program} {w : World} {K : PySem.W.Frag} {mg : Str → Option Value} {base : Heap} {f : Addr} {fd : FuncData} {CF : Addr}
theorem scTe : FnScope ["self", "other"] ["self", "other"] (defScope sTe) := ⟨rfl, rfl, rfl, by decide +kernel, rfl, by decide +kernel, by decide +kernel⟩
theorem ok_teG (F : Fun K "__eq__" "Transformations.__eq__" sTe f fd) (M : Mn mg) (U : TfX K CF) (Y : CTi K CF) (mF : mg "Transformations" = some (.ref CF)) : FnOk P w K mg base CX0 1 f fd ["self", "other"] (spTeG K CF) := by
  refine F.ok scTe (fun vs H Q E h => ?_) (fun cdv A outer s H vs Q E hr h => ?_)
  · obtain ⟨a, n, L, S, y, r, rfl, _⟩ := h
    rfl
  obtain ⟨a, n, L, S, y, r, rfl, ht, o, ho, q⟩ := h
  have hu := hr.units
  refine ⟨_, (pss_one (ps_ret (pe_and (pe_callB call_isi (by rfl) M.isin (by decide +kernel) (pa_cons (pv 1) (pa_cons (pe_glob (v := .ref CF) (by rfl) mF rfl) pa_nil))) (pe_and (pe_cmpR op_eq (pe_fld (pv 0) rfl) (pe_fld (pv 1) rfl) (nomark _)) (pe_one (pe_cmpR (op_eqD hu) (pe_fld (pv 0) rfl) (pe_fld (pv 1) rfl) (nomark _))))))), ?_⟩
  rcases ho with ⟨b, n', L', S', rfl, ht2, o2, rfl⟩ | ⟨t, hty, hk, rfl⟩
  · obtain ⟨dx, tl, cl, wl, e, hl, _⟩ := ht.ob
    obtain ⟨dx', tl', cl', wl', e', hl', _⟩ := ht2.ob
    refine ⟨_, rfl, _, .ref CF, _, .ref CF, true, rfl, .own CF, .base (.ins e' U.cl Y.ha Y.hn Y.htk Y.hm), kit_self K CF, _, rfl, iteT ?_⟩
    refine ⟨_, rfl, a, CF, dx, _, _, rfl, e, U.cl, U.n1, rfl, _, rfl, b, CF, dx', _, _, rfl, e', U.cl, U.n1, rfl, rfl, _, rfl, ite2 (fun c => ?_) (fun c => ?_)⟩
    · have en : n = n' := by
        have c := of_decide_eq_true c
        injection c with c
        omega
      subst en
      refine ⟨_, rfl, a, CF, dx, _, _, rfl, e, U.cl, U.n2, rfl, _, rfl, b, CF, dx', _, _, rfl, e', U.cl, U.n2, rfl, _, _, hl.dp, hl'.dp, lD_shaped o.ss, lD_shaped o2.ss, ?_⟩
      rw [show PyData.eqv (.tuple (lD L)) (.tuple (lD L')) = decide (L = L') by simp only [PyData.eqv]; exact lD_eqvAll L L']
      rw [show decide (L = L') = decide (n = n ∧ L = L') by simp]
      exact q
    · have en : n ≠ n' := fun z => c (by rw [z]; exact decide_eq_true rfl)
      have e1 : decide (V.int (n : Int) = V.int (n' : Int)) = false := by
        cases h : decide (V.int (n : Int) = V.int (n' : Int)) with
        | false => rfl
        | true => exact absurd h c
      rw [show decide (n = n' ∧ L = L') = false by simp [en]] at q
      first
        | exact q
        | (rw [e1]; exact q)
  · exact ⟨_, rfl, _, .ref CF, t, .ref CF, false, rfl, .own CF, hty, hk, _, rfl, iteFf rfl q⟩
end
end L

set_option Elab.async false
set_option linter.all false
set_option maxRecDepth 100000
set_option maxHeartbeats 4000000
/-! Own layer: == of an instance with the text's own == and any value. -/
namespace KX
open PySem PySem.Spec PyProof.Rows L2
section
variable {X : Cx} {k : Nat} {C f : Addr} {fd : FuncData} {ps : List Str} {sp : Sp}
/-- x == y of an instance and any value whose class is no heir of the instance's -/
def rEqA (K : PySem.W.Frag) (C : Addr) (sp : Sp) : R2 := fun x y H Q => ∃ a dx fs t, x = .ref a ∧ H a = some (.ins C dx fs) ∧ TyX K H y t ∧ PySem.W.notFirst K C t = true ∧ sp [.ref a, y] H (fun v H1 => ∃ c, v = .bl c ∧ Q (.bl c) H1) (fun _ _ _ => False)
theorem op_eqA {K : PySem.W.Frag} (hK : X.K = K) (F : FnOk X.prog X.w X.K X.mg X.base CX0 k f fd ps sp) (hr : Room k X.A) (hs : PySem.W.findIn X.K (.ref C) "__eq__" = some (some (.ref f))) (hf : PySem.W.isFn X.K (.ref f) = true) (hb : Binds X.K fd ps []) : OpR X (compareOp .Eq) (rEqA K C sp) := by
  subst hK
  intro pins s σ H x y v u Q I rx ry h
  obtain ⟨a, dx, fs, t, rfl, ha, ty, hn, q⟩ := h
  cases rx
  obtain ⟨mA, J, _⟩ := ins_get I.hok ha
  obtain ⟨od, J, _⟩ := J.look
  obtain ⟨m, hF⟩ := I.fr
  obtain ⟨PP, Z, hP, _⟩ := kit_of I ry ty
  have hl := F.len _ _ _ _ q
  have r2 : Vals [V.ref a, y] [Value.ref a, u] := .cons rfl (.cons ry .nil)
  show wpAny (model X.prog X.w) X.A (richCompare .Eq (.ref a) u) (EP X pins σ Q) X.xe s
  refine PySem.W.cmp_K (op := .Eq) (tb := t) hr.units0 hF I.ok.mod.kin J (Z.ty _ _ I.kIn hP) hn hs hf ?_
  refine wpAny_call (codeAny_mono (F.run X.A X.stack s H ⟨[.ref a, u], []⟩ [.ref a, u] [.ref a, y] _ _ hr I.env0 (by
    have := hb s [.ref a, u] I.kIn (by simpa using hl)
    simpa using this) r2 q) fun o s' hq => ?_)
  match o, hq with
  | .error u, hq => exact hq.elim
  | .ok (.ret u), hq =>
    obtain ⟨v, H1, I1, rv, c, rfl, q'⟩ := I.after hq
    obtain rfl : u = Value.bool c := rv
    exact ⟨.bl c, H1, I1, rfl, q'⟩
  | .ok .next, hq => exact hq.elim
  | .ok .brk, hq => exact hq.elim
  | .ok .cont, hq => exact hq.elim
theorem notFirst_ty {K : PySem.W.Frag} {C : Addr} {T : String} (e : (fastBuiltinMro T).map (·.contains (.ref C)) = some false) : PySem.W.notFirst K C (.type T) = true := by
  unfold PySem.W.notFirst
  rw [show PySem.W.subIn K (.type T) (.ref C) = some false from e]
  rw [show ((Value.type T) == (Value.ref C)) = false from rfl]
  rfl
theorem notFirst_self {K : PySem.W.Frag} {C : Addr} : PySem.W.notFirst K C (.ref C) = true := by
  unfold PySem.W.notFirst
  rw [show ((Value.ref C) == (Value.ref C)) = true from beq_self_eq_true _]
  rfl
end
end KX

set_option Elab.async false
set_option linter.all false
set_option maxRecDepth 100000
set_option maxHeartbeats 8000000
set_option pp.maxSteps 400
namespace L
open PySem L2 KX
abbrev sSa : Stmt := top 65
theorem passC2 {P : Program} {w : World} {X : Cx} : Passes (L2.CX P w) X E0 := fun _ _ _ _ _ _ _ ⟨_, _, _, _, _, _, _, _, _, _, _, _, h⟩ => h.elim
open Classical in
/-- the heap without what is in T -/
noncomputable def mnS (T : Addr → Prop) (J : Hp) : Hp := fun b => if T b then none else J b
theorem mnS_same {T : Addr → Prop} {J : Hp} : Same (mnS T J) J := fun b o e => by
  unfold mnS at e
  by_cases h : T b
  · rw [if_pos h] at e; cases e
  · rw [if_neg h] at e; exact e
theorem mnS_in {T : Addr → Prop} {J : Hp} {b : Addr} {o : HO} (h : ¬ T b) (e : J b = some o) : mnS T J b = some o := by
  unfold mnS; rw [if_neg h]; exact e
theorem mnS_upd {T : Addr → Prop} {J : Hp} {p : Addr} {o : HO} (h : T p) : mnS T (upd J p o) = mnS T J := by
  funext b
  unfold mnS
  by_cases k : T b
  · rw [if_pos k, if_pos k]
  · rw [if_neg k, if_neg k, upd_ne (fun z : b = p => k (by rw [z]; exact h))]
theorem mnS_mono {T : Addr → Prop} {A B : Hp} (s : Same A B) : Same (mnS T A) (mnS T B) := fun b o e => by
  have nb : ¬ T b := fun z => by unfold mnS at e; rw [if_pos z] at e; cases e
  exact mnS_in nb (s _ _ (mnS_same _ _ e))
theorem strs_no (zs : List Str) : ∀ i r, zs.map V.str ≠ V.int i :: r := fun i r h => by cases zs <;> cases h
theorem refs_no (zs : List Addr) : ∀ i r, zs.map V.ref ≠ V.int i :: r := fun i r h => by cases zs <;> cases h
/-- the object stands beside lists of numbers and dicts -/
theorem TrA.mnS {CF : Addr} {H : Hp} {T : Addr → Prop} {a : Addr} {n : Nat} {L : Ltt} {S : List En} (b : ∀ x, T x → (∃ i r, H x = some (.lst (V.int i :: r))) ∨ ∃ kv, H x = some (.dK kv)) (h : TrA CF H a n L S) : TrA CF (mnS T H) a n L S := by
  obtain ⟨dx, tl, cl, wl, e, ⟨ps, hps, pr⟩, ⟨bs, e1, p1⟩, ws, e2, p2⟩ := h.ob
  have k : ∀ {x : Addr} {u : HO}, H x = some u → (∀ xs, u ≠ .lst xs) → (∀ kv, u ≠ .dK kv) → (_root_.L.mnS T H) x = some u := fun h n1 n2 => mnS_in (fun z => by
    rcases b _ z with ⟨i, r, e⟩ | ⟨kv, e⟩
    · rw [h] at e; cases e; exact n1 _ rfl
    · rw [h] at e; cases e; exact n2 _ rfl) h
  have kl : ∀ {x : Addr} {xs : List V}, H x = some (.lst xs) → (∀ i r, xs ≠ V.int i :: r) → (_root_.L.mnS T H) x = some (.lst xs) := fun h n1 => mnS_in (fun z => by
    rcases b _ z with ⟨i, r, e⟩ | ⟨kv, e⟩
    · rw [h] at e; cases e; exact n1 _ _ rfl
    · rw [h] at e; cases e) h
  obtain ⟨ob, eo, ho⟩ := hps
  exact ⟨dx, tl, cl, wl, k e (fun _ z => nomatch z) (fun _ z => nomatch z), ⟨ps, ⟨ob, k eo (fun _ z => nomatch z) (fun _ z => nomatch z), ho⟩, L2.Paired.mapP pr fun p q ⟨t, a1, a2⟩ => ⟨t, k a1 (fun _ z => nomatch z) (fun _ z => nomatch z), k a2 (fun _ z => nomatch z) (fun _ z => nomatch z)⟩⟩,
    ⟨bs, kl e1 (refs_no _), L2.Paired.mapP p1 fun b e z => k z (fun _ z => nomatch z) (fun _ z => nomatch z)⟩, ws, kl e2 (refs_no _), L2.Paired.mapP p2 fun b e z => kl z (strs_no _)⟩
theorem mnS_p {p : Addr} {J : Hp} : mnS (fun b => b = p) J = mn p J := by
  funext b
  unfold mnS mn
  by_cases z : b = p
  · rw [if_pos z, if_pos z]
  · rw [if_neg z, if_neg z]
theorem TrA.mnp {CF : Addr} {H : Hp} {p a : Addr} {n : Nat} {L : Ltt} {S : List En} (b : Bx H p) (h : TrA CF H a n L S) : TrA CF (mn p H) a n L S := by
  rw [← mnS_p]
  obtain ⟨b0, b1, b2, e, _⟩ := b
  exact h.mnS fun x hx => by
    have hx : x = p := hx
    subst hx
    exact .inl ⟨_, _, e⟩
theorem dqAll_app {M : Hp} {ys : List V} {es : List PyData} (k : DqAll M ys es) : ∀ {xs : List V} {ds : List PyData}, DqAll M xs ds → DqAll M (xs ++ ys) (ds ++ es)
  | _, _, .nil => k
  | _, _, .cons h t => .cons h (dqAll_app k t)
theorem dq_len {M : Hp} : ∀ {xs : List V} {ds : List PyData}, DqAll M xs ds → xs.length = ds.length
  | _, _, .nil => rfl
  | _, _, .cons _ t => by rw [List.length_cons, List.length_cons, dq_len t]
/-- a list whose items stand for data beside it -/
def LsD (J : Hp) (a : Addr) (xs : List V) : Prop := J a = some (.lst xs) ∧ ∃ ds, DqAll (mn a J) xs ds ∧ (∀ d, d ∈ ds → OkD 2 1000 d) ∧ ds.length ≤ 19
theorem LsD.dq {J : Hp} {a : Addr} {xs : List V} (h : LsD J a xs) : ∃ d, Dq J (.ref a) d ∧ OkD 4 20000 d := by
  obtain ⟨e, ds, h1, h2, h3⟩ := h
  exact ⟨.list ds, .lst e (DqAll.same mn_same _ _ h1), (okLi (m := 19) h2 h3).mono (by decide) (by decide)⟩
/-- with one more text at its end -/
theorem LsD.app {J : Hp} {a : Addr} {xs : List V} {z : Str} (hz : Ss 8 z) (h : LsD J a xs) (l : xs.length ≤ 18) : LsD (upd J a (.lst (xs ++ [.str z]))) a (xs ++ [.str z]) := by
  obtain ⟨e, ds, h1, h2, h3⟩ := h
  refine ⟨upd_same, ds ++ [.str z], ?_, fun d hd => (List.mem_append.mp hd).elim (h2 d) fun e => by rw [List.mem_singleton.mp e]; exact (OkD.str hz).mono (by decide) (by decide), by rw [List.length_append, ← dq_len h1]; simp; omega⟩
  have em : mn a (upd J a (.lst (xs ++ [.str z]))) = mn a J := by
    funext b
    unfold mn
    by_cases c : b = a
    · rw [if_pos c, if_pos c]
    · rw [if_neg c, if_neg c, upd_ne c]
  rw [em]
  exact dqAll_app (.cons (.str _) .nil) h1
theorem LsD.same {J J' : Hp} {a : Addr} {xs : List V} (s : Same J J') (h : LsD J a xs) : LsD J' a xs := by
  obtain ⟨e, ds, h1, h2, h3⟩ := h
  refine ⟨s _ _ e, ds, DqAll.same (fun b o eb => ?_) _ _ h1, h2, h3⟩
  have nb : b ≠ a := fun z => by rw [z, mn_p] at eb; cases eb
  exact mn_sx _ _ nb (s _ _ (mn_same _ _ eb))
/-- one state and one letter: one element -/
theorem res1 : ∃ S, Res 1 [(Str.ofString "a", [0])] (some S) := ⟨_, .next (by simp) rfl (.next (by simp) rfl (.done _))⟩
theorem lok1 : LOk 1 [(Str.ofString "a", [0])] := ⟨by decide, by decide, by decide, by decide, fun q hq => by rw [List.mem_singleton.mp hq]; exact ⟨rfl, fun x hx => by rw [List.mem_singleton.mp hx]; decide⟩, fun q hq => by rw [List.mem_singleton.mp hq]; exact ⟨by decide +kernel, by decide +kernel⟩⟩
theorem nok1 : NmOk [(Str.ofString "a", [0])] := ⟨by simp, fun q hq => by rw [List.mem_singleton.mp hq]; decide +kernel⟩
def spSa (CF : Addr) : Sp := fun vs H Q _ => ∃ (r : Addr) (k : Str) (v : V), vs = [.ref r, .str k, v] ∧ H r = some (.lst [.str k, v]) ∧ Ss 8 k ∧ ((∃ d, Dq H v d ∧ OkD 4 20000 d) ∨ ∃ a n L S, v = .ref a ∧ TrA CF H a n L S ∧ LOk n L) ∧ ∀ H', Same H H' → Q (.bl true) H'
section
variable {P : Program} {w : World} {K : PySem.W.Frag} {mg : Str → Option Value} {base : Heap} {f f1 f2 f3 f4 fF g1 : Addr} {fd d1 d2 d3 d4 dF e1 : FuncData} {C CF CO : Addr}
theorem scSa : FnScope ["found", "kind", "value"] ["found", "kind", "value"] (defScope sSa) := ⟨rfl, rfl, rfl, by decide +kernel, rfl, by decide +kernel, by decide +kernel⟩
theorem ok_sa (F : Fun K "_law_same" "_law_same" sSa f fd) (M : Mn mg) (U : TfX K CF) (Y : CTi K CF) (NB : CNb K CF) (hS : ∃ o, base.get? sysModules = some o) (mCF : mg "Transformations" = some (.ref CF))
    (hEq : PySem.W.findIn K (.ref CF) "__eq__" = some (some (.ref g1))) (fEq : PySem.W.isFn K (.ref g1) = true)
    (GE : FnOk P w K mg base CX0 1 g1 e1 ["self", "other"] (spTeG K CF)) (bE : Binds K e1 ["self", "other"] []) :
    GOk P w K mg base CX0 2 f fd ["found", "kind", "value"] (spSa CF) := by
  refine gok F scSa (fun vs H Q E h => ?_) (fun cdv A outer s H vs Q E hr hA h => ?_)
  · obtain ⟨r, k, v, rfl, _⟩ := h
    rfl
  obtain ⟨r, k, v, rfl, er, hk, h, q⟩ := h
  have hr1 : Room 1 _ := hr
  have hu := hr.units
  have rp := fun {X : Cx} (h1 : X.base = base) (h2 : X.A = (A.deeper (PyProof.Rows.envOfC "_law_same" (defScope sSa) s.heap.objs.size f cdv))) => @call_repr_q X (by rw [h1]; exact hS) (by rw [h2]; exact hA) (by rw [h2]; exact hu)
  refine ⟨_, (pss_cons (ps_if (pt_val (pe_callB call_isi (by rfl) M.isin (by decide +kernel) (pa_cons (pv 2) (pa_cons (pe_glob (v := .ref CF) (by rfl) mCF rfl) pa_nil)))) (pss_one (ps_ret (pe_and (pe_cmpR op_eq (pe_ix (ixl (K := K) rfl) (pv 0) pe_int (fun _ _ => rfl)) (pv 1) (nomark _)) (pe_one (pe_cmpR (op_eqA (K := K) rfl GE hr1 hEq fEq bE) (pe_ix (ixl (K := K) rfl) (pv 0) pe_int (fun _ _ => rfl)) (pv 2) (nomark _)))))) pss_nil) (pss_one (ps_ret (pe_cmpR op_eq (pe_callB (rp rfl rfl) (by rfl) M.repr (by decide +kernel) (pa_cons (pv 0) pa_nil)) (pe_callB (rp rfl rfl) (by rfl) M.repr (by decide +kernel) (pa_cons (pe_lst (pa_cons (pv 1) (pa_cons (pv 2) pa_nil))) pa_nil)) (nomark _))))), ?_⟩
  rcases h with ⟨d, hd, ok⟩ | ⟨a, n, L, S, rfl, ht, o⟩
  · obtain ⟨t, ty, kt⟩ := notT_of NB hd
    refine ⟨_, rfl, _, .ref CF, t, .ref CF, false, rfl, .own CF, ty, kt, _, rfl, iteFf rfl ?_⟩
    have okk := okL2 (((OkD.str hk).mono (m := 4) (U := 20000) (by decide) (by decide))) ok
    refine ⟨_, rfl, _, .list [.str k, d], rfl, .lst er (.cons (.str k) (.cons hd .nil)), okk.shows, Nat.le_trans okk.deep (by decide), okk.len (by decide), ?_⟩
    refine ⟨_, rfl, _, rfl, szl _ (by simp), fun w hw => ?_⟩
    have sw := Same.new hw (.lst [.str k, v])
    refine ⟨_, .list [.str k, d], rfl, .lst upd_same (.cons (.str k) (.cons (Dq.same sw _ _ hd) .nil)), okk.shows, Nat.le_trans okk.deep (by decide), okk.len (by decide), rfl, ?_⟩
    rw [decide_eq_true rfl]
    exact q _ sw
  · obtain ⟨dx, _, _, _, e, _⟩ := id ht.ob
    refine ⟨_, rfl, _, .ref CF, .ref CF, .ref CF, true, rfl, .own CF, .base (.ins e U.cl Y.ha Y.hn Y.htk Y.hm), kit_self K CF, _, rfl, iteTt rfl ?_⟩
    refine ⟨_, rfl, r, _, _, _, rfl, rfl, SqL.of er, at_of (j := 0) rfl rfl, _, rfl, rfl, _, rfl, iteTt (decide_eq_true rfl) ?_⟩
    exact ⟨_, rfl, r, _, _, _, rfl, rfl, SqL.of er, at_of (j := 1) rfl rfl, _, rfl, a, _, _, _, rfl, e, .base (.ins e U.cl Y.ha Y.hn Y.htk Y.hm), notFirst_self, a, n, L, S, .ref a, true, rfl, ht, o, .inl ⟨a, n, L, S, rfl, ht, o, by simp⟩, true, rfl, q H (Same.refl H)⟩
end
end L

set_option Elab.async false
set_option linter.all false
set_option maxRecDepth 100000
set_option maxHeartbeats 4000000
set_option pp.maxSteps 400
namespace L
open PySem L2 KX LamX
abbrev sRefd : Stmt := top 66
abbrev sMore : Str := Str.ofString "more"
/-- a list whose items stand for small data beside it -/
def LsE (J : Hp) (a : Addr) (xs : List V) : Prop := J a = some (.lst xs) ∧ ∃ ds, DqAll (mn a J) xs ds ∧ (∀ d, d ∈ ds → OkD 2 100 d) ∧ ds.length ≤ 60
theorem LsE.dq {J : Hp} {a : Addr} {xs : List V} (h : LsE J a xs) : ∃ d, Dq J (.ref a) d ∧ OkD 4 20000 d := by
  obtain ⟨e, ds, h1, h2, h3⟩ := h
  exact ⟨.list ds, .lst e (DqAll.same mn_same _ _ h1), (okLi (m := 60) h2 h3).mono (by decide) (by decide)⟩
/-- with one more text at its end -/
theorem LsE.app {J : Hp} {a : Addr} {xs : List V} {z : Str} (hz : Ss 8 z) (h : LsE J a xs) (l : xs.length ≤ 59) : LsE (upd J a (.lst (xs ++ [.str z]))) a (xs ++ [.str z]) := by
  obtain ⟨e, ds, h1, h2, h3⟩ := h
  refine ⟨upd_same, ds ++ [.str z], ?_, fun d hd => (List.mem_append.mp hd).elim (h2 d) fun e => by rw [List.mem_singleton.mp e]; exact (OkD.str hz).mono (by decide) (by decide), by rw [List.length_append, ← dq_len h1]; simp; omega⟩
  have em : mn a (upd J a (.lst (xs ++ [.str z]))) = mn a J := by
    funext b
    unfold mn
    by_cases c : b = a
    · rw [if_pos c, if_pos c]
    · rw [if_neg c, if_neg c, upd_ne c]
  rw [em]
  exact dqAll_app (.cons (.str _) .nil) h1
theorem LsE.same {J J' : Hp} {a : Addr} {xs : List V} (s : Same J J') (h : LsE J a xs) : LsE J' a xs := by
  obtain ⟨e, ds, h1, h2, h3⟩ := h
  refine ⟨s _ _ e, ds, DqAll.same (fun b o eb => ?_) _ _ h1, h2, h3⟩
  have nb : b ≠ a := fun z => by rw [z, mn_p] at eb; cases eb
  exact mn_sx _ _ nb (s _ _ (mn_same _ _ eb))
theorem kN_s (c : Bool) : Ss 8 (kN c) := by cases c <;> exact ⟨by decide +kernel, by decide +kernel⟩
section
variable {P : Program} {w : World} {K : PySem.W.Frag} {mg : Str → Option Value} {base : Heap} {f f1 f2 : Addr} {fd d1 d2 : FuncData} {C CT CE CF : Addr}
def spRefd (P : Program) (w : World) (K : PySem.W.Frag) (mg : Str → Option Value) (base : Heap) (C CT CE CF : Addr) : Sp := fun vs H Q _ => ∃ (a : V) (l : Addr) (x y z : V) (c : Bool) (u : V) (n : Nat), vs = [a, .ref l, .str (kN c), u] ∧ AskAt P w K mg base C CT CE H a n ∧ H l = some (.lst [x, y, z]) ∧ Rz K C H n x y z c u ∧
  (((∃ d, Dq H u d ∧ OkD 4 20000 d) ∧ (∃ t, TyX K H u t ∧ PySem.W.kitOne K t (.type "list") = some false) ∧ ∀ H', Same H H' → Q (.bl true) H') ∨
   (∃ m k L S, u = .ref m ∧ TrA CF H m k L S ∧ LOk k L ∧ ∀ H', Same H H' → Q (.bl true) H') ∨
   ∃ v xs, u = .ref v ∧ LsE H v xs ∧ xs.length ≤ 59 ∧ ∀ J H', Same H J → Same (upd J v (.lst (xs ++ [.str sMore]))) H' → Q (.bl true) H')
theorem scRefd : FnScope ["ask", "things", "kind", "value", "found"] ["ask", "things", "kind", "value"] (defScope sRefd) := ⟨rfl, rfl, rfl, by decide +kernel, rfl, by decide +kernel, by decide +kernel⟩
theorem ok_refd (F : Fun K "_law_refused" "_law_refused" sRefd f fd) (M : Mn mg) (U : TfX K CF) (Y : CTi K CF) (kitL : PySem.W.kitOne K (.ref CF) (.type "list") = some false)
    (G1 : FnOk P w K mg base CX0 7 f1 d1 ["ask", "things"] (spRai P w K mg base C CT CE)) (b1 : Binds K d1 ["ask", "things"] []) (k1 : PySem.W.keepIn K (.ref f1) = true) (m1 : mg "_law_raised" = some (.ref f1))
    (G2 : GOk P w K mg base CX0 2 f2 d2 ["found", "kind", "value"] (spSa CF)) (b2 : Binds K d2 ["found", "kind", "value"] []) (k2 : PySem.W.keepIn K (.ref f2) = true) (m2 : mg "_law_same" = some (.ref f2)) :
    GOk P w K mg base CX0 8 f fd ["ask", "things", "kind", "value"] (spRefd P w K mg base C CT CE CF) := by
  refine gok F scRefd (fun vs H Q E h => ?_) (fun cdv A outer s H vs Q E hr hA h => ?_)
  · obtain ⟨a, l, x, y, z, c, u, n, rfl, _⟩ := h
    rfl
  obtain ⟨a, l, x, y, z, c, u, n, rfl, ha, el, hz, h⟩ := h
  have hr7 : Room 7 _ := hr
  have hr2 : Room 2 _ := hr.mono (by decide)
  refine ⟨_, (pss_cons (ps_set (i := 4) scRefd.nd rfl (Or.inl rfl) (pe_call G1 hr7 (by rfl) m1 k1 b1 .nil pass0 (pa_cons (pv 0) (pa_cons (pv 1) pa_nil)))) (pss_cons (ps_cut (ps_if (pt_val (pe_callB call_isi (by rfl) M.isin (by decide +kernel) (pa_cons (pv 3) (pa_cons (pe_bltn (v := .ty "list") (by rfl) M.list (by decide +kernel) rfl) pa_nil)))) (pss_one (ps_expr (pe_bm PySem.F.plainAttrs_list PySem.F.slot_list_append PySem.F.type_list_append mt_append (pv 3) (pa_cons pe_str pa_nil)))) pss_nil)) (pss_one (ps_ret (pe_g G2 hA hr2 (by rfl) m2 k2 b2 .nil pass0 (pa_cons (pv 4) (pa_cons (pv 2) (pa_cons (pv 3) pa_nil)))))))), ?_⟩
  refine ⟨_, rfl, _, rfl, a, l, x, y, z, c, u, n, rfl, ha, el, hz, fun r J1 s1 hr1' er => ?_⟩
  rcases h with ⟨⟨d, hd, ok⟩, ⟨t, k3, k4⟩, q⟩ | ⟨m, k, L, S, rfl, tm, lo, q⟩ | ⟨v, xs, rfl, hl, l59, q⟩
  · refine ⟨fun σ J => Same J1 J ∧ σ = [some a, some (.ref l), some (.str (kN c)), some u, some (.ref r)], ?_, ?_⟩
    · exact ⟨_, rfl, _, .ty "list", t, .type "list", false, rfl, .ty _, TyX.same s1 k3, k4, _, rfl, iteFf rfl ⟨Same.refl J1, rfl⟩⟩
    · rintro _ J ⟨sJ, rfl⟩
      exact ⟨_, rfl, _, rfl, _, rfl, r, _, u, rfl, sJ _ _ er, kN_s c, .inl ⟨d, Dq.same (s1.trans sJ) _ _ hd, ok⟩, fun H' s' => q H' ((s1.trans sJ).trans s')⟩
  · obtain ⟨dx, _, _, _, e, _⟩ := id tm.ob
    refine ⟨fun σ J => Same J1 J ∧ σ = [some a, some (.ref l), some (.str (kN c)), some (.ref m), some (.ref r)], ?_, ?_⟩
    · exact ⟨_, rfl, _, .ty "list", .ref CF, .type "list", false, rfl, .ty _, .base (.ins (s1 _ _ e) U.cl Y.ha Y.hn Y.htk Y.hm), kitL, _, rfl, iteFf rfl ⟨Same.refl J1, rfl⟩⟩
    · rintro _ J ⟨sJ, rfl⟩
      exact ⟨_, rfl, _, rfl, _, rfl, r, _, _, rfl, sJ _ _ er, kN_s c, .inr ⟨m, k, L, S, rfl, tm.to (s1.trans sJ), lo⟩, fun H' s' => q H' ((s1.trans sJ).trans s')⟩
  · have e1 := s1 _ _ hl.1
    have nra : r ≠ v := fun z => by rw [z, hl.1] at hr1'; cases hr1'
    refine ⟨fun σ J => Same (upd J1 v (.lst (xs ++ [.str sMore]))) J ∧ σ = [some a, some (.ref l), some (.str (kN c)), some (.ref v), some (.ref r)], ?_, ?_⟩
    · refine ⟨_, rfl, _, .ty "list", .type "list", .type "list", true, rfl, .ty _, .base (.lst e1), kit_ty (by decide +kernel), _, rfl, iteTt rfl ?_⟩
      exact ⟨_, rfl, .inl ⟨rfl, _, SqL.of e1⟩, v, _, _, rfl, rfl, e1, small1000 (by omega), Same.refl _, rfl⟩
    · rintro _ J ⟨sJ, rfl⟩
      exact ⟨_, rfl, _, rfl, _, rfl, r, _, _, rfl, sJ _ _ (by rw [upd_ne nra]; exact er), kN_s c, .inl (((hl.same s1).app ⟨by decide +kernel, by decide +kernel⟩ l59).same sJ).dq, fun H' s' => q J1 H' s1 (sJ.trans s')⟩
end
end L

set_option Elab.async false
set_option linter.all false
set_option maxRecDepth 100000
set_option maxHeartbeats 4000000
set_option pp.maxSteps 400
namespace L
open PySem L2 KX LamX
abbrev sIvd : Stmt := top 68
theorem Dq.isi {K : PySem.W.Frag} {H : Hp} {v : V} {d : PyData} (h : Dq H v d) : ∃ b1 b2, Isi K H v b1 b2 ∧ (b1 = false ∨ (∃ i, v = .int i ∧ b1 = true ∧ b2 = false) ∨ ∃ b, v = .bl b ∧ b1 = true ∧ b2 = true) := by
  cases h with
  | non => exact ⟨false, false, ⟨_, .base .non, kit_ty (by decide +kernel), kit_ty (by decide +kernel)⟩, .inl rfl⟩
  | bl b => exact ⟨true, true, ⟨_, .base (.bl b), kit_ty (by decide +kernel), kit_ty (by decide +kernel)⟩, .inr (.inr ⟨b, rfl, rfl, rfl⟩)⟩
  | int i => exact ⟨true, false, ⟨_, .base (.int i), kit_ty (by decide +kernel), kit_ty (by decide +kernel)⟩, .inr (.inl ⟨i, rfl, rfl, rfl⟩)⟩
  | str x => exact ⟨false, false, ⟨_, .base (.str x), kit_ty (by decide +kernel), kit_ty (by decide +kernel)⟩, .inl rfl⟩
  | lst e _ => exact ⟨false, false, ⟨_, .base (.lst e), kit_ty (by decide +kernel), kit_ty (by decide +kernel)⟩, .inl rfl⟩
  | tup e _ => exact ⟨false, false, ⟨_, .base (.tup e), kit_ty (by decide +kernel), kit_ty (by decide +kernel)⟩, .inl rfl⟩
  | dct e _ => exact ⟨false, false, ⟨_, .base (.dK e), kit_ty (by decide +kernel), kit_ty (by decide +kernel)⟩, .inl rfl⟩
theorem Dq.itm {K : PySem.W.Frag} {H : Hp} {v : V} {d : PyData} (h : Dq H v d) : Itm K H v := by
  by_cases e : ∃ i, v = .int i
  · exact .inl e
  obtain ⟨b1, b2, hi, hb⟩ := Dq.isi (K := K) h
  refine .inr ⟨fun i z => e ⟨i, z⟩, b1, b2, hi, ?_⟩
  rcases hb with hb | ⟨i, hi, _⟩ | ⟨_, _, h1, h2⟩
  · rw [hb]; rfl
  · exact absurd ⟨i, hi⟩ e
  · rw [h1, h2]; rfl
theorem okAllKv {n W : Nat} : ∀ {ds : List (PyData × PyData)}, (∀ d, d ∈ ds → OkD n W d.1 ∧ OkD n W d.2) → PyData.leavesShortKv 110 ds = true ∧ PyData.showableKv ds = true ∧ PyData.depthKv ds ≤ n ∧ PyData.weightKv ds ≤ ds.length * (2 * W + 2)
  | [], _ => ⟨rfl, rfl, Nat.zero_le _, Nat.zero_le _⟩
  | (a, b) :: ds, h => by
    obtain ⟨h1, h2⟩ := h (a, b) List.mem_cons_self
    dsimp only at h1 h2
    obtain ⟨g2, g3, g4, g5⟩ := okAllKv (ds := ds) fun x hx => h x (List.mem_cons_of_mem _ hx)
    refine ⟨?_, ?_, ?_, ?_⟩
    · simp only [PyData.leavesShortKv, h1.short, h2.short, g2, Bool.and_self]
    · simp only [PyData.showableKv, h1.shows, h2.shows, g3, Bool.and_self]
    · have := h1.deep
      have := h2.deep
      simp only [PyData.depthKv]; omega
    · have := h1.wt
      have := h2.wt
      simp only [PyData.weightKv, List.length_cons]
      rw [Nat.succ_mul]
      generalize ds.length * (2 * W + 2) = X at g5 ⊢
      omega
theorem okDi {n W m : Nat} {ds : List (PyData × PyData)} (h : ∀ d, d ∈ ds → OkD n W d.1 ∧ OkD n W d.2) (l : ds.length ≤ m) : OkD (n + 1) (m * (2 * W + 2)) (.dict ds) := by
  obtain ⟨g2, g3, g4, g5⟩ := okAllKv h
  have := Nat.mul_le_mul_right (2 * W + 2) l
  exact ⟨by simpa only [PyData.leavesShort] using g2, by simpa only [PyData.showable] using g3, by simp only [PyData.depth]; omega, by simp only [PyData.weight]; omega⟩
/-- lists and tables -/
def isM (G : Hp) (a : Addr) : Prop := (∃ xs, G a = some (.lst xs)) ∨ ∃ ps, G a = some (.tbl ps)
/-- no element of n, made anew -/
def Ivd (K : PySem.W.Frag) (H0 G : Hp) (v : V) (n : Nat) : Prop := nb (n : Int) v = false ∧ (((∃ d, Dq (mnS (isM G) G) v d ∧ OkD 4 20000 d) ∧ ∃ t, TyX K (mnS (isM G) G) v t ∧ PySem.W.kitOne K t (.type "list") = some false) ∨ ∃ a, v = .ref a ∧ H0 a = none ∧ G a = some (.lst [.int 0]))
def spIvd (K : PySem.W.Frag) : Sp := fun vs H Q _ => ∃ (p : Addr) (n : Nat), vs = [.ref p, .int (n : Int)] ∧ Bx H p ∧ 1 ≤ n ∧ n ≤ 16 ∧ ∀ v G, Bx G p → Sx p H G → Ivd K H G v n → Q v G
section
variable {P : Program} {w : World} {K : PySem.W.Frag} {mg : Str → Option Value} {base : Heap} {f f1 : Addr} {fd d1 : FuncData}
theorem scIvd : FnScope ["box", "n", "some"] ["box", "n"] (defScope sIvd) := ⟨rfl, rfl, rfl, by decide +kernel, rfl, by decide +kernel, by decide +kernel⟩
theorem ok_ivd (F : Fun K "_law_invalid" "_law_invalid" sIvd f fd) (M : Mn mg)
    (G1 : FnOk P w K mg base CX0 1 f1 d1 ["box", "size"] spTake) (b1 : Binds K d1 ["box", "size"] []) (k1 : PySem.W.keepIn K (.ref f1) = true) (m1 : mg "_law_take" = some (.ref f1)) :
    FnOk P w K mg base CX0 2 f fd ["box", "n"] (spIvd K) := by
  refine F.ok scIvd (fun vs H Q E h => ?_) (fun cdv A outer s H vs Q E hr h => ?_)
  · obtain ⟨p, n, rfl, _⟩ := h
    rfl
  obtain ⟨p, n, rfl, hb, n1, n16, q⟩ := h
  have hr1 : Room 1 _ := hr
  refine ⟨_, (pss_cons (ps_set (i := 2) scIvd.nd rfl (Or.inl rfl) (pe_lst (pa_cons (pv 1) (pa_cons (pe_un un_neg pe_int) (pa_cons pe_bl (pa_cons pe_bl (pa_cons pe_non (pa_cons pe_str (pa_cons (pe_lst (pa_cons pe_int pa_nil)) (pa_cons (pe_tup (pa_cons pe_int pa_nil)) (pa_cons pe_dnewK (pa_cons (pe_op op_add (pv 1) (pe_call G1 hr1 (by rfl) m1 k1 b1 .nil pass0 (pa_cons (pv 0) (pa_cons (pe_op op_pow pe_int pe_int) pa_nil)))) pa_nil)))))))))))) (pss_one (ps_ret (pe_ix (ixl (K := K) rfl) (pv 2) (pe_call G1 hr1 (by rfl) m1 k1 b1 .nil pass0 (pa_cons (pv 0) (pa_cons pe_int pa_nil))) (fun _ _ => rfl))))), ?_⟩
  refine ⟨_, rfl, _, rfl, szl _ (by simp), fun il hil => ⟨szl _ (by simp), fun tt htt => fun dd hdd => ?_⟩⟩
  have u1 := Same.new hil (.lst [.int 0])
  have u2 := Same.new htt (.tup [.int 0])
  have u3 := Same.new hdd (.dK [])
  have fil : H il = none := hil
  have eil := (u2.trans u3) _ _ (upd_same (H := H) (a := il) (o := .lst [.int 0]))
  have ett := u3 _ _ (upd_same (H := upd H il (.lst [.int 0])) (a := tt) (o := .tup [.int 0]))
  have edd := upd_same (H := upd (upd H il (.lst [.int 0])) tt (.tup [.int 0])) (a := dd) (o := .dK [])
  have ftt : H tt = none := u1.free htt
  have fdd : H dd = none := (u1.trans u2).free hdd
  have u13 := u1.trans (u2.trans u3)
  have b3 := hb.same u13
  generalize upd (upd (upd H il (.lst [.int 0])) tt (.tup [.int 0])) dd (.dK []) = H3 at eil ett edd u13 b3 ⊢
  clear u1 u2 u3 hil htt hdd
  refine ⟨_, rfl, _, rfl, _, _, rfl, rfl, ⟨by decide, by decide, by decide⟩, ?_⟩
  refine ⟨p, _, rfl, b3, by decide, by decide, fun r1 G1 r0 rl b4 x4 => ?_⟩
  have e29 : (10 : Int) ^ Int.toNat 29 = 100000000000000000000000000000 := by decide +kernel
  rw [e29] at rl
  refine ⟨_, _, rfl, rfl, szl _ (by simp), fun e he => ?_⟩
  have nil' : il ≠ p := fun z => hb.nn (z ▸ fil)
  have ntt : tt ≠ p := fun z => hb.nn (z ▸ ftt)
  have ndd : dd ≠ p := fun z => hb.nn (z ▸ fdd)
  have w1 := Same.new he (.lst [.int (n : Int), .int (-1), .bl true, .bl false, .non, .str (Str.ofString "0"), .ref il, .ref tt, .ref dd, .int ((n : Int) + r1)])
  have ee := upd_same (H := G1) (a := e) (o := .lst [.int (n : Int), .int (-1), .bl true, .bl false, .non, .str (Str.ofString "0"), .ref il, .ref tt, .ref dd, .int ((n : Int) + r1)])
  have nep : e ≠ p := b4.ne he
  have b5 := b4.same w1
  have x5 : Sx p H _ := (Sx.of u13).trans (x4.trans (Sx.of w1))
  have eil5 := w1 _ _ (x4 _ _ nil' eil)
  have ett5 := w1 _ _ (x4 _ _ ntt ett)
  have edd5 := w1 _ _ (x4 _ _ ndd edd)
  refine ⟨_, rfl, _, rfl, p, 10, rfl, b5, by decide, by decide, fun r2 G2 q0 ql b6 x6 => ?_⟩
  obtain ⟨_, v, _, hv, _, atv⟩ := pick (xs := [V.int (n : Int), .int (-1), .bl true, .bl false, .non, .str (Str.ofString "0"), .ref il, .ref tt, .ref dd, .int ((n : Int) + r1)]) (i := r2) q0 ql
  refine ⟨e, _, _, v, rfl, rfl, SqL.of (x6 _ _ nep ee), atv, ?_⟩
  have eil6 := x6 _ _ nil' eil5
  have ett6 := x6 _ _ ntt ett5
  have edd6 := x6 _ _ ndd edd5
  refine q v G2 b6 (x5.trans x6) ?_
  have nwi : ∀ {b : Addr} {o : HO}, G2 b = some o → (∀ xs, o ≠ .lst xs) → (∀ ps, o ≠ .tbl ps) → mnS (isM G2) G2 b = some o := fun {b o} g n1 n2 => mnS_in (fun z => z.elim (fun ⟨xs, e⟩ => n1 xs (Option.some.inj (g.symm.trans e))) fun ⟨ps, e⟩ => n2 ps (Option.some.inj (g.symm.trans e))) g
  have nbv : ∀ i : Int, (i < 0 ∨ (n : Int) ≤ i) → nb (n : Int) (.int i) = false := fun i h => by
    show (decide ((0 : Int) ≤ i) && decide (i < (n : Int))) = false
    rcases h with h | h
    · rw [decide_eq_false (by omega)]; rfl
    · rw [decide_eq_false (p := i < (n : Int)) (by omega), Bool.and_false]
  have iv : ∀ i : Int, (i < 0 ∨ (n : Int) ≤ i) → i.natAbs < 2 ^ 98 → Ivd K H G2 (.int i) n := fun i h l => ⟨nbv i h, .inl ⟨⟨_, .int _, (OkD.int l).mono (by decide) (by decide)⟩, _, .base (.int _), kit_ty (by decide +kernel)⟩⟩
  simp only [List.mem_cons, List.not_mem_nil, or_false] at hv
  rcases hv with rfl | rfl | rfl | rfl | rfl | rfl | rfl | rfl | rfl | rfl
  · exact iv _ (.inr (by omega)) (by omega)
  · exact iv _ (.inl (by omega)) (by decide)
  · exact ⟨rfl, .inl ⟨⟨_, .bl _, (OkD.bool _).mono (by decide) (by decide)⟩, _, .base (.bl _), kit_ty (by decide +kernel)⟩⟩
  · exact ⟨rfl, .inl ⟨⟨_, .bl _, (OkD.bool _).mono (by decide) (by decide)⟩, _, .base (.bl _), kit_ty (by decide +kernel)⟩⟩
  · exact ⟨rfl, .inl ⟨⟨_, .non, OkD.none.mono (by decide) (by decide)⟩, _, .base .non, kit_ty (by decide +kernel)⟩⟩
  · exact ⟨rfl, .inl ⟨⟨_, .str _, (OkD.str (n := 8) ⟨by decide +kernel, by decide +kernel⟩).mono (by decide) (by decide)⟩, _, .base (.str _), kit_ty (by decide +kernel)⟩⟩
  · exact ⟨rfl, .inr ⟨il, rfl, fil, eil6⟩⟩
  · exact ⟨rfl, .inl ⟨⟨_, .tup (nwi ett6 (fun _ z => nomatch z) (fun _ z => nomatch z)) (.cons (.int 0) .nil), (okTu (ds := [.int 0]) (m := 1) (fun d z => by rw [List.mem_singleton.mp z]; exact OkD.int (by decide)) (Nat.le_refl _)).mono (by decide) (by decide)⟩, _, .base (.tup (nwi ett6 (fun _ z => nomatch z) (fun _ z => nomatch z))), kit_ty (by decide +kernel)⟩⟩
  · exact ⟨rfl, .inl ⟨⟨_, .dct (nwi edd6 (fun _ z => nomatch z) (fun _ z => nomatch z)) .nil, (okDi (ds := []) (n := 0) (W := 0) (m := 0) (fun d z => (by cases z)) (Nat.le_refl _)).mono (by decide) (by decide)⟩, _, .base (.dK (nwi edd6 (fun _ z => nomatch z) (fun _ z => nomatch z))), kit_ty (by decide +kernel)⟩⟩
  · exact iv _ (.inr (by omega)) (by omega)
end
end L

set_option Elab.async false
set_option linter.all false
set_option maxRecDepth 100000
set_option maxHeartbeats 4000000
set_option pp.maxSteps 400
namespace L
open PySem L2 KX LamX
/-! ### the values that grow -/
theorem mnS_not {T : Addr → Prop} {J : Hp} {b : Addr} {o : HO} (h : mnS T J b = some o) : ¬ T b := fun z => by
  unfold mnS at h
  rw [if_pos z] at h
  cases h
/-- data, or a list of T -/
def Vy (K : PySem.W.Frag) (T : Addr → Prop) (J : Hp) (v : V) (i : Nat) : Prop :=
  ((∃ d, Dq (mnS T J) v d ∧ OkD 4 20000 d) ∧ ∃ t, TyX K (mnS T J) v t ∧ PySem.W.kitOne K t (.type "list") = some false) ∨
  ∃ a xs, v = .ref a ∧ T a ∧ J a = some (.lst xs) ∧ (∃ ds, DqAll (mnS T J) xs ds ∧ ∀ d, d ∈ ds → OkD 2 100 d) ∧ xs.length ≤ i
/-- such a value, or the machine -/
def Vz (K : PySem.W.Frag) (CF : Addr) (T : Addr → Prop) (J : Hp) (v : V) (i : Nat) : Prop := Vy K T J v i ∨ ∃ m k L S, v = .ref m ∧ TrA CF (mnS T J) m k L S ∧ LOk k L
/-- the lists of T may have grown by one text -/
def Rr (T : Addr → Prop) (J H' : Hp) : Prop := Same (mnS T J) (mnS T H') ∧ ∀ a xs, T a → J a = some (.lst xs) → ∃ ys, H' a = some (.lst (xs ++ ys)) ∧ (ys = [] ∨ ys = [.str sMore])
theorem Rr.of {T : Addr → Prop} {J H' : Hp} (s : Same J H') : Rr T J H' := ⟨mnS_mono s, fun a xs _ e => ⟨[], by rw [List.append_nil]; exact s _ _ e, .inl rfl⟩⟩
theorem Vy.to {K : PySem.W.Frag} {T : Addr → Prop} {J H' : Hp} {v : V} {i : Nat} (r : Rr T J H') (h : Vy K T J v i) : Vy K T H' v (i + 1) := by
  rcases h with ⟨⟨d, h1, h2⟩, t, h3, h4⟩ | ⟨a, xs, e, ta, ea, ⟨ds, h1, h2⟩, l⟩
  · exact .inl ⟨⟨d, Dq.same r.1 _ _ h1, h2⟩, t, TyX.same r.1 h3, h4⟩
  · obtain ⟨ys, e2, hy⟩ := r.2 a xs ta ea
    refine .inr ⟨a, _, e, ta, e2, ?_, ?_⟩
    · rcases hy with rfl | rfl
      · exact ⟨ds, by rw [List.append_nil]; exact DqAll.same r.1 _ _ h1, h2⟩
      · exact ⟨ds ++ [.str sMore], dqAll_app (.cons (.str _) .nil) (DqAll.same r.1 _ _ h1), fun d hd => (List.mem_append.mp hd).elim (h2 d) fun e => by rw [List.mem_singleton.mp e]; exact (OkD.str (n := 8) ⟨by decide +kernel, by decide +kernel⟩).mono (by decide) (by decide)⟩
    · rcases hy with rfl | rfl <;> simp <;> omega
theorem Vz.to {K : PySem.W.Frag} {CF : Addr} {T : Addr → Prop} {J H' : Hp} {v : V} {i : Nat} (r : Rr T J H') (h : Vz K CF T J v i) : Vz K CF T H' v (i + 1) :=
  h.imp (Vy.to r) fun ⟨m, k, L, S, a, b, c⟩ => ⟨m, k, L, S, a, b.to r.1, c⟩
theorem lsE_of {T : Addr → Prop} {J : Hp} {a : Addr} {xs : List V} {ds : List PyData} {i : Nat} (ta : T a) (ea : J a = some (.lst xs)) (h1 : DqAll (mnS T J) xs ds) (h2 : ∀ d, d ∈ ds → OkD 2 100 d) (l : xs.length ≤ i) (l2 : i ≤ 60) : LsE J a xs :=
  ⟨ea, ds, DqAll.same (fun b o e => mn_sx _ _ (fun z => mnS_not e (by rw [z]; exact ta)) (mnS_same _ _ e)) _ _ h1, h2, by rw [← dq_len h1]; omega⟩
theorem Vy.dq {K : PySem.W.Frag} {T : Addr → Prop} {J : Hp} {v : V} {i : Nat} (h : Vy K T J v i) (l2 : i ≤ 60) : ∃ d, Dq J v d ∧ OkD 4 20000 d := by
  rcases h with ⟨⟨d, h1, h2⟩, _⟩ | ⟨a, xs, rfl, ta, ea, ⟨ds, h1, h2⟩, l⟩
  · exact ⟨d, Dq.same mnS_same _ _ h1, h2⟩
  · exact (lsE_of ta ea h1 h2 l l2).dq
theorem Vz.notT {K : PySem.W.Frag} {C CF : Addr} {T : Addr → Prop} {J : Hp} {v : V} {i : Nat} (NB : CNb K C) (U : TfX K CF) (Y : CTi K CF) (kFC : PySem.W.kitOne K (.ref CF) (.ref C) = some false) (h : Vz K CF T J v i) (l2 : i ≤ 60) : NotT K C J v := by
  rcases h with h | ⟨m, k, L, S, rfl, tm, _⟩
  · obtain ⟨d, hd, _⟩ := h.dq l2
    exact notT_of NB hd
  · obtain ⟨dx, _, _, _, e, _⟩ := id tm.ob
    exact ⟨.ref CF, .base (.ins (mnS_same _ _ e) U.cl Y.ha Y.hn Y.htk Y.hm), kFC⟩
/-- where the loops of a turn stand -/
structure Vs (K : PySem.W.Frag) (CF : Addr) (T : Addr → Prop) (M0 : Hp) (vb vo vt : V) (i : Nat) (J : Hp) : Prop where
  s : Same M0 (mnS T J)
  l : ∀ a, T a → ∃ xs, J a = some (.lst xs)
  hb : Vz K CF T J vb i
  ho : Vy K T J vo i
  ht : Vy K T J vt i
section
variable {K : PySem.W.Frag} {CF : Addr} {T : Addr → Prop} {M0 J H' : Hp} {vb vo vt : V} {i : Nat}
theorem Vs.to (r : Rr T J H') (h : Vs K CF T M0 vb vo vt i J) : Vs K CF T M0 vb vo vt (i + 1) H' :=
  ⟨h.s.trans r.1, fun a ta => let ⟨xs, e⟩ := h.l a ta; let ⟨_, e2, _⟩ := r.2 a xs ta e; ⟨_, e2⟩, h.hb.to r, h.ho.to r, h.ht.to r⟩
theorem Vs.all (h : Vs K CF T M0 vb vo vt i J) : Same M0 J := h.s.trans mnS_same
theorem Vy.same (s : Same J H') (h : Vy K T J vo i) : Vy K T H' vo i := by
  rcases h with ⟨⟨d, h1, h2⟩, t, h3, h4⟩ | ⟨a, xs, e, ta, ea, ⟨ds, h1, h2⟩, l⟩
  · exact .inl ⟨⟨d, Dq.same (mnS_mono s) _ _ h1, h2⟩, t, TyX.same (mnS_mono s) h3, h4⟩
  · exact .inr ⟨a, xs, e, ta, s _ _ ea, ⟨ds, DqAll.same (mnS_mono s) _ _ h1, h2⟩, l⟩
theorem Vs.same (s : Same J H') (h : Vs K CF T M0 vb vo vt i J) : Vs K CF T M0 vb vo vt i H' :=
  ⟨h.s.trans (mnS_mono s), fun a ta => let ⟨xs, e⟩ := h.l a ta; ⟨xs, s _ _ e⟩, h.hb.imp (Vy.same s) fun ⟨m, k, L, S, a, b, c⟩ => ⟨m, k, L, S, a, b.to (mnS_mono s), c⟩, h.ho.same s, h.ht.same s⟩
end
theorem go_refd {P : Program} {w : World} {K : PySem.W.Frag} {mg : Str → Option Value} {base : Heap} {C CT CE CF : Addr} {T : Addr → Prop} {M0 J : Hp} {vb vo vt u a x y z : V} {i n : Nat} {l : Addr} (c : Bool) {Q : VK} {E : XK} (h : Vs K CF T M0 vb vo vt i J) (i58 : i ≤ 58) (hu : Vz K CF T J u i) (hl : J l = none)
    (ask : AskAt P w K mg base C CT CE M0 a n) (rz : Rz K C J n x y z c u) (q : ∀ H', Vs K CF T M0 vb vo vt (i + 1) H' → Q (.bl true) H') : spRefd P w K mg base C CT CE CF [a, .ref l, .str (kN c), u] (upd J l (.lst [x, y, z])) Q E := by
  have sl := Same.new hl (.lst [x, y, z])
  refine ⟨a, l, x, y, z, c, u, n, rfl, ask.same (ExtN.of (h.all.trans sl)), upd_same, rz.same sl, ?_⟩
  rcases hu with (⟨⟨d, h1, h2⟩, t, h3, h4⟩ | ⟨v, xs, rfl, ta, ea, ⟨ds, h1, h2⟩, lx⟩) | ⟨m, k, L, S, rfl, tm, lo⟩
  · exact .inl ⟨⟨d, Dq.same (mnS_same.trans sl) _ _ h1, h2⟩, ⟨t, TyX.same (mnS_same.trans sl) h3, h4⟩, fun H' s' => q H' (h.to (Rr.of (sl.trans s')))⟩
  · refine .inr (.inr ⟨v, xs, rfl, (lsE_of ta ea h1 h2 lx (by omega)).same sl, by omega, fun J2 H' s2 s3 => q H' (h.to ⟨fun b o e => ?_, fun b ys tb e => ?_⟩)⟩)
    · have nb := mnS_not e
      exact mnS_in nb (s3 b o (by rw [upd_ne (fun z => nb (by rw [z]; exact ta))]; exact s2 _ _ (sl _ _ (mnS_same _ _ e))))
    · by_cases k : b = v
      · subst k
        rw [ea] at e
        cases e
        exact ⟨_, s3 _ _ upd_same, .inr rfl⟩
      · exact ⟨[], by rw [List.append_nil]; exact s3 _ _ (by rw [upd_ne k]; exact s2 _ _ (sl _ _ e)), .inl rfl⟩
  · exact .inr (.inl ⟨m, k, L, S, rfl, tm.to (mnS_same.trans sl), lo, fun H' s' => q H' (h.to (Rr.of (sl.trans s')))⟩)
/-! ### what stays while the tables grow -/
theorem SqL.ext {K : PySem.W.Frag} {H G : Hp} {a : Addr} {xs : List V} (s : ExtN H G) (h : SqL K H a xs) : SqL K G a xs := by
  rcases h with (h | ⟨o, h⟩) | h
  · exact .inl (.inl (s _ _ h (fun _ z => nomatch z)))
  · exact .inl (.inr ⟨o, s _ _ h (fun _ z => nomatch z)⟩)
  · exact .inr h
theorem RowsL.ext {H G : Hp} {v : V} {tb : List (List Int)} (s : ExtN H G) (h : RowsL H v tb) : RowsL G v tb :=
  let ⟨a, rs, e, h1, h2⟩ := h; ⟨a, rs, e, s _ _ h1 (fun _ z => nomatch z), L2.Paired.mapP h2 fun _ _ z => s _ _ z (fun _ z => nomatch z)⟩
theorem TbA.ext {K : PySem.W.Frag} {C : Addr} {H J : Hp} {p x : Addr} {tb : List (List Int)} (s : ∀ b o, b ≠ p → H b = some o → (∀ ps, o ≠ .tbl ps) → J b = some o) (b : Bx H p) (h : TbA K C H x tb) : TbA K C J x tb := by
  obtain ⟨b0, b1, b2, eb, _⟩ := b
  have up : ∀ {r : Addr} {xs : List V}, SqT K H r xs → SqT K J r xs := fun {r xs} h => by
    rcases h with (h | ⟨o, h⟩) | h
    · exact .inl (.inl (s _ _ (fun z => by rw [z, eb] at h; cases h) h (fun _ z => nomatch z)))
    · exact .inl (.inr ⟨o, s _ _ (fun z => by rw [z, eb] at h; cases h) h (fun _ z => nomatch z)⟩)
    · exact .inr h
  obtain ⟨dx, t, rs, hp, ht, pr⟩ := h.ob
  exact ⟨dx, t, rs, s _ _ (fun z => by rw [z, eb] at hp; cases hp) hp (fun _ z => nomatch z), up ht, L2.Paired.mapP pr fun _ _ ⟨r, e, hr⟩ => ⟨r, e, up hr⟩⟩
theorem TrA.ext {CF : Addr} {H G : Hp} {a : Addr} {n : Nat} {L : Ltt} {S : List En} (s : ExtN H G) (h : TrA CF H a n L S) : TrA CF G a n L S := by
  obtain ⟨dx, tl, cl, wl, e, ⟨ps, ⟨ob, eo, ho⟩, pr⟩, ⟨bs, e1, p1⟩, ws, e2, p2⟩ := h.ob
  have k : ∀ {x : Addr} {u : HO}, H x = some u → (∀ ps, u ≠ .tbl ps) → G x = some u := fun h n => s _ _ h n
  exact ⟨dx, tl, cl, wl, k e (fun _ z => nomatch z), ⟨ps, ⟨ob, k eo (fun _ z => nomatch z), ho⟩, L2.Paired.mapP pr fun p q ⟨t, a1, a2⟩ => ⟨t, k a1 (fun _ z => nomatch z), k a2 (fun _ z => nomatch z)⟩⟩,
    ⟨bs, k e1 (fun _ z => nomatch z), L2.Paired.mapP p1 fun b e z => k z (fun _ z => nomatch z)⟩, ws, k e2 (fun _ z => nomatch z), L2.Paired.mapP p2 fun b e z => k z (fun _ z => nomatch z)⟩
theorem codeO_nl {c : Addr} {q : Str} {xs : List V} : CodeO c q ≠ .lst xs := fun z => by
  unfold CodeO at z
  cases z
theorem lamO_nl {f : Addr} {F : LF} {xs : List V} : LamO f F ≠ .lst xs := fun z => by
  unfold LamO at z
  cases z
theorem Tabs.mnS {T : Addr → Prop} {J : Hp} {TS : List (Addr × Str)} (l : ∀ a, T a → ∃ xs, J a = some (.lst xs)) (h : Tabs TS J) : Tabs TS (_root_.L.mnS T J) := fun p hp => by
  have k : ∀ {b : Addr} {o : HO}, J b = some o → (∀ xs, o ≠ .lst xs) → (_root_.L.mnS T J) b = some o := fun e n => mnS_in (fun z => let ⟨xs, e2⟩ := l _ z; n xs (Option.some.inj (e.symm.trans e2))) e
  obtain ⟨ps, h1, h2, h3⟩ := h p hp
  refine ⟨ps, k h1 (fun _ z => nomatch z), h2, fun pos cv hc => ?_⟩
  obtain ⟨c, a, b⟩ := h3 pos cv hc
  exact ⟨c, a, k b fun _ z => codeO_nl z⟩
theorem AskAt.mnS {P : Program} {w : World} {K : PySem.W.Frag} {mg : Str → Option Value} {base : Heap} {C CT CE : Addr} {T : Addr → Prop} {J : Hp} {v : V} {n : Nat} (l : ∀ a, T a → ∃ xs, J a = some (.lst xs)) (h : AskAt P w K mg base C CT CE J v n) : AskAt P w K mg base C CT CE (_root_.L.mnS T J) v n := by
  have k : ∀ {b : Addr} {o : HO}, J b = some o → (∀ xs, o ≠ .lst xs) → (_root_.L.mnS T J) b = some o := fun e n => mnS_in (fun z => let ⟨xs, e2⟩ := l _ z; n xs (Option.some.inj (e.symm.trans e2))) e
  obtain ⟨f, F, e, h1, h2, h3⟩ := h
  exact ⟨f, F, e, k h1 fun _ z => lamO_nl z, k h2 fun _ z => codeO_nl z, h3⟩
/-! ### where they come from -/
theorem ok5 {i : Nat} (h : i ≤ 16) : OkD 0 5 (.int (i : Int)) := by
  have k := OkD.int (i := (i : Int)) (by show (i : Int).natAbs < _; have : (i : Int).natAbs = i := rfl; rw [this]; exact Nat.lt_of_le_of_lt h (by decide))
  refine ⟨k.short, k.shows, k.deep, ?_⟩
  have all : ∀ j : Fin 17, PyData.weight (.int ((j.val : Nat) : Int)) ≤ 5 := by decide +kernel
  exact all ⟨i, by omega⟩
theorem rows_dqR {G : Hp} : ∀ row : List Int, DqAll G (row.map V.int) (iD row)
  | [] => .nil
  | x :: r => .cons (.int x) (rows_dqR r)
theorem rows_dq {G : Hp} {rs : List Addr} {tb : List (List Int)} (h : Paired (fun r row => G r = some (.lst (row.map V.int))) rs tb) : DqAll G (rs.map V.ref) (rD tb) := by
  induction h with
  | nil => exact .nil
  | cons h _ ih => exact .cons (.lst h (rows_dqR _)) ih
theorem row_ok {tb : List (List Int)} (S : Sqr tb) (d : PyData) (hd : d ∈ rD tb) : OkD 2 100 d := by
  have n16 := S.ge
  unfold rD at hd
  obtain ⟨row, hr, rfl⟩ := List.mem_map.mp hd
  obtain ⟨a, ha, er⟩ := List.mem_iff_getElem.mp hr
  have lr := S.row row hr
  refine (okLi (n := 0) (W := 5) (m := 16) (fun d hd => ?_) (by unfold iD; rw [List.length_map]; omega)).mono (by decide) (by decide)
  unfold iD at hd
  obtain ⟨x, hx, rfl⟩ := List.mem_map.mp hd
  obtain ⟨b, hb, eb⟩ := List.mem_iff_getElem.mp hx
  have hel := S.el a b ha (by omega)
  have em : mu tb a b = x := by
    unfold mu
    rw [List.getD_eq_getElem?_getD (l := tb), List.getElem?_eq_getElem ha]
    show (tb[a]).getD b 0 = x
    rw [er, List.getD_eq_getElem?_getD, List.getElem?_eq_getElem hb]; exact eb
  rw [em] at hel
  have ex : x = ((x.toNat : Nat) : Int) := by omega
  rw [ex]
  exact ok5 (by omega)
theorem Tabs.sx {H J : Hp} {p : Addr} {TS : List (Addr × Str)} (s : Sx p H J) (b : Bx H p) (h : Tabs TS H) : Tabs TS J := fun q hq => by
  obtain ⟨b0, b1, b2, eb, _⟩ := b
  obtain ⟨ps, h1, h2, h3⟩ := h q hq
  refine ⟨ps, s _ _ (fun z => by rw [z, eb] at h1; cases h1) h1, h2, fun pos cv hc => ?_⟩
  obtain ⟨c, a, e⟩ := h3 pos cv hc
  exact ⟨c, a, s _ _ (fun z => by rw [z, eb] at e; exact codeO_nl (Option.some.inj e).symm) e⟩
theorem isM_not {G : Hp} {b : Addr} {o : HO} (h : mnS (isM G) G b = some o) : G b = some o ∧ (∀ xs, o ≠ .lst xs) ∧ ∀ ps, o ≠ .tbl ps := by
  have e := mnS_same _ _ h
  have n := mnS_not h
  exact ⟨e, fun xs z => n (.inl ⟨xs, by rw [e, z]⟩), fun ps z => n (.inr ⟨ps, by rw [e, z]⟩)⟩
/-- what is neither a list nor a table stays -/
def ExtM (H G : Hp) : Prop := ∀ b o, H b = some o → (∀ xs, o ≠ .lst xs) → (∀ ps, o ≠ .tbl ps) → G b = some o
theorem ExtM.sx {H G : Hp} {p : Addr} (b : Bx H p) (s : Sx p H G) : ExtM H G := fun c o e n _ => s _ _ (fun z => by
  obtain ⟨b0, b1, b2, eb, _⟩ := b
  rw [z, eb] at e
  exact n _ (Option.some.inj e).symm) e
theorem ExtM.of {H G : Hp} (s : ExtN H G) : ExtM H G := fun c o e _ n => s _ _ e n
theorem ExtM.trans {H G J : Hp} (a : ExtM H G) (b : ExtM G J) : ExtM H J := fun c o e n m => b _ _ (a _ _ e n m) n m
theorem ExtM.carry {G J : Hp} {T : Addr → Prop} (k : ExtM G J) (l : ∀ a, T a → ∃ xs, J a = some (.lst xs)) : Same (mnS (isM G) G) (mnS T J) := fun b o e => by
  obtain ⟨e1, n1, n2⟩ := isM_not e
  have e2 := k _ _ e1 n1 n2
  exact mnS_in (fun z => let ⟨xs, e3⟩ := l _ z; n1 xs (Option.some.inj (e2.symm.trans e3))) e2
theorem dq_ref {H : Hp} {a : Addr} {d : PyData} (h : Dq H (.ref a) d) : ∃ o, H a = some o := by
  cases h with
  | lst e _ => exact ⟨_, e⟩
  | tup e _ => exact ⟨_, e⟩
  | dct e _ => exact ⟨_, e⟩
theorem ivd_T {K : PySem.W.Frag} {H0 G J : Hp} {v : V} {n : Nat} {a : Addr} {xs : List V} (h : Ivd K H0 G v n) (k : ExtM G J) (e : v = .ref a) (ea : J a = some (.lst xs)) : H0 a = none ∧ G a = some (.lst [.int 0]) := by
  subst e
  rcases h.2 with ⟨⟨d, hd, _⟩, _⟩ | ⟨b, eb, h1, h2⟩
  · obtain ⟨o, eo⟩ := dq_ref hd
    obtain ⟨e1, n1, n2⟩ := isM_not eo
    have e2 := k _ _ e1 n1 n2
    exact absurd (Option.some.inj (e2.symm.trans ea)) (n1 xs)
  · cases eb
    exact ⟨h1, h2⟩
theorem ivd_Vy {K : PySem.W.Frag} {H0 G J : Hp} {T : Addr → Prop} {v : V} {n : Nat} (h : Ivd K H0 G v n) (k : ExtM G J) (l : ∀ a, T a → ∃ xs, J a = some (.lst xs)) (kl : ∀ a, v = .ref a → G a = some (.lst [.int 0]) → J a = some (.lst [.int 0])) (tT : ∀ a xs, v = .ref a → J a = some (.lst xs) → T a) : Vy K T J v 16 := by
  rcases h.2 with ⟨⟨d, hd, ok⟩, t, h3, h4⟩ | ⟨b, eb, h1, h2⟩
  · exact .inl ⟨⟨d, Dq.same (k.carry l) _ _ hd, ok⟩, t, TyX.same (k.carry l) h3, h4⟩
  · have e := kl _ eb h2
    exact .inr ⟨b, _, eb, tT _ _ eb e, e, ⟨[.int 0], .cons (.int 0) .nil, fun d hd => by rw [List.mem_singleton.mp hd]; exact (ok5 (i := 0) (by decide)).mono (by decide) (by decide)⟩, by decide⟩
theorem ivd_itm {K : PySem.W.Frag} {T : Addr → Prop} {J : Hp} {v : V} {i : Nat} (h : Vy K T J v i) (l2 : i ≤ 60) : Itm K J v := by
  obtain ⟨d, hd, _⟩ := h.dq l2
  exact Dq.itm hd
section
variable {K : PySem.W.Frag} {CF : Addr} {T : Addr → Prop} {M0 M1 J H' : Hp} {vb vo vt : V} {i : Nat}
theorem Vs.re (s : Same J H') (h : Vs K CF T M0 vb vo vt i J) : Same M0 (mnS T H') ∧ Vs K CF T (mnS T H') vb vo vt i H' :=
  ⟨(h.same s).s, Same.refl _, (h.same s).l, (h.same s).hb, (h.same s).ho, (h.same s).ht⟩
theorem Vs.from (s : Same M0 M1) (h : Vs K CF T M1 vb vo vt i J) : Vs K CF T M0 vb vo vt i J := ⟨s.trans h.s, h.l, h.hb, h.ho, h.ht⟩
theorem Vs.newT (h : Vs K CF T M0 vb vo vt i J) {a : Addr} (e : J a = none) : ¬ T a := fun z => by
  obtain ⟨xs, e2⟩ := h.l _ z
  rw [e] at e2
  cases e2
end
end L

set_option Elab.async false
set_option linter.all false
set_option maxRecDepth 100000
set_option maxHeartbeats 4000000
set_option pp.maxSteps 400
namespace L
open PySem L2 KX LamX
abbrev sLaw : Stmt := top 69
abbrev nLaw : List Str := ["script", "k", "box", "rows", "table", "n", "turn", "machine", "bad", "good", "odd", "other", "one", "more", "pair", "ask", "row"]
def spLaw (K : PySem.W.Frag) (T : List (Addr × Str)) : Sp := fun vs H Q _ => ∃ (a : Addr) (ns : List Int), vs = [.ref a] ∧ SqL K H a (ns.map V.int) ∧ ns.length ≤ 63 ∧ Tabs T H ∧ ∀ H', Q (.bl true) H'
section
variable {P : Program} {w : World} {K : PySem.W.Frag} {mg : Str → Option Value} {base : Heap} {f f1 f2 f5 f6 f7 f8 f9 fI fF fR : Addr} {fd d1 d2 d5 d6 d7 d8 d9 dI dF dR : FuncData} {C CT CE CF CO : Addr} {TS : List (Addr × Str)}
theorem scLaw : FnScope nLaw ["script"] (defScope sLaw) := ⟨rfl, rfl, rfl, by decide +kernel, rfl, by decide +kernel, by decide +kernel⟩
theorem ok_law (F : Fun K "law" "law" sLaw f fd) (M : Mn mg) (T : CTx K mg C) (YC : CTi K C) (U : TfX K CF) (Y : CTi K CF) (NB : CNb K C) (NF : CNb K CF) (kFC : PySem.W.kitOne K (.ref CF) (.ref C) = some false) (mCF : mg "Transformations" = some (.ref CF))
    (MF : Mk K CF fF) (GF : FnOk P w K mg base (L2.CX P w) 5 fF dF ["self", "states", "letters"] (spTi CF CO)) (bF : Binds K dF ["self", "states", "letters"] [])
    (G1 : FnOk P w K mg base CX0 1 f1 d1 ["box", "size"] spTake) (b1 : Binds K d1 ["box", "size"] []) (k1 : PySem.W.keepIn K (.ref f1) = true) (m1 : mg "_law_take" = some (.ref f1))
    (G2 : FnOk P w K mg base CX0 2 f2 d2 ["box", "n"] (spIvd K)) (b2 : Binds K d2 ["box", "n"] []) (k2 : PySem.W.keepIn K (.ref f2) = true) (m2 : mg "_law_invalid" = some (.ref f2))
    (MI : Mk K C fI) (GI : FnOk P w K mg base CX0 5 fI dI ["self", "rows"] (spInit K C)) (bI : Binds K dI ["self", "rows"] [])
    (GR : FnOk P w K mg base CX0 1 fR dR ["self"] (spRowsM K C)) (bR : Binds K dR ["self"] []) (hR : Meth K C "rows" fR)
    (G5 : FnOk P w K mg base CX0 3 f5 d5 ["box"] spRows) (b5 : Binds K d5 ["box"] []) (k5 : PySem.W.keepIn K (.ref f5) = true) (m5 : mg "_law_rows" = some (.ref f5))
    (G6 : FnOk P w K mg base CX0 1 f6 d6 [] (spAsks P w K mg base C CT CE TS)) (b6 : Binds K d6 [] []) (k6 : PySem.W.keepIn K (.ref f6) = true) (m6 : mg "_law_asks" = some (.ref f6))
    (G7 : GOk P w K mg base CX0 8 f7 d7 ["ask", "things", "kind", "value"] (spRefd P w K mg base C CT CE CF)) (b7 : Binds K d7 ["ask", "things", "kind", "value"] []) (k7 : PySem.W.keepIn K (.ref f7) = true) (m7 : mg "_law_refused" = some (.ref f7))
    (G8 : FnOk P w K mg base CX0 1 f8 d8 ["cell"] spBox) (b8 : Binds K d8 ["cell"] []) (k8 : PySem.W.keepIn K (.ref f8) = true) (m8 : mg "_law_box" = some (.ref f8))
    (G9 : FnOk P w K mg base CX0 1 f9 d9 ["script", "k"] (spCell K)) (b9 : Binds K d9 ["script", "k"] []) (k9 : PySem.W.keepIn K (.ref f9) = true) (m9 : mg "_law_cell" = some (.ref f9)) :
    GOk P w K mg base CX0 9 f fd ["script"] (spLaw K TS) := by
  refine gok F scLaw (fun vs H Q E h => ?_) (fun cdv A outer s H vs Q E hr hA h => ?_)
  · obtain ⟨a, ns, rfl, _⟩ := h
    rfl
  obtain ⟨a0, ns, rfl, hN, h63, hT, q⟩ := h
  have hr1 : Room 1 _ := hr.mono (by decide)
  have hr2 : Room 2 _ := hr.mono (by decide)
  have hr3 : Room 3 _ := hr.mono (by decide)
  have hr6 : Room 6 _ := hr.mono (by decide)
  have hr8 : Room 8 _ := hr
  have hu := hr.units
  refine ⟨_, (pss_cons (ps_for PassesOwn.never rfl (pi_range1 (by rfl) M.range (pa_cons (pe_callB (call_max2 rfl) (by rfl) M.max (by decide +kernel) (pa_cons pe_int (pa_cons (pe_callB (call_min2 rfl) (by rfl) M.min (by decide +kernel) (pa_cons pe_int (pa_cons (pe_callB call_len_seq (by rfl) M.len PySem.boot_len (pa_cons (pv 0) pa_nil)) pa_nil))) pa_nil))) pa_nil)) (pg_name (i := 1) scLaw.nd rfl (Or.inl rfl)) (pss_cons (ps_set (i := 2) scLaw.nd rfl (Or.inl rfl) (pe_call G8 hr1 (by rfl) m8 k8 b8 .nil pass0 (pa_cons (pe_call G9 hr1 (by rfl) m9 k9 b9 .nil pass0 (pa_cons (pv 0) (pa_cons (pv 1) pa_nil))) pa_nil))) (pss_cons (ps_set (i := 3) scLaw.nd rfl (Or.inl rfl) (pe_call G5 hr3 (by rfl) m5 k5 b5 .nil pass0 (pa_cons (pv 2) pa_nil))) (pss_cons (ps_par (i := 4) (j := 5) (by rfl) scLaw.nd rfl rfl (by decide) rfl rfl (pa_cons (pe_make MI GI hr6 (by rfl) T.mgC bI .nil pass0 (pa_cons (pv 3) pa_nil)) (pa_cons (pe_callB (lenl (K := K) rfl) (by rfl) M.len PySem.boot_len (pa_cons (pv 3) pa_nil)) pa_nil)) (by rfl)) (pss_cons (ps_for PassesOwn.never rfl (pi_range1 (by rfl) M.range (pa_cons pe_int pa_nil)) (pg_name (i := 6) scLaw.nd rfl (Or.inl rfl)) (pss_cons (ps_set (i := 7) scLaw.nd rfl (Or.inl rfl) (pe_make MF GF hr6 (by rfl) mCF bF .nil passC2 (pa_cons pe_int (pa_cons (pe_disp (pps_cons pe_str (pe_lst (pa_cons pe_int pa_nil)) pps_nil) (by rfl) (by rfl) (by intro z; cases z) (by decide)) pa_nil)))) (pss_cons (ps_set (i := 8) scLaw.nd rfl (Or.inl rfl) (pe_ix (ixl (K := K) rfl) (pe_lst (pa_cons pe_non (pa_cons pe_int (pa_cons (pe_lc (own := [("row", 16)]) (g := gName 16) (tt := tYes) rfl scLaw.nd (pil (K := K) rfl (pv 3)) (blkOk_by (N := nLaw) (sc := defScope sLaw) (by decide +kernel)) (fun _ _ _ _ _ => (pg_name (i := 16) scLaw.nd rfl (Or.inl rfl))) (fun _ _ _ _ _ => pts_nil) (fun _ _ _ _ _ => (pe_callTy (clist (K := K) rfl) (by rfl) M.list (by decide +kernel) (pa_cons (pv 16) pa_nil)))) (pa_cons pe_str (pa_cons pe_dnewK (pa_cons (pe_tup pa_nil) (pa_cons pe_bl (pa_cons (pv 7) pa_nil))))))))) (pe_call G1 hr1 (by rfl) m1 k1 b1 .nil pass0 (pa_cons (pv 2) (pa_cons pe_int pa_nil))) (fun _ _ => rfl))) (pss_cons (ps_par3 (i := 9) (j := 10) (l := 11) (by rfl) scLaw.nd rfl rfl rfl (by decide) (by decide) (by decide) rfl rfl rfl (pa_cons (pe_call G1 hr1 (by rfl) m1 k1 b1 .nil pass0 (pa_cons (pv 2) (pa_cons (pv 5) pa_nil))) (pa_cons (pe_call G2 hr2 (by rfl) m2 k2 b2 .nil pass0 (pa_cons (pv 2) (pa_cons (pv 5) pa_nil))) (pa_cons (pe_call G2 hr2 (by rfl) m2 k2 b2 .nil pass0 (pa_cons (pv 2) (pa_cons (pv 5) pa_nil))) pa_nil))) (by rfl)) (pss_cons (ps_asg (pe_call0 G6 hr1 (by rfl) m6 k6 b6 .nil pass0) (pg_unl rfl (pgs_cons (pg_name (i := 12) scLaw.nd rfl (Or.inl rfl)) (pgs_cons (pg_name (i := 13) scLaw.nd rfl (Or.inl rfl)) (pgs_cons (pg_name (i := 14) scLaw.nd rfl (Or.inl rfl)) pgs_nil))))) (pss_cons (ps_for PassesOwn.never rfl (pi_list (pe_op op_cat (pe_op op_cat (pv 12) (pv 13)) (pv 14))) (pg_name (i := 15) scLaw.nd rfl (Or.inl rfl)) (pss_one (ps_if (pt_not (pt_val (pe_g G7 hA hr8 (by rfl) m7 k7 b7 .nil pass0 (pa_cons (pv 15) (pa_cons (pe_lst (pa_cons (pv 8) (pa_cons (pv 10) (pa_cons (pv 11) pa_nil)))) (pa_cons pe_str (pa_cons (pv 8) pa_nil))))))) (pss_one (ps_ret pe_bl)) pss_nil))) (pss_cons (ps_for PassesOwn.never rfl (pi_list (pe_op op_cat (pv 13) (pv 14))) (pg_name (i := 15) scLaw.nd rfl (Or.inl rfl)) (pss_one (ps_if (pt_not (pt_val (pe_g G7 hA hr8 (by rfl) m7 k7 b7 .nil pass0 (pa_cons (pv 15) (pa_cons (pe_lst (pa_cons (pv 4) (pa_cons (pv 10) (pa_cons (pv 11) pa_nil)))) (pa_cons pe_str (pa_cons (pv 10) pa_nil))))))) (pss_one (ps_ret pe_bl)) pss_nil))) (pss_cons (ps_for PassesOwn.never rfl (pi_list (pv 14)) (pg_name (i := 15) scLaw.nd rfl (Or.inl rfl)) (pss_cons (ps_if (pt_not (pt_val (pe_g G7 hA hr8 (by rfl) m7 k7 b7 .nil pass0 (pa_cons (pv 15) (pa_cons (pe_lst (pa_cons (pv 4) (pa_cons (pv 9) (pa_cons (pv 11) pa_nil)))) (pa_cons pe_str (pa_cons (pv 11) pa_nil))))))) (pss_one (ps_ret pe_bl)) pss_nil) (pss_one (ps_if (pt_not (pt_val (pe_g G7 hA hr8 (by rfl) m7 k7 b7 .nil pass0 (pa_cons (pv 15) (pa_cons (pe_lst (pa_cons (pv 4) (pa_cons (pv 10) (pa_cons (pv 9) pa_nil)))) (pa_cons pe_str (pa_cons (pv 10) pa_nil))))))) (pss_one (ps_ret pe_bl)) pss_nil)))) (pss_one (ps_for PassesOwn.never rfl (pi_list (pe_op op_cat (pe_op op_cat (pv 12) (pv 13)) (pv 14))) (pg_name (i := 15) scLaw.nd rfl (Or.inl rfl)) (pss_one (ps_if (pt_not (pt_val (pe_g G7 hA hr8 (by rfl) m7 k7 b7 .nil pass0 (pa_cons (pv 15) (pa_cons (pe_lst (pa_cons (pv 8) (pa_cons (pv 9) (pa_cons (pv 9) pa_nil)))) (pa_cons pe_str (pa_cons (pv 8) pa_nil))))))) (pss_one (ps_ret pe_bl)) pss_nil)))))))))))) (pss_one (ps_if (pt_cmpR (op_neD hu) (pe_meth0 (pv 4) T.cl hR GR hr1 bR .nil pass0) (pv 3) (nomark _)) (pss_one (ps_ret pe_bl)) pss_nil))))))) (pss_one (ps_ret pe_bl))), ?_⟩
  have len : (ns.map V.int).length = ns.length := List.length_map _
  refine ⟨_, rfl, a0, _, rfl, .inl hN, _, _, rfl, _, _, rfl, _, rfl, ?_⟩
  rw [len]
  generalize hm : (if (if (ns.length : Int) < 8 then (ns.length : Int) else 8) > 2 then (if (ns.length : Int) < 8 then (ns.length : Int) else 8) else 2) = mm
  have hm8 : 0 ≤ mm ∧ mm ≤ 8 := by rw [← hm]; split <;> split <;> omega
  refine ⟨by omega, by omega, ?_⟩
  refine for_range (lo := 0) (n := mm.toNat) (fun _ σ J => SqL K J a0 (ns.map V.int) ∧ Tabs TS J ∧ ∃ x1 x2 x3 x4 x5 x6 x7 x8 x9 x10 x11 x12 x13 x14 x15 x16, σ = [some (.ref a0), x1, x2, x3, x4, x5, x6, x7, x8, x9, x10, x11, x12, x13, x14, x15, x16]) ⟨hN, hT, _, _, _, _, _, _, _, _, _, _, _, _, _, _, _, _, rfl⟩ ?_ ?_
  rotate_left
  · rintro _ J ⟨sJ, tJ, x1, x2, x3, x4, x5, x6, x7, x8, x9, x10, x11, x12, x13, x14, x15, x16, rfl⟩
    exact q J
  rintro k _ J hk ⟨sJ, tJ, x1, x2, x3, x4, x5, x6, x7, x8, x9, x10, x11, x12, x13, x14, x15, x16, rfl⟩
  refine ⟨_, rfl, _, rfl, a0, ns, _, rfl, sJ, by omega, fun c => ⟨c, rfl, fun p J1 sJ1 hp0 bx1 => ?_⟩⟩
  have np : J p = none := hp0
  refine ⟨_, rfl, p, rfl, bx1, fun v J2 n f rv => ?_⟩
  have Tt : Tb (tab n f) := tab_tb rv.n1 rv.n16 rv.as
  have lt : (tab n f).length = n := tab_len _ _
  have n1 := rv.n1
  have n16 := rv.n16
  have rw2 : RowsL J2 v (tab n f) := rv.rows.same nw_to
  obtain ⟨av, rsv, rfl, ev, pv'⟩ := id rw2
  have lv : rsv.length = n := by rw [pv'.length, lt]
  refine ⟨_, rfl, fun y1 dy1 hy1 hdy1 ney1 => init_at rw2 Tt hy1 hdy1 ney1 fun J3 s3 t3 => ⟨_, rfl, av, _, rfl, .inl (SqL.of (s3 _ _ ev)), _, _, rfl, ?_⟩⟩
  rw [List.length_map, lv]
  have b3 : Bx J3 p := rv.bx.same s3
  have sJ3 : Same J J3 := Same.trans (fx sJ1 np rv.sx) s3
  have tJ2 : Tabs TS J3 := tJ.ext sJ3
  have exF : ∀ {b : Addr} {o : HO}, J3 b = some o → b ≠ p → (∀ ps, o ≠ .tbl ps) → mnS (fun b => b = p ∨ ∃ ps, J3 b = some (.tbl ps)) J3 b = some o := fun {b o} e n1 n2 => mnS_in (fun z => z.elim n1 fun ⟨ps, e2⟩ => n2 ps (Option.some.inj (e.symm.trans e2))) e
  have hF0 : ∃ F0, Same F0 J3 ∧ F0 p = none ∧ (∀ b ps, F0 b ≠ some (.tbl ps)) ∧ SqL K F0 a0 (ns.map V.int) ∧ TbA K C F0 y1 (tab n f) ∧ RowsL F0 (.ref av) (tab n f) := by
    refine ⟨_, mnS_same, ?_, fun b ps e => (mnS_not e) (.inr ⟨ps, mnS_same _ _ e⟩), SqL.ext (fun b o e nt => exF (sJ3 _ _ e) (ne_of_none e np) nt) sJ, TbA.ext (p := p) (fun b o nb e nt => exF e nb nt) b3 t3, RowsL.ext (fun b o e nt => ?_) (rv.rows.same (mn_nw bx1.nn))⟩
    · unfold mnS
      rw [if_pos (Or.inl rfl)]
    · exact exF (s3 _ _ (mn_same _ _ e)) (fun z => by rw [z, mn_p] at e; cases e) nt
  obtain ⟨F0, sF0, pF0, nF0, sqF, tbF, rwF⟩ := hF0
  refine ⟨_, rfl, by decide, by decide, ?_⟩
  refine for_range (lo := 0) (n := Int.toNat 2) (fun _ σ G => Same F0 G ∧ Bx G p ∧ Tabs TS G ∧ ∃ x6 x7 x8 x9 x10 x11 x12 x13 x14 x15 x16, σ = [some (.ref a0), some (.int (0 + (k : Int))), some (.ref p), some (.ref av), some (.ref y1), some (.int (n : Int)), x6, x7, x8, x9, x10, x11, x12, x13, x14, x15, x16])
    ⟨sF0, b3, tJ2, _, _, _, _, _, _, _, _, _, _, _, rfl⟩ ?_ ?_
  rotate_left
  · rintro _ G ⟨sG, bG, tG, x6, x7, x8, x9, x10, x11, x12, x13, x14, x15, x16, rfl⟩
    have yG := tbF.to sG
    obtain ⟨dxg, tg, rsg, hpg, _, _⟩ := id yG.ob
    refine ⟨_, rfl, y1, dxg, _, rfl, hpg, ?_⟩
    refine ⟨rfl, y1, tab n f, rfl, yG, by rw [lt]; exact n16, fun w H1 rw1 s1 => ?_⟩
    refine ⟨_, rfl, .list (rD (tab n f)), .list (rD (tab n f)), (rw1.same nw_same).dp, (rwF.same (sG.trans s1)).dp, rD_shaped _, rD_shaped _, _, rfl, ?_⟩
    rw [rD_refl]
    exact iteF ⟨(sG.trans s1).seq sqF, tG.ext s1, _, _, _, _, _, _, _, _, _, _, _, _, _, _, _, _, rfl⟩
  rintro t _ G ht ⟨sG, bG, tG, x6, x7, x8, x9, x10, x11, x12, x13, x14, x15, x16, rfl⟩
  -- the machine
  refine fun pl hpl => ⟨szl _ (by simp), fun t0 ht0 => ⟨Same.new ht0 (.lst [.int 0]) _ _ upd_same, [(Sum.inr (Str.ofString "a"), .ref t0)], rfl, (by show 1 ≤ 15; decide), ?_⟩⟩
  have w1 : Same G (upd (upd (upd G pl (.dK [])) t0 (.lst [.int 0])) pl (.dK [(Sum.inr (Str.ofString "a"), .ref t0)])) := fun b u e => by
    rw [upd_ne (ne_of_none e hpl)]
    exact ((Same.new hpl (.dK [])).trans (Same.new ht0 (.lst [.int 0]))) _ _ e
  have ntp : t0 ≠ pl := (ne_of_none upd_same ht0).symm
  have gt : Gt (upd (upd (upd G pl (.dK [])) t0 (.lst [.int 0])) pl (.dK [(Sum.inr (Str.ofString "a"), .ref t0)])) pl [(Str.ofString "a", [0])] := ⟨_, upd_same, .cons ⟨rfl, t0, rfl, .inl (by rw [upd_ne ntp]; exact upd_same)⟩ .nil⟩
  have em : mergeK [] [((Sum.inr (Str.ofString "a") : Key), V.ref t0)] = [(Sum.inr (Str.ofString "a"), .ref t0)] := rfl
  rw [em]
  generalize upd (upd (upd G pl (.dK [])) t0 (.lst [.int 0])) pl (.dK [(Sum.inr (Str.ofString "a"), .ref t0)]) = H1 at w1 gt ⊢
  clear em ntp ht0 hpl
  refine fun xm dxm hxm hdx ndx => ?_
  have sn : Same H1 (upd (upd H1 dxm (.own xm)) xm (.ins CF dxm [])) := fun b o e => by rw [upd_ne (ne_of_none e hxm), upd_ne (ne_of_none e hdx)]; exact e
  refine ⟨xm, dxm, 1, pl, _, rfl, upd_same, lok1, nok1, gt.to sn, fun S H2 rs tm ss => ⟨rfl, ?_⟩, fun H' d rn ss hd => ?_⟩
  rotate_left
  · obtain ⟨S, rs⟩ := res1
    have := Bf.det rs rn
    cases this
  have w2 : Same G H2 := w1.trans fun b o e => ss _ _ (ne_of_none e hxm) (sn _ _ e)
  have b2' := bG.same w2
  have tm2 := tm.mnp b2'
  clear ss sn gt hxm hdx ndx w1
  have rG2 := rwF.same (sG.trans w2)
  obtain ⟨av', rs2, eav, ev2, pr2⟩ := id rG2
  cases eav
  refine ⟨_, rfl, av, rfl, ⟨_, SqL.of ev2⟩, fun D hD => ?_⟩
  refine lc_it (walk_list (xs := rs2.map V.ref)) (fun i J => Part H2 J D ((tab n f).take i)) (Part.start (Same.refl H2) hD) (fun i J _ z => SqL.of (z.same _ _ ev2)) ?_ ?_
  · rintro i x J J1 hi pa ⟨rfl, hx⟩
    obtain ⟨r, hr, rfl⟩ := ref_at hx
    obtain ⟨row, hrow, er⟩ := pair_at pr2 hr
    refine ⟨rfl, _, rfl, r, _, rfl, .inl (SqL.of (pa.same _ _ er)), fun l hl => ?_⟩
    have hi' : i < (tab n f).length := by rw [← pr2.length]; rw [List.length_map] at hi; exact hi
    obtain ⟨acc, ea, la, p1⟩ := pa.add (q := l) (row := row) (Same.new hl _) hl upd_same
    have tk : (tab n f).take (i + 1) = (tab n f).take i ++ [row] := by rw [List.take_add_one, hrow]; rfl
    refine ⟨acc, ea, by rw [la, List.length_take]; exact small1000 (by omega), ?_⟩
    rw [tk]
    exact p1
  · rintro J pa
    have tkA : (tab n f).take (rs2.map V.ref).length = tab n f := by rw [List.length_map, pr2.length]; exact List.take_length
    rw [tkA] at pa
    have bJ := b2'.same pa.same
    have tgJ := tG.ext (w2.trans pa.same)
    refine fun dk hdk => ⟨szl _ (by simp), fun tt htt => ⟨_, rfl, szl _ (by simp), fun e he => ?_⟩⟩
    have u1 := Same.new hdk (.dK [])
    have u2 := Same.new htt (.tup [])
    have u3 := Same.new he (.lst [.non, .int 7, .ref D, .str (Str.ofString "table"), .ref dk, .ref tt, .bl true, .ref xm])
    have u13 := u1.trans (u2.trans u3)
    have pa2 := pa.to u13
    have bJ2 := bJ.same u13
    have nep := (bJ.same (u1.trans u2)).ne he
    have edk := (u2.trans u3) _ _ (upd_same (H := J) (a := dk) (o := .dK []))
    have ett := u3 _ _ (upd_same (H := upd J dk (.dK [])) (a := tt) (o := .tup []))
    have ee := upd_same (H := upd (upd J dk (.dK [])) tt (.tup [])) (a := e) (o := .lst [.non, .int 7, .ref D, .str (Str.ofString "table"), .ref dk, .ref tt, .bl true, .ref xm])
    generalize upd (upd (upd J dk (.dK [])) tt (.tup [])) e (.lst [.non, .int 7, .ref D, .str (Str.ofString "table"), .ref dk, .ref tt, .bl true, .ref xm]) = JL at u13 pa2 bJ2 edk ett ee ⊢
    clear u1 u2 u3 hdk htt he
    refine ⟨_, rfl, p, _, rfl, bJ2, by decide, by decide, fun r1 G1 r10 r11 b1 x1 => ?_⟩
    obtain ⟨_, bad, _, hbad, _, atb⟩ := pick (xs := [V.non, .int 7, .ref D, .str (Str.ofString "table"), .ref dk, .ref tt, .bl true, .ref xm]) (i := r1) r10 r11
    refine ⟨e, _, _, bad, rfl, rfl, SqL.of (x1 _ _ nep ee), atb, ?_⟩
    refine ⟨_, rfl, _, rfl, p, _, rfl, b1, by omega, by omega, fun g G2 g0 gl b2 x2 => ?_⟩
    obtain ⟨kg, rfl⟩ := Int.eq_ofNat_of_zero_le g0
    refine ⟨_, rfl, _, rfl, p, n, rfl, b2, n1, n16, fun vo Go bo xo io => ?_⟩
    refine ⟨_, rfl, _, rfl, p, n, rfl, bo, n1, n16, fun vt Gt bt xt it => ?_⟩
    refine ⟨_, _, _, rfl, ?_⟩
    refine ⟨rfl, Tabs.sx xt bo (Tabs.sx xo b2 (Tabs.sx x2 b1 (Tabs.sx x1 bJ2 (Tabs.ext tgJ u13)))), fun r Hs eN tH as => ?_⟩
    obtain ⟨ao, am, ap, xs, ys, zs, er, eo, em, ep, l1, l2, l3, h1, h2, h3⟩ := as
    refine ⟨r, _, rfl, SqL.of er, rfl, _, _, rfl, _, _, rfl, _, _, rfl, rfl, ?_⟩
    -- what stays
    have sHL : Same G JL := w2.trans (pa.same.trans u13)
    have xLt : Sx p JL Gt := x1.trans (x2.trans (xo.trans xt))
    have xL2 : Sx p JL G2 := x1.trans x2
    have kL : ExtM JL Hs := (ExtM.sx bJ2 xLt).trans (ExtM.of eN)
    have kO : ExtM Go Hs := (ExtM.sx bo xt).trans (ExtM.of eN)
    have kT : ExtM Gt Hs := ExtM.of eN
    have lO : ∀ a, a ≠ p → ∀ {zs : List V}, Go a = some (.lst zs) → Hs a = some (.lst zs) := fun a na zs ea => eN _ _ (xt _ _ na ea) (fun _ z => nomatch z)
    have lL : ∀ a, a ≠ p → ∀ {zs : List V}, JL a = some (.lst zs) → Hs a = some (.lst zs) := fun a na zs ea => eN _ _ (xLt _ _ na ea) (fun _ z => nomatch z)
    obtain ⟨rs, eD, prD⟩ := pa2.at_
    have nDp : D ≠ p := fun z => b2'.nn (by rw [← z]; exact pa2.new)
    have nrp : ∀ {q : Addr}, H2 q = none → q ≠ p := fun h z => b2'.nn (by rw [← z]; exact h)
    have eDs := lL _ nDp eD
    -- the lists among the three
    have hTe : ∃ T : Addr → Prop, T = fun a => (bad = .ref a ∨ vo = .ref a ∨ vt = .ref a) ∧ ∃ xs, Hs a = some (.lst xs) := ⟨_, rfl⟩
    obtain ⟨T, hT⟩ := hTe
    have hTl : ∀ a, T a → ∃ xs, Hs a = some (.lst xs) := fun a z => by rw [hT] at z; exact z.2
    have hBad : ∀ a xs, bad = .ref a → Hs a = some (.lst xs) → a = D := fun a xs eb ea => by
      subst eb
      have no : ∀ {o : HO}, JL a = some o → (∀ xs, o ≠ .lst xs) → (∀ ps, o ≠ .tbl ps) → False := fun e n1 n2 => n1 _ (Option.some.inj ((kL _ _ e n1 n2).symm.trans ea))
      simp only [List.mem_cons, List.not_mem_nil, or_false, reduceCtorEq, false_or, V.ref.injEq] at hbad
      rcases hbad with rfl | rfl | rfl | rfl
      · rfl
      · exact (no edk (fun _ z => nomatch z) (fun _ z => nomatch z)).elim
      · exact (no ett (fun _ z => nomatch z) (fun _ z => nomatch z)).elim
      · obtain ⟨dx, _, _, _, e9, _⟩ := id (tm2.to ((mn_same (p := p)).trans (pa.same.trans u13))).ob
        exact (no e9 (fun _ z => nomatch z) (fun _ z => nomatch z)).elim
    have hTf : ∀ a, T a → H2 a = none ∧ ∃ x xs, Hs a = some (.lst (x :: xs)) ∧ ∀ c, ¬ AskAt P w K mg base C CT CE Hs x c := fun a z => by
      rw [hT] at z
      obtain ⟨h, zs, ez⟩ := z
      have no0 : ∀ c, ¬ AskAt P w K mg base C CT CE Hs (.int 0) c := fun c ⟨f, F, e, _⟩ => nomatch e
      rcases h with h | h | h
      · have := hBad a zs h ez
        subst this
        refine ⟨pa2.new, ?_⟩
        have rsl : rs.length = n := by rw [prD.length, lt]
        cases rs with
        | nil => simp at rsl; omega
        | cons r0 rs0 =>
          obtain ⟨row, _, q0⟩ := pair_at prD (i := 0) rfl
          refine ⟨_, _, eDs, fun c ⟨f, F, e, hf, _⟩ => ?_⟩
          cases e
          have := lL _ (nrp q0.2.1) q0.2.2
          rw [this] at hf
          exact lamO_nl (Option.some.inj hf).symm
      · obtain ⟨f1, f2⟩ := ivd_T io kO h ez
        have fL := xL2.free b2 f1
        exact ⟨(pa.same.trans u13).free fL, _, _, lO _ (fun z => b2.nn (by rw [← z]; exact f1)) f2, no0⟩
      · obtain ⟨f1, f2⟩ := ivd_T it kT h ez
        have fL := (xL2.trans xo).free bo f1
        exact ⟨(pa.same.trans u13).free fL, _, _, eN _ _ f2 (fun _ z => nomatch z), no0⟩
    have nAsk : ∀ {a : Addr} {zs : List V} {c : Nat}, Hs a = some (.lst zs) → (∀ v, v ∈ zs → AskAt P w K mg base C CT CE Hs v c) → ¬ T a := fun e h z => by
      obtain ⟨_, x, xs, e2, no⟩ := hTf _ z
      rw [e] at e2
      cases e2
      exact no _ (h x List.mem_cons_self)
    have exG : ∀ b o, b ≠ p → G b = some o → (∀ ps, o ≠ .tbl ps) → Hs b = some o := fun b o nb e nt => eN _ _ (xLt _ _ nb (sHL _ _ e)) nt
    have sF : Same F0 (mnS T Hs) := fun b o e => mnS_in (fun z => by
      have e2 := w2 _ _ (sG _ _ e)
      rw [(hTf b z).1] at e2
      cases e2) (exG b o (ne_of_none e pF0) (sG _ _ e) fun ps z => nF0 b ps (by rw [e, z]))
    have bS : Bx Hs p := by
      obtain ⟨c0, c1, c2, e1, e2⟩ := bt
      exact ⟨c0, c1, c2, eN _ _ e1 (fun _ z => nomatch z), e2⟩
    have bM : Bx (mnS T Hs) p := by
      obtain ⟨c0, c1, c2, e1, e2⟩ := bS
      exact ⟨c0, c1, c2, mnS_in (fun z => b2'.nn (hTf p z).1) e1, e2⟩
    have tM : Tabs TS (mnS T Hs) := Tabs.mnS hTl tH
    have a1 : ∀ v, v ∈ xs → AskAt P w K mg base C CT CE (mnS T Hs) v 1 := fun v hv => (h1 v hv).mnS hTl
    have a2 : ∀ v, v ∈ ys → AskAt P w K mg base C CT CE (mnS T Hs) v 2 := fun v hv => (h2 v hv).mnS hTl
    have a3 : ∀ v, v ∈ zs → AskAt P w K mg base C CT CE (mnS T Hs) v 3 := fun v hv => (h3 v hv).mnS hTl
    have eo' := mnS_in (nAsk eo h1) eo
    have em' := mnS_in (nAsk em h2) em
    have ep' := mnS_in (nAsk ep h3) ep
    -- the three values
    have vyo : Vy K T Hs vo 16 := ivd_Vy io kO hTl (fun a e ea => lO _ (fun z => by
      rcases io.2 with ⟨⟨d, hd, _⟩, _⟩ | ⟨b, eb, f1, f2⟩
      · rw [e] at hd
        obtain ⟨o, eo⟩ := dq_ref hd
        obtain ⟨e1, n1, n2⟩ := isM_not eo
        exact n1 _ (Option.some.inj (e1.symm.trans ea))
      · rw [e] at eb
        cases eb
        exact b2.nn (by rw [← z]; exact f1)) ea) (fun a xs e ea => by rw [hT]; exact ⟨.inr (.inl e), xs, ea⟩)
    have vyt : Vy K T Hs vt 16 := ivd_Vy it kT hTl (fun a e ea => eN _ _ ea (fun _ z => nomatch z)) (fun a xs e ea => by rw [hT]; exact ⟨.inr (.inr e), xs, ea⟩)
    have vzb : Vz K CF T Hs bad 16 := by
      have nl : ∀ {b : Addr} {o : HO}, JL b = some o → (∀ xs, o ≠ .lst xs) → (∀ ps, o ≠ .tbl ps) → mnS T Hs b = some o := fun {b o} e m1 m2 => by
        have e2 := kL _ _ e m1 m2
        exact mnS_in (fun z => by
          obtain ⟨xs, e3⟩ := hTl _ z
          exact m1 _ (Option.some.inj (e2.symm.trans e3))) e2
      have mem := hbad
      simp only [List.mem_cons, List.not_mem_nil, or_false] at hbad
      rcases hbad with rfl | rfl | rfl | rfl | rfl | rfl | rfl | rfl
      · exact .inl (.inl ⟨⟨_, .non, OkD.none.mono (by decide) (by decide)⟩, _, .base .non, kit_ty (by decide +kernel)⟩)
      · exact .inl (.inl ⟨⟨_, .int 7, (OkD.int (by decide)).mono (by decide) (by decide)⟩, _, .base (.int 7), kit_ty (by decide +kernel)⟩)
      · refine .inl (.inr ⟨D, _, rfl, by rw [hT]; exact ⟨.inl rfl, _, eDs⟩, eDs, ⟨rD (tab n f), rows_dq (L2.Paired.mapP prD fun r row q => mnS_in (fun z => ?_) (lL _ (nrp q.2.1) q.2.2)), row_ok Tt.sq⟩, by rw [List.length_map, prD.length, lt]; exact n16⟩)
        rw [hT] at z
        obtain ⟨h, us, ez⟩ := z
        rcases h with h | h | h
        · exact q.1 (V.ref.inj h).symm
        · obtain ⟨f1, _⟩ := ivd_T io kO h ez
          have := xL2.free b2 f1
          rw [q.2.2] at this
          cases this
        · obtain ⟨f1, _⟩ := ivd_T it kT h ez
          have := (xL2.trans xo).free bo f1
          rw [q.2.2] at this
          cases this
      · exact .inl (.inl ⟨⟨_, .str _, (OkD.str (n := 8) ⟨by decide +kernel, by decide +kernel⟩).mono (by decide) (by decide)⟩, _, .base (.str _), kit_ty (by decide +kernel)⟩)
      · exact .inl (.inl ⟨⟨_, .dct (nl edk (fun _ z => nomatch z) (fun _ z => nomatch z)) .nil, (okDi (ds := []) (n := 0) (W := 0) (m := 0) (fun d z => (by cases z)) (Nat.le_refl _)).mono (by decide) (by decide)⟩, _, .base (.dK (nl edk (fun _ z => nomatch z) (fun _ z => nomatch z))), kit_ty (by decide +kernel)⟩)
      · exact .inl (.inl ⟨⟨_, .tup (nl ett (fun _ z => nomatch z) (fun _ z => nomatch z)) .nil, (okTu (ds := []) (n := 0) (W := 0) (m := 0) (fun d z => (by cases z)) (Nat.le_refl _)).mono (by decide) (by decide)⟩, _, .base (.tup (nl ett (fun _ z => nomatch z) (fun _ z => nomatch z))), kit_ty (by decide +kernel)⟩)
      · exact .inl (.inl ⟨⟨_, .bl _, (OkD.bool _).mono (by decide) (by decide)⟩, _, .base (.bl _), kit_ty (by decide +kernel)⟩)
      · refine .inr ⟨xm, 1, _, S, rfl, tm2.ext fun b o e nt => ?_, lok1⟩
        have nbp : b ≠ p := fun z => by rw [z, mn_p] at e; cases e
        have e2 := (pa.same.trans u13) _ _ (mn_same _ _ e)
        exact mnS_in (fun z => by
          have e3 := (hTf b z).1
          rw [mn_same _ _ e] at e3
          cases e3) (eN _ _ (xLt _ _ nbp e2) nt)
    have V0 : Vs K CF T (mnS T Hs) bad vo vt 16 Hs := ⟨Same.refl _, hTl, vzb, vyo, vyt⟩
    have nbo : nb (n : Int) vo = false := io.1
    have nbt : nb (n : Int) vt = false := it.1
    have nbg : nb (n : Int) (.int (kg : Int)) = true := by
      show (decide ((0 : Int) ≤ kg) && decide ((kg : Int) < (n : Int))) = true
      rw [decide_eq_true (by omega), decide_eq_true (by omega)]; rfl
    rw [← lt] at nbo nbt nbg
    clear hbad nAsk hTf hBad exG kL kO kT lO lL
    generalize mnS T Hs = M0 at V0 sF bM tM a1 a2 a3 eo' em' ep'
    refine ⟨_, rfl, _, rfl, ao, am, _, _, rfl, rfl, V0.all _ _ eo', V0.all _ _ em', szl _ (by simp [l1, l2]), fun c1 hc1 => ⟨_, rfl, c1, ap, _, _, rfl, rfl, upd_same, (Same.new hc1 _) _ _ (V0.all _ _ ep'), szl _ (by simp [l1, l2, l3]), fun c2 hc2 => ?_⟩⟩
    have q1 := Same.new hc1 (.lst (xs ++ ys))
    have q2 := Same.new hc2 (.lst (xs ++ ys ++ zs))
    have nc := (V0.same q1).newT hc2
    have ec := upd_same (H := upd Hs c1 (.lst (xs ++ ys))) (a := c2) (o := .lst (xs ++ ys ++ zs))
    generalize hN : upd (upd Hs c1 (.lst (xs ++ ys))) c2 (.lst (xs ++ ys ++ zs)) = N1 at q1 q2 ec ⊢
    obtain ⟨s1, v1⟩ := V0.re (q1.trans q2)
    clear hN q1 q2 hc1 hc2
    refine ⟨c2, rfl, ⟨_, SqL.of ec⟩, ?_⟩
    refine for_it (walk_list (xs := (xs ++ ys ++ zs))) (fun i σ J' => Vs K CF T (mnS T N1) bad vo vt (16 + i) J' ∧ ∃ x15 x16, σ = [some (.ref a0), some (.int (0 + (k : Int))), some (.ref p), some (.ref av), some (.ref y1), some (.int (n : Int)), some (.int (0 + (t : Int))), some (.ref xm), some bad, some (.int (kg : Int)), some vo, some vt, some (.ref ao), some (.ref am), some (.ref ap), x15, x16]) ⟨v1, _, _, rfl⟩ (fun i σ J' _ z => SqL.of (z.1.all _ _ (mnS_in nc ec))) ?_ ?_
    · rintro i v _ J' J1 hi ⟨vs, x15, x16, rfl⟩ ⟨rfl, hv⟩
      have hi' : i < 11 := by simpa [l1, l2, l3] using hi
      have mv : v ∈ (xs ++ ys ++ zs) := List.mem_of_getElem? hv
      obtain ⟨c, ask⟩ : ∃ c, AskAt P w K mg base C CT CE (mnS T N1) v c := by
        rcases List.mem_append.mp mv with q | q
        · rcases List.mem_append.mp q with q | q
          · exact ⟨1, (a1 v q).same (ExtN.of s1)⟩
          · exact ⟨2, (a2 v q).same (ExtN.of s1)⟩
        · exact ⟨3, (a3 v q).same (ExtN.of s1)⟩
      refine ⟨_, rfl, _, rfl, _, rfl, _, rfl, szl _ (by simp), fun l hl => ⟨_, rfl, ?_⟩⟩
      dsimp only [tNil, List.append_nil]
      refine go_refd (a := v) true vs (by omega) vs.hb hl ask (.inl ⟨vs.hb.notT NB U Y kFC (by omega), rfl, rfl⟩) fun Hn vs => ?_
      refine ⟨_, rfl, iteFf rfl ?_⟩
      exact ⟨by rw [show 16 + (i + 1) = 16 + i + 1 by omega]; exact vs, _, _, rfl⟩
    rintro _ K1 ⟨vs, x15, x16, rfl⟩
    have en1 : ((xs ++ ys ++ zs)).length = 11 := by simp [l1, l2, l3]
    rw [en1] at vs
    have V1 : Vs K CF T M0 bad vo vt 27 K1 := Vs.from s1 vs
    clear vs
    refine ⟨_, rfl, _, rfl, am, ap, _, _, rfl, rfl, V1.all _ _ em', V1.all _ _ ep', szl _ (by simp [l2, l3]), fun c2 hc2 => ?_⟩
    have q2 := Same.new hc2 (.lst (ys ++ zs))
    have nc := V1.newT hc2
    have ec := upd_same (H := K1) (a := c2) (o := .lst (ys ++ zs))
    generalize hN : upd K1 c2 (.lst (ys ++ zs)) = N2 at q2 ec ⊢
    obtain ⟨s2, v2⟩ := V1.re q2
    clear hN q2 hc2
    refine ⟨c2, rfl, ⟨_, SqL.of ec⟩, ?_⟩
    refine for_it (walk_list (xs := (ys ++ zs))) (fun i σ J' => Vs K CF T (mnS T N2) bad vo vt (27 + i) J' ∧ ∃ x15 x16, σ = [some (.ref a0), some (.int (0 + (k : Int))), some (.ref p), some (.ref av), some (.ref y1), some (.int (n : Int)), some (.int (0 + (t : Int))), some (.ref xm), some bad, some (.int (kg : Int)), some vo, some vt, some (.ref ao), some (.ref am), some (.ref ap), x15, x16]) ⟨v2, _, _, rfl⟩ (fun i σ J' _ z => SqL.of (z.1.all _ _ (mnS_in nc ec))) ?_ ?_
    · rintro i v _ J' J1 hi ⟨vs, x15, x16, rfl⟩ ⟨rfl, hv⟩
      have hi' : i < 7 := by simpa [l1, l2, l3] using hi
      have mv : v ∈ (ys ++ zs) := List.mem_of_getElem? hv
      obtain ⟨c, c2, ask⟩ : ∃ c, 2 ≤ c ∧ AskAt P w K mg base C CT CE (mnS T N2) v c := by
        rcases List.mem_append.mp mv with q | q
        · exact ⟨2, Nat.le_refl _, (a2 v q).same (ExtN.of s2)⟩
        · exact ⟨3, by decide, (a3 v q).same (ExtN.of s2)⟩
      have tbJ := tbF.to (sF.trans (s2.trans vs.all))
      refine ⟨_, rfl, _, rfl, _, rfl, _, rfl, szl _ (by simp), fun l hl => ⟨_, rfl, ?_⟩⟩
      dsimp only [tNil, List.append_nil]
      refine go_refd (a := v) false vs (by omega) (.inl vs.ho) hl ask (.inr ⟨y1, _, rfl, tbJ, by rw [lt]; exact n16, c2, ivd_itm vs.ho (by omega), rfl, .inl ⟨nbo, rfl⟩⟩) fun Hn vs => ?_
      refine ⟨_, rfl, iteFf rfl ?_⟩
      exact ⟨by rw [show 27 + (i + 1) = 27 + i + 1 by omega]; exact vs, _, _, rfl⟩
    rintro _ K2 ⟨vs, x15, x16, rfl⟩
    have en2 : ((ys ++ zs)).length = 7 := by simp [l1, l2, l3]
    rw [en2] at vs
    have V2 : Vs K CF T M0 bad vo vt 34 K2 := Vs.from s2 vs
    clear vs
    obtain ⟨s3', v3⟩ := V2.re (Same.refl K2)
    have s3 := s3'
    have ez3 := V2.all _ _ ep'
    refine ⟨_, rfl, ap, rfl, ⟨_, SqL.of ez3⟩, ?_⟩
    refine for_it (walk_list (xs := zs)) (fun i σ J' => Vs K CF T (mnS T K2) bad vo vt (34 + 2 * i) J' ∧ ∃ x15 x16, σ = [some (.ref a0), some (.int (0 + (k : Int))), some (.ref p), some (.ref av), some (.ref y1), some (.int (n : Int)), some (.int (0 + (t : Int))), some (.ref xm), some bad, some (.int (kg : Int)), some vo, some vt, some (.ref ao), some (.ref am), some (.ref ap), x15, x16]) ⟨v3, _, _, rfl⟩ (fun i σ J' _ z => SqL.of (z.1.all _ _ (s3 _ _ ep'))) ?_ ?_
    · rintro i v _ J' J1 hi ⟨vs, x15, x16, rfl⟩ ⟨rfl, hv⟩
      have hi' : i < 2 := by simpa [l1, l2, l3] using hi
      have ask := (a3 v (List.mem_of_getElem? hv)).same (ExtN.of s3)
      have tbJ := tbF.to (sF.trans (s3.trans vs.all))
      refine ⟨_, rfl, _, rfl, _, rfl, _, rfl, szl _ (by simp), fun l hl => ⟨_, rfl, ?_⟩⟩
      dsimp only [tNil, List.append_nil]
      refine go_refd (a := v) false vs (by omega) (.inl vs.ht) hl ask (.inr ⟨y1, _, rfl, tbJ, by rw [lt]; exact n16, by decide, .inl ⟨_, rfl⟩, rfl, .inr ⟨by decide, nbg, ivd_itm vs.ht (by omega), nbt, rfl⟩⟩) fun Hn vs => ?_
      refine ⟨_, rfl, iteFf rfl ?_⟩
      have tbJ2 := tbF.to (sF.trans (s3.trans vs.all))
      refine ⟨_, rfl, _, rfl, _, rfl, _, rfl, szl _ (by simp), fun l hl => ⟨_, rfl, ?_⟩⟩
      dsimp only [tNil, List.append_nil]
      refine go_refd (a := v) false vs (by omega) (.inl vs.ho) hl ask (.inr ⟨y1, _, rfl, tbJ2, by rw [lt]; exact n16, by decide, ivd_itm vs.ho (by omega), rfl, .inl ⟨nbo, rfl⟩⟩) fun Hn vs => ?_
      refine ⟨_, rfl, iteFf rfl ?_⟩
      exact ⟨by rw [show 34 + 2 * (i + 1) = 34 + 2 * i + 1 + 1 by omega]; exact vs, _, _, rfl⟩
    rintro _ K3 ⟨vs, x15, x16, rfl⟩
    rw [l3] at vs
    have V3 : Vs K CF T M0 bad vo vt 38 K3 := Vs.from s3 vs
    clear vs
    refine ⟨_, rfl, _, rfl, ao, am, _, _, rfl, rfl, V3.all _ _ eo', V3.all _ _ em', szl _ (by simp [l1, l2]), fun c1 hc1 => ⟨_, rfl, c1, ap, _, _, rfl, rfl, upd_same, (Same.new hc1 _) _ _ (V3.all _ _ ep'), szl _ (by simp [l1, l2, l3]), fun c2 hc2 => ?_⟩⟩
    have q1 := Same.new hc1 (.lst (xs ++ ys))
    have q2 := Same.new hc2 (.lst (xs ++ ys ++ zs))
    have nc := (V3.same q1).newT hc2
    have ec := upd_same (H := upd K3 c1 (.lst (xs ++ ys))) (a := c2) (o := .lst (xs ++ ys ++ zs))
    generalize hN : upd (upd K3 c1 (.lst (xs ++ ys))) c2 (.lst (xs ++ ys ++ zs)) = N4 at q1 q2 ec ⊢
    obtain ⟨s4, v4⟩ := V3.re (q1.trans q2)
    clear hN q1 q2 hc1 hc2
    refine ⟨c2, rfl, ⟨_, SqL.of ec⟩, ?_⟩
    refine for_it (walk_list (xs := (xs ++ ys ++ zs))) (fun i σ J' => Vs K CF T (mnS T N4) bad vo vt (38 + i) J' ∧ ∃ x15 x16, σ = [some (.ref a0), some (.int (0 + (k : Int))), some (.ref p), some (.ref av), some (.ref y1), some (.int (n : Int)), some (.int (0 + (t : Int))), some (.ref xm), some bad, some (.int (kg : Int)), some vo, some vt, some (.ref ao), some (.ref am), some (.ref ap), x15, x16]) ⟨v4, _, _, rfl⟩ (fun i σ J' _ z => SqL.of (z.1.all _ _ (mnS_in nc ec))) ?_ ?_
    · rintro i v _ J' J1 hi ⟨vs, x15, x16, rfl⟩ ⟨rfl, hv⟩
      have hi' : i < 11 := by simpa [l1, l2, l3] using hi
      have mv : v ∈ (xs ++ ys ++ zs) := List.mem_of_getElem? hv
      obtain ⟨c, ask⟩ : ∃ c, AskAt P w K mg base C CT CE (mnS T N4) v c := by
        rcases List.mem_append.mp mv with q | q
        · rcases List.mem_append.mp q with q | q
          · exact ⟨1, (a1 v q).same (ExtN.of s4)⟩
          · exact ⟨2, (a2 v q).same (ExtN.of s4)⟩
        · exact ⟨3, (a3 v q).same (ExtN.of s4)⟩
      refine ⟨_, rfl, _, rfl, _, rfl, _, rfl, szl _ (by simp), fun l hl => ⟨_, rfl, ?_⟩⟩
      dsimp only [tNil, List.append_nil]
      refine go_refd (a := v) true vs (by omega) vs.hb hl ask (.inl ⟨vs.hb.notT NB U Y kFC (by omega), rfl, rfl⟩) fun Hn vs => ?_
      refine ⟨_, rfl, iteFf rfl ?_⟩
      exact ⟨by rw [show 38 + (i + 1) = 38 + i + 1 by omega]; exact vs, _, _, rfl⟩
    rintro _ K4 ⟨vs, x15, x16, rfl⟩
    have en4 : ((xs ++ ys ++ zs)).length = 11 := by simp [l1, l2, l3]
    rw [en4] at vs
    have V4 : Vs K CF T M0 bad vo vt 49 K4 := Vs.from s4 vs
    clear vs
    exact ⟨sF.trans V4.all, bM.same V4.all, Tabs.ext tM V4.all, _, _, _, _, _, _, _, _, _, _, _, rfl⟩
end
theorem kT_of {K : PySem.W.Frag} {C CF : Addr} (NB : CNb K CF) (sN : PySem.W.subIn K (.ref C) (.ref CF) = some false) (sS : PySem.W.subIn K (.ref CF) (.ref CF) = some true) : PySem.W.kitOne K (.ref C) (.ref CF) = some false ∧ PySem.W.notFirst K CF (.ref C) = true := by
  have ne : ((Value.ref C) == (Value.ref CF)) = false := by
    cases h : ((Value.ref C) == (Value.ref CF)) with
    | false => rfl
    | true =>
      have e := beq_iff_eq.mp h
      rw [e, sS] at sN
      cases sN
  refine ⟨?_, ?_⟩
  · unfold PySem.W.kitOne
    rw [ne, if_neg Bool.false_ne_true]
    show (if ((PySem.W.clsIn K CF).isSome && PySem.W.typeIn K (.ref CF) == some (.type "type")) = true then PySem.W.subIn K (.ref C) (.ref CF) else none) = some false
    rw [NB.cl, NB.tt, sN]
    rfl
  · unfold PySem.W.notFirst
    rw [sN, ne]
    rfl
theorem kitF {K : PySem.W.Frag} {CF : Addr} (NF : CNb K CF) (sIL : PySem.W.subIn K (.ref CF) (.type "list") = some false) : PySem.W.kitOne K (.ref CF) (.type "list") = some false := by
  unfold PySem.W.kitOne
  rw [show ((Value.ref CF) == (Value.type "list")) = false from rfl, if_neg Bool.false_ne_true]
  show (if ((fastBuiltinMro "list").isSome) = true then PySem.W.subIn K (.ref CF) (.type "list") else none) = some false
  rw [if_pos (by rfl)]; exact sIL
end L

set_option Elab.async false
set_option linter.all false
set_option maxRecDepth 100000
set_option maxHeartbeats 4000000
namespace L
open PySem L2 KX
theorem all_mk {l : PySem.W.OpenLaw} {w : World} {K : PySem.W.Frag} {h : Heap} {mg : Str → Option Value} {fa : Addr} (X : K.In h) (G : h.Ns mainGlobals mg) (hfa : mg "law" = some (.ref fa))
    {f0 : Addr} {od0 an0 : Option Addr} {sl0 : Array (Option Value)} {oc0 kV0 dc0 pm0 cd0 ct0 : Value}
    {f1 : Addr} {od1 an1 : Option Addr} {sl1 : Array (Option Value)} {oc1 kV1 dc1 pm1 cd1 ct1 : Value}
    {f2 : Addr} {od2 an2 : Option Addr} {sl2 : Array (Option Value)} {oc2 kV2 dc2 pm2 cd2 ct2 : Value}
    {f3 : Addr} {od3 an3 : Option Addr} {sl3 : Array (Option Value)} {oc3 kV3 dc3 pm3 cd3 ct3 : Value}
    {f4 : Addr} {od4 an4 : Option Addr} {sl4 : Array (Option Value)} {oc4 kV4 dc4 pm4 cd4 ct4 : Value}
    {f5 : Addr} {od5 an5 : Option Addr} {sl5 : Array (Option Value)} {oc5 kV5 dc5 pm5 cd5 ct5 : Value}
    {f6 : Addr} {od6 an6 : Option Addr} {sl6 : Array (Option Value)} {oc6 kV6 dc6 pm6 cd6 ct6 : Value}
    {f7 : Addr} {od7 an7 : Option Addr} {sl7 : Array (Option Value)} {oc7 kV7 dc7 pm7 cd7 ct7 : Value}
    {f8 : Addr} {od8 an8 : Option Addr} {sl8 : Array (Option Value)} {oc8 kV8 dc8 pm8 cd8 ct8 : Value}
    {f9 : Addr} {od9 an9 : Option Addr} {sl9 : Array (Option Value)} {oc9 kV9 dc9 pm9 cd9 ct9 : Value}
    {f10 : Addr} {od10 an10 : Option Addr} {sl10 : Array (Option Value)} {oc10 kV10 dc10 pm10 cd10 ct10 : Value}
    {f11 : Addr} {od11 an11 : Option Addr} {sl11 : Array (Option Value)} {oc11 kV11 dc11 pm11 cd11 ct11 : Value}
    {f12 : Addr} {od12 an12 : Option Addr} {sl12 : Array (Option Value)} {oc12 kV12 dc12 pm12 cd12 ct12 : Value}
    {f13 : Addr} {od13 an13 : Option Addr} {sl13 : Array (Option Value)} {oc13 kV13 dc13 pm13 cd13 ct13 : Value}
    {f14 : Addr} {od14 an14 : Option Addr} {sl14 : Array (Option Value)} {oc14 kV14 dc14 pm14 cd14 ct14 : Value}
    {f15 : Addr} {od15 an15 : Option Addr} {sl15 : Array (Option Value)} {oc15 kV15 dc15 pm15 cd15 ct15 : Value}
    {f16 : Addr} {od16 an16 : Option Addr} {sl16 : Array (Option Value)} {oc16 kV16 dc16 pm16 cd16 ct16 : Value}
    {f17 : Addr} {od17 an17 : Option Addr} {sl17 : Array (Option Value)} {oc17 kV17 dc17 pm17 cd17 ct17 : Value}
    {f18 : Addr} {od18 an18 : Option Addr} {sl18 : Array (Option Value)} {oc18 kV18 dc18 pm18 cd18 ct18 : Value}
    {f19 : Addr} {od19 an19 : Option Addr} {sl19 : Array (Option Value)} {oc19 kV19 dc19 pm19 cd19 ct19 : Value}
    {f20 : Addr} {od20 an20 : Option Addr} {sl20 : Array (Option Value)} {oc20 kV20 dc20 pm20 cd20 ct20 : Value}
    {f21 : Addr} {od21 an21 : Option Addr} {sl21 : Array (Option Value)} {oc21 kV21 dc21 pm21 cd21 ct21 : Value}
    {f22 : Addr} {od22 an22 : Option Addr} {sl22 : Array (Option Value)} {oc22 kV22 dc22 pm22 cd22 ct22 : Value}
    {f23 : Addr} {od23 an23 : Option Addr} {sl23 : Array (Option Value)} {oc23 kV23 dc23 pm23 cd23 ct23 : Value}
    {f24 : Addr} {od24 an24 : Option Addr} {sl24 : Array (Option Value)} {oc24 kV24 dc24 pm24 cd24 ct24 : Value}
    {f25 : Addr} {od25 an25 : Option Addr} {sl25 : Array (Option Value)} {oc25 kV25 dc25 pm25 cd25 ct25 : Value}
    {f26 : Addr} {od26 an26 : Option Addr} {sl26 : Array (Option Value)} {oc26 kV26 dc26 pm26 cd26 ct26 : Value}
    {f27 : Addr} {od27 an27 : Option Addr} {sl27 : Array (Option Value)} {oc27 kV27 dc27 pm27 cd27 ct27 : Value}
    {f28 : Addr} {od28 an28 : Option Addr} {sl28 : Array (Option Value)} {oc28 kV28 dc28 pm28 cd28 ct28 : Value}
    {f29 : Addr} {od29 an29 : Option Addr} {sl29 : Array (Option Value)} {oc29 kV29 dc29 pm29 cd29 ct29 : Value}
    {f30 : Addr} {od30 an30 : Option Addr} {sl30 : Array (Option Value)} {oc30 kV30 dc30 pm30 cd30 ct30 : Value}
    {f31 : Addr} {od31 an31 : Option Addr} {sl31 : Array (Option Value)} {oc31 kV31 dc31 pm31 cd31 ct31 : Value}
    {f32 : Addr} {od32 an32 : Option Addr} {sl32 : Array (Option Value)} {oc32 kV32 dc32 pm32 cd32 ct32 : Value}
    {f33 : Addr} {od33 an33 : Option Addr} {sl33 : Array (Option Value)} {oc33 kV33 dc33 pm33 cd33 ct33 : Value}
    {f34 : Addr} {od34 an34 : Option Addr} {sl34 : Array (Option Value)} {oc34 kV34 dc34 pm34 cd34 ct34 : Value}
    {f35 : Addr} {od35 an35 : Option Addr} {sl35 : Array (Option Value)} {oc35 kV35 dc35 pm35 cd35 ct35 : Value}
    {f36 : Addr} {od36 an36 : Option Addr} {sl36 : Array (Option Value)} {oc36 kV36 dc36 pm36 cd36 ct36 : Value}
    {f37 : Addr} {od37 an37 : Option Addr} {sl37 : Array (Option Value)} {oc37 kV37 dc37 pm37 cd37 ct37 : Value}
    {f38 : Addr} {od38 an38 : Option Addr} {sl38 : Array (Option Value)} {oc38 kV38 dc38 pm38 cd38 ct38 : Value}
    {f39 : Addr} {od39 an39 : Option Addr} {sl39 : Array (Option Value)} {oc39 kV39 dc39 pm39 cd39 ct39 : Value}
    {f40 : Addr} {od40 an40 : Option Addr} {sl40 : Array (Option Value)} {oc40 kV40 dc40 pm40 cd40 ct40 : Value}
    {f41 : Addr} {od41 an41 : Option Addr} {sl41 : Array (Option Value)} {oc41 kV41 dc41 pm41 cd41 ct41 : Value}
    {f42 : Addr} {od42 an42 : Option Addr} {sl42 : Array (Option Value)} {oc42 kV42 dc42 pm42 cd42 ct42 : Value}
    {f43 : Addr} {od43 an43 : Option Addr} {sl43 : Array (Option Value)} {oc43 kV43 dc43 pm43 cd43 ct43 : Value}
    {f44 : Addr} {od44 an44 : Option Addr} {sl44 : Array (Option Value)} {oc44 kV44 dc44 pm44 ct44 : Value}
    {cc PP : Addr} {eC : Value} {dC : Option Addr} {vC : Array Value} {sC : Array (Option Value)}
    {f45 : Addr} {od45 an45 : Option Addr} {sl45 : Array (Option Value)} {oc45 kV45 dc45 pm45 cd45 ct45 : Value}
    {f46 : Addr} {od46 an46 : Option Addr} {sl46 : Array (Option Value)} {oc46 kV46 dc46 pm46 cd46 ct46 : Value}
    {C : Addr}
    {CF : Addr}
    {CT : Addr}
    {CE : Addr}
    {CO : Addr}
    {tk0 : Tok}
    {tk1 : Tok}
    {tk2 : Tok}
    {tk3 : Tok}
    (aC : PySem.W.nsIn K mainGlobals "ProductTable" = some (some (.ref C)))
    (pg : PySem.W.plainGet K C Str.empty = true)
    (hd : PySem.W.hasDictIn K C = true)
    (po : PySem.W.plainOver K C = true)
    (sa : PySem.W.findIn K (.ref C) "__setattr__" = some (some (.builtin "object.__setattr__")))
    (mk : PySem.W.makesIn K C = true)
    (kc : PySem.W.keepIn K (.ref C) = true)
    (nR : PySem.W.findIn K (.ref C) "_rows" = some none)
    (ya : PySem.W.findIn K (.ref C) "__class__" = some (some (.builtin "object.__class__")))
    (yn : PySem.W.specialIn K (.builtin "object.__class__") "__get__" = some (some (.builtin "getset_descriptor.__get__")))
    (yt : PySem.W.takesIn K (.builtin "object.__class__") = some true)
    (ym : PySem.W.mroIn K C (.type "object") = some true)
    (tyC : PySem.W.typeIn K (.ref C) = some (.type "type"))
    (au : PySem.W.nsIn K mainGlobals "Transformations" = some (some (.ref CF)))
    (pgu : PySem.W.plainGet K CF Str.empty = true)
    (hdu : PySem.W.hasDictIn K CF = true)
    (pou : PySem.W.plainOver K CF = true)
    (sau : PySem.W.findIn K (.ref CF) "__setattr__" = some (some (.builtin "object.__setattr__")))
    (mku : PySem.W.makesIn K CF = true)
    (kcu : PySem.W.keepIn K (.ref CF) = true)
    (yau : PySem.W.findIn K (.ref CF) "__class__" = some (some (.builtin "object.__class__")))
    (ymu : PySem.W.mroIn K CF (.type "object") = some true)
    (n1u : PySem.W.findIn K (.ref CF) "_states" = some none)
    (n2u : PySem.W.findIn K (.ref CF) "_letters" = some none)
    (n3u : PySem.W.findIn K (.ref CF) "_contents" = some none)
    (n4u : PySem.W.findIn K (.ref CF) "_words" = some none)
    (aCT : PySem.W.nsIn K mainGlobals "InvalidTable" = some (some (.ref CT)))
    (clCT : ∃ nm q N bs bm sn sub ab col dd k0 k1 k2 k3 k5, K.lookup CT = some (excClassObj nm q CT N bs bm true sn sub ab col dd k0 k1 k2 k3 k5 "ValueError.__new__") ∧ PySem.HandSPX.refsVE bm = true)
    (saCT : PySem.W.findIn K (.ref CT) "__setattr__" = some (some (.builtin "object.__setattr__")))
    (exCT : PySem.W.subIn K (.ref CT) (.type "BaseException") = some true)
    (tyCT : PySem.W.typeIn K (.ref CT) = some (.type "type"))
    (kCT : PySem.W.keepIn K (.ref CT) = true)
    (gaCT : PySem.W.findIn K (.ref CT) "__getattribute__" = some (some (.builtin "BaseException.__getattribute__")))
    (ggCT : PySem.W.findIn K (.ref CT) "__getattr__" = some none)
    (hdCT : PySem.W.hasDictIn K CT = true)
    (suCT : PySem.W.subIn K (.ref CT) (.ref CT) = some true)
    (nvCT : PySem.W.findIn K (.ref CT) "value" = some none)
    (aCE : PySem.W.nsIn K mainGlobals "InvalidElement" = some (some (.ref CE)))
    (clCE : ∃ nm q N bs bm sn sub ab col dd k0 k1 k2 k3 k5, K.lookup CE = some (excClassObj nm q CE N bs bm true sn sub ab col dd k0 k1 k2 k3 k5 "ValueError.__new__") ∧ PySem.HandSPX.refsVE bm = true)
    (saCE : PySem.W.findIn K (.ref CE) "__setattr__" = some (some (.builtin "object.__setattr__")))
    (exCE : PySem.W.subIn K (.ref CE) (.type "BaseException") = some true)
    (tyCE : PySem.W.typeIn K (.ref CE) = some (.type "type"))
    (kCE : PySem.W.keepIn K (.ref CE) = true)
    (gaCE : PySem.W.findIn K (.ref CE) "__getattribute__" = some (some (.builtin "BaseException.__getattribute__")))
    (ggCE : PySem.W.findIn K (.ref CE) "__getattr__" = some none)
    (hdCE : PySem.W.hasDictIn K CE = true)
    (suCE : PySem.W.subIn K (.ref CE) (.ref CE) = some true)
    (nvCE : PySem.W.findIn K (.ref CE) "value" = some none)
    (aCO : PySem.W.nsIn K mainGlobals "TooMany" = some (some (.ref CO)))
    (clCO : ∃ nm q N bs bm sn sub ab col dd k0 k1 k2 k3 k5, K.lookup CO = some (excClassObj nm q CO N bs bm true sn sub ab col dd k0 k1 k2 k3 k5 "ValueError.__new__") ∧ PySem.HandSPX.refsVE bm = true)
    (saCO : PySem.W.findIn K (.ref CO) "__setattr__" = some (some (.builtin "object.__setattr__")))
    (exCO : PySem.W.subIn K (.ref CO) (.type "BaseException") = some true)
    (tyCO : PySem.W.typeIn K (.ref CO) = some (.type "type"))
    (kCO : PySem.W.keepIn K (.ref CO) = true)
    (gaCO : PySem.W.findIn K (.ref CO) "__getattribute__" = some (some (.builtin "BaseException.__getattribute__")))
    (ggCO : PySem.W.findIn K (.ref CO) "__getattr__" = some none)
    (hdCO : PySem.W.hasDictIn K CO = true)
    (suCO : PySem.W.subIn K (.ref CO) (.ref CO) = some true)
    (nvCO : PySem.W.findIn K (.ref CO) "count" = some none)
    (a0 : PySem.W.nsIn K mainGlobals "is_integer" = some (some (.ref f0)))
    (l0 : K.lookup f0 = some ⟨oc0, od0, .func (PySem.W.fnOf "is_integer" "is_integer" (defArgs sIsInt) (defBody sIsInt) (defScope sIsInt) .none kV0 dc0 pm0 an0 cd0 ct0), sl0⟩)
    (c0 : PySem.W.codeIn K cd0 "is_integer" = true)
    (k0 : PySem.W.keepIn K (.ref f0) = true)
    (a1 : PySem.W.nsIn K mainGlobals "is_list" = some (some (.ref f1)))
    (l1 : K.lookup f1 = some ⟨oc1, od1, .func (PySem.W.fnOf "is_list" "is_list" (defArgs sIsList) (defBody sIsList) (defScope sIsList) .none kV1 dc1 pm1 an1 cd1 ct1), sl1⟩)
    (c1 : PySem.W.codeIn K cd1 "is_list" = true)
    (k1 : PySem.W.keepIn K (.ref f1) = true)
    (a2 : PySem.W.nsIn K mainGlobals "is_number_below" = some (some (.ref f2)))
    (l2 : K.lookup f2 = some ⟨oc2, od2, .func (PySem.W.fnOf "is_number_below" "is_number_below" (defArgs sBelow) (defBody sBelow) (defScope sBelow) .none kV2 dc2 pm2 an2 cd2 ct2), sl2⟩)
    (c2 : PySem.W.codeIn K cd2 "is_number_below" = true)
    (k2 : PySem.W.keepIn K (.ref f2) = true)
    (a3 : PySem.W.nsIn K mainGlobals "is_number_list" = some (some (.ref f3)))
    (l3 : K.lookup f3 = some ⟨oc3, od3, .func (PySem.W.fnOf "is_number_list" "is_number_list" (defArgs sNumList) (defBody sNumList) (defScope sNumList) .none kV3 dc3 pm3 an3 cd3 ct3), sl3⟩)
    (c3 : PySem.W.codeIn K cd3 "is_number_list" = true)
    (k3 : PySem.W.keepIn K (.ref f3) = true)
    (a4 : PySem.W.nsIn K mainGlobals "_are_rows" = some (some (.ref f4)))
    (l4 : K.lookup f4 = some ⟨oc4, od4, .func (PySem.W.fnOf "_are_rows" "_are_rows" (defArgs sAreRows) (defBody sAreRows) (defScope sAreRows) .none kV4 dc4 pm4 an4 cd4 ct4), sl4⟩)
    (c4 : PySem.W.codeIn K cd4 "_are_rows" = true)
    (k4 : PySem.W.keepIn K (.ref f4) = true)
    (a5 : PySem.W.nsIn K mainGlobals "_first_wrong_triple" = some (some (.ref f5)))
    (l5 : K.lookup f5 = some ⟨oc5, od5, .func (PySem.W.fnOf "_first_wrong_triple" "_first_wrong_triple" (defArgs sWrong) (defBody sWrong) (defScope sWrong) .none kV5 dc5 pm5 an5 cd5 ct5), sl5⟩)
    (c5 : PySem.W.codeIn K cd5 "_first_wrong_triple" = true)
    (k5 : PySem.W.keepIn K (.ref f5) = true)
    (a6 : PySem.W.findIn K (.ref C) "__init__" = some (some (.ref f6)))
    (i6 : PySem.W.isFn K (.ref f6) = true)
    (l6 : K.lookup f6 = some ⟨oc6, od6, .func (PySem.W.fnOf "__init__" "ProductTable.__init__" (defArgs sInit) (defBody sInit) (defScope sInit) .none kV6 dc6 pm6 an6 cd6 ct6), sl6⟩)
    (c6 : PySem.W.codeIn K cd6 "ProductTable.__init__" = true)
    (k6 : PySem.W.keepIn K (.ref f6) = true)
    (a7 : PySem.W.findIn K (.ref C) "__len__" = some (some (.ref f7)))
    (i7 : PySem.W.isFn K (.ref f7) = true)
    (l7 : K.lookup f7 = some ⟨oc7, od7, .func (PySem.W.fnOf "__len__" "ProductTable.__len__" (defArgs sLen) (defBody sLen) (defScope sLen) .none kV7 dc7 pm7 an7 cd7 ct7), sl7⟩)
    (c7 : PySem.W.codeIn K cd7 "ProductTable.__len__" = true)
    (k7 : PySem.W.keepIn K (.ref f7) = true)
    (a8 : PySem.W.findIn K (.ref C) "rows" = some (some (.ref f8)))
    (i8 : PySem.W.isFn K (.ref f8) = true)
    (l8 : K.lookup f8 = some ⟨oc8, od8, .func (PySem.W.fnOf "rows" "ProductTable.rows" (defArgs sRowsM) (defBody sRowsM) (defScope sRowsM) .none kV8 dc8 pm8 an8 cd8 ct8), sl8⟩)
    (c8 : PySem.W.codeIn K cd8 "ProductTable.rows" = true)
    (k8 : PySem.W.keepIn K (.ref f8) = true)
    (a9 : PySem.W.nsIn K mainGlobals "check_table" = some (some (.ref f9)))
    (l9 : K.lookup f9 = some ⟨oc9, od9, .func (PySem.W.fnOf "check_table" "check_table" (defArgs sChkTX) (defBody sChkTX) (defScope sChkTX) .none kV9 dc9 pm9 an9 cd9 ct9), sl9⟩)
    (c9 : PySem.W.codeIn K cd9 "check_table" = true)
    (k9 : PySem.W.keepIn K (.ref f9) = true)
    (a10 : PySem.W.findIn K (.ref CT) "__init__" = some (some (.ref f10)))
    (t10 : PySem.W.typeIn K (.ref f10) = some (.type "function"))
    (l10 : K.lookup f10 = some ⟨oc10, od10, .func (PySem.W.fnOf "__init__" "InvalidTable.__init__" (defArgs sEiT) (defBody sEiT) (defScope sEiT) .none kV10 dc10 pm10 an10 cd10 ct10), sl10⟩)
    (c10 : PySem.W.codeIn K cd10 "InvalidTable.__init__" = true)
    (k10 : PySem.W.keepIn K (.ref f10) = true)
    (a11 : PySem.W.nsIn K mainGlobals "_law_cell" = some (some (.ref f11)))
    (l11 : K.lookup f11 = some ⟨oc11, od11, .func (PySem.W.fnOf "_law_cell" "_law_cell" (defArgs sCell) (defBody sCell) (defScope sCell) .none kV11 dc11 pm11 an11 cd11 ct11), sl11⟩)
    (c11 : PySem.W.codeIn K cd11 "_law_cell" = true)
    (k11 : PySem.W.keepIn K (.ref f11) = true)
    (a12 : PySem.W.nsIn K mainGlobals "_law_box" = some (some (.ref f12)))
    (l12 : K.lookup f12 = some ⟨oc12, od12, .func (PySem.W.fnOf "_law_box" "_law_box" (defArgs sBox) (defBody sBox) (defScope sBox) .none kV12 dc12 pm12 an12 cd12 ct12), sl12⟩)
    (c12 : PySem.W.codeIn K cd12 "_law_box" = true)
    (k12 : PySem.W.keepIn K (.ref f12) = true)
    (a13 : PySem.W.nsIn K mainGlobals "_law_take" = some (some (.ref f13)))
    (l13 : K.lookup f13 = some ⟨oc13, od13, .func (PySem.W.fnOf "_law_take" "_law_take" (defArgs sTake) (defBody sTake) (defScope sTake) .none kV13 dc13 pm13 an13 cd13 ct13), sl13⟩)
    (c13 : PySem.W.codeIn K cd13 "_law_take" = true)
    (k13 : PySem.W.keepIn K (.ref f13) = true)
    (a14 : PySem.W.nsIn K mainGlobals "_law_maps" = some (some (.ref f14)))
    (l14 : K.lookup f14 = some ⟨oc14, od14, .func (PySem.W.fnOf "_law_maps" "_law_maps" (defArgs sMaps) (defBody sMaps) (defScope sMaps) .none kV14 dc14 pm14 an14 cd14 ct14), sl14⟩)
    (c14 : PySem.W.codeIn K cd14 "_law_maps" = true)
    (k14 : PySem.W.keepIn K (.ref f14) = true)
    (a15 : PySem.W.nsIn K mainGlobals "_law_plain" = some (some (.ref f15)))
    (l15 : K.lookup f15 = some ⟨oc15, od15, .func (PySem.W.fnOf "_law_plain" "_law_plain" (defArgs sPlain) (defBody sPlain) (defScope sPlain) .none kV15 dc15 pm15 an15 cd15 ct15), sl15⟩)
    (c15 : PySem.W.codeIn K cd15 "_law_plain" = true)
    (k15 : PySem.W.keepIn K (.ref f15) = true)
    (a16 : PySem.W.nsIn K mainGlobals "_law_extended" = some (some (.ref f16)))
    (l16 : K.lookup f16 = some ⟨oc16, od16, .func (PySem.W.fnOf "_law_extended" "_law_extended" (defArgs sExt) (defBody sExt) (defScope sExt) .none kV16 dc16 pm16 an16 cd16 ct16), sl16⟩)
    (c16 : PySem.W.codeIn K cd16 "_law_extended" = true)
    (k16 : PySem.W.keepIn K (.ref f16) = true)
    (a17 : PySem.W.nsIn K mainGlobals "_law_grid" = some (some (.ref f17)))
    (l17 : K.lookup f17 = some ⟨oc17, od17, .func (PySem.W.fnOf "_law_grid" "_law_grid" (defArgs sGrid) (defBody sGrid) (defScope sGrid) .none kV17 dc17 pm17 an17 cd17 ct17), sl17⟩)
    (c17 : PySem.W.codeIn K cd17 "_law_grid" = true)
    (k17 : PySem.W.keepIn K (.ref f17) = true)
    (a18 : PySem.W.nsIn K mainGlobals "_law_words" = some (some (.ref f18)))
    (l18 : K.lookup f18 = some ⟨oc18, od18, .func (PySem.W.fnOf "_law_words" "_law_words" (defArgs sWords) (defBody sWords) (defScope sWords) .none kV18 dc18 pm18 an18 cd18 ct18), sl18⟩)
    (c18 : PySem.W.codeIn K cd18 "_law_words" = true)
    (k18 : PySem.W.keepIn K (.ref f18) = true)
    (a19 : PySem.W.nsIn K mainGlobals "_law_pairs" = some (some (.ref f19)))
    (l19 : K.lookup f19 = some ⟨oc19, od19, .func (PySem.W.fnOf "_law_pairs" "_law_pairs" (defArgs sPairs) (defBody sPairs) (defScope sPairs) .none kV19 dc19 pm19 an19 cd19 ct19), sl19⟩)
    (c19 : PySem.W.codeIn K cd19 "_law_pairs" = true)
    (k19 : PySem.W.keepIn K (.ref f19) = true)
    (a20 : PySem.W.nsIn K mainGlobals "_law_rows" = some (some (.ref f20)))
    (l20 : K.lookup f20 = some ⟨oc20, od20, .func (PySem.W.fnOf "_law_rows" "_law_rows" (defArgs sRows) (defBody sRows) (defScope sRows) .none kV20 dc20 pm20 an20 cd20 ct20), sl20⟩)
    (c20 : PySem.W.codeIn K cd20 "_law_rows" = true)
    (k20 : PySem.W.keepIn K (.ref f20) = true)
    (a21 : PySem.W.findIn K (.ref CE) "__init__" = some (some (.ref f21)))
    (t21 : PySem.W.typeIn K (.ref f21) = some (.type "function"))
    (l21 : K.lookup f21 = some ⟨oc21, od21, .func (PySem.W.fnOf "__init__" "InvalidElement.__init__" (defArgs sEiE) (defBody sEiE) (defScope sEiE) .none kV21 dc21 pm21 an21 cd21 ct21), sl21⟩)
    (c21 : PySem.W.codeIn K cd21 "InvalidElement.__init__" = true)
    (k21 : PySem.W.keepIn K (.ref f21) = true)
    (a22 : PySem.W.findIn K (.ref CO) "__init__" = some (some (.ref f22)))
    (t22 : PySem.W.typeIn K (.ref f22) = some (.type "function"))
    (l22 : K.lookup f22 = some ⟨oc22, od22, .func (PySem.W.fnOf "__init__" "TooMany.__init__" (defArgs sEiM) (defBody sEiM) (defScope sEiM) .none kV22 dc22 pm22 an22 cd22 ct22), sl22⟩)
    (c22 : PySem.W.codeIn K cd22 "TooMany.__init__" = true)
    (k22 : PySem.W.keepIn K (.ref f22) = true)
    (a23 : PySem.W.nsIn K mainGlobals "is_name" = some (some (.ref f23)))
    (l23 : K.lookup f23 = some ⟨oc23, od23, .func (PySem.W.fnOf "is_name" "is_name" (defArgs sIsName) (defBody sIsName) (defScope sIsName) .none kV23 dc23 pm23 an23 cd23 ct23), sl23⟩)
    (c23 : PySem.W.codeIn K cd23 "is_name" = true)
    (k23 : PySem.W.keepIn K (.ref f23) = true)
    (a24 : PySem.W.nsIn K mainGlobals "_composed" = some (some (.ref f24)))
    (l24 : K.lookup f24 = some ⟨oc24, od24, .func (PySem.W.fnOf "_composed" "_composed" (defArgs sCd) (defBody sCd) (defScope sCd) .none kV24 dc24 pm24 an24 cd24 ct24), sl24⟩)
    (c24 : PySem.W.codeIn K cd24 "_composed" = true)
    (k24 : PySem.W.keepIn K (.ref f24) = true)
    (a25 : PySem.W.nsIn K mainGlobals "_shortest_words" = some (some (.ref f25)))
    (l25 : K.lookup f25 = some ⟨oc25, od25, .func (PySem.W.fnOf "_shortest_words" "_shortest_words" (defArgs sSw) (defBody sSw) (defScope sSw) .none kV25 dc25 pm25 an25 cd25 ct25), sl25⟩)
    (c25 : PySem.W.codeIn K cd25 "_shortest_words" = true)
    (k25 : PySem.W.keepIn K (.ref f25) = true)
    (a26 : PySem.W.nsIn K mainGlobals "_are_letters" = some (some (.ref f26)))
    (l26 : K.lookup f26 = some ⟨oc26, od26, .func (PySem.W.fnOf "_are_letters" "_are_letters" (defArgs sAl) (defBody sAl) (defScope sAl) .none kV26 dc26 pm26 an26 cd26 ct26), sl26⟩)
    (c26 : PySem.W.codeIn K cd26 "_are_letters" = true)
    (k26 : PySem.W.keepIn K (.ref f26) = true)
    (a27 : PySem.W.findIn K (.ref CF) "__init__" = some (some (.ref f27)))
    (i27 : PySem.W.isFn K (.ref f27) = true)
    (l27 : K.lookup f27 = some ⟨oc27, od27, .func (PySem.W.fnOf "__init__" "Transformations.__init__" (defArgs sTi) (defBody sTi) (defScope sTi) .none kV27 dc27 pm27 an27 cd27 ct27), sl27⟩)
    (c27 : PySem.W.codeIn K cd27 "Transformations.__init__" = true)
    (k27 : PySem.W.keepIn K (.ref f27) = true)
    (a28 : PySem.W.findIn K (.ref CF) "__eq__" = some (some (.ref f28)))
    (i28 : PySem.W.isFn K (.ref f28) = true)
    (l28 : K.lookup f28 = some ⟨oc28, od28, .func (PySem.W.fnOf "__eq__" "Transformations.__eq__" (defArgs sTe) (defBody sTe) (defScope sTe) .none kV28 dc28 pm28 an28 cd28 ct28), sl28⟩)
    (c28 : PySem.W.codeIn K cd28 "Transformations.__eq__" = true)
    (k28 : PySem.W.keepIn K (.ref f28) = true)
    (a29 : PySem.W.nsIn K mainGlobals "check_element" = some (some (.ref f29)))
    (l29 : K.lookup f29 = some ⟨oc29, od29, .func (PySem.W.fnOf "check_element" "check_element" (defArgs sChkEX) (defBody sChkEX) (defScope sChkEX) .none kV29 dc29 pm29 an29 cd29 ct29), sl29⟩)
    (c29 : PySem.W.codeIn K cd29 "check_element" = true)
    (k29 : PySem.W.keepIn K (.ref f29) = true)
    (a30 : PySem.W.nsIn K mainGlobals "levels" = some (some (.ref f30)))
    (l30 : K.lookup f30 = some ⟨oc30, od30, .func (PySem.W.fnOf "levels" "levels" (defArgs sF_levels) (defBody sF_levels) (defScope sF_levels) .none kV30 dc30 pm30 an30 cd30 ct30), sl30⟩)
    (c30 : PySem.W.codeIn K cd30 "levels" = true)
    (k30 : PySem.W.keepIn K (.ref f30) = true)
    (a31 : PySem.W.nsIn K mainGlobals "group_cells" = some (some (.ref f31)))
    (l31 : K.lookup f31 = some ⟨oc31, od31, .func (PySem.W.fnOf "group_cells" "group_cells" (defArgs sF_group_cells) (defBody sF_group_cells) (defScope sF_group_cells) .none kV31 dc31 pm31 an31 cd31 ct31), sl31⟩)
    (c31 : PySem.W.codeIn K cd31 "group_cells" = true)
    (k31 : PySem.W.keepIn K (.ref f31) = true)
    (a32 : PySem.W.nsIn K mainGlobals "height_bound" = some (some (.ref f32)))
    (l32 : K.lookup f32 = some ⟨oc32, od32, .func (PySem.W.fnOf "height_bound" "height_bound" (defArgs sF_height_bound) (defBody sF_height_bound) (defScope sF_height_bound) .none kV32 dc32 pm32 an32 cd32 ct32), sl32⟩)
    (c32 : PySem.W.codeIn K cd32 "height_bound" = true)
    (k32 : PySem.W.keepIn K (.ref f32) = true)
    (a33 : PySem.W.nsIn K mainGlobals "color_bound" = some (some (.ref f33)))
    (l33 : K.lookup f33 = some ⟨oc33, od33, .func (PySem.W.fnOf "color_bound" "color_bound" (defArgs sF_color_bound) (defBody sF_color_bound) (defScope sF_color_bound) .none kV33 dc33 pm33 an33 cd33 ct33), sl33⟩)
    (c33 : PySem.W.codeIn K cd33 "color_bound" = true)
    (k33 : PySem.W.keepIn K (.ref f33) = true)
    (a34 : PySem.W.nsIn K mainGlobals "right_class" = some (some (.ref f34)))
    (l34 : K.lookup f34 = some ⟨oc34, od34, .func (PySem.W.fnOf "right_class" "right_class" (defArgs sF_right_class) (defBody sF_right_class) (defScope sF_right_class) .none kV34 dc34 pm34 an34 cd34 ct34), sl34⟩)
    (c34 : PySem.W.codeIn K cd34 "right_class" = true)
    (k34 : PySem.W.keepIn K (.ref f34) = true)
    (a35 : PySem.W.nsIn K mainGlobals "left_class" = some (some (.ref f35)))
    (l35 : K.lookup f35 = some ⟨oc35, od35, .func (PySem.W.fnOf "left_class" "left_class" (defArgs sF_left_class) (defBody sF_left_class) (defScope sF_left_class) .none kV35 dc35 pm35 an35 cd35 ct35), sl35⟩)
    (c35 : PySem.W.codeIn K cd35 "left_class" = true)
    (k35 : PySem.W.keepIn K (.ref f35) = true)
    (a36 : PySem.W.nsIn K mainGlobals "cell_of" = some (some (.ref f36)))
    (l36 : K.lookup f36 = some ⟨oc36, od36, .func (PySem.W.fnOf "cell_of" "cell_of" (defArgs sF_cell_of) (defBody sF_cell_of) (defScope sF_cell_of) .none kV36 dc36 pm36 an36 cd36 ct36), sl36⟩)
    (c36 : PySem.W.codeIn K cd36 "cell_of" = true)
    (k36 : PySem.W.keepIn K (.ref f36) = true)
    (a37 : PySem.W.nsIn K mainGlobals "level_of" = some (some (.ref f37)))
    (l37 : K.lookup f37 = some ⟨oc37, od37, .func (PySem.W.fnOf "level_of" "level_of" (defArgs sF_level_of) (defBody sF_level_of) (defScope sF_level_of) .none kV37 dc37 pm37 an37 cd37 ct37), sl37⟩)
    (c37 : PySem.W.codeIn K cd37 "level_of" = true)
    (k37 : PySem.W.keepIn K (.ref f37) = true)
    (a38 : PySem.W.nsIn K mainGlobals "inverse" = some (some (.ref f38)))
    (l38 : K.lookup f38 = some ⟨oc38, od38, .func (PySem.W.fnOf "inverse" "inverse" (defArgs sF_inverse) (defBody sF_inverse) (defScope sF_inverse) .none kV38 dc38 pm38 an38 cd38 ct38), sl38⟩)
    (c38 : PySem.W.codeIn K cd38 "inverse" = true)
    (k38 : PySem.W.keepIn K (.ref f38) = true)
    (a39 : PySem.W.nsIn K mainGlobals "find_factors" = some (some (.ref f39)))
    (l39 : K.lookup f39 = some ⟨oc39, od39, .func (PySem.W.fnOf "find_factors" "find_factors" (defArgs sF_find_factors) (defBody sF_find_factors) (defScope sF_find_factors) .none kV39 dc39 pm39 an39 cd39 ct39), sl39⟩)
    (c39 : PySem.W.codeIn K cd39 "find_factors" = true)
    (k39 : PySem.W.keepIn K (.ref f39) = true)
    (a40 : PySem.W.nsIn K mainGlobals "is_above" = some (some (.ref f40)))
    (l40 : K.lookup f40 = some ⟨oc40, od40, .func (PySem.W.fnOf "is_above" "is_above" (defArgs sF_is_above) (defBody sF_is_above) (defScope sF_is_above) .none kV40 dc40 pm40 an40 cd40 ct40), sl40⟩)
    (c40 : PySem.W.codeIn K cd40 "is_above" = true)
    (k40 : PySem.W.keepIn K (.ref f40) = true)
    (a41 : PySem.W.nsIn K mainGlobals "_law_raised" = some (some (.ref f41)))
    (l41 : K.lookup f41 = some ⟨oc41, od41, .func (PySem.W.fnOf "_law_raised" "_law_raised" (defArgs sRai) (defBody sRai) (defScope sRai) .none kV41 dc41 pm41 an41 cd41 ct41), sl41⟩)
    (c41 : PySem.W.codeIn K cd41 "_law_raised" = true)
    (k41 : PySem.W.keepIn K (.ref f41) = true)
    (a42 : PySem.W.nsIn K mainGlobals "_law_same" = some (some (.ref f42)))
    (l42 : K.lookup f42 = some ⟨oc42, od42, .func (PySem.W.fnOf "_law_same" "_law_same" (defArgs sSa) (defBody sSa) (defScope sSa) .none kV42 dc42 pm42 an42 cd42 ct42), sl42⟩)
    (c42 : PySem.W.codeIn K cd42 "_law_same" = true)
    (k42 : PySem.W.keepIn K (.ref f42) = true)
    (a43 : PySem.W.nsIn K mainGlobals "_law_refused" = some (some (.ref f43)))
    (l43 : K.lookup f43 = some ⟨oc43, od43, .func (PySem.W.fnOf "_law_refused" "_law_refused" (defArgs sRefd) (defBody sRefd) (defScope sRefd) .none kV43 dc43 pm43 an43 cd43 ct43), sl43⟩)
    (c43 : PySem.W.codeIn K cd43 "_law_refused" = true)
    (k43 : PySem.W.keepIn K (.ref f43) = true)
    (a44 : PySem.W.nsIn K mainGlobals "_law_asks" = some (some (.ref f44)))
    (l44 : K.lookup f44 = some ⟨oc44, od44, .func (PySem.W.fnOf "_law_asks" "_law_asks" (defArgs sAsk) (defBody sAsk) (defScope sAsk) .none kV44 dc44 pm44 an44 (.ref cc) ct44), sl44⟩)
    (c44 : PySem.W.codeIn K (.ref cc) "_law_asks" = true)
    (k44 : PySem.W.keepIn K (.ref f44) = true)
    (a45 : PySem.W.nsIn K mainGlobals "_law_invalid" = some (some (.ref f45)))
    (l45 : K.lookup f45 = some ⟨oc45, od45, .func (PySem.W.fnOf "_law_invalid" "_law_invalid" (defArgs sIvd) (defBody sIvd) (defScope sIvd) .none kV45 dc45 pm45 an45 cd45 ct45), sl45⟩)
    (c45 : PySem.W.codeIn K cd45 "_law_invalid" = true)
    (k45 : PySem.W.keepIn K (.ref f45) = true)
    (a46 : PySem.W.nsIn K mainGlobals "law" = some (some (.ref f46)))
    (l46 : K.lookup f46 = some ⟨oc46, od46, .func (PySem.W.fnOf "law" "law" (defArgs sLaw) (defBody sLaw) (defScope sLaw) .none kV46 dc46 pm46 an46 cd46 ct46), sl46⟩)
    (c46 : PySem.W.codeIn K cd46 "law" = true)
    (k46 : PySem.W.keepIn K (.ref f46) = true)
    (q0 : PySem.W.nsIn K mainGlobals "LARGEST_TABLE" = some (some (.int 16 tk0)))
    (q1 : PySem.W.nsIn K mainGlobals "MOST_STATES" = some (some (.int 5 tk1)))
    (q2 : PySem.W.nsIn K mainGlobals "MOST_LETTERS" = some (some (.int 4 tk2)))
    (q3 : PySem.W.nsIn K mainGlobals "_MOST_LETTERS" = some (some (.int 8 tk3)))
    (z_max : PySem.W.nsIn K mainGlobals "max" = some none)
    (z_min : PySem.W.nsIn K mainGlobals "min" = some none)
    (z_len : PySem.W.nsIn K mainGlobals "len" = some none)
    (z_range : PySem.W.nsIn K mainGlobals "range" = some none)
    (z_repr : PySem.W.nsIn K mainGlobals "repr" = some none)
    (z_isinstance : PySem.W.nsIn K mainGlobals "isinstance" = some none)
    (z_all : PySem.W.nsIn K mainGlobals "all" = some none)
    (z_enumerate : PySem.W.nsIn K mainGlobals "enumerate" = some none)
    (z_tuple : PySem.W.nsIn K mainGlobals "tuple" = some none)
    (z_dict : PySem.W.nsIn K mainGlobals "dict" = some none)
    (z_str : PySem.W.nsIn K mainGlobals "str" = some none)
    (z_int : PySem.W.nsIn K mainGlobals "int" = some none)
    (z_bool : PySem.W.nsIn K mainGlobals "bool" = some none)
    (z_list : PySem.W.nsIn K mainGlobals "list" = some none)
    (z_set : PySem.W.nsIn K mainGlobals "set" = some none)
    (z_sorted : PySem.W.nsIn K mainGlobals "sorted" = some none)
    (tL : PySem.W.typeIn K (.ref f7) = some (.type "function"))
    (tyCF : PySem.W.typeIn K (.ref CF) = some (.type "type"))
    (sET : PySem.W.subIn K (.ref CE) (.ref CT) = some false)
    (sIL : PySem.W.subIn K (.ref CF) (.type "list") = some false)
    (sFC : PySem.W.subIn K (.ref CF) (.ref C) = some false)
    (sCC : PySem.W.subIn K (.ref C) (.ref C) = some true)
    (lkC : K.lookup cc = some ⟨eC, dC, .fields vC, sC⟩)
    (pC : vC[11]? = some (.ref PP))
    (nP : K.lookup PP = none)
    : ∃ (fd : FuncData) (c T : Addr), (∀ (s : Shared) (v : Value), BindsTo s fd ⟨[v], []⟩ [("script", v)]) ∧ MakerAt K mg ("_law_asks" : Str) c T ∧ ∀ base : Heap, K.In base → base.Ns mainGlobals mg → (∃ o, base.get? sysModules = some o) → LamX.TabB base mg c T → GOk l.prog w K mg base CX0 9 fa fd ["script"] (spLaw K [(T, ("_law_asks.<locals>.<lambda>" : Str))]) := by
  have e := hfa.symm.trans (PySem.W.mg_of X G a46)
  cases e
  have F0 := fun_mk (st := sIsInt) l0 c0 k0
  have b0 := F0.binds (ps := ["value"]) fun _ _ _ _ _ _ us hl => match us, hl with | [_], _ => rfl
  have m0 := PySem.W.mg_of X G a0
  have F1 := fun_mk (st := sIsList) l1 c1 k1
  have b1 := F1.binds (ps := ["value", "least", "most"]) fun _ _ _ _ _ _ us hl => match us, hl with | [_, _, _], _ => rfl
  have m1 := PySem.W.mg_of X G a1
  have F2 := fun_mk (st := sBelow) l2 c2 k2
  have b2 := F2.binds (ps := ["value", "limit"]) fun _ _ _ _ _ _ us hl => match us, hl with | [_, _], _ => rfl
  have m2 := PySem.W.mg_of X G a2
  have F3 := fun_mk (st := sNumList) l3 c3 k3
  have b3 := F3.binds (ps := ["value", "least", "most", "limit"]) fun _ _ _ _ _ _ us hl => match us, hl with | [_, _, _, _], _ => rfl
  have m3 := PySem.W.mg_of X G a3
  have F4 := fun_mk (st := sAreRows) l4 c4 k4
  have b4 := F4.binds (ps := ["rows"]) fun _ _ _ _ _ _ us hl => match us, hl with | [_], _ => rfl
  have m4 := PySem.W.mg_of X G a4
  have F5 := fun_mk (st := sWrong) l5 c5 k5
  have b5 := F5.binds (ps := ["rows"]) fun _ _ _ _ _ _ us hl => match us, hl with | [_], _ => rfl
  have m5 := PySem.W.mg_of X G a5
  have F6 := fun_mk (st := sInit) l6 c6 k6
  have b6 := F6.binds (ps := ["self", "rows"]) fun _ _ _ _ _ _ us hl => match us, hl with | [_, _], _ => rfl
  have F7 := fun_mk (st := sLen) l7 c7 k7
  have b7 := F7.binds (ps := ["self"]) fun _ _ _ _ _ _ us hl => match us, hl with | [_], _ => rfl
  have F8 := fun_mk (st := sRowsM) l8 c8 k8
  have b8 := F8.binds (ps := ["self"]) fun _ _ _ _ _ _ us hl => match us, hl with | [_], _ => rfl
  have F9 := fun_mk (st := sChkTX) l9 c9 k9
  have b9 := F9.binds (ps := ["table"]) fun _ _ _ _ _ _ us hl => match us, hl with | [_], _ => rfl
  have m9 := PySem.W.mg_of X G a9
  have F10 := fun_mk (st := sEiT) l10 c10 k10
  have b10 := F10.binds (ps := ["self", "value"]) fun _ _ _ _ _ _ us hl => match us, hl with | [_, _], _ => rfl
  have F11 := fun_mk (st := sCell) l11 c11 k11
  have b11 := F11.binds (ps := ["script", "k"]) fun _ _ _ _ _ _ us hl => match us, hl with | [_, _], _ => rfl
  have m11 := PySem.W.mg_of X G a11
  have F12 := fun_mk (st := sBox) l12 c12 k12
  have b12 := F12.binds (ps := ["cell"]) fun _ _ _ _ _ _ us hl => match us, hl with | [_], _ => rfl
  have m12 := PySem.W.mg_of X G a12
  have F13 := fun_mk (st := sTake) l13 c13 k13
  have b13 := F13.binds (ps := ["box", "size"]) fun _ _ _ _ _ _ us hl => match us, hl with | [_, _], _ => rfl
  have m13 := PySem.W.mg_of X G a13
  have F14 := fun_mk (st := sMaps) l14 c14 k14
  have b14 := F14.binds (ps := ["box"]) fun _ _ _ _ _ _ us hl => match us, hl with | [_], _ => rfl
  have m14 := PySem.W.mg_of X G a14
  have F15 := fun_mk (st := sPlain) l15 c15 k15
  have b15 := F15.binds (ps := ["kind", "n"]) fun _ _ _ _ _ _ us hl => match us, hl with | [_, _], _ => rfl
  have m15 := PySem.W.mg_of X G a15
  have F16 := fun_mk (st := sExt) l16 c16 k16
  have b16 := F16.binds (ps := ["rows", "kind"]) fun _ _ _ _ _ _ us hl => match us, hl with | [_, _], _ => rfl
  have m16 := PySem.W.mg_of X G a16
  have F17 := fun_mk (st := sGrid) l17 c17 k17
  have b17 := F17.binds (ps := ["box"]) fun _ _ _ _ _ _ us hl => match us, hl with | [_], _ => rfl
  have m17 := PySem.W.mg_of X G a17
  have F18 := fun_mk (st := sWords) l18 c18 k18
  have b18 := F18.binds (ps := []) fun _ _ _ _ _ _ us hl => match us, hl with | [], _ => rfl
  have m18 := PySem.W.mg_of X G a18
  have F19 := fun_mk (st := sPairs) l19 c19 k19
  have b19 := F19.binds (ps := ["one", "other"]) fun _ _ _ _ _ _ us hl => match us, hl with | [_, _], _ => rfl
  have m19 := PySem.W.mg_of X G a19
  have F20 := fun_mk (st := sRows) l20 c20 k20
  have b20 := F20.binds (ps := ["box"]) fun _ _ _ _ _ _ us hl => match us, hl with | [_], _ => rfl
  have m20 := PySem.W.mg_of X G a20
  have F21 := fun_mk (st := sEiE) l21 c21 k21
  have b21 := F21.binds (ps := ["self", "value"]) fun _ _ _ _ _ _ us hl => match us, hl with | [_, _], _ => rfl
  have F22 := fun_mk (st := sEiM) l22 c22 k22
  have b22 := F22.binds (ps := ["self", "count"]) fun _ _ _ _ _ _ us hl => match us, hl with | [_, _], _ => rfl
  have F23 := fun_mk (st := sIsName) l23 c23 k23
  have b23 := F23.binds (ps := ["value"]) fun _ _ _ _ _ _ us hl => match us, hl with | [_], _ => rfl
  have m23 := PySem.W.mg_of X G a23
  have F24 := fun_mk (st := sCd) l24 c24 k24
  have b24 := F24.binds (ps := ["first", "second"]) fun _ _ _ _ _ _ us hl => match us, hl with | [_, _], _ => rfl
  have m24 := PySem.W.mg_of X G a24
  have F25 := fun_mk (st := sSw) l25 c25 k25
  have b25 := F25.binds (ps := ["states", "letters"]) fun _ _ _ _ _ _ us hl => match us, hl with | [_, _], _ => rfl
  have m25 := PySem.W.mg_of X G a25
  have F26 := fun_mk (st := sAl) l26 c26 k26
  have b26 := F26.binds (ps := ["states", "letters"]) fun _ _ _ _ _ _ us hl => match us, hl with | [_, _], _ => rfl
  have m26 := PySem.W.mg_of X G a26
  have F27 := fun_mk (st := sTi) l27 c27 k27
  have b27 := F27.binds (ps := ["self", "states", "letters"]) fun _ _ _ _ _ _ us hl => match us, hl with | [_, _, _], _ => rfl
  have F28 := fun_mk (st := sTe) l28 c28 k28
  have b28 := F28.binds (ps := ["self", "other"]) fun _ _ _ _ _ _ us hl => match us, hl with | [_, _], _ => rfl
  have F29 := fun_mk (st := sChkEX) l29 c29 k29
  have b29 := F29.binds (ps := ["table", "element"]) fun _ _ _ _ _ _ us hl => match us, hl with | [_, _], _ => rfl
  have m29 := PySem.W.mg_of X G a29
  have F30 := fun_mk (st := sF_levels) l30 c30 k30
  have b30 := F30.binds (ps := ["table"]) fun _ _ _ _ _ _ us hl => match us, hl with | [_], _ => rfl
  have m30 := PySem.W.mg_of X G a30
  have F31 := fun_mk (st := sF_group_cells) l31 c31 k31
  have b31 := F31.binds (ps := ["table"]) fun _ _ _ _ _ _ us hl => match us, hl with | [_], _ => rfl
  have m31 := PySem.W.mg_of X G a31
  have F32 := fun_mk (st := sF_height_bound) l32 c32 k32
  have b32 := F32.binds (ps := ["table"]) fun _ _ _ _ _ _ us hl => match us, hl with | [_], _ => rfl
  have m32 := PySem.W.mg_of X G a32
  have F33 := fun_mk (st := sF_color_bound) l33 c33 k33
  have b33 := F33.binds (ps := ["table"]) fun _ _ _ _ _ _ us hl => match us, hl with | [_], _ => rfl
  have m33 := PySem.W.mg_of X G a33
  have F34 := fun_mk (st := sF_right_class) l34 c34 k34
  have b34 := F34.binds (ps := ["table", "element"]) fun _ _ _ _ _ _ us hl => match us, hl with | [_, _], _ => rfl
  have m34 := PySem.W.mg_of X G a34
  have F35 := fun_mk (st := sF_left_class) l35 c35 k35
  have b35 := F35.binds (ps := ["table", "element"]) fun _ _ _ _ _ _ us hl => match us, hl with | [_, _], _ => rfl
  have m35 := PySem.W.mg_of X G a35
  have F36 := fun_mk (st := sF_cell_of) l36 c36 k36
  have b36 := F36.binds (ps := ["table", "element"]) fun _ _ _ _ _ _ us hl => match us, hl with | [_, _], _ => rfl
  have m36 := PySem.W.mg_of X G a36
  have F37 := fun_mk (st := sF_level_of) l37 c37 k37
  have b37 := F37.binds (ps := ["table", "element"]) fun _ _ _ _ _ _ us hl => match us, hl with | [_, _], _ => rfl
  have m37 := PySem.W.mg_of X G a37
  have F38 := fun_mk (st := sF_inverse) l38 c38 k38
  have b38 := F38.binds (ps := ["table", "element"]) fun _ _ _ _ _ _ us hl => match us, hl with | [_, _], _ => rfl
  have m38 := PySem.W.mg_of X G a38
  have F39 := fun_mk (st := sF_find_factors) l39 c39 k39
  have b39 := F39.binds (ps := ["table", "start", "goal"]) fun _ _ _ _ _ _ us hl => match us, hl with | [_, _, _], _ => rfl
  have m39 := PySem.W.mg_of X G a39
  have F40 := fun_mk (st := sF_is_above) l40 c40 k40
  have b40 := F40.binds (ps := ["table", "first", "second"]) fun _ _ _ _ _ _ us hl => match us, hl with | [_, _, _], _ => rfl
  have m40 := PySem.W.mg_of X G a40
  have F41 := fun_mk (st := sRai) l41 c41 k41
  have b41 := F41.binds (ps := ["ask", "things"]) fun _ _ _ _ _ _ us hl => match us, hl with | [_, _], _ => rfl
  have m41 := PySem.W.mg_of X G a41
  have F42 := fun_mk (st := sSa) l42 c42 k42
  have b42 := F42.binds (ps := ["found", "kind", "value"]) fun _ _ _ _ _ _ us hl => match us, hl with | [_, _, _], _ => rfl
  have m42 := PySem.W.mg_of X G a42
  have F43 := fun_mk (st := sRefd) l43 c43 k43
  have b43 := F43.binds (ps := ["ask", "things", "kind", "value"]) fun _ _ _ _ _ _ us hl => match us, hl with | [_, _, _, _], _ => rfl
  have m43 := PySem.W.mg_of X G a43
  have F44 := fun_mk (st := sAsk) l44 c44 k44
  have b44 := F44.binds (ps := []) fun _ _ _ _ _ _ us hl => match us, hl with | [], _ => rfl
  have m44 := PySem.W.mg_of X G a44
  have F45 := fun_mk (st := sIvd) l45 c45 k45
  have b45 := F45.binds (ps := ["box", "n"]) fun _ _ _ _ _ _ us hl => match us, hl with | [_, _], _ => rfl
  have m45 := PySem.W.mg_of X G a45
  have F46 := fun_mk (st := sLaw) l46 c46 k46
  have b46 := F46.binds (ps := ["script"]) fun _ _ _ _ _ _ us hl => match us, hl with | [_], _ => rfl
  have m46 := PySem.W.mg_of X G a46
  have M : Mn mg := ⟨PySem.W.mg_none_of X G z_max, PySem.W.mg_none_of X G z_min, PySem.W.mg_none_of X G z_len, PySem.W.mg_none_of X G z_range, PySem.W.mg_none_of X G z_repr, PySem.W.mg_none_of X G z_isinstance, PySem.W.mg_none_of X G z_all, PySem.W.mg_none_of X G z_enumerate, PySem.W.mg_none_of X G z_tuple, PySem.W.mg_none_of X G z_dict, PySem.W.mg_none_of X G z_str, PySem.W.mg_none_of X G z_int, PySem.W.mg_none_of X G z_bool, PySem.W.mg_none_of X G z_list⟩
  refine ⟨PySem.W.fnOf "law" "law" (defArgs sLaw) (defBody sLaw) (defScope sLaw) .none kV46 dc46 pm46 an46 cd46 ct46, cc, PP, fun s v => .of_eq rfl, ⟨f44, _, _, eC, dC, vC, sC, m44, l44, rfl, rfl, lkC, pC, nP⟩, fun base _ _ hS TB => ?_⟩
  have T : CTx K mg C := ⟨⟨pg, hd, po, sa⟩, nR, PySem.W.mg_of X G aC⟩
  have Y : CTi K C := ⟨ya, yn, yt, ym⟩
  have EO : ETx K mg "TooMany" "count" CO f22 := ⟨⟨clCO, saCO, exCO, tyCO, kCO⟩, ⟨gaCO, ggCO, exCO, hdCO⟩, a22, t22, nvCO, PySem.W.mg_of X G aCO⟩
  have ET : ETx K mg "InvalidTable" "value" CT f10 := ⟨⟨clCT, saCT, exCT, tyCT, kCT⟩, ⟨gaCT, ggCT, exCT, hdCT⟩, a10, t10, nvCT, PySem.W.mg_of X G aCT⟩
  have EE : ETx K mg "InvalidElement" "value" CE f21 := ⟨⟨clCE, saCE, exCE, tyCE, kCE⟩, ⟨gaCE, ggCE, exCE, hdCE⟩, a21, t21, nvCE, PySem.W.mg_of X G aCE⟩
  have UF : TfX K CF := ⟨⟨pgu, hdu, pou, sau⟩, n1u, n2u, n3u, n4u⟩
  have YF : CTi K CF := ⟨yau, yn, yt, ymu⟩
  have NB : CNb K C := ⟨mk, tyC⟩
  have NF : CNb K CF := ⟨mku, tyCF⟩
  have mCF := PySem.W.mg_of X G au
  have G0 := ok_isint (P := l.prog) (w := w) (base := base) F0 M
  have G1 := ok_islist (P := l.prog) (w := w) (base := base) F1 M
  have G2 := ok_below F2 G0 b0 k0 m0
  have G3 := ok_numlist F3 M G1 b1 k1 m1 G2 b2 k2 m2
  have G4 := ok_arerows F4 M ⟨_, PySem.W.mg_of X G q0⟩ G1 b1 k1 m1 G3 b3 k3 m3
  have G5 := ok_wrong (P := l.prog) (w := w) (base := base) F5 M
  have G6 := ok_init F6 M T G4 b4 k4 m4 G5 b5 k5 m5
  have G7 := ok_len (P := l.prog) (w := w) (base := base) F7 M T
  have G8 := ok_rowsM (P := l.prog) (w := w) (base := base) F8 M T
  have h_rows : Meth K C "rows" f8 := ⟨a8, i8, k8⟩
  have G10 := ok_eiT (P := l.prog) (w := w) (base := base) (mg := mg) (C := CT) F10
  have G9 := ok_chkTX F9 M T Y ET G10 b10
  have G11 := ok_cell (P := l.prog) (w := w) (base := base) F11 M
  have G12 := ok_box (P := l.prog) (w := w) (base := base) F12 M
  have G13 := ok_take (P := l.prog) (w := w) (base := base) F13 M
  have G14 := ok_maps F14 M G13 b13 k13 m13
  have G15 := ok_plain (P := l.prog) (w := w) (base := base) F15 M
  have G16 := ok_ext (P := l.prog) (w := w) (base := base) F16 M
  have G17 := ok_grid F17 M G13 b13 k13 m13
  have G18 := ok_words (P := l.prog) (w := w) (base := base) F18 M
  have G19 := ok_pairs (P := l.prog) (w := w) (base := base) F19 M
  have G20 := ok_rows F20 M G13 b13 k13 m13 G14 b14 k14 m14 G17 b17 k17 m17 G18 b18 k18 m18 G15 b15 k15 m15 G16 b16 k16 m16 G19 b19 k19 m19
  have G21 := ok_eiE (P := l.prog) (w := w) (base := base) (mg := mg) (C := CE) F21
  have G22 := ok_eiM (P := l.prog) (w := w) (base := base) (mg := mg) (C := CO) F22
  have G23 := ok_isname (P := l.prog) (w := w) (base := base) F23 M ⟨_, PySem.W.mg_of X G q3⟩
  have G24 := ok_cd (P := l.prog) (w := w) (base := base) F24 M
  have G25 := ok_sw F25 M ⟨_, PySem.W.mg_of X G q0⟩ EO G22 b22 G24 b24 k24 m24
  have G26 := ok_al F26 M ⟨_, PySem.W.mg_of X G q2⟩ G23 b23 k23 m23 G3 b3 k3 m3
  have G27 := ok_ti F27 M UF ⟨_, PySem.W.mg_of X G q1⟩ G0 b0 k0 m0 G26 b26 k26 m26 G25 b25 k25 m25
  have G28 := ok_teG (P := l.prog) (w := w) (base := base) F28 M UF YF mCF
  have G29 := ok_chkEX F29 M EE G21 b21 G2 b2 k2 m2 G7 b7 a7 tL
  have G30 := ok_levels (CE := CE) F30 G9 b9 k9 m9
  have G31 := ok_group_cells (CE := CE) F31 G9 b9 k9 m9
  have G32 := ok_height_bound (CE := CE) F32 G9 b9 k9 m9
  have G33 := ok_color_bound (CE := CE) F33 G9 b9 k9 m9
  have G34 := ok_right_class (CE := CE) F34 G9 b9 k9 m9 G29 b29 k29 m29
  have G35 := ok_left_class (CE := CE) F35 G9 b9 k9 m9 G29 b29 k29 m29
  have G36 := ok_cell_of (CE := CE) F36 G34 b34 k34 m34
  have G37 := ok_level_of (CE := CE) F37 G9 b9 k9 m9 G29 b29 k29 m29
  have G38 := ok_inverse (CE := CE) F38 G9 b9 k9 m9 G29 b29 k29 m29
  have G39 := ok_find_factors (CE := CE) F39 G9 b9 k9 m9 G29 b29 k29 m29
  have G40 := ok_is_above (CE := CE) F40 G9 b9 k9 m9 G29 b29 k29 m29
  have G41 := ok_rai (C := C) (P := l.prog) (w := w) (base := base) F41 ET EE (exm_mk ET.ox suCT) (exm_mk2 ET.ox sET) (exm_mk EE.ox suCE)
  have G42 := ok_sa F42 M UF YF NF hS mCF a28 i28 G28 b28
  have G43 := ok_refd F43 M UF YF (kitF NF sIL) G41 b41 k41 m41 G42 b42 k42 m42
  have G44 := ok_asks (T := [(PP, ("_law_asks.<locals>.<lambda>" : Str))]) F44 TB rfl List.mem_cons_self (fun p hp _ => by rw [List.mem_singleton.mp hp]) G30 b30 k30 m30 G31 b31 k31 m31 G32 b32 k32 m32 G33 b33 k33 m33 G34 b34 k34 m34 G35 b35 k35 m35 G36 b36 k36 m36 G37 b37 k37 m37 G38 b38 k38 m38 G39 b39 k39 m39 G40 b40 k40 m40
  have G45 := ok_ivd F45 M G13 b13 k13 m13
  exact ok_law F46 M T Y UF YF NB NF (kT_of NB sFC sCC).1 mCF ⟨mku, a27, i27, kcu⟩ G27 b27 G13 b13 k13 m13 G45 b45 k45 m45 ⟨mk, a6, i6, kc⟩ G6 b6 G8 b8 h_rows G20 b20 k20 m20 G44 b44 k44 m44 G43 b43 k43 m43 G12 b12 k12 m12 G11 b11 k11 m11
theorem walk {l : PySem.W.OpenLaw} {q : Program} {loose : List Str} {XP : (Str → Option Value) → Heap → Prop} {YP : World → Heap → Prop} {d : DefRec} {K : Params → PySem.W.Frag} (hn : l.most = some 63) (hdf : d.params.defaults = []) (him : PyProof.Rows.importsNone q = true)
    (hrec : ((PyProof.Rows.recsOf q).any fun e => e.name == ("_law_asks" : Str)) = true) (hY : ∀ (w : World) (h : Heap), YP w h → (K w.params).In h)
    (F : ∀ (w : World) (mg : Str → Option Value) (fa : Addr) (h : Heap), (K w.params).In h → h.Ns mainGlobals mg → mg d.name = some (.ref fa) →
      ∃ (fd : FuncData) (c T : Addr), (∀ (s : Shared) (u : Value), BindsTo s fd ⟨[u], []⟩ [("script", u)]) ∧ MakerAt (K w.params) mg ("_law_asks" : Str) c T ∧ ∀ base : Heap, (K w.params).In base → base.Ns mainGlobals mg → (∃ o, base.get? sysModules = some o) → LamX.TabB base mg c T → GOk l.prog w (K w.params) mg base CX0 9 fa fd ["script"] (spLaw (K w.params) [(T, ("_law_asks.<locals>.<lambda>" : Str))])) :
    PySem.W.WalkO q loose XP YP l.row.toRowW d [] (fun f vs => PySem.call f vs) :=
  walk_gT (n := 63) (k := 9) (x := "script") (sp := fun K T => spLaw K [(T, ("_law_asks.<locals>.<lambda>" : Str))]) hn (by decide) hdf ⟨rfl, by decide, by decide⟩ him hrec hY F fun _ T H a ns hl hH hS => ⟨a, ns, rfl, hS, hl, fun p hp => by rw [List.mem_singleton.mp hp]; exact LamX.TabS.nil hH, fun _ => rfl⟩
end L
open PySem PySem.W PyProof.Rows
set_option maxRecDepth 100000 in
set_option pp.maxSteps 400 in
set_option maxHeartbeats 0 in
theorem PySem.Challenge.cw_producttrees_k21_levels_of_invalid_argum_holds : PySem.Challenge.rw_producttrees_k21_levels_of_invalid_argum.Holds := by
  w_on; o_law; k_head; (case hw => w_witness2)
  k_fill
  refine L.walk (l := PySem.Challenge.rw_producttrees_k21_levels_of_invalid_argum) rfl rfl (by decide +kernel) (by decide +kernel) (fun w h Y => PySem.W.km_in_of Y) ?F
  case F =>
    intro w mg fa h KX G hmg
    refine' L.all_mk KX G hmg ?aC ?pg ?hd ?po ?sa ?mk ?kc ?nR ?ya ?yn ?yt ?ym ?tyC ?au ?pgu ?hdu ?pou ?sau ?mku ?kcu ?yau ?ymu ?n1u ?n2u ?n3u ?n4u ?aCT ?clCT ?saCT ?exCT ?tyCT ?kCT ?gaCT ?ggCT ?hdCT ?suCT ?nvCT ?aCE ?clCE ?saCE ?exCE ?tyCE ?kCE ?gaCE ?ggCE ?hdCE ?suCE ?nvCE ?aCO ?clCO ?saCO ?exCO ?tyCO ?kCO ?gaCO ?ggCO ?hdCO ?suCO ?nvCO ?a0 ?l0 ?c0 ?k0 ?a1 ?l1 ?c1 ?k1 ?a2 ?l2 ?c2 ?k2 ?a3 ?l3 ?c3 ?k3 ?a4 ?l4 ?c4 ?k4 ?a5 ?l5 ?c5 ?k5 ?a6 ?i6 ?l6 ?c6 ?k6 ?a7 ?i7 ?l7 ?c7 ?k7 ?a8 ?i8 ?l8 ?c8 ?k8 ?a9 ?l9 ?c9 ?k9 ?a10 ?t10 ?l10 ?c10 ?k10 ?a11 ?l11 ?c11 ?k11 ?a12 ?l12 ?c12 ?k12 ?a13 ?l13 ?c13 ?k13 ?a14 ?l14 ?c14 ?k14 ?a15 ?l15 ?c15 ?k15 ?a16 ?l16 ?c16 ?k16 ?a17 ?l17 ?c17 ?k17 ?a18 ?l18 ?c18 ?k18 ?a19 ?l19 ?c19 ?k19 ?a20 ?l20 ?c20 ?k20 ?a21 ?t21 ?l21 ?c21 ?k21 ?a22 ?t22 ?l22 ?c22 ?k22 ?a23 ?l23 ?c23 ?k23 ?a24 ?l24 ?c24 ?k24 ?a25 ?l25 ?c25 ?k25 ?a26 ?l26 ?c26 ?k26 ?a27 ?i27 ?l27 ?c27 ?k27 ?a28 ?i28 ?l28 ?c28 ?k28 ?a29 ?l29 ?c29 ?k29 ?a30 ?l30 ?c30 ?k30 ?a31 ?l31 ?c31 ?k31 ?a32 ?l32 ?c32 ?k32 ?a33 ?l33 ?c33 ?k33 ?a34 ?l34 ?c34 ?k34 ?a35 ?l35 ?c35 ?k35 ?a36 ?l36 ?c36 ?k36 ?a37 ?l37 ?c37 ?k37 ?a38 ?l38 ?c38 ?k38 ?a39 ?l39 ?c39 ?k39 ?a40 ?l40 ?c40 ?k40 ?a41 ?l41 ?c41 ?k41 ?a42 ?l42 ?c42 ?k42 ?a43 ?l43 ?c43 ?k43 ?a44 ?l44 ?c44 ?k44 ?a45 ?l45 ?c45 ?k45 ?a46 ?l46 ?c46 ?k46 ?q0 ?q1 ?q2 ?q3 ?z_max ?z_min ?z_len ?z_range ?z_repr ?z_isinstance ?z_all ?z_enumerate ?z_tuple ?z_dict ?z_str ?z_int ?z_bool ?z_list ?z_set ?z_sorted ?tL ?tyCF ?sET ?sIL ?sFC ?sCC ?lkC ?pC ?nP
    (case aC => k_is)
    (case pg => k_is)
    (case hd => k_is)
    (case po => k_is)
    (case sa => k_is)
    (case mk => k_is)
    (case kc => k_is)
    (case nR => k_is)
    (case ya => k_is)
    (case yn => k_is)
    (case yt => k_is)
    (case ym => k_is)
    (case tyC => k_is)
    (case au => k_is)
    (case pgu => k_is)
    (case hdu => k_is)
    (case pou => k_is)
    (case sau => k_is)
    (case mku => k_is)
    (case kcu => k_is)
    (case yau => k_is)
    (case ymu => k_is)
    (case n1u => k_is)
    (case n2u => k_is)
    (case n3u => k_is)
    (case n4u => k_is)
    (case aCT => k_is)
    (case clCT => exact ⟨_, _, _, _, _, _, _, _, _, _, _, _, _, _, _, by k_is, by decide +kernel⟩)
    (case saCT => k_is)
    (case exCT => k_is)
    (case tyCT => k_is)
    (case kCT => k_is)
    (case gaCT => k_is)
    (case ggCT => k_is)
    (case hdCT => k_is)
    (case suCT => k_is)
    (case nvCT => k_is)
    (case aCE => k_is)
    (case clCE => exact ⟨_, _, _, _, _, _, _, _, _, _, _, _, _, _, _, by k_is, by decide +kernel⟩)
    (case saCE => k_is)
    (case exCE => k_is)
    (case tyCE => k_is)
    (case kCE => k_is)
    (case gaCE => k_is)
    (case ggCE => k_is)
    (case hdCE => k_is)
    (case suCE => k_is)
    (case nvCE => k_is)
    (case aCO => k_is)
    (case clCO => exact ⟨_, _, _, _, _, _, _, _, _, _, _, _, _, _, _, by k_is, by decide +kernel⟩)
    (case saCO => k_is)
    (case exCO => k_is)
    (case tyCO => k_is)
    (case kCO => k_is)
    (case gaCO => k_is)
    (case ggCO => k_is)
    (case hdCO => k_is)
    (case suCO => k_is)
    (case nvCO => k_is)
    (case a0 => k_is)
    (case l0 => k_is)
    (case c0 => k_is)
    (case k0 => k_is)
    (case a1 => k_is)
    (case l1 => k_is)
    (case c1 => k_is)
    (case k1 => k_is)
    (case a2 => k_is)
    (case l2 => k_is)
    (case c2 => k_is)
    (case k2 => k_is)
    (case a3 => k_is)
    (case l3 => k_is)
    (case c3 => k_is)
    (case k3 => k_is)
    (case a4 => k_is)
    (case l4 => k_is)
    (case c4 => k_is)
    (case k4 => k_is)
    (case a5 => k_is)
    (case l5 => k_is)
    (case c5 => k_is)
    (case k5 => k_is)
    (case a6 => k_is)
    (case i6 => k_is)
    (case l6 => k_is)
    (case c6 => k_is)
    (case k6 => k_is)
    (case a7 => k_is)
    (case i7 => k_is)
    (case l7 => k_is)
    (case c7 => k_is)
    (case k7 => k_is)
    (case a8 => k_is)
    (case i8 => k_is)
    (case l8 => k_is)
    (case c8 => k_is)
    (case k8 => k_is)
    (case a9 => k_is)
    (case l9 => k_is)
    (case c9 => k_is)
    (case k9 => k_is)
    (case a10 => k_is)
    (case t10 => k_is)
    (case l10 => k_is)
    (case c10 => k_is)
    (case k10 => k_is)
    (case a11 => k_is)
    (case l11 => k_is)
    (case c11 => k_is)
    (case k11 => k_is)
    (case a12 => k_is)
    (case l12 => k_is)
    (case c12 => k_is)
    (case k12 => k_is)
    (case a13 => k_is)
    (case l13 => k_is)
    (case c13 => k_is)
    (case k13 => k_is)
    (case a14 => k_is)
    (case l14 => k_is)
    (case c14 => k_is)
    (case k14 => k_is)
    (case a15 => k_is)
    (case l15 => k_is)
    (case c15 => k_is)
    (case k15 => k_is)
    (case a16 => k_is)
    (case l16 => k_is)
    (case c16 => k_is)
    (case k16 => k_is)
    (case a17 => k_is)
    (case l17 => k_is)
    (case c17 => k_is)
    (case k17 => k_is)
    (case a18 => k_is)
    (case l18 => k_is)
    (case c18 => k_is)
    (case k18 => k_is)
    (case a19 => k_is)
    (case l19 => k_is)
    (case c19 => k_is)
    (case k19 => k_is)
    (case a20 => k_is)
    (case l20 => k_is)
    (case c20 => k_is)
    (case k20 => k_is)
    (case a21 => k_is)
    (case t21 => k_is)
    (case l21 => k_is)
    (case c21 => k_is)
    (case k21 => k_is)
    (case a22 => k_is)
    (case t22 => k_is)
    (case l22 => k_is)
    (case c22 => k_is)
    (case k22 => k_is)
    (case a23 => k_is)
    (case l23 => k_is)
    (case c23 => k_is)
    (case k23 => k_is)
    (case a24 => k_is)
    (case l24 => k_is)
    (case c24 => k_is)
    (case k24 => k_is)
    (case a25 => k_is)
    (case l25 => k_is)
    (case c25 => k_is)
    (case k25 => k_is)
    (case a26 => k_is)
    (case l26 => k_is)
    (case c26 => k_is)
    (case k26 => k_is)
    (case a27 => k_is)
    (case i27 => k_is)
    (case l27 => k_is)
    (case c27 => k_is)
    (case k27 => k_is)
    (case a28 => k_is)
    (case i28 => k_is)
    (case l28 => k_is)
    (case c28 => k_is)
    (case k28 => k_is)
    (case a29 => k_is)
    (case l29 => k_is)
    (case c29 => k_is)
    (case k29 => k_is)
    (case a30 => k_is)
    (case l30 => k_is)
    (case c30 => k_is)
    (case k30 => k_is)
    (case a31 => k_is)
    (case l31 => k_is)
    (case c31 => k_is)
    (case k31 => k_is)
    (case a32 => k_is)
    (case l32 => k_is)
    (case c32 => k_is)
    (case k32 => k_is)
    (case a33 => k_is)
    (case l33 => k_is)
    (case c33 => k_is)
    (case k33 => k_is)
    (case a34 => k_is)
    (case l34 => k_is)
    (case c34 => k_is)
    (case k34 => k_is)
    (case a35 => k_is)
    (case l35 => k_is)
    (case c35 => k_is)
    (case k35 => k_is)
    (case a36 => k_is)
    (case l36 => k_is)
    (case c36 => k_is)
    (case k36 => k_is)
    (case a37 => k_is)
    (case l37 => k_is)
    (case c37 => k_is)
    (case k37 => k_is)
    (case a38 => k_is)
    (case l38 => k_is)
    (case c38 => k_is)
    (case k38 => k_is)
    (case a39 => k_is)
    (case l39 => k_is)
    (case c39 => k_is)
    (case k39 => k_is)
    (case a40 => k_is)
    (case l40 => k_is)
    (case c40 => k_is)
    (case k40 => k_is)
    (case a41 => k_is)
    (case l41 => k_is)
    (case c41 => k_is)
    (case k41 => k_is)
    (case a42 => k_is)
    (case l42 => k_is)
    (case c42 => k_is)
    (case k42 => k_is)
    (case a43 => k_is)
    (case l43 => k_is)
    (case c43 => k_is)
    (case k43 => k_is)
    (case a44 => k_is)
    (case l44 => k_is)
    (case c44 => k_is)
    (case k44 => k_is)
    (case a45 => k_is)
    (case l45 => k_is)
    (case c45 => k_is)
    (case k45 => k_is)
    (case a46 => k_is)
    (case l46 => k_is)
    (case c46 => k_is)
    (case k46 => k_is)
    (case q0 => k_is)
    (case q1 => k_is)
    (case q2 => k_is)
    (case q3 => k_is)
    (case z_max => k_is)
    (case z_min => k_is)
    (case z_len => k_is)
    (case z_range => k_is)
    (case z_repr => k_is)
    (case z_isinstance => k_is)
    (case z_all => k_is)
    (case z_enumerate => k_is)
    (case z_tuple => k_is)
    (case z_dict => k_is)
    (case z_str => k_is)
    (case z_int => k_is)
    (case z_bool => k_is)
    (case z_list => k_is)
    (case z_set => k_is)
    (case z_sorted => k_is)
    (case tL => k_is)
    (case tyCF => k_is)
    (case sET => k_is)
    (case sIL => k_is)
    (case sFC => k_is)
    (case sCC => k_is)
    (case lkC => k_is)
    (case pC => rfl)
    (case nP => kernel_rfl)

