import PyProof.Rows.All
import Wide.All
import OpenK.AllK
import Wide.FinOn
import HandS.ForMost
import HandS.IsInst
import HandS.RaiseMore
import HandS.Defaults
import HandS.Wide
import HandS.Walk
import KE.IntTextLaws
import KE.OsScanText
import HandS.StrMore
import HandS.ForExc
import HandS.ExcInit
import HandS.ExcField
import HandS.ExcOwn
import PyProof.StrOps2
import HandS.Deep
import HandS.Conv
import HandS.OwnEq
import HandS.NamedTupGet
import HandS.Strs
import HandS.SetFor
import HandS.TupAny
import PyProof.InstNe
import PyProof.NeKinds
import HandS.More
import KE.DatumOrd
import PyProof.Rows.RowBridgeK
import KE.KDictPairs
import KE.KDictCopyH
import HandS.Dict
import KE.KDictZip
import HandS.Sort
import HandS.DictComp
import HandS.TupLen
import HandS.MakeKwOnly
import HandS.SetKeys
import HandS.Style
import HandS.DeepEq
import KE.DataEq
import HandS.ListEq
import KE.GoesMore
import PyProof.Draws
import PySem.Challenge.RW_producttrees_k13_shortest_words
set_option Elab.async false
set_option linter.all false
set_option maxRecDepth 100000
set_option maxHeartbeats 4000000
/-! Own layer: data trees with dicts (Dq), repr of them, defs that know that no repr runs (GOk). -/
namespace KX
open PySem PySem.Spec PyProof.Rows L2
/-- a dict's key as data -/
def kD : Key → PyData
  | .inl i => .int i
  | .inr x => .str x
mutual
/-- the value x stands for the data d in the abstract heap -/
inductive Dq (H : Hp) : V → PyData → Prop
  | non : Dq H .non .none
  | bl (b : Bool) : Dq H (.bl b) (.bool b)
  | int (i : Int) : Dq H (.int i) (.int i)
  | str (x : Str) : Dq H (.str x) (.str x)
  | lst {a : Addr} {xs : List V} {ds : List PyData} : H a = some (.lst xs) → DqAll H xs ds → Dq H (.ref a) (.list ds)
  | tup {a : Addr} {xs : List V} {ds : List PyData} : H a = some (.tup xs) → DqAll H xs ds → Dq H (.ref a) (.tuple ds)
  | dct {a : Addr} {kvs : List (Key × V)} {ds : List (PyData × PyData)} : H a = some (.dK kvs) → DqKv H kvs ds → Dq H (.ref a) (.dict ds)
inductive DqAll (H : Hp) : List V → List PyData → Prop
  | nil : DqAll H [] []
  | cons {v : V} {vs : List V} {d : PyData} {ds : List PyData} : Dq H v d → DqAll H vs ds → DqAll H (v :: vs) (d :: ds)
inductive DqKv (H : Hp) : List (Key × V) → List (PyData × PyData) → Prop
  | nil : DqKv H [] []
  | cons {k : Key} {v : V} {r : List (Key × V)} {d : PyData} {ds : List (PyData × PyData)} : Dq H v d → DqKv H r ds → DqKv H ((k, v) :: r) ((kD k, d) :: ds)
end
def Trk (H : Hp) (as : List Addr) : Prop := ∀ a, a ∈ as → H a ≠ none
theorem Trk.nil {H : Hp} : Trk H [] := fun _ h => nomatch h
theorem Trk.app {H : Hp} {as bs : List Addr} (h1 : Trk H as) (h2 : Trk H bs) : Trk H (as ++ bs) := fun a h => (List.mem_append.mp h).elim (h1 a) (h2 a)
theorem Trk.one {H : Hp} {a : Addr} {o : HO} {as : List Addr} (h : H a = some o) (h2 : Trk H as) : Trk H (a :: as) := fun b hb => by
  rcases List.mem_cons.mp hb with e | hb
  · subst e; rw [h]; simp
  · exact h2 b hb
section
variable {X : Cx} {pins : List (Addr × Obj)} {σ : L2.St} {H : Hp} {s : Shared}
mutual
theorem Dq.reads (I : Inv X pins σ H s) : ∀ (d : PyData) (v : V) (u : Value), Dq H v d → RelV v u → ∃ as, Reads s.heap u d as ∧ Trk H as
  | .none, _, _, h, r => by cases h; cases r; exact ⟨_, Reads.none, Trk.nil⟩
  | .bool b, _, _, h, r => by cases h; cases r; exact ⟨_, Reads.bool b, Trk.nil⟩
  | .int i, _, _, h, r => by cases h; obtain ⟨t, rfl⟩ := r; exact ⟨_, Reads.int i t, Trk.nil⟩
  | .str x, _, _, h, r => by cases h; obtain ⟨t, rfl⟩ := r; exact ⟨_, Reads.str x t, Trk.nil⟩
  | .list ds, _, _, h, r => by
    cases h with
    | @lst a xs _ hs ha =>
      cases r
      obtain ⟨_, its, n, rv, ho⟩ := (show ObjOk X.prog X.w H s.heap a (.lst xs) from I.hok _ _ hs)
      obtain ⟨as, hr, tr⟩ := Dq.readsAll I ds _ its ha rv
      exact ⟨_, Reads.list ho rfl rfl (by simpa using hr), Trk.one hs tr⟩
  | .tuple ds, _, _, h, r => by
    cases h with
    | @tup a xs _ hs ha =>
      cases r
      obtain ⟨_, its, rv, o, ho, hc, n, hd⟩ := (show ObjOk X.prog X.w H s.heap a (.tup xs) from I.hok _ _ hs)
      obtain ⟨as, hr, tr⟩ := Dq.readsAll I ds _ its ha rv
      exact ⟨_, Reads.tuple ho hc hd (by simpa using hr), tr⟩
  | .dict ds, _, _, h, r => by
    cases h with
    | @dct a kvs _ hs ha =>
      cases r
      obtain ⟨_, _, vs, rv, o, es, ep, ho, hx, hd, _, hp, _⟩ := (show ObjOk X.prog X.w H s.heap a (.dK kvs) from I.hok _ _ hs)
      obtain ⟨as, bs, h1, h2, t1, t2⟩ := Dq.readsKv I ds kvs vs es.toList ha rv hp
      exact ⟨_, Reads.dict ho hx.1 hd h1 h2, Trk.app (Trk.one hs t1) t2⟩
theorem Dq.readsAll (I : Inv X pins σ H s) : ∀ (ds : List PyData) (vs : List V) (us : List Value), DqAll H vs ds → Vals vs us → ∃ as, ReadsAll s.heap us ds as ∧ Trk H as
  | [], _, _, h, r => by cases h; cases r; exact ⟨_, ReadsAll.nil, Trk.nil⟩
  | d :: ds, _, _, h, r => by
    cases h with
    | cons h1 h2 =>
      cases r with
      | cons r1 r2 =>
        obtain ⟨as, q1, t1⟩ := Dq.reads I d _ _ h1 r1
        obtain ⟨bs, q2, t2⟩ := Dq.readsAll I ds _ _ h2 r2
        exact ⟨_, ReadsAll.cons q1 q2, Trk.app t1 t2⟩
theorem Dq.readsKv (I : Inv X pins σ H s) : ∀ (ds : List (PyData × PyData)) (kvs : List (Key × V)) (vs : List (Key × Value)) (es : List DictEntry), DqKv H kvs ds → KV kvs vs → Pairs (mixKind X.prog X.w) es vs →
    ∃ as bs, ReadsAll s.heap (es.map (·.key)) (ds.map (·.1)) as ∧ ReadsAll s.heap (es.map (·.val)) (ds.map (·.2)) bs ∧ Trk H as ∧ Trk H bs
  | [], _, _, _, h, r, p => by cases h; cases r; cases p; exact ⟨_, _, ReadsAll.nil, ReadsAll.nil, Trk.nil, Trk.nil⟩
  | (_, d) :: ds, _, _, _, h, r, p => by
    cases h with
    | @cons k v _ _ _ h1 h2 =>
      cases r with
      | cons r1 r2 =>
        cases p with
        | cons p1 p2 p3 =>
          obtain ⟨as, bs, q1, q2, t1, t2⟩ := Dq.readsKv I ds _ _ _ h2 r2 p3
          obtain ⟨e1, rv⟩ := r1
          rw [← e1] at p1
          rw [← p2] at rv
          obtain ⟨cs, q3, t3⟩ := Dq.reads I d _ _ h1 rv
          rcases keyIs_shape (show keyIs k _ = true from p1) with ⟨i, t, rfl, e⟩ | ⟨x, t, rfl, e⟩
          · exact ⟨_, _, ReadsAll.cons (by show Reads s.heap (DictEntry.key _) (.int i) []; rw [e]; exact Reads.int i t) q1, ReadsAll.cons q3 q2, Trk.app Trk.nil t1, Trk.app t3 t2⟩
          · exact ⟨_, _, ReadsAll.cons (by show Reads s.heap (DictEntry.key _) (.str x) []; rw [e]; exact Reads.str x t) q1, ReadsAll.cons q3 q2, Trk.app Trk.nil t1, Trk.app t3 t2⟩
end
end
section
variable {X : Cx}
/-- repr of a value without parts -/
theorem call_repr_b : CallR X (.builtin "repr") (fun xs H Q => ∃ b : Bool, xs = [.bl b] ∧ Q (.str (PyData.bool b).shown) H) := by
  intro pins s σ H xs us Q I r h
  obtain ⟨b, rfl, q⟩ := h
  obtain ⟨u, rfl, rx⟩ := vals1 r
  cases rx
  exact PySem.P.repr_of_bool ⟨.str _, H, I.tok _, ⟨_, rfl⟩, q⟩
/-- repr of data of any depth, where no repr runs further out -/
def rRepr : List V → Hp → VK → Prop := fun xs H Q => ∃ (x : V) (d : PyData), xs = [x] ∧ Dq H x d ∧ d.showable = true ∧ d.depth ≤ 60 ∧ d.shown.length ≤ sizeLine ∧ Q (.str d.shown) H
theorem call_repr_q (hS : ∃ o, X.base.get? sysModules = some o) (hg : X.A.guards = some []) (hu : X.A.units + 64 < cLine) : CallR X (.builtin "repr") rRepr := by
  intro pins s σ H xs us Q I r h
  obtain ⟨x, d, rfl, hd, hs, hdp, hl, q⟩ := h
  obtain ⟨u, rfl, rx⟩ := vals1 r
  obtain ⟨as, hr, tr⟩ := Dq.reads I d x u hd rx
  obtain ⟨o, ho⟩ := hS
  have hsm : sysModules ∉ as := fun hm => tr _ hm (I.bs _ _ ho).2
  cases hr with
  | none => exact PySem.P.repr_of_none ⟨.str _, H, I.tok _, ⟨_, rfl⟩, q⟩
  | bool b => exact PySem.P.repr_of_bool ⟨.str _, H, I.tok _, ⟨_, rfl⟩, q⟩
  | int i t => exact PySem.P.repr_of_int (by simpa [PyData.showable] using hs) ⟨.str _, H, I.tok _, ⟨_, rfl⟩, q⟩
  | str y t => exact PySem.P.repr_of_str ⟨.str _, H, I.tok _, ⟨_, rfl⟩, q⟩ hl
  | list h1 h2 h3 h4 => exact repr_of_reads' (.list h1 h2 h3 h4) hs (fun _ => hsm) hg (by omega) (fun _ _ e => e) (fun h' u tk hk => ⟨.str _, H, I.kept hk, ⟨u, rfl⟩, q⟩) hl
  | tuple h1 h2 h3 h4 => exact repr_of_reads' (.tuple h1 h2 h3 h4) hs (fun _ => hsm) hg (by omega) (fun _ _ e => e) (fun h' u tk hk => ⟨.str _, H, I.kept hk, ⟨u, rfl⟩, q⟩) hl
  | dict h1 h2 h3 h4 h5 => exact repr_of_reads' (.dict h1 h2 h3 h4 h5) hs (fun _ => hsm) hg (by omega) (fun _ _ e => e) (fun h' u tk hk => ⟨.str _, H, I.kept hk, ⟨u, rfl⟩, q⟩) hl
/-- an expression by what is known of its value -/
theorem pe_mo {e : Expr} {t : TE} (he : PE X e t) : PE X e (fun σ H Q => ∃ R : VK, t σ H R ∧ ∀ x H1, R x H1 → Q x H1) :=
  ⟨fun pins s σ H Q I ⟨R, h, k⟩ => thn (he.run pins s σ H R I h) fun u s1 ⟨x, H1, I1, r, q⟩ => ⟨x, H1, I1, r, k x H1 q⟩⟩
/-- a test by what is known of its answer -/
theorem pt_mo {e : Expr} {t : TT} (he : PT X e t) : PT X e (fun σ H Q => ∃ R : Bool → Hp → Prop, t σ H R ∧ ∀ b H1, R b H1 → Q b H1) :=
  ⟨fun pins s σ H Q I ⟨R, h, k⟩ => thn (he.run pins s σ H R I h) fun b s1 ⟨H1, I1, q⟩ => ⟨H1, I1, k b H1 q⟩⟩
/-- a statement that is never come to -/
theorem ps_dead {st : Stmt} : PS X st (fun _ _ _ => False) := ⟨fun _ _ _ _ _ _ h => h.elim⟩
theorem pss_dead {st : List Stmt} : PSs X st (fun _ _ _ => False) := ⟨fun _ _ _ _ _ _ h => h.elim⟩
end
end KX

set_option Elab.async false
set_option linter.all false
set_option maxRecDepth 100000
set_option maxHeartbeats 4000000
/-! Defs that may use that no repr runs further out (GOk), their calls, and the law's entry for them. -/
namespace KX
open PySem PySem.Spec PyProof.Rows L2
/-- as FnOk, of calls in whose surroundings no container's repr runs -/
structure GOk (P : Program) (w : World) (K : PySem.W.Frag) (mg : Str → Option Value) (base : Heap) (CX : CXT) (k : Nat) (f : Addr) (fd : FuncData) (ps : List Str) (sp : Sp) : Prop where
  arity : ∀ vs H Q E, sp vs H Q E → vs.length = ps.length
  go : ∀ (A : Around) (out : List Env) (s : Shared) (H : Hp) (args : Args) (us : List Value) (vs : List V) (Q : VK) (E : XK),
    Room k A → A.guards = some [] → Env0 P w K mg base A out s H → BindsTo s fd args (ps.zip us) → Vals vs us → sp vs H Q E →
    codeAny (model P w) A (.call (.ref f) args) (CR CX out P w H s Q E) s
theorem FnOk.g {P : Program} {w : World} {K : PySem.W.Frag} {mg : Str → Option Value} {base : Heap} {CX : CXT} {k : Nat} {f : Addr} {fd : FuncData} {ps : List Str} {sp : Sp}
    (F : FnOk P w K mg base CX k f fd ps sp) : GOk P w K mg base CX k f fd ps sp := ⟨F.len, fun A out s H args us vs Q E hr _ => F.run A out s H args us vs Q E hr⟩
section
variable {P : Program} {w : World} {K : PySem.W.Frag} {mg : Str → Option Value} {base : Heap}
/-- a def of the text, by its body, where no repr runs further out -/
theorem gok {CX : CXT} {x qual : Str} {st : Stmt} {f : Addr} {fd : FuncData} {N ps : List Str} {k : Nat} {sp : Sp} (F : Fun K x qual st f fd) (S : FnScope N ps (defScope st))
    (ar : ∀ vs H Q E, sp vs H Q E → vs.length = ps.length)
    (body : ∀ (cdv : Value) (A : Around) (out : List Env) (s : Shared) (H : Hp) (vs : List V) (Q : VK) (E : XK),
      Room k (A.deeper (envOfC qual (defScope st) s.heap.objs.size f cdv)) → A.guards = some [] → sp vs H Q E →
      ∃ t, PSs (cxOf CX P w K mg base N qual (defScope st) f cdv A out s H E).nox (defBody st) t ∧ t { nx := fun _ H' => Q .non H', rt := Q } (start N vs) H) :
    GOk P w K mg base CX (k + 1) f fd ps sp := by
  obtain ⟨oc, od, kV, doc, pm, an, cdv, ct, osl, rfl, lk, hcd⟩ := F.ex
  refine ⟨ar, fun A out s H args us vs Q E hr hA e0 hb r hsp => ?_⟩
  -- the library's rule for a def is about every surroundings: it is asked for a promise that carries this one's guards along
  have hl := ar _ _ _ _ hsp
  have kin : K.In s.heap := e0.mod.kin.keeps fun b o e => (e0.bs b o e).1
  have par : ∀ y ∈ ps.zip us, (defScope st).names.lookup y.1 = some .local ∨
      ((defScope st).names.lookup y.1 = some .cell ∧ ((cellsFrom (s.heap.objs.size + 1) (defScope st).names []).lookup y.1).isSome = true) := by
    rintro ⟨n, v⟩ hy
    exact (S.par n (List.of_mem_zip hy).1).imp id fun q => ⟨q, PySem.W.cellsFrom_some _ _ _ (.inl q)⟩
  refine codeAny_call_function hr.depth (kin _ _ lk) rfl S.co S.gen rfl (PySem.W.codeRec_of kin hcd) (hb _ _ _ _ (wpAny_newFunctionEnv_cells S.kind par ?_))
  rintro _ rfl s1 x
  refine ⟨(e0.mod.nolimit.keeps fun b o e => (e0.bs b o e).1).keeps x.toInCall.keep, codeAny_func ?_⟩
  obtain ⟨t, ht, hq⟩ := body cdv A out s H vs Q E (hr.deeper _) hA hsp
  have I := inv_start (P := P) (w := w) (mg := mg) (CX := CX) (E := E) S hr.hd e0 hl r x
  refine wpAny_mono (ht.nox.run [] s1 _ H _ I hq) (fun fl s' hs => ?_) fun _ _ hs => hs
  match fl, hs with
  | .ret u, ⟨v, _, H', J, rv, q⟩ => exact ⟨v, H', J.os, J.bare, J.base, J.hok, rv, q⟩
  | .next, ⟨_, H', J, q⟩ => exact ⟨V.non, H', J.os, J.bare, J.base, J.hok, rfl, q⟩
  | .brk, ⟨_, _, _, q⟩ => exact q.elim
  | .cont, ⟨_, _, _, q⟩ => exact q.elim
end
section
variable {X : Cx} {CX : CXT} {k : Nat} {f : Addr} {fd : FuncData} {ps : List Str} {sp : Sp} {dvs : List V} {ds : List Value} {E : XK} {x : Str} {p pos : Pos} {e : Expr} {es : List Expr} {t : TA}
/-- the call of such a def where no repr runs further out -/
theorem pe_g (F : GOk X.prog X.w X.K X.mg X.base CX k f fd ps sp) (hA : X.A.guards = some []) (hr : Room k X.A) (hg : Gl X x) (hm : X.mg x = some (.ref f)) (hk : PySem.W.keepIn X.K (.ref f) = true)
    (hb : Binds X.K fd ps ds) (hd : Vals dvs ds) (hx : Passes CX X E) (ha : PA X (e :: es) t) (hdb : (x == ("__debug__" : Str)) = false := by decide)
    (he : starEach (e :: es) X.env = (false, eval e X.env) :: starEach es X.env := by rfl) (hpl : (backTo pos (starEach es X.env)).any (·.1) = false := by rfl) :
    PE X (.Call (.Name x p) (e :: es) [] pos) (tCall sp dvs E t) := ⟨fun pins s σ H Q I h => by
  refine wpAny_Call_Name_kw (ld_glob I hg hm (PySem.W.callWith_K (h₀ := X.base) I.ok.mod.kin hk (thn (ha.run pos pins s σ H _ I h) ?_) he hpl) hdb)
  rintro us s1 ⟨vs, H1, I1, r, q⟩
  have r2 : Vals (vs ++ dvs) (us ++ ds) := r.append hd
  have hl : (us ++ ds).length = ps.length := by rw [← r2.length]; exact F.arity _ _ _ _ q
  refine ⟨I1.kIn, wpAny_call (codeAny_mono (F.go X.A X.stack s1 H1 ⟨us, []⟩ (us ++ ds) (vs ++ dvs) Q E hr hA I1.env0 (hb s1 us I1.kIn hl) r2 q) fun r s' hq => ?_)⟩
  match r, hq with
  | .error e, hq => exact hx pins σ H1 s1 e s' I1 hq
  | .ok (.ret u), hq => exact I1.after hq⟩
end
section
variable {X : Cx} {CX : CXT} {k : Nat} {f : Addr} {fd : FuncData} {ps ks : List Str} {sp : Sp} {E : XK} {x : Str} {p pos : Pos} {kws : List Keyword} {tk : TA} {g : List Value → List Value → List Value} {gV : List V → List V → List V}
/-- f(k = v, ..), every argument by its name -/
theorem pe_kw0 (F : FnOk X.prog X.w X.K X.mg X.base CX k f fd ps sp) (hr : Room k X.A) (hg : Gl X x) (hm : X.mg x = some (.ref f)) (hk : PySem.W.keepIn X.K (.ref f) = true) (hb : KBinds X.K fd ps ks g gV) (hx : Passes CX X E)
    (hkw : PK X kws tk) (hall : (backToKw pos (keywordEach kws X.env)).all (·.1.isSome) = true := by rfl) (hks : (backToKw pos (keywordEach kws X.env)).filterMap (·.1) = ks := by rfl) (hdb : (x == ("__debug__" : Str)) = false := by decide)
    (hpl : ((backTo pos (starEach [] X.env)).any (·.1) || (backToKw pos (keywordEach kws X.env)).any (·.1.isNone)) = false := by rfl) :
    PE X (.Call (.Name x p) [] kws pos) (tCallK sp gV E tNil tk) := ⟨fun pins s σ H Q I h => by
  refine wpAny_Call_Name_kw (ld_glob I hg hm (PySem.W.callWith_KW0 (h₀ := X.base) I.ok.mod.kin hk hall (thn (hkw.run pos pins s σ H _ I h) ?_) hpl) hdb)
  rintro ws s2 ⟨zs, H2, I2, rz, q2⟩
  rw [hks]
  exact ⟨I2.kIn, run_fnk (us := []) (vs := []) F hr hb hx I2 .nil rz q2⟩⟩
end
/-- one parameter, by its place or by its name -/
theorem kb1 {K : PySem.W.Frag} {fd : FuncData} {a : Str} (h : ∀ u : Value, bindArgs fd ⟨[u], []⟩ = pure [(a, u)]) (h2 : ∀ u : Value, bindArgs fd ⟨[], [(a, u)]⟩ = pure [(a, u)]) : KBinds K fd [a] [a] (fun us ws => us ++ ws) (fun us ws => us ++ ws) where
  to := fun s us ws _ hl => by
    match us, ws, hl with
    | [], [w], _ => exact .of_eq (h2 w)
    | [u], [], _ => exact .of_eq (h u)
  rel := fun r q => r.append q
/-- what the law's def is called with: base holds sys.modules, and no repr runs -/
theorem law_g {P : Program} {w : World} {K : PySem.W.Frag} {mg mb : Str → Option Value} {k : Nat} {fa a : Addr} {fd : FuncData} {x : Str} {sp : Sp} {s₁ : Shared} {vs : List Value} {ns : List Int}
    (kin : K.In s₁.heap) (hns : s₁.heap.Ns mainGlobals mg) (hb : s₁.heap.Ns builtinsNs mb) (hbb : ∀ x : Str, x ≠ "__name__" → mb x = bootBuiltins x) (hlim : s₁.heap.NoLimit) (hsys : ∃ mm, s₁.heap.Ns sysModules mm) (hg : s₁.gens = #[])
    (ha : s₁.heap.get? a = some { cls := .type "list", data := .seq vs.toArray }) (hi : IntsAre vs ns) (hl : ns.length ≤ sizeLine) (hr : Room k callerA)
    (F : ∀ base : Heap, K.In base → base.Ns mainGlobals mg → (∃ o, base.get? sysModules = some o) → GOk P w K mg base CX0 k fa fd [x] sp) (hbind : ∀ (s : Shared) (u : Value), BindsTo s fd ⟨[u], []⟩ [(x, u)])
    (hsp : ∀ H : Hp, Only H → SqL K H a (ns.map V.int) → sp [.ref a] H (fun v _ => v = .bl true) fun _ _ _ => False) :
    codeAny (model P w) callerA (.call (.ref fa) ⟨[.ref a], []⟩) (fun r s' => r = .ok (.ret (.bool true)) ∧ OldK s₁.heap s'.heap ∧ s'.os = s₁.os ∧ AllBare s'.gens) s₁ := by
  have rv := vals_ints hi
  have nV := hi.length
  let ob : Obj := { cls := .type "list", data := .seq vs.toArray }
  suffices core : ∀ H : Hp, Only H → SqL K H a (ns.map V.int) → HOk P w H s₁.heap → (∀ b, H b ≠ none → b = a ∧ K.lookup a = none) →
      codeAny (model P w) callerA (.call (.ref fa) ⟨[.ref a], []⟩) (fun r s' => r = .ok (.ret (.bool true)) ∧ OldK s₁.heap s'.heap ∧ s'.os = s₁.os ∧ AllBare s'.gens) s₁ by
    cases hk : K.lookup a with
    | some o =>
      have e := kin a o hk
      rw [ha] at e
      cases e
      exact core (fun _ => none) (fun _ => .inl rfl) (.inr ⟨_, vs.toArray, _, hk, rfl, rfl, rfl, by rw [List.size_toArray, nV]; exact hl, by simpa using rv⟩) (fun _ _ z => nomatch z) fun _ z => absurd rfl z
    | none =>
      refine core (fun b => if b = a then some (.frz ob (.lst (ns.map V.int))) else none) (fun b => ?_) (.inl (.inr ⟨ob, if_pos rfl⟩)) (fun b u z => ?_) (fun b z => ?_)
      · by_cases hb : b = a
        · exact .inr ⟨_, _, if_pos hb⟩
        · exact .inl (if_neg hb)
      · by_cases hb : b = a
        · have z' := (if_pos hb).symm.trans z
          cases z'; subst hb
          exact ⟨ha, by rw [List.length_map]; exact hl, vs, _, rv, ha⟩
        · exact nomatch (if_neg hb).symm.trans z
      · by_cases hb : b = a
        · exact ⟨hb, hk⟩
        · exact absurd (if_neg hb) z
  intro H hO hS hok hA
  have keep : ∀ {b : Addr} {o : Obj}, s₁.heap.get? b = some o → H b = none → (hidT s₁.heap H).get? b = some o := fun e n => hidT_get e n
  have free : ∀ {b : Addr} {o : Obj}, s₁.heap.get? b = some o → (∀ es ep, o.data = .dict es ep → H b = none) := fun {b o} e es ep d => by
    refine Classical.byContradiction fun q => ?_
    obtain ⟨e', _⟩ := hA b q
    rw [e', ha] at e; cases e
    exact nomatch d
  have ns2 : ∀ {b : Addr} {m : Str → Option Value}, s₁.heap.Ns b m → (hidT s₁.heap H).Ns b m := fun {b m} ⟨o, es, ep, e, d, r⟩ => ⟨o, es, ep, keep e (free e _ _ d), d, r⟩
  have kb : K.In (hidT s₁.heap H) := fun b o e => keep (kin b o e) <| Classical.byContradiction fun q => by
    obtain ⟨e', n⟩ := hA b q
    rw [e', n] at e; cases e
  have M : Mod K mg (hidT s₁.heap H) := ⟨kb, ns2 hns, ⟨mb, ns2 hb, hbb⟩, hlim.elim fun mc h => ⟨mc, ns2 h.1, h.2⟩⟩
  have e0 : Env0 P w K mg (hidT s₁.heap H) callerA [] s₁ H := ⟨rfl, M, fun b o e => of_hidT e, Nat.le_of_eq (hidT_size _ _), trivial, fun _ hb => (nomatch hb), hok, .of_eq hg⟩
  have sys : ∃ o, (hidT s₁.heap H).get? sysModules = some o := hsys.elim fun mm h => (ns2 h).elim fun o h => h.elim fun _ h => h.elim fun _ h => ⟨o, h.1⟩
  refine codeAny_mono ((F _ kb (ns2 hns) sys).go callerA [] s₁ H ⟨[.ref a], []⟩ [.ref a] [.ref a] _ _ hr rfl e0 (hbind s₁ (.ref a)) (.cons rfl .nil) (hsp H hO hS)) fun r s' h => ?_
  match r, h with
  | .error e, h => exact h.elim
  | .ok (.ret u), ⟨v, H', os, bare, un, hok', r', q⟩ =>
    have q' : v = .bl true := q
    subst q'
    obtain rfl : u = Value.bool true := r'
    refine ⟨rfl, OldK.of_keep fun b o e => ?_, os, bare⟩
    cases q : H b with
    | none => exact un.keep b o e q (fun z => nomatch z) (fun z => nomatch z)
    | some u =>
      rcases hO b with z | ⟨_, xs, z⟩
      · rw [q] at z; cases z
      · obtain ⟨e1, _⟩ := hok b _ z
        obtain ⟨e2, _⟩ := hok' b _ (un.frzs b _ _ z)
        rw [e] at e1; cases e1
        exact e2
/-- the goal that k_head leaves, by the law's promise -/
theorem walk_g {l : PySem.W.OpenLaw} {n k : Nat} {q : Program} {loose : List Str} {XP : (Str → Option Value) → Heap → Prop} {YP : World → Heap → Prop} {d : DefRec} {K : Params → PySem.W.Frag} {sp : PySem.W.Frag → Sp} {x : Str}
    (hn : l.most = some n) (hn2 : n ≤ sizeLine) (hdf : d.params.defaults = []) (hr : Room k callerA) (him : importsNone q = true) (hY : ∀ (w : World) (h : Heap), YP w h → (K w.params).In h)
    (F : ∀ (w : World) (mg : Str → Option Value) (fa : Addr) (h : Heap), (K w.params).In h → h.Ns mainGlobals mg → mg d.name = some (.ref fa) →
      ∃ fd : FuncData, (∀ (s : Shared) (u : Value), BindsTo s fd ⟨[u], []⟩ [(x, u)]) ∧
        ∀ base : Heap, (K w.params).In base → base.Ns mainGlobals mg → (∃ o, base.get? sysModules = some o) → GOk l.prog w (K w.params) mg base CX0 k fa fd [x] (sp (K w.params)))
    (hsp : ∀ (K : PySem.W.Frag) (H : Hp) (a : Addr) (ns : List Int), ns.length ≤ n → Only H → SqL K H a (ns.map V.int) → sp K [.ref a] H (fun v _ => v = .bl true) fun _ _ _ => False) :
    PySem.W.WalkO q loose XP YP l.row.toRowW d [] (fun f vs => PySem.call f vs) := by
  refine Att.attach_call hn hdf fun w s₀ s₁ mg mb fa o pm cd doc a vs ns G Y ho hd hcd hmg hobj hints hlen hg => ?_
  obtain ⟨fd, hb, hF⟩ := F w mg fa _ (hY w _ Y) G.T.g hmg
  obtain ⟨mm, hmm, _⟩ := (G.T.seer him).mods
  exact law_g (hY w _ Y) G.T.g G.T.b G.T.builtins G.T.nolimit ⟨mm, hmm⟩ hg hobj hints (Nat.le_trans hlen hn2) hr hF hb fun H hO hS => hsp _ H a ns hlen hO hS
end KX

set_option Elab.async false
set_option linter.all false
set_option maxRecDepth 100000
set_option maxHeartbeats 4000000
/-! Own layer: short texts, picks by a drawn index. -/
namespace KX
open PySem PySem.Spec PyProof.Rows L2
/-- a short text of codes that repr shows in at most ten signs each -/
def Ss (n : Nat) (z : Str) : Prop := z.length ≤ n ∧ ∀ c, c ∈ z.cps.toList → c < 1114112
theorem Ss.mono {n m : Nat} {z : Str} (h : Ss n z) (l : n ≤ m) : Ss m z := ⟨Nat.le_trans h.1 l, h.2⟩
theorem Ss.app {n m : Nat} {a b : Str} (h : Ss n a) (g : Ss m b) : Ss (n + m) (a ++ b) := by
  refine ⟨by rw [strLen_append]; exact Nat.add_le_add h.1 g.1, fun c hc => ?_⟩
  have e : (a ++ b).cps.toList = a.cps.toList ++ b.cps.toList := Array.toList_append
  rw [e] at hc
  exact (List.mem_append.mp hc).elim (h.2 c) (g.2 c)
theorem Ss.cut {n : Nat} {a : Str} (h : Ss n a) (lo hi : Option Int) : Ss n (cutS a lo hi) := by
  refine ⟨Nat.le_trans (cutS_length a lo hi) h.1, fun c hc => h.2 c ?_⟩
  have hc' : c ∈ (a.cps.toList.drop (HT.sIx a.length 0 lo)).take (HT.sIx a.length a.length hi - HT.sIx a.length 0 lo) := by simpa [cutS] using hc
  exact List.mem_of_mem_drop (List.mem_of_mem_take hc')
theorem Ss.sign {c : Nat} (h : c < 1114112) : Ss 1 ⟨#[c]⟩ := ⟨Nat.le_refl 1, fun d hd => by simp at hd; subst hd; exact h⟩
theorem Ss.nil : Ss 0 (Str.ofString "") := ⟨by decide, by decide⟩
theorem Ss.join {m : Nat} : ∀ {ys : List Str}, (∀ y, y ∈ ys → Ss m y) → Ss (ys.length * m) (Str.join (Str.ofString "") ys)
  | [], _ => by rw [List.length_nil, Nat.zero_mul]; exact Ss.nil
  | [x], h => by rw [List.length_singleton, Nat.one_mul]; exact h x (List.mem_singleton.mpr rfl)
  | x :: z :: r, h => by
    have h1 := h x List.mem_cons_self
    have h2 := Ss.join (ys := z :: r) fun y hy => h y (List.mem_cons_of_mem _ hy)
    have h3 := (h1.app Ss.nil).app h2
    refine Ss.mono (show Ss _ (x ++ Str.ofString "" ++ Str.join (Str.ofString "") (z :: r)) from h3) ?_
    simp only [List.length_cons]
    rw [Nat.succ_mul (r.length + 1) m]
    omega
theorem Ss.joinT {m : Nat} {ys : List Str} (h : ∀ y, y ∈ ys → Ss m y) : Ss (ys.length * m) (Txt.join (Str.ofString "") ys) := by
  rw [show Txt.join (Str.ofString "") ys = Str.join (Str.ofString "") ys from StrLaws.glued_eq_join _ ys]; exact Ss.join h
theorem Ss.sum {m : Nat} : ∀ {ys : List Str}, (∀ y, y ∈ ys → Ss m y) → (ys.map (·.length)).sum ≤ ys.length * m
  | [], _ => by simp
  | x :: r, h => by
    have h1 := (h x List.mem_cons_self).1
    have h2 := Ss.sum (ys := r) fun y hy => h y (List.mem_cons_of_mem _ hy)
    simp only [List.map_cons, List.sum_cons, List.length_cons, Nat.succ_mul]
    omega
/-- an item by an index in bounds -/
theorem pick {α : Type} {xs : List α} {i : Int} (h0 : 0 ≤ i) (h1 : i < (xs.length : Int)) : ∃ (j : Nat) (v : α), xs[j]? = some v ∧ v ∈ xs ∧ i = (j : Int) ∧ atI xs i = some v := by
  have hj : i.toNat < xs.length := by omega
  have e : i = ((i.toNat : Nat) : Int) := by omega
  refine ⟨i.toNat, xs[i.toNat], List.getElem?_eq_getElem hj, List.getElem_mem hj, e, ?_⟩
  have q : atI xs ((i.toNat : Nat) : Int) = some xs[i.toNat] := atI_nat (List.getElem?_eq_getElem hj)
  rw [← e] at q
  exact q
theorem pickI {xs : List Int} {i : Int} (h0 : 0 ≤ i) (h1 : i < (xs.length : Int)) : ∃ m, m ∈ xs ∧ atI (xs.map V.int) i = some (.int m) := by
  obtain ⟨j, v, h2, h3, h4, h5⟩ := pick (xs := xs.map V.int) h0 (by rw [List.length_map]; exact h1)
  obtain ⟨m, hm, rfl⟩ := List.mem_map.mp h3
  exact ⟨m, hm, h5⟩
/-- data that repr shows in few signs -/
structure OkD (n W : Nat) (d : PyData) : Prop where
  short : d.leavesShort 110 = true
  shows : d.showable = true
  deep : d.depth ≤ n
  wt : d.weight ≤ W
theorem OkD.mono {n m W U : Nat} {d : PyData} (h : OkD n W d) (h1 : n ≤ m) (h2 : W ≤ U) : OkD m U d := ⟨h.short, h.shows, Nat.le_trans h.deep h1, Nat.le_trans h.wt h2⟩
theorem OkD.len {n W : Nat} {d : PyData} (h : OkD n W d) (hW : W ≤ 100000) : d.shown.length ≤ sizeLine := by
  have h1 := PyData.shown_le 110 (by decide) d h.short
  have h2 := h.wt
  rw [sizeLine_eq]
  have h3 : (110 + 2) * d.weight ≤ 112 * 100000 := Nat.mul_le_mul_left 112 (by omega)
  omega
theorem OkD.none : OkD 0 0 .none := ⟨rfl, rfl, Nat.le_refl _, Nat.le_refl _⟩
theorem OkD.bool (b : Bool) : OkD 0 0 (.bool b) := ⟨rfl, rfl, Nat.le_refl _, Nat.le_refl _⟩
theorem OkD.str {n : Nat} {z : Str} (h : Ss n z) : OkD 0 n (.str z) := by
  refine ⟨?_, rfl, Nat.le_refl _, h.1⟩
  simp only [PyData.leavesShort, List.all_eq_true, decide_eq_true_eq]
  exact fun c hc => Nat.lt_trans (h.2 c hc) (by decide)
theorem OkD.int {i : Int} (h : i.natAbs < 2 ^ 98) : OkD 0 100 (.int i) := by
  have hl : i.natAbs.log2 < 98 := by
    by_cases z : i.natAbs = 0
    · rw [z]; decide
    · exact (Nat.log2_lt z).mpr h
  refine ⟨?_, ?_, Nat.le_refl _, ?_⟩
  · have q := int_text_length_le (a := i) (k := 98) (by decide) hl
    have e : (PyData.shown (.int i)).length = (toString i).length := PySem.ofString_length _
    simp only [PyData.leavesShort, decide_eq_true_eq]
    omega
  · simp only [PyData.showable, decide_eq_true_eq]; omega
  · simp only [PyData.weight]; split <;> omega
theorem OkD.intB {i : Int} (h : i.natAbs < 2 ^ 104) : OkD 0 106 (.int i) := by
  have hl : i.natAbs.log2 < 104 := by
    by_cases z : i.natAbs = 0
    · rw [z]; decide
    · exact (Nat.log2_lt z).mpr h
  refine ⟨?_, ?_, Nat.le_refl _, ?_⟩
  · have q := int_text_length_le (a := i) (k := 104) (by decide) hl
    have e : (PyData.shown (.int i)).length = (toString i).length := PySem.ofString_length _
    simp only [PyData.leavesShort, decide_eq_true_eq]
    omega
  · simp only [PyData.showable, decide_eq_true_eq]; omega
  · simp only [PyData.weight]; split <;> omega
/-- what is new in H', behind H -/
def nw (H H' : Hp) : Hp := fun b => match H b with
  | none => H' b
  | some _ => none
theorem nw_at {H H' : Hp} {b : Addr} (h : H b = none) : nw H H' b = H' b := by unfold nw; rw [h]
theorem nw_some {H H' : Hp} {b : Addr} {o : HO} (h : nw H H' b = some o) : H b = none ∧ H' b = some o := by
  unfold nw at h
  cases e : H b with
  | none => rw [e] at h; exact ⟨rfl, h⟩
  | some u => rw [e] at h; cases h
theorem nw_same {H H' : Hp} : Same (nw H H') H' := fun b o h => (nw_some h).2
mutual
theorem Dq.same {H G : Hp} (s : Same H G) : ∀ (d : PyData) (v : V), Dq H v d → Dq G v d
  | .none, _, h => by cases h; exact .non
  | .bool b, _, h => by cases h; exact .bl b
  | .int i, _, h => by cases h; exact .int i
  | .str x, _, h => by cases h; exact .str x
  | .list ds, _, h => by cases h with | lst h1 h2 => exact .lst (s _ _ h1) (DqAll.same s ds _ h2)
  | .tuple ds, _, h => by cases h with | tup h1 h2 => exact .tup (s _ _ h1) (DqAll.same s ds _ h2)
  | .dict ds, _, h => by cases h with | dct h1 h2 => exact .dct (s _ _ h1) (DqKv.same s ds _ h2)
theorem DqAll.same {H G : Hp} (s : Same H G) : ∀ (ds : List PyData) (vs : List V), DqAll H vs ds → DqAll G vs ds
  | [], _, h => by cases h; exact .nil
  | d :: ds, _, h => by cases h with | cons h1 h2 => exact .cons (Dq.same s d _ h1) (DqAll.same s ds _ h2)
theorem DqKv.same {H G : Hp} (s : Same H G) : ∀ (ds : List (PyData × PyData)) (kvs : List (Key × V)), DqKv H kvs ds → DqKv G kvs ds
  | [], _, h => by cases h; exact .nil
  | (_, d) :: ds, _, h => by cases h with | cons h1 h2 => exact .cons (Dq.same s d _ h1) (DqKv.same s ds _ h2)
end
/-- the value stands for some data of at most this depth and weight -/
def Dd (n W : Nat) (H : Hp) (v : V) : Prop := ∃ d, Dq H v d ∧ OkD n W d
theorem Dd.same {n W : Nat} {H G : Hp} {v : V} (h : Dd n W H v) (s : Same H G) : Dd n W G v := let ⟨d, a, b⟩ := h; ⟨d, Dq.same s d v a, b⟩
theorem Dd.mono {n m W U : Nat} {H : Hp} {v : V} (h : Dd n W H v) (h1 : n ≤ m) (h2 : W ≤ U) : Dd m U H v := let ⟨d, a, b⟩ := h; ⟨d, a, b.mono h1 h2⟩
theorem Dd.items {n W : Nat} {H : Hp} : ∀ {vs : List V}, (∀ v, v ∈ vs → Dd n W H v) → ∃ ds, DqAll H vs ds ∧ PyData.leavesShortAll 110 ds = true ∧ PyData.showableAll ds = true ∧ PyData.depthAll ds ≤ n ∧ PyData.weightAll ds ≤ vs.length * (W + 1)
  | [], _ => ⟨[], .nil, rfl, rfl, Nat.zero_le _, Nat.zero_le _⟩
  | v :: r, h => by
    obtain ⟨d, h1, h2⟩ := h v List.mem_cons_self
    obtain ⟨ds, g1, g2, g3, g4, g5⟩ := Dd.items (vs := r) fun u hu => h u (List.mem_cons_of_mem _ hu)
    refine ⟨d :: ds, .cons h1 g1, ?_, ?_, ?_, ?_⟩
    · simp only [PyData.leavesShortAll, h2.short, g2, Bool.and_self]
    · simp only [PyData.showableAll, h2.shows, g3, Bool.and_self]
    · have := h2.deep
      simp only [PyData.depthAll]; omega
    · have := h2.wt
      simp only [PyData.weightAll, List.length_cons, Nat.succ_mul]; omega
theorem Dd.lst {n W m : Nat} {H : Hp} {a : Addr} {vs : List V} (h : H a = some (.lst vs)) (l : vs.length ≤ m) (hv : ∀ v, v ∈ vs → Dd n W H v) : Dd (n + 1) (m * (W + 1)) H (.ref a) := by
  obtain ⟨ds, g1, g2, g3, g4, g5⟩ := Dd.items hv
  refine ⟨.list ds, .lst h g1, ⟨by simpa only [PyData.leavesShort] using g2, by simpa only [PyData.showable] using g3, by simp only [PyData.depth]; omega, ?_⟩⟩
  have := Nat.mul_le_mul_right (W + 1) l
  simp only [PyData.weight]; omega
theorem Dd.tup {n W m : Nat} {H : Hp} {a : Addr} {vs : List V} (h : H a = some (.tup vs)) (l : vs.length ≤ m) (hv : ∀ v, v ∈ vs → Dd n W H v) : Dd (n + 1) (m * (W + 1)) H (.ref a) := by
  obtain ⟨ds, g1, g2, g3, g4, g5⟩ := Dd.items hv
  refine ⟨.tuple ds, .tup h g1, ⟨by simpa only [PyData.leavesShort] using g2, by simpa only [PyData.showable] using g3, by simp only [PyData.depth]; omega, ?_⟩⟩
  have := Nat.mul_le_mul_right (W + 1) l
  simp only [PyData.weight]; omega
/-- a key is a short text -/
def KeyS (k : Key) : Prop := ∃ z, k = Sum.inr z ∧ Ss 9 z
theorem Dd.pairs {n W : Nat} {H : Hp} : ∀ {kvs : List (Key × V)}, (∀ kv, kv ∈ kvs → KeyS kv.1 ∧ Dd n W H kv.2) → ∃ ds, DqKv H kvs ds ∧ PyData.leavesShortKv 110 ds = true ∧ PyData.showableKv ds = true ∧ PyData.depthKv ds ≤ n ∧ PyData.weightKv ds ≤ kvs.length * (W + 11)
  | [], _ => ⟨[], .nil, rfl, rfl, Nat.zero_le _, Nat.zero_le _⟩
  | (k, v) :: r, h => by
    obtain ⟨⟨z, e, hz⟩, d, h1, h2⟩ := h (k, v) List.mem_cons_self
    obtain ⟨ds, g1, g2, g3, g4, g5⟩ := Dd.pairs (kvs := r) fun u hu => h u (List.mem_cons_of_mem _ hu)
    have e' : k = Sum.inr z := e
    subst e'
    have hk := OkD.str hz
    refine ⟨(kD (Sum.inr z), d) :: ds, .cons h1 g1, ?_, ?_, ?_, ?_⟩
    · show (PyData.leavesShort 110 (.str z) && d.leavesShort 110 && PyData.leavesShortKv 110 ds) = true
      rw [hk.short, h2.short, g2]; rfl
    · show (PyData.showable (.str z) && d.showable && PyData.showableKv ds) = true
      rw [hk.shows, h2.shows, g3]; rfl
    · have := h2.deep
      show max (max (PyData.depth (.str z)) d.depth) (PyData.depthKv ds) ≤ n
      have e0 : PyData.depth (.str z) = 0 := rfl
      omega
    · have w1 := h2.wt
      have w2 := hk.wt
      show PyData.weight (.str z) + d.weight + 2 + PyData.weightKv ds ≤ _
      simp only [List.length_cons, Nat.succ_mul]; omega
theorem Dd.dct {n W m : Nat} {H : Hp} {a : Addr} {kvs : List (Key × V)} (h : H a = some (.dK kvs)) (l : kvs.length ≤ m) (hv : ∀ kv, kv ∈ kvs → KeyS kv.1 ∧ Dd n W H kv.2) : Dd (n + 1) (m * (W + 11)) H (.ref a) := by
  obtain ⟨ds, g1, g2, g3, g4, g5⟩ := Dd.pairs hv
  refine ⟨.dict ds, .dct h g1, ⟨by simpa only [PyData.leavesShort] using g2, by simpa only [PyData.showable] using g3, by simp only [PyData.depth]; omega, ?_⟩⟩
  have := Nat.mul_le_mul_right (W + 11) l
  simp only [PyData.weight]; omega
theorem putK_all {p : Key × V → Prop} {k : Key} {v : V} (hv : p (k, v)) {kvs : List (Key × V)} (h : ∀ kv, kv ∈ kvs → p kv) : (∀ kv, kv ∈ putK kvs k v → p kv) ∧ (putK kvs k v).length ≤ kvs.length + 1 := by
  unfold putK
  split
  · refine ⟨fun kv hm => ?_, by rw [List.length_map]; omega⟩
    obtain ⟨x, hx, rfl⟩ := List.mem_map.mp hm
    by_cases e : x.1 = k
    · rw [if_pos e, e]; exact hv
    · rw [if_neg e]; exact h x hx
  · refine ⟨fun kv hm => ?_, by rw [List.length_append]; exact Nat.le_refl _⟩
    rcases List.mem_append.mp hm with q | q
    · exact h kv q
    · rw [List.mem_singleton.mp q]; exact hv
theorem mergeK_all {p : Key × V → Prop} : ∀ {more kvs : List (Key × V)}, (∀ kv, kv ∈ more → p kv) → (∀ kv, kv ∈ kvs → p kv) → (∀ kv, kv ∈ mergeK kvs more → p kv) ∧ (mergeK kvs more).length ≤ kvs.length + more.length
  | [], _, _, h => ⟨h, Nat.le_refl _⟩
  | (k, v) :: r, kvs, hm, h => by
    have h1 := putK_all (hm (k, v) List.mem_cons_self) h
    have h2 := mergeK_all (more := r) (kvs := putK kvs k v) (fun kv q => hm kv (List.mem_cons_of_mem _ q)) h1.1
    refine ⟨h2.1, ?_⟩
    have := h1.2
    have := h2.2
    show (mergeK (putK kvs k v) r).length ≤ kvs.length + (r.length + 1)
    omega
theorem KeyS.num {i : Nat} (h : i < 10) : KeyS (Sum.inr (Str.ofString (toString (i : Int)))) := by
  refine ⟨_, rfl, ?_⟩
  have hd : ∀ j : Fin 10, (Str.ofString (toString ((j.val : Nat) : Int))).length ≤ 9 ∧ ∀ c, c ∈ (Str.ofString (toString ((j.val : Nat) : Int))).cps.toList → c < 1114112 := by decide +kernel
  exact hd ⟨i, h⟩
end KX

set_option Elab.async false
set_option linter.all false
set_option maxRecDepth 100000
set_option maxHeartbeats 4000000
/-! Own layer: texts of digits. -/
namespace KX
open PySem
/-- the signs of a text -/
def cs (z : Str) : List Nat := z.cps.toList
theorem cs_len (z : Str) : (cs z).length = z.length := by unfold cs; rw [Array.length_toList]; rfl
theorem str_ext {y z : Str} (h : cs y = cs z) : y = z := by
  obtain ⟨⟨a⟩⟩ := y
  obtain ⟨⟨b⟩⟩ := z
  exact congrArg (fun l => (⟨⟨l⟩⟩ : Str)) h
def dg (c : Nat) : Bool := decide (48 ≤ c) && decide (c ≤ 57)
/-- behind a minus -/
def ab : List Nat → List Nat
  | 45 :: r => r
  | l => l
/-- a decimal number of at most thirty digits -/
def dec (l : List Nat) : Bool := decide (l = [48]) || (decide (ab l ≠ []) && (ab l).all dg && decide ((ab l).head? ≠ some 48) && decide ((ab l).length ≤ 30))
def nval (l : List Nat) : Int := match l with
  | 45 :: r => -((NumText.digitsVal r : Nat) : Int)
  | l => ((NumText.digitsVal l : Nat) : Int)
theorem all_dg {l : List Nat} (h : l.all dg = true) : NumText.AllDigits l := fun c hc => by
  have := List.all_eq_true.mp h c hc
  unfold dg at this
  obtain ⟨h1, h2⟩ := Bool.and_eq_true_iff.mp this
  exact ⟨of_decide_eq_true h1, of_decide_eq_true h2⟩
theorem uni_dg {c : Nat} (h : c < 128) : Unicode.isDigit c = dg c := by
  have e : Txt.isdigit ⟨#[c]⟩ = dg c := PySem.W.os_isdigit h
  have e2 : Txt.isdigit ⟨#[c]⟩ = (Unicode.isDigit c) := by
    show (decide ((⟨#[c]⟩ : Str).length > 0) && (#[c] : Array Nat).all Unicode.isDigit) = _
    simp [Str.length]
  rw [← e2, e]
theorem asc_cs (z : Str) : Txt.isascii z = (cs z).all (fun c => decide (c < 128)) := by
  unfold Txt.isascii cs
  rw [Array.all_toList]
theorem dig_cs {z : Str} (h : Txt.isascii z = true) : Txt.isdigit z = (decide (cs z ≠ []) && (cs z).all dg) := by
  rw [asc_cs] at h
  unfold Txt.isdigit
  have e : z.cps.all Unicode.isDigit = (cs z).all dg := by
    rw [← Array.all_toList]
    show (cs z).all Unicode.isDigit = _
    rw [Bool.eq_iff_iff, List.all_eq_true, List.all_eq_true]
    exact ⟨fun k c hc => by rw [← uni_dg (of_decide_eq_true (List.all_eq_true.mp h c hc))]; exact k c hc, fun k c hc => by rw [uni_dg (of_decide_eq_true (List.all_eq_true.mp h c hc))]; exact k c hc⟩
  rw [e]
  refine congrArg (· && _) ?_
  rw [Bool.eq_iff_iff, decide_eq_true_iff, decide_eq_true_iff, ← cs_len]
  exact ⟨fun k n => by rw [n] at k; exact absurd k (Nat.lt_irrefl 0), fun k => List.length_pos_iff.mpr k⟩
/-- dg signs are below 128 -/
theorem dg_asc {l : List Nat} (h : l.all dg = true) : l.all (fun c => decide (c < 128)) = true := by
  refine List.all_eq_true.mpr fun c hc => ?_
  have := all_dg h c hc
  exact decide_eq_true (by omega)
theorem int_cs {z : Str} (h : dec (cs z) = true) : intText? z = some (nval (cs z)) := by
  unfold dec at h
  rcases Bool.or_eq_true_iff.mp h with h | h
  · have e : cs z = [48] := of_decide_eq_true h
    rw [e]
    have ez : z = ⟨#[48]⟩ := str_ext e
    rw [ez]
    exact PySem.intText_digits (x := ⟨#[48]⟩) (fun c hc => by cases List.mem_singleton.mp hc; decide) (List.cons_ne_nil _ _) (by decide)
  · obtain ⟨h, h4⟩ := Bool.and_eq_true_iff.mp h
    obtain ⟨h, h3⟩ := Bool.and_eq_true_iff.mp h
    obtain ⟨h1, h2⟩ := Bool.and_eq_true_iff.mp h
    have n0 : ab (cs z) ≠ [] := of_decide_eq_true h1
    have l30 : (ab (cs z)).length ≤ 30 := of_decide_eq_true h4
    have ad := all_dg h2
    match hz : cs z with
    | 45 :: r =>
      rw [hz] at n0 l30 ad
      have hl : z.length ≤ 4300 := by rw [← cs_len, hz]; have : r.length ≤ 30 := l30; simp; omega
      exact PySem.intText_neg (x := z) hz ad n0 hl
    | [] => rw [hz] at n0; exact absurd rfl n0
    | c :: r =>
      by_cases hc : c = 45
      · subst hc
        rw [hz] at n0 l30 ad
        have hl : z.length ≤ 4300 := by rw [← cs_len, hz]; have : r.length ≤ 30 := l30; simp; omega
        exact PySem.intText_neg (x := z) hz ad n0 hl
      · have ea : ab (c :: r) = c :: r := by
          unfold ab
          split
          · rename_i q; exact absurd (List.cons.inj q).1 hc
          · rfl
        have ev : nval (c :: r) = ((NumText.digitsVal (c :: r) : Nat) : Int) := by
          unfold nval
          split
          · rename_i q; exact absurd (List.cons.inj q).1 hc
          · rfl
        rw [hz, ea] at n0 l30 ad
        have hl : z.length ≤ 4300 := by rw [← cs_len, hz]; omega
        rw [ev, ← hz]
        exact PySem.intText_digits (x := z) (by show NumText.AllDigits (cs z); rw [hz]; exact ad) (by show cs z ≠ []; rw [hz]; exact n0) hl
/-- text.removeprefix('-') -/
theorem rp_cs (z : Str) : cs (Txt.removeprefix z ⟨#[45]⟩) = ab (cs z) := by
  rw [StrLaws.removeprefix_eq, StrLaws.subAt_eq]
  have l1 : (⟨#[45]⟩ : Str).length = 1 := rfl
  have e1 : (⟨#[45]⟩ : Str).cps.toList = [45] := rfl
  rw [l1, e1]
  have hc : z.cps.toList = cs z := rfl
  have hn := cs_len z
  rw [hc]
  match hz : cs z with
  | [] =>
    rw [if_neg (by rw [Bool.and_eq_true]; rintro ⟨_, q⟩; exact absurd q (by decide))]
    exact hz
  | c :: r =>
    have hl : z.length = r.length + 1 := by rw [← hn, hz]; rfl
    by_cases h : c = 45
    · subst h
      rw [if_pos (by rw [Bool.and_eq_true]; exact ⟨decide_eq_true (by omega), rfl⟩)]
      show ((List.drop 1 (45 :: r)).take (z.length - 1)).toArray.toList = r
      rw [hl]
      show r.take (r.length + 1 - 1) = r
      rw [Nat.add_sub_cancel]
      exact List.take_length
    · rw [if_neg (by
        rw [Bool.and_eq_true]; rintro ⟨_, q⟩
        have q' : ([c] == [45]) = true := q
        exact h (List.cons.inj (eq_of_beq q')).1)]
      have ea : ab (c :: r) = c :: r := by
        unfold ab
        split
        · rename_i q; exact absurd (List.cons.inj q).1 h
        · rfl
      rw [ea]; exact hz
end KX

set_option Elab.async false
set_option linter.all false
set_option maxRecDepth 100000
set_option maxHeartbeats 4000000
/-! Own layer: try with several clauses «except C as n», each of them the only one that takes the error; the clauses behind are never looked at. -/
namespace KX
open PySem PySem.Spec PyProof.Rows L2
abbrev Cla := Value × Nat × (Addr → Value → Option Addr → TS)
/-- behind a suite the clause's name is gone -/
def gone (D : Ends) (i : Nat) : Ends := { nx := fun τ G => D.nx (τ.set i none) G, rt := D.rt, bk := fun τ G => D.bk (τ.set i none) G, ct := fun τ G => D.ct (τ.set i none) G }
def wTo (K : PySem.W.Frag) (D : Ends) : List Cla → WX
  | [] => fun _ _ _ _ => False
  | (c, i, ts) :: r => fun cls d σ H => ∃ b, PySem.W.exmOne K cls c = some b ∧ (b = true → ∀ a, H a = none → ts a cls d (gone D i) (σ.set i (some (.ref a))) H) ∧ (b = false → wTo K D r cls d σ H)
inductive Clauses (X : Cx) : List ExceptHandler → List Cla → Prop
  | rest {hds : List ExceptHandler} : Clauses X hds []
  | cons {x n : Str} {c : Value} {i : Nat} {ts : Addr → Value → Option Addr → TS} {st : Stmt} {more : List Stmt} {np pos' : Pos} {hds : List ExceptHandler} {l : List Cla} (hc : Names X x c) (hi : X.N[i]? = some n) (hl : X.env.kindOf n = some .local)
      (su : ∀ (a : Addr) (oe : Obj) (cls : Value) (d : Option Addr) (pn : List (Addr × Obj)), Zc cls d oe → (∃ vs, oe.data = .fields vs) → PSs (X.suite a ((a, oe) :: pn)) (st :: more) (ts a cls d)) (r : Clauses X hds l) :
      Clauses X (.ExceptHandler (some (.Name x np)) (some n) (st :: more) pos' :: hds) ((c, i, ts) :: l)
section
variable {X : Cx} {body : List Stmt} {h0 : ExceptHandler} {hds : List ExceptHandler} {l : List Cla} {pos : Pos} {tb : WX → TS}
theorem ps_try_to (hs : X.stack = X.env :: X.outer) (hf : X.env.frame = some X.env.locals) (nd : X.N.Nodup) (cl : Clauses X (h0 :: hds) l)
    (hb : ∀ (W : WX) (pn : List (Addr × Obj)) (xe : Value → Shared → Prop), Takes (X.tr pn xe) W → PassesOwn (model X.prog X.w) X.A X.env xe → PSs (X.tr pn xe) body (tb W)) :
    PS X (.Try body (h0 :: hds) [] [] pos) (fun D σ H => tb (wTo X.K D l) D σ H) := ⟨fun pins s σ H D I h => by
  have ok := I.ok
  have fr : X.A.frames = some (X.env :: X.outer) := ok.frames.trans (congrArg some hs)
  let after : Value → Shared → Prop := fun e s1 => wpAny (model X.prog X.w) X.A (noteFrame e X.env) (fun _ s2 =>
    wpAny (model X.prog X.w) X.A (setFlight e none) (fun _ s3 => wpAny (model X.prog X.w) X.A (handleBy e X.env (h0 :: hds)) (SP X pins D) X.xe s3) X.xe s2) X.xe s1
  refine wpAny_Try_except (wpAny_mono ((hb (wTo X.K D l) (X.pn ++ pins) after (fun u s1 z => ?_) PassesOwn.looking).run [] s σ H D (I.toTry _) h) (fun fl s1 z => ?_) fun _ _ z => z)
  · obtain ⟨a, B, s0, pins1, σ1, H1, cls, d, rfl, J0, nb, up, sky, na, os, ag, wish⟩ := z
    have J : Inv X pins σ1 H1 s0 := J0.ofTry ok
    show wpAny (model X.prog X.w) X.A (noteFrame (.ref a) X.env) _ _ _
    refine Sky.land Zc.steady fr hf (by rw [← hs]; exact sky) fun h3 fl3 up3 => ?_
    have J3 : Inv X pins σ1 H1 { s1 with heap := h3 } := J.landed nb fl3.1 (up.trans up3) os ag
    obtain ⟨oe, vs, he, hz, hd⟩ := fl3.there
    have off : a ∉ frs (X.env :: X.outer) := fun m => by
      obtain ⟨_, o1, e1, nf⟩ := fl3.2.2.1.mem m
      exact nf _ ((Option.some.inj (e1.symm.trans he)) ▸ hd)
    have offL : a ≠ X.env.locals := fun e => off (List.mem_filterMap.mpr ⟨X.env, List.mem_cons_self, by rw [hf, e]⟩)
    have offF : a ∉ X.fs := fun m => by
      obtain ⟨en, m1, m2⟩ := List.mem_filterMap.mp m
      exact off (List.mem_filterMap.mpr ⟨en, List.mem_cons_of_mem _ m1, m2⟩)
    have S3 := J3.suite he hd na offL offF
    have ty : PySem.W.Looks (model X.prog X.w) h3 (typeOf (.ref a)) cls := fun A' Q' E' t k q => wpAny_typeOf_ref (k _ _ he) (hz.1 ▸ q)
    clear h
    revert cl wish
    generalize h0 :: hds = all
    intro cl
    induction cl with
    | rest => exact fun z => z.elim
    | @cons x n c i ts st more np pos' hds' l' hc hi hl su r ih =>
      rintro ⟨b, hb1, yes, no⟩
      refine wpAny_handleBy_cons (codeAny_handlers_test ?_) (by intro e; cases e)
      have name : ∀ {Q' : Value → Shared → Prop} {E' : Value → Shared → Prop}, Q' c { s1 with heap := h3 } → wpAny (model X.prog X.w) (X.A.mark (some (.ref a))) (eval (.Name x np) X.env) Q' E' { s1 with heap := h3 } := fun q => by
        obtain ⟨g, db, m | ⟨m, bt, nn⟩⟩ := hc
        · exact ld_glob (X := X.suite a ((a, oe) :: (X.pn ++ pins))) S3 g m q db
        · exact ld_blt (X := X.suite a ((a, oe) :: (X.pn ++ pins))) S3 g m bt q nn db
      refine name ((PySem.W.exm_one J3.kIn ty hb1).here ?_)
      cases b with
      | false => exact ih (no rfl)
      | true =>
        refine codeAny_handlers_suite_as (HandSPX.lands_againZ fl3 fun h4 fl4 up4 => ?_)
        have J4 : Inv X pins σ1 H1 { s1 with heap := h4 } := J.landed nb fl4.1 ((up.trans up3).trans up4) os ag
        obtain ⟨oe4, vs4, he4, hz4, hd4⟩ := fl4.there
        refine store_ok (X := X.suite a ((a, oe4) :: (X.pn ++ pins))) (v := .ref a) (J4.suite he4 hd4 na offL offF) nd hi (.inl hl) rfl (fun s5 S5 => ?_) (.inr hl)
        refine wpAny_mono ((su a oe4 cls d (X.pn ++ pins) hz4 ⟨_, hd4⟩).run [] s5 _ H1 _ S5 (yes rfl a na)) (fun fl s6 z => ?_) fun _ _ z => z.elim
        have leave : ∀ {τ : L2.St} {G : Hp} {R : Shared → Prop}, Inv (X.suite a ((a, oe4) :: (X.pn ++ pins))) [] τ G s6 → (∀ s7, Inv X pins (τ.set i none) G s7 → R s7) →
            wpAny (model X.prog X.w) X.A (do bindName X.env n .none; unbindBehindTheSuite X.env n pos') (fun _ s7 => R s7) X.xe s6 := fun S hq => gone_ok (S.unsuite ok) nd hi hl hq
        match fl, z with
        | .next, ⟨_, _, S, q⟩ => exact leave S fun _ K7 => ⟨_, _, K7, q⟩
        | .brk, ⟨_, _, S, q⟩ => exact leave S fun _ K7 => ⟨_, _, K7, q⟩
        | .cont, ⟨_, _, S, q⟩ => exact leave S fun _ K7 => ⟨_, _, K7, q⟩
        | .ret u, ⟨_, _, _, S, rv, q⟩ => exact leave S fun _ K7 => ⟨_, _, _, K7, rv, q⟩
  · match fl, z with
    | .next, ⟨_, _, K7, q⟩ => exact wpAny_execs_nil ⟨_, _, K7.ofTry ok, q⟩
    | .brk, ⟨_, _, K7, q⟩ => exact ⟨_, _, K7.ofTry ok, q⟩
    | .cont, ⟨_, _, K7, q⟩ => exact ⟨_, _, K7.ofTry ok, q⟩
    | .ret u, ⟨_, _, _, K7, rv, q⟩ => exact ⟨_, _, _, K7.ofTry ok, rv, q⟩⟩
end
end KX

set_option Elab.async false
set_option linter.all false
set_option maxRecDepth 100000
set_option maxHeartbeats 4000000
/-! Own layer: exception classes «class C(..): def __init__(self, f): self.f = f»: made, raised, read in the suite. -/
namespace KX
open PySem PySem.Spec PyProof.Rows L2
/-- __init__ of such a class -/
def spEi (K : PySem.W.Frag) (C : Addr) (f : Str) : Sp := fun vs H Q _ => ∃ (a : Addr) (v : V), vs = [.ref a, v] ∧ H a = some (exo a C none) ∧ OexC K C ∧ PySem.W.findIn K (.ref C) f = some none ∧
  ∀ dx, H dx = none → dx ≠ a → Q .non (upd (upd H dx (exd dx [(f, v)])) a (exo a C (some dx)))
theorem exo_ne {e C d : Addr} (H : Hp) {o : HO} : (upd H e o) d = none → d ≠ e := fun h z => by rw [z, upd_same] at h; cases h
theorem made_heap {H : Hp} {a C dx : Addr} {o1 o2 o3 o4 : HO} (ha : H a = none) (n : dx ≠ a) : upd (del (upd (upd (upd H a o1) dx o2) a o3) a) dx o4 = upd H dx o4 := by
  funext b
  by_cases h1 : b = dx
  · subst h1; rw [upd_same, upd_same]
  · rw [upd_ne h1, upd_ne h1]
    by_cases h2 : b = a
    · subst h2; rw [del_same, ha]
    · rw [del_ne h2, upd_ne h2, upd_ne h1, upd_ne h2]
section
variable {X : Cx}
/-- arguments by what is known of them -/
def tMoA (ta : TA) : TA := fun σ H Q => ∃ R : List V → Hp → Prop, ta σ H R ∧ ∀ vs H1, R vs H1 → Q vs H1
theorem pa_mo {es : List Expr} {ta : TA} (h : PA X es ta) : PA X es (tMoA ta) :=
  ⟨fun pos pins s σ H Q I ⟨R, h1, k⟩ => thn (h.run pos pins s σ H R I h1) fun us s1 ⟨vs, H1, I1, r, q⟩ => ⟨vs, H1, I1, r, k vs H1 q⟩⟩
/-- C(e) -/
def tMkV (C : Addr) (f : Str) (ta : TA) : L2.St → Hp → XK → Prop := fun σ H Q => ∃ R : List V → Hp → Prop, ta σ H R ∧ ∀ vs H1, R vs H1 → ∃ v, vs = [v] ∧ ∀ d, H1 d = none → Q (.ref C) (some d) (upd H1 d (.xd [(f, v)]))
theorem pmk_val {x f ps1 ps2 : Str} {C fI : Addr} {k : Nat} {fd : FuncData} {e : Expr} {ta : TA} {p pos : Pos} (T : OexC X.K C) (iC : PySem.W.findIn X.K (.ref C) "__init__" = some (some (.ref fI))) (tI : PySem.W.typeIn X.K (.ref fI) = some (.type "function"))
    (noF : PySem.W.findIn X.K (.ref C) f = some none) (F1 : FnOk X.prog X.w X.K X.mg X.base CX0 k fI fd [ps1, ps2] (spEi X.K C f)) (hr : Room (k + 1) X.A) (hb : Binds X.K fd [ps1, ps2] []) (hg : Gl X x) (hm : X.mg x = some (.ref C)) (ha : PA X [e] ta)
    (hdb : (x == ("__debug__" : Str)) = false := by decide) (he : starEach [e] X.env = (false, eval e X.env) :: starEach [] X.env := by rfl) (hpl : (backTo pos (starEach [] X.env)).any (·.1) = false := by rfl) :
    PMk X (.Call (.Name x p) [e] [] pos) (tMkV C f ta) := by
  intro pins s σ H Q I h
  obtain ⟨R, h1, kk⟩ := h
  refine pmk_oex T iC tI F1 hr hb .nil (fun _ _ _ _ _ _ _ z => z.elim) hg hm (pa_mo ha) hdb he hpl pins s σ H Q I ⟨R, h1, fun vs H1 r => ?_⟩
  obtain ⟨v, rfl, q⟩ := kk vs H1 r
  refine ⟨(by show 1 ≤ 1000; decide), fun a hn => ⟨a, v, rfl, upd_same, T, noF, fun dx hdx nd => ⟨rfl, dx, [(f, v)], upd_same, by rw [upd_ne nd]; exact upd_same, ?_, ?_⟩⟩⟩
  · rw [upd_ne nd] at hdx; exact hdx
  · rw [made_heap (C := C) hn nd]
    refine q dx ?_
    rw [upd_ne nd] at hdx; exact hdx
end
section
variable {X : Cx} {k : Nat} {f : Addr} {fd : FuncData} {ps ks : List Str} {sp : Sp} {E : L2.St → XK} {x : Str} {p pos : Pos} {e : Expr} {es : List Expr} {kws : List Keyword} {t tk : TA} {g : List Value → List Value → List Value} {gV : List V → List V → List V}
/-- f(e, .., k = v, ..) in a try: what it raises is taken with the slots as they are -/
def tCallKS (sp : Sp) (gV : List V → List V → List V) (E : L2.St → XK) (t tk : TA) : TE := fun σ H Q => t σ H fun vs H1 => tk σ H1 fun zs H2 => sp (gV vs zs) H2 Q (E σ)
theorem pe_callKS (F : FnOk X.prog X.w X.K X.mg X.base (L2.CX X.prog X.w) k f fd ps sp) (hr : Room k X.A) (hg : Gl X x) (hm : X.mg x = some (.ref f)) (hk : PySem.W.keepIn X.K (.ref f) = true) (hb : KBinds X.K fd ps ks g gV) (hx : ∀ σ, PassesAt (L2.CX X.prog X.w) X σ (E σ))
    (ha : PA X (e :: es) t) (hkw : PK X kws tk) (hall : (backToKw pos (keywordEach kws X.env)).all (·.1.isSome) = true := by rfl) (hks : (backToKw pos (keywordEach kws X.env)).filterMap (·.1) = ks := by rfl) (hdb : (x == ("__debug__" : Str)) = false := by decide)
    (he : starEach (e :: es) X.env = (false, eval e X.env) :: starEach es X.env := by rfl) (hpl : ((backTo pos (starEach (e :: es) X.env)).any (·.1) || (backToKw pos (keywordEach kws X.env)).any (·.1.isNone)) = false := by rfl) :
    PE X (.Call (.Name x p) (e :: es) kws pos) (tCallKS sp gV E t tk) := ⟨fun pins s σ H Q I h => by
  refine wpAny_Call_Name_kw (ld_glob I hg hm (PySem.W.callWith_KW (h₀ := X.base) I.ok.mod.kin hk hall (thn (ha.run pos pins s σ H _ I h) ?_) hpl he) hdb)
  rintro us s1 ⟨vs, H1, I1, r, q⟩
  refine thn (hkw.run pos pins s1 σ H1 _ I1 q) ?_
  rintro ws s2 ⟨zs, H2, I2, rz, q2⟩
  rw [hks]
  refine ⟨I2.kIn, ?_⟩
  have r2 := hb.rel r rz
  have hl : (g us ws).length = ps.length := by rw [← r2.length]; exact F.len _ _ _ _ q2
  refine wpAny_call (codeAny_mono (F.run X.A X.stack s2 H2 ⟨us, ks.zip ws⟩ (g us ws) (gV vs zs) Q (E σ) hr I2.env0 (hb.to s2 us ws I2.kIn hl) r2 q2) fun o s' hq => ?_)
  match o, hq with
  | .error u, hq => exact hx σ pins H2 s2 u s' I2 hq
  | .ok (.ret u), hq => exact I2.after hq
  | .ok .next, hq => exact hq.elim
  | .ok .brk, hq => exact hq.elim
  | .ok .cont, hq => exact hq.elim⟩
end
/-- what an exception class's makers and readers need of it -/
structure ETx (K : PySem.W.Frag) (mg : Str → Option Value) (x f : Str) (C fI : Addr) : Prop where
  ox : OexC K C
  xf : XfC K C
  iC : PySem.W.findIn K (.ref C) "__init__" = some (some (.ref fI))
  tI : PySem.W.typeIn K (.ref fI) = some (.type "function")
  noF : PySem.W.findIn K (.ref C) f = some none
  mgC : mg x = some (.ref C)
end KX

set_option Elab.async false
set_option linter.all false
set_option maxRecDepth 100000
set_option maxHeartbeats 4000000
/-! Own layer: a text times a number; a call that raises nothing. -/
namespace KX
open PySem PySem.Spec PyProof.Rows L2
def repS (z : Str) (k : Int) : Str := ⟨(List.replicate k.toNat z.cps).foldl (fun a b => a ++ b) #[]⟩
theorem foldl_app (z : Array Nat) : ∀ (n : Nat) (acc : Array Nat), ((List.replicate n z).foldl (fun a b => a ++ b) acc).toList = acc.toList ++ (List.replicate n z.toList).flatten
  | 0, acc => by simp
  | n + 1, acc => by
    rw [List.replicate_succ, List.foldl_cons, foldl_app z n, Array.toList_append, List.replicate_succ, List.flatten_cons, List.append_assoc]
theorem repS_cs (z : Str) (k : Int) : cs (repS z k) = (List.replicate k.toNat (cs z)).flatten := by
  show ((List.replicate k.toNat z.cps).foldl (fun a b => a ++ b) #[]).toList = _
  rw [foldl_app]; rfl
theorem repS_len (z : Str) (k : Int) : (repS z k).length = k.toNat * z.length := by
  rw [← cs_len, repS_cs, List.length_flatten, List.map_replicate, List.sum_replicate_nat, cs_len]
theorem repS_mem {z : Str} {k : Int} {c : Nat} (h : c ∈ cs (repS z k)) : c ∈ cs z := by
  rw [repS_cs] at h
  obtain ⟨l, h1, h2⟩ := List.mem_flatten.mp h
  rw [(List.mem_replicate.mp h1).2] at h2
  exact h2
section
variable {X : Cx}
theorem op_mulS : OpR X (binaryOp .Mult) (fun x y H Q => ∃ z k, x = .str z ∧ y = .int k ∧ 2 ≤ k ∧ k ≤ 10000 ∧ z.length = 1 ∧ Q (.str (repS z k)) H) := by
  intro pins s σ H x y v u Q I rx ry h
  obtain ⟨z, k, rfl, rfl, h1, h2, h3, q⟩ := h
  obtain ⟨t, rfl⟩ := rx
  obtain ⟨t', rfl⟩ := ry
  have n1 : ¬ k < 1 := by omega
  have n2 : (k == 1 || z.length == 0) = false := by
    rw [h3]
    have : (k == 1) = false := by rw [beq_eq_false_iff_ne]; omega
    rw [this]; rfl
  have hl : (repS z k).length ≤ sizeLine := by rw [repS_len, h3, sizeLine_eq]; omega
  refine P.mul_str ?_ (fun _ _ => ?_) (fun _ _ => ?_) ?_
  · rw [decide_eq_false (by omega), decide_eq_false (by omega)]; rfl
  · rw [h3]
    have : (1 : Int) ≤ (2 ^ 63 - 1) / k := Int.le_ediv_of_mul_le (by omega) (by omega)
    exact fun z => absurd this (Int.not_le.mpr z)
  · have : z.length * k.toNat ≤ sizeLine := by rw [h3, sizeLine_eq]; omega
    unfold Builtin.Str.tooLong
    exact decide_eq_false (by omega)
  · rw [if_neg n1, n2, if_neg Bool.false_ne_true]
    exact ⟨hl, .str (repS z k), H, I.tok _, ⟨_, rfl⟩, q⟩
/-- a def that may raise, called where it raises nothing -/
theorem passF {P : Program} {w : World} : Passes (L2.CX P w) X (fun _ _ _ => False) := fun _ _ _ _ _ _ _ h => by
  obtain ⟨_, _, _, _, _, _, _, _, _, _, _, _, h⟩ := h
  exact h.elim
end
section
variable {X : Cx} {CX : CXT} {k : Nat} {f : Addr} {fd : FuncData} {ps ks : List Str} {sp : Sp} {E : XK} {x : Str} {p pos : Pos} {kws : List Keyword} {tk : TA} {g : List Value → List Value → List Value} {gV : List V → List V → List V}
/-- f(k = v, ..), defaults fill up -/
theorem pe_kwN (F : FnOk X.prog X.w X.K X.mg X.base CX k f fd ps sp) (hr : Room k X.A) (hg : Gl X x) (hm : X.mg x = some (.ref f)) (hk : PySem.W.keepIn X.K (.ref f) = true) (hb : KBn X.K fd ps 0 ks g gV) (hx : Passes CX X E)
    (hkw : PK X kws tk) (hall : (backToKw pos (keywordEach kws X.env)).all (·.1.isSome) = true := by rfl) (hks : (backToKw pos (keywordEach kws X.env)).filterMap (·.1) = ks := by rfl) (hdb : (x == ("__debug__" : Str)) = false := by decide)
    (hpl : ((backTo pos (starEach [] X.env)).any (·.1) || (backToKw pos (keywordEach kws X.env)).any (·.1.isNone)) = false := by rfl) :
    PE X (.Call (.Name x p) [] kws pos) (tCallN 0 ks.length sp gV E tNil tk) := ⟨fun pins s σ H Q I h => by
  refine wpAny_Call_Name_kw (ld_glob I hg hm (PySem.W.callWith_KW0 (h₀ := X.base) I.ok.mod.kin hk hall (thn (hkw.run pos pins s σ H _ I h) ?_) hpl) hdb)
  rintro ws s2 ⟨zs, H2, I2, rz, l1, l2, q2⟩
  rw [hks]
  exact ⟨I2.kIn, run_fnN (us := []) (vs := []) F hr hb hx I2 .nil rz l1 l2 q2⟩⟩
end
section
variable {X : Cx} {k n : Nat} {f : Addr} {fd : FuncData} {ps ks : List Str} {sp : Sp} {E : L2.St → XK} {x : Str} {p pos : Pos} {e : Expr} {es : List Expr} {kws : List Keyword} {t tk : TA} {g : List Value → List Value → List Value} {gV : List V → List V → List V}
/-- f(e, .., k = v, ..) in a try, n places and the keywords ks, the other defaults fill up -/
def tCallNS (n m : Nat) (sp : Sp) (gV : List V → List V → List V) (E : L2.St → XK) (t tk : TA) : TE := fun σ H Q => t σ H fun vs H1 => tk σ H1 fun zs H2 => vs.length = n ∧ zs.length = m ∧ sp (gV vs zs) H2 Q (E σ)
theorem pe_callNS (F : FnOk X.prog X.w X.K X.mg X.base (L2.CX X.prog X.w) k f fd ps sp) (hr : Room k X.A) (hg : Gl X x) (hm : X.mg x = some (.ref f)) (hk : PySem.W.keepIn X.K (.ref f) = true) (hb : KBn X.K fd ps n ks g gV) (hx : ∀ σ, PassesAt (L2.CX X.prog X.w) X σ (E σ))
    (ha : PA X (e :: es) t) (hkw : PK X kws tk) (hall : (backToKw pos (keywordEach kws X.env)).all (·.1.isSome) = true := by rfl) (hks : (backToKw pos (keywordEach kws X.env)).filterMap (·.1) = ks := by rfl) (hdb : (x == ("__debug__" : Str)) = false := by decide)
    (he : starEach (e :: es) X.env = (false, eval e X.env) :: starEach es X.env := by rfl) (hpl : ((backTo pos (starEach (e :: es) X.env)).any (·.1) || (backToKw pos (keywordEach kws X.env)).any (·.1.isNone)) = false := by rfl) :
    PE X (.Call (.Name x p) (e :: es) kws pos) (tCallNS n ks.length sp gV E t tk) := ⟨fun pins s σ H Q I h => by
  refine wpAny_Call_Name_kw (ld_glob I hg hm (PySem.W.callWith_KW (h₀ := X.base) I.ok.mod.kin hk hall (thn (ha.run pos pins s σ H _ I h) ?_) hpl he) hdb)
  rintro us s1 ⟨vs, H1, I1, r, q⟩
  refine thn (hkw.run pos pins s1 σ H1 _ I1 q) ?_
  rintro ws s2 ⟨zs, H2, I2, rz, l1, l2, q2⟩
  rw [hks]
  refine ⟨I2.kIn, ?_⟩
  have r2 := hb.rel r rz
  refine wpAny_call (codeAny_mono (F.run X.A X.stack s2 H2 ⟨us, ks.zip ws⟩ (g us ws) (gV vs zs) Q (E σ) hr I2.env0 (hb.to s2 us ws I2.kIn (r.length.symm.trans l1) (rz.length.symm.trans l2)) r2 q2) fun o s' hq => ?_)
  match o, hq with
  | .error u, hq => exact hx σ pins H2 s2 u s' I2 hq
  | .ok (.ret u), hq => exact I2.after hq
  | .ok .next, hq => exact hq.elim
  | .ok .brk, hq => exact hq.elim
  | .ok .cont, hq => exact hq.elim⟩
end
/-- an except of a class -/
theorem exm_mk2 {K : PySem.W.Frag} {C D : Addr} {v : Bool} (o : OexC K C) (s : PySem.W.subIn K (.ref D) (.ref C) = some v) : PySem.W.exmOne K (.ref D) (.ref C) = some v := by
  obtain ⟨⟨_, _, _, _, _, _, _, _, _, _, _, _, _, _, _, hC, _⟩, _, b, t, _⟩ := o
  have hcl : (PySem.W.clsIn K C).isSome = true := by unfold PySem.W.clsIn; rw [hC]; rfl
  unfold PySem.W.exmOne PySem.W.kitCls
  rw [b]
  show (if (some true == some true) = true then (if ((PySem.W.clsIn K C).isSome && PySem.W.typeIn K (.ref C) == some (.type "type")) = true then PySem.W.subIn K (.ref D) (.ref C) else none) else none) = some v
  rw [hcl, t, s]
  have e : (some (Value.type "type") == some (Value.type "type")) = true := by rfl
  rw [e]; rfl
theorem exm_mk {K : PySem.W.Frag} {C : Addr} (o : OexC K C) (s : PySem.W.subIn K (.ref C) (.ref C) = some true) : PySem.W.exmOne K (.ref C) (.ref C) = some true := exm_mk2 o s
end KX

set_option Elab.async false
set_option linter.all false
set_option maxRecDepth 100000
set_option maxHeartbeats 4000000
/-! Own layer: the tables that the laws draw are associative. Plain lists and numbers. -/
namespace KX
/-- the product of a and b by the rows -/
def mu (tb : List (List Int)) (a b : Nat) : Int := (tb.getD a []).getD b 0
/-- a square of elements -/
structure Sqr (tb : List (List Int)) : Prop where
  le : 1 ≤ tb.length
  ge : tb.length ≤ 16
  row : ∀ r, r ∈ tb → r.length = tb.length
  el : ∀ a b, a < tb.length → b < tb.length → 0 ≤ mu tb a b ∧ mu tb a b < (tb.length : Int)
/-- (a*b)*c is a*(b*c) -/
def rt (tb : List (List Int)) (a b c : Nat) : Prop := mu tb (mu tb a b).toNat c = mu tb a (mu tb b c).toNat
/-- an associative table -/
structure Tb (tb : List (List Int)) : Prop where
  sq : Sqr tb
  as : ∀ a b c, a < tb.length → b < tb.length → c < tb.length → rt tb a b c
/-- the table of a function -/
def tab (n : Nat) (f : Nat → Nat → Nat) : List (List Int) := (List.range n).map fun a => (List.range n).map fun b => ((f a b : Nat) : Int)
theorem tab_len (n : Nat) (f : Nat → Nat → Nat) : (tab n f).length = n := by unfold tab; rw [List.length_map, List.length_range]
theorem tab_row {n : Nat} {f : Nat → Nat → Nat} {a : Nat} (h : a < n) : (tab n f)[a]? = some ((List.range n).map fun b => ((f a b : Nat) : Int)) := by
  unfold tab
  rw [List.getElem?_map, List.getElem?_range h]; rfl
theorem tab_mu {n : Nat} {f : Nat → Nat → Nat} {a b : Nat} (ha : a < n) (hb : b < n) : mu (tab n f) a b = (f a b : Int) := by
  have e : (tab n f).getD a [] = (List.range n).map fun b => ((f a b : Nat) : Int) := by rw [List.getD_eq_getElem?_getD, tab_row ha]; rfl
  unfold mu
  rw [e, List.getD_eq_getElem?_getD, List.getElem?_map, List.getElem?_range hb]; rfl
/-- a function below n that is associative there -/
structure Asf (n : Nat) (f : Nat → Nat → Nat) : Prop where
  lt : ∀ a b, a < n → b < n → f a b < n
  as : ∀ a b c, a < n → b < n → c < n → f (f a b) c = f a (f b c)
theorem tab_tb {n : Nat} {f : Nat → Nat → Nat} (h1 : 1 ≤ n) (h16 : n ≤ 16) (F : Asf n f) : Tb (tab n f) := by
  have L := tab_len n f
  refine ⟨⟨by rw [L]; exact h1, by rw [L]; exact h16, fun r hr => ?_, fun a b ha hb => ?_⟩, fun a b c ha hb hc => ?_⟩
  · rw [L]
    obtain ⟨a, _, rfl⟩ := List.mem_map.mp hr
    rw [List.length_map, List.length_range]
  · rw [L] at *
    rw [tab_mu ha hb]
    have := F.lt a b ha hb
    omega
  · rw [L] at ha hb hc
    unfold rt
    rw [tab_mu ha hb, tab_mu hb hc, Int.toNat_natCast, Int.toNat_natCast, tab_mu (F.lt a b ha hb) hc, tab_mu ha (F.lt b c hb hc), F.as a b c ha hb hc]
/-- every square table is the table of its own function -/
theorem tab_of {tb : List (List Int)} (S : Sqr tb) : tb = tab tb.length fun a b => (mu tb a b).toNat := by
  refine List.ext_getElem? fun a => ?_
  by_cases ha : a < tb.length
  · rw [tab_row ha, List.getElem?_eq_getElem ha]
    refine congrArg some (List.ext_getElem? fun b => ?_)
    have hl := S.row tb[a] (List.getElem_mem ha)
    by_cases hb : b < tb.length
    · have e := S.el a b ha hb
      have em : mu tb a b = tb[a][b] := by
        unfold mu
        rw [List.getD_eq_getElem?_getD, List.getD_eq_getElem?_getD, List.getElem?_eq_getElem ha]
        show (tb[a][b]?).getD 0 = _
        rw [List.getElem?_eq_getElem (by omega)]; rfl
      rw [List.getElem?_map, List.getElem?_range hb, List.getElem?_eq_getElem (by omega)]
      show some tb[a][b] = some (((mu tb a b).toNat : Nat) : Int)
      rw [Int.toNat_of_nonneg e.1, em]
    · rw [List.getElem?_eq_none (by omega), List.getElem?_eq_none (by rw [List.length_map, List.length_range]; omega)]
  · rw [List.getElem?_eq_none (by omega), List.getElem?_eq_none (by rw [tab_len]; omega)]
theorem asf_of {tb : List (List Int)} (T : Tb tb) : Asf tb.length fun a b => (mu tb a b).toNat := by
  have lt : ∀ a b, a < tb.length → b < tb.length → (mu tb a b).toNat < tb.length := fun a b ha hb => by
    have := T.sq.el a b ha hb; omega
  refine ⟨lt, fun a b c ha hb hc => ?_⟩
  have h := T.as a b c ha hb hc
  unfold rt at h
  show (mu tb (mu tb a b).toNat c).toNat = (mu tb a (mu tb b c).toNat).toNat
  rw [h]
/-! ### the drawn tables -/
/-- _law_plain -/
def fpl (kind n a b : Nat) : Nat := match kind with
  | 0 => a
  | 1 => b
  | 2 => min a b
  | 3 => (a + b) % n
  | 4 => min (a + b) (n - 1)
  | _ => if 0 < a then a else b
theorem asf_plain (kind n : Nat) (h : 1 ≤ n) : Asf n (fpl kind n) := by
  match kind with
  | 0 => exact ⟨fun a b ha hb => ha, fun a b c ha hb hc => rfl⟩
  | 1 => exact ⟨fun a b ha hb => hb, fun a b c ha hb hc => rfl⟩
  | 2 => exact ⟨fun a b ha hb => by show min a b < n; omega, fun a b c ha hb hc => by show min (min a b) c = min a (min b c); omega⟩
  | 3 => exact ⟨fun a b ha hb => Nat.mod_lt _ (by omega), fun a b c ha hb hc => by show ((a + b) % n + c) % n = (a + (b + c) % n) % n; rw [Nat.mod_add_mod, Nat.add_mod_mod, Nat.add_assoc]⟩
  | 4 => exact ⟨fun a b ha hb => by show min (a + b) (n - 1) < n; omega, fun a b c ha hb hc => by show min (min (a + b) (n - 1) + c) (n - 1) = min (a + min (b + c) (n - 1)) (n - 1); omega⟩
  | k + 5 =>
    refine ⟨fun a b ha hb => ?_, fun a b c ha hb hc => ?_⟩
    · show (if 0 < a then a else b) < n
      split <;> omega
    · show (if 0 < (if 0 < a then a else b) then (if 0 < a then a else b) else c) = (if 0 < a then a else (if 0 < b then b else c))
      by_cases h1 : 0 < a
      · simp only [if_pos h1]
      · simp only [if_neg h1]
/-- _law_extended -/
def fex (kind n : Nat) (f : Nat → Nat → Nat) (a b : Nat) : Nat := if a < n ∧ b < n then f a b else if kind = 0 then n else if a < n then a else b
theorem asf_extended {kind n : Nat} {f : Nat → Nat → Nat} (F : Asf n f) : Asf (n + 1) (fex kind n f) := by
  have lt := F.lt
  refine ⟨fun a b ha hb => ?_, fun a b c ha hb hc => ?_⟩
  · unfold fex
    split
    · rename_i h; have := lt a b h.1 h.2; omega
    · split
      · omega
      · split <;> omega
  · by_cases h1 : a < n
    · by_cases h2 : b < n
      · have hab := lt a b h1 h2
        by_cases h3 : c < n
        · have hbc := lt b c h2 h3
          unfold fex
          rw [if_pos (show a < n ∧ b < n from ⟨h1, h2⟩), if_pos (show b < n ∧ c < n from ⟨h2, h3⟩), if_pos ⟨hab, h3⟩, if_pos ⟨h1, hbc⟩]
          exact F.as a b c h1 h2 h3
        · have ec : c = n := by omega
          subst ec
          unfold fex
          rw [if_pos (show a < c ∧ b < c from ⟨h1, h2⟩), if_neg (show ¬ (f a b < c ∧ c < c) by omega), if_neg (show ¬ (b < c ∧ c < c) by omega)]
          by_cases k0 : kind = 0
          · rw [if_pos k0, if_pos k0, if_neg (show ¬ (a < c ∧ c < c) by omega), if_pos k0]
          · rw [if_neg k0, if_neg k0, if_pos hab, if_pos h2, if_pos ⟨h1, h2⟩]
      · have eb : b = n := by omega
        subst eb
        by_cases k0 : kind = 0
        · have e1 : ∀ x, fex kind b f x b = b := fun x => by unfold fex; rw [if_neg (by omega), if_pos k0]
          have e2 : ∀ x, fex kind b f b x = b := fun x => by unfold fex; rw [if_neg (by omega), if_pos k0]
          rw [e1, e2, e1]
        · have e1 : fex kind b f a b = a := by unfold fex; rw [if_neg (by omega), if_neg k0, if_pos h1]
          have e2 : fex kind b f b c = c := by unfold fex; rw [if_neg (by omega), if_neg k0, if_neg (by omega)]
          rw [e1, e2]
    · have ea : a = n := by omega
      subst ea
      by_cases k0 : kind = 0
      · have e2 : ∀ x, fex kind a f a x = a := fun x => by unfold fex; rw [if_neg (by omega), if_pos k0]
        rw [e2, e2, e2]
      · have e2 : ∀ x, fex kind a f a x = x := fun x => by unfold fex; rw [if_neg (by omega), if_neg k0, if_neg (by omega)]
        rw [e2, e2]
/-- _law_pairs -/
def fpr (n : Nat) (f g : Nat → Nat → Nat) (a b : Nat) : Nat := f (a / n) (b / n) * n + g (a % n) (b % n)
theorem asf_pairs {m n : Nat} {f g : Nat → Nat → Nat} (hn : 1 ≤ n) (F : Asf m f) (G : Asf n g) : Asf (m * n) (fpr n f g) := by
  have dv : ∀ a, a < m * n → a / n < m := fun a h => (Nat.div_lt_iff_lt_mul (by omega)).mpr h
  have md : ∀ a, a % n < n := fun a => Nat.mod_lt _ (by omega)
  have d1 : ∀ x y, y < n → (x * n + y) / n = x := fun x y h => by rw [Nat.add_comm, Nat.add_mul_div_right _ _ (by omega), Nat.div_eq_of_lt h, Nat.zero_add]
  have d2 : ∀ x y, y < n → (x * n + y) % n = y := fun x y h => by rw [Nat.add_comm, Nat.add_mul_mod_self_right, Nat.mod_eq_of_lt h]
  refine ⟨fun a b ha hb => ?_, fun a b c ha hb hc => ?_⟩
  · have h1 := F.lt _ _ (dv a ha) (dv b hb)
    have h2 := G.lt _ _ (md a) (md b)
    unfold fpr
    have h3 : (f (a / n) (b / n) + 1) * n ≤ m * n := Nat.mul_le_mul_right n h1
    rw [Nat.succ_mul] at h3
    omega
  · unfold fpr
    rw [d1 _ _ (G.lt _ _ (md a) (md b)), d2 _ _ (G.lt _ _ (md a) (md b)), d1 _ _ (G.lt _ _ (md b) (md c)), d2 _ _ (G.lt _ _ (md b) (md c)), F.as _ _ _ (dv a ha) (dv b hb) (dv c hc), G.as _ _ _ (md a) (md b) (md c)]
/-- _law_grid -/
def fgr (s : Nat → Nat) (a b : Nat) : Nat := a / 4 * 4 + (a / 2 + b / 2 + s (a % 2 * 2 + b / 4)) % 2 * 2 + b % 2
theorem asf_grid (s : Nat → Nat) (hs : ∀ i, s i < 2) : Asf 8 (fgr s) := by
  have key : ∀ p q r t : Fin 2, ∀ a b c : Fin 8,
      fgr (fun i => [p.val, q.val, r.val, t.val].getD i 0) a.val b.val < 8 ∧
      fgr (fun i => [p.val, q.val, r.val, t.val].getD i 0) (fgr (fun i => [p.val, q.val, r.val, t.val].getD i 0) a.val b.val) c.val = fgr (fun i => [p.val, q.val, r.val, t.val].getD i 0) a.val (fgr (fun i => [p.val, q.val, r.val, t.val].getD i 0) b.val c.val) := by decide +kernel
  have e : ∀ a b, a < 8 → b < 8 → fgr s a b = fgr (fun i => [s 0, s 1, s 2, s 3].getD i 0) a b := fun a b ha hb => by
    unfold fgr
    have h4 : a % 2 * 2 + b / 4 < 4 := by omega
    have : s (a % 2 * 2 + b / 4) = [s 0, s 1, s 2, s 3].getD (a % 2 * 2 + b / 4) 0 := by
      generalize a % 2 * 2 + b / 4 = i at h4
      match i, h4 with
      | 0, _ => rfl
      | 1, _ => rfl
      | 2, _ => rfl
      | 3, _ => rfl
    rw [this]
  have k := key ⟨s 0, hs 0⟩ ⟨s 1, hs 1⟩ ⟨s 2, hs 2⟩ ⟨s 3, hs 3⟩
  refine ⟨fun a b ha hb => ?_, fun a b c ha hb hc => ?_⟩
  · rw [e a b ha hb]; exact (k ⟨a, ha⟩ ⟨b, hb⟩ ⟨0, by decide⟩).1
  · have hab := (k ⟨a, ha⟩ ⟨b, hb⟩ ⟨0, by decide⟩).1
    have hbc := (k ⟨b, hb⟩ ⟨c, hc⟩ ⟨0, by decide⟩).1
    rw [e a b ha hb, e b c hb hc, e _ c hab hc, e a _ ha hbc]
    exact (k ⟨a, ha⟩ ⟨b, hb⟩ ⟨c, hc⟩).2
/-! ### other numbers of the elements -/
/-- the place of x in the order -/
def plc (o : List Nat) (x : Nat) : Nat := o.idxOf x
def frn (o : List Nat) (f : Nat → Nat → Nat) (i j : Nat) : Nat := plc o (f (o.getD i 0) (o.getD j 0))
theorem asf_renum {n : Nat} {f : Nat → Nat → Nat} {o : List Nat} (F : Asf n f) (hp : o.Perm (List.range n)) : Asf n (frn o f) := by
  have hl : o.length = n := by rw [hp.length_eq, List.length_range]
  have hm : ∀ x, x ∈ o ↔ x < n := fun x => by rw [hp.mem_iff, List.mem_range]
  have at_ : ∀ i, i < n → o.getD i 0 < n := fun i hi => by
    rw [List.getD_eq_getElem?_getD, List.getElem?_eq_getElem (by omega)]
    exact (hm _).mp (List.getElem_mem _)
  have pl : ∀ x, x < n → plc o x < n := fun x hx => by
    have := List.idxOf_lt_length_of_mem ((hm x).mpr hx); unfold plc; omega
  have back : ∀ x, x < n → o.getD (plc o x) 0 = x := fun x hx => by
    have h := List.idxOf_lt_length_of_mem ((hm x).mpr hx)
    unfold plc
    rw [List.getD_eq_getElem?_getD, List.getElem?_eq_getElem h, Option.getD_some]
    exact List.getElem_idxOf h
  refine ⟨fun a b ha hb => pl _ (F.lt _ _ (at_ a ha) (at_ b hb)), fun a b c ha hb hc => ?_⟩
  have h1 := F.lt _ _ (at_ a ha) (at_ b hb)
  have h2 := F.lt _ _ (at_ b hb) (at_ c hc)
  unfold frn
  rw [back _ h1, back _ h2, F.as _ _ _ (at_ a ha) (at_ b hb) (at_ c hc)]
end KX

set_option Elab.async false
set_option linter.all false
set_option maxRecDepth 100000
set_option maxHeartbeats 4000000
namespace L
open PySem L2 KX

def top (i : Nat) : Stmt := PySem.Challenge.pw_producttrees_k13_shortest_words.main.body.getD i (.Pass ⟨0, 0, 0, 0⟩)
abbrev sCell : Stmt := top 34
abbrev sBox : Stmt := top 35
abbrev sTake : Stmt := top 36
/-- the names of built-ins are the built-ins' -/
structure Mn (mg : Str → Option Value) : Prop where
  max : mg "max" = none
  min : mg "min" = none
  len : mg "len" = none
  range : mg "range" = none
  repr : mg "repr" = none
  isin : mg "isinstance" = none
  all : mg "all" = none
  enum : mg "enumerate" = none
  tuple : mg "tuple" = none
  dict : mg "dict" = none
  str : mg "str" = none
  int : mg "int" = none
  bool : mg "bool" = none
  list : mg "list" = none
/-- the box of a cell stands at p -/
def Bx (H : Hp) (p : Addr) : Prop := ∃ b0 b1 b2 : Int, H p = some (.lst [.int b0, .int b1, .int b2]) ∧ 0 ≤ b0 ∧ 0 ≤ b1 ∧ b1 < 2147483647 ∧ 0 ≤ b2
/-- all but what stands at p is as it was -/
def Sx (p : Addr) (H H' : Hp) : Prop := ∀ b o, b ≠ p → H b = some o → H' b = some o
def spCell (K : PySem.W.Frag) : Sp := fun vs H Q _ => ∃ (a : Addr) (ns : List Int) (k : Int), vs = [.ref a, .int k] ∧ SqL K H a (ns.map V.int) ∧ 0 ≤ k ∧ ∀ c : Int, Q (.int c) H
def spBox : Sp := fun vs H Q _ => ∃ c : Int, vs = [.int c] ∧ ∀ p H', Same H H' → H p = none → Bx H' p → Q (.ref p) H'
def spTake : Sp := fun vs H Q _ => ∃ (p : Addr) (n : Int), vs = [.ref p, .int n] ∧ Bx H p ∧ 0 < n ∧ n < 316912650057057350374175801344 ∧ ∀ (r : Int) H', 0 ≤ r → r < n → Bx H' p → Sx p H H' → Q (.int r) H'
section
variable {P : Program} {w : World} {K : PySem.W.Frag} {mg : Str → Option Value} {base : Heap} {f : Addr} {fd : FuncData}
theorem scCell : FnScope ["script", "k"] ["script", "k"] (defScope sCell) := ⟨rfl, rfl, rfl, by decide +kernel, rfl, by decide +kernel, by decide +kernel⟩
theorem ok_cell (F : Fun K "_law_cell" "_law_cell" sCell f fd) (M : Mn mg) : FnOk P w K mg base CX0 1 f fd ["script", "k"] (spCell K) := by
  refine F.ok scCell (fun vs H Q E h => ?_) (fun cdv A outer s H vs Q E hr h => ?_)
  · obtain ⟨a, ns, k, rfl, _⟩ := h
    rfl
  obtain ⟨a, ns, k, rfl, hS, hk, q⟩ := h
  refine ⟨_, pss_cons (ps_if (pt_cmpR op_lt (pv 1) (pe_callB call_len_seq (by rfl) M.len PySem.boot_len (pa_cons (pv 0) pa_nil)) (nomark _)) (pss_one (ps_ret (pe_ix ix_list (pv 0) (pv 1) (fun _ _ => rfl)))) pss_nil)
    (pss_one (ps_ret (pe_op op_add (pe_op op_mul pe_int (pv 1)) pe_int))), ?_⟩
  refine ⟨_, rfl, _, rfl, a, _, rfl, .inl hS, _, _, rfl, rfl, _, rfl, ?_⟩
  refine ite2 (fun c => ?_) (fun c => ?_)
  · have c' : k < (((ns.map V.int).length : Nat) : Int) := of_decide_eq_true c
    rw [List.length_map] at c'
    have hlt : k.toNat < ns.length := by omega
    refine ⟨_, rfl, _, rfl, a, _, _, V.int ns[k.toNat], rfl, rfl, hS, at_of (j := k.toNat) (by omega) (by rw [List.getElem?_map, List.getElem?_eq_getElem hlt]; rfl), q _⟩
  · exact ⟨_, rfl, _, _, rfl, rfl, .inl ⟨by decide, by decide⟩, _, _, rfl, rfl, q _⟩
theorem scBox : FnScope ["cell"] ["cell"] (defScope sBox) := ⟨rfl, rfl, rfl, by decide +kernel, rfl, by decide +kernel, by decide +kernel⟩
theorem ok_box (F : Fun K "_law_box" "_law_box" sBox f fd) (M : Mn mg) : FnOk P w K mg base CX0 1 f fd ["cell"] spBox := by
  refine F.ok scBox (fun vs H Q E h => ?_) (fun cdv A outer s H vs Q E hr h => ?_)
  · obtain ⟨c, rfl, _⟩ := h
    rfl
  obtain ⟨c, rfl, q⟩ := h
  refine ⟨_, pss_one (ps_ret (pe_lst (pa_cons (pe_callB (call_max2 rfl) (by rfl) M.max (by decide +kernel) (pa_cons pe_int (pa_cons (pe_op op_sub (pv 0) (pe_op op_pow pe_int pe_int)) pa_nil)))
    (pa_cons (pe_op op_mod (pv 0) pe_int) (pa_cons pe_int pa_nil))))), ?_⟩
  refine ⟨_, rfl, _, _, rfl, rfl, ⟨by decide, by decide, by decide⟩, _, _, rfl, rfl, _, _, rfl, _, rfl, _, _, rfl, rfl, (by show (0 : Int) < 2147483629; decide), (by show 3 ≤ sizeLine; decide), fun p hp => ?_⟩
  refine q p _ (fun b o e => by rw [upd_ne (ne_of_none e hp)]; exact e) hp ⟨_, _, _, upd_same, ?_, Int.emod_nonneg _ (by decide), ?_, Int.le_refl 0⟩
  · split <;> omega
  · have := Int.emod_lt_of_pos c (show (0 : Int) < 2147483629 by decide)
    omega
theorem scTake : FnScope ["box", "size", "digit", "mixed"] ["box", "size"] (defScope sTake) := ⟨rfl, rfl, rfl, by decide +kernel, rfl, by decide +kernel, by decide +kernel⟩
theorem ok_take (F : Fun K "_law_take" "_law_take" sTake f fd) (M : Mn mg) : FnOk P w K mg base CX0 1 f fd ["box", "size"] spTake := by
  refine F.ok scTake (fun vs H Q E h => ?_) (fun cdv A outer s H vs Q E hr h => ?_)
  · obtain ⟨p, n, rfl, _⟩ := h
    rfl
  obtain ⟨p, n, rfl, ⟨b0, b1, b2, hp, z0, z1, z1', z2⟩, n0, n1, q⟩ := h
  refine ⟨_, pss_cons (ps_if (pt_cmpR op_gt (pe_ix ix_list (pv 0) pe_int (fun _ _ => rfl)) pe_int (nomark _))
      (pss_cons (ps_set (i := 2) scTake.nd rfl (Or.inl rfl) (pe_op op_mod (pe_ix ix_list (pv 0) pe_int (fun _ _ => rfl)) (pv 1)))
      (pss_cons (ps_asg (pe_op op_fdivW (pe_ix ix_list (pv 0) pe_int (fun _ _ => rfl)) (pv 1)) (pg_sub (pv 0) pe_int set_list))
      (pss_one (ps_ret (pv 2))))) pss_nil)
    (pss_cons (ps_asg (pe_op op_add (pe_ix ix_list (pv 0) pe_int (fun _ _ => rfl)) pe_int) (pg_sub (pv 0) pe_int set_list))
    (pss_cons (ps_set (i := 3) scTake.nd rfl (Or.inl rfl) (pe_op op_mod (pe_op op_add (pe_op op_add (pe_op op_mul (pe_ix ix_list (pv 0) pe_int (fun _ _ => rfl)) pe_int) (pe_op op_mul pe_int (pe_ix ix_list (pv 0) pe_int (fun _ _ => rfl)))) pe_int) pe_int))
    (pss_cons (ps_asg (pe_op op_mod (pe_op op_add (pe_op op_pow (pv 3) pe_int) (pe_op op_mul pe_int (pe_ix ix_list (pv 0) pe_int (fun _ _ => rfl)))) pe_int) (pg_sub (pv 0) pe_int set_list))
    (pss_one (ps_ret (pe_op op_mod (pe_op op_fdiv (pe_ix ix_list (pv 0) pe_int (fun _ _ => rfl)) pe_int) (pv 1))))))), ?_⟩
  refine ⟨_, rfl, p, _, _, _, rfl, rfl, SqL.of hp, rfl, _, _, rfl, rfl, _, rfl, ?_⟩
  refine ite2 (fun c => ?_) (fun c => ?_)
  · refine ⟨_, rfl, p, _, _, _, rfl, rfl, SqL.of hp, rfl, _, rfl, _, _, rfl, rfl, n0, ?_⟩
    refine ⟨_, rfl, p, _, _, _, rfl, rfl, SqL.of hp, rfl, _, rfl, _, _, rfl, rfl, wide_div (b := 98) n0 (by omega) (by decide) (by decide), _, rfl, p, _, _, 0, rfl, rfl, hp, rfl, ?_⟩
    refine ⟨_, rfl, q _ _ (Int.emod_nonneg _ (by omega)) (Int.emod_lt_of_pos _ n0) ⟨_, _, _, upd_same, Int.ediv_nonneg z0 (by omega), z1, z1', z2⟩ fun b o hb e => by rw [upd_ne hb]; exact e⟩
  · refine ⟨_, rfl, p, _, _, _, rfl, rfl, SqL.of hp, rfl, _, _, rfl, rfl, _, rfl, p, _, _, 2, rfl, rfl, hp, rfl, ?_⟩
    have h1 : ∀ o, (upd H p o) p = some o := fun o => upd_same
    refine ⟨_, rfl, p, _, _, _, rfl, rfl, SqL.of (h1 _), rfl, _, _, rfl, rfl, .inr ⟨by decide, by decide⟩, _, rfl, p, _, _, _, rfl, rfl, SqL.of (h1 _), rfl, _, _, rfl, rfl, .inl ⟨by decide, by decide⟩, _, _, rfl, rfl, _, _, rfl, rfl, _, _, rfl, rfl, (by show (0 : Int) < 2147483647; decide), ?_⟩
    have m0 : ∀ x : Int, 0 ≤ x % 2147483647 := fun x => Int.emod_nonneg _ (by decide)
    have m1 : ∀ x : Int, x % 2147483647 < 2147483647 := fun x => Int.emod_lt_of_pos _ (by decide)
    refine ⟨_, rfl, _, _, rfl, rfl, ⟨by decide, by decide, ?_⟩, _, rfl, p, _, _, _, rfl, rfl, SqL.of (h1 _), rfl, _, _, rfl, rfl, .inl ⟨by decide, by decide⟩, _, _, rfl, rfl, _, _, rfl, rfl, (by show (0 : Int) < 2147483647; decide), _, rfl, p, _, _, 1, rfl, rfl, (h1 _), rfl, ?_⟩
    · have a0 := m0 (b1 * 48271 + 69621 * (b2 + 1) + 79)
      have a1 := m1 (b1 * 48271 + 69621 * (b2 + 1) + 79)
      omega
    · refine ⟨_, rfl, p, _, _, _, rfl, rfl, SqL.of upd_same, rfl, _, _, rfl, rfl, ⟨by decide, by decide⟩, _, rfl, _, _, rfl, rfl, n0, ?_⟩
      refine q _ _ (Int.emod_nonneg _ (by omega)) (Int.emod_lt_of_pos _ n0) ⟨_, _, _, upd_same, z0, m0 _, m1 _, (by omega)⟩ fun b o hb e => by rw [upd_ne hb, upd_ne hb]; exact e
end
theorem Sx.refl {p : Addr} (H : Hp) : Sx p H H := fun _ _ _ e => e
theorem Sx.trans {p : Addr} {H G J : Hp} (a : Sx p H G) (b : Sx p G J) : Sx p H J := fun c o n e => b c o n (a c o n e)
theorem Sx.of {p : Addr} {H G : Hp} (a : Same H G) : Sx p H G := fun c o _ e => a c o e
theorem Sx.new {p q : Addr} {H : Hp} {o : HO} (h : H q = none) : Sx p H (upd H q o) := fun c u _ e => by rw [upd_ne (ne_of_none e h)]; exact e
theorem Bx.new {p q : Addr} {H : Hp} {o : HO} (b : Bx H p) (h : H q = none) : Bx (upd H q o) p := by
  obtain ⟨b0, b1, b2, e, r⟩ := b
  exact ⟨b0, b1, b2, by rw [upd_ne (ne_of_none e h)]; exact e, r⟩
theorem Bx.ne {p q : Addr} {H : Hp} (b : Bx H p) (h : H q = none) : q ≠ p := by
  obtain ⟨b0, b1, b2, e, r⟩ := b
  exact (ne_of_none e h).symm
theorem Bx.at_ne {p q : Addr} {H : Hp} {o : HO} (b : Bx H p) (h : q ≠ p) : Bx (upd H q o) p := by
  obtain ⟨b0, b1, b2, e, r⟩ := b
  exact ⟨b0, b1, b2, by rw [upd_ne h.symm]; exact e, r⟩
theorem Sx.free {p q : Addr} {H G : Hp} (s : Sx p H G) (b : Bx G p) (h : G q = none) : H q = none := by
  cases e : H q with
  | none => rfl
  | some o =>
    have n := b.ne h
    rw [s q o n e] at h
    cases h
theorem Bx.nn {p : Addr} {H : Hp} (b : Bx H p) : H p ≠ none := by
  obtain ⟨b0, b1, b2, e, r⟩ := b
  rw [e]; exact fun z => nomatch z
/-- what was new stays, where only p changes -/
theorem nw_step {p : Addr} {H G J : Hp} (b : Bx H p) (s : Sx p G J) : Same (nw H G) (nw H J) := fun c o h => by
  obtain ⟨h1, h2⟩ := nw_some h
  rw [nw_at h1]
  exact s c o (fun z => b.nn (z ▸ h1)) h2
/-- what is new behind a later heap is new behind an earlier one -/
theorem nw_back {p : Addr} {H G J : Hp} (s : Sx p H G) (b : Bx G p) : Same (nw G J) (nw H J) := fun c o h => by
  obtain ⟨h1, h2⟩ := nw_some h
  rw [nw_at (s.free b h1)]
  exact h2
end L

set_option Elab.async false
set_option linter.all false
set_option maxRecDepth 100000
set_option maxHeartbeats 4000000
namespace L
open PySem L2 KX
abbrev sIsInt : Stmt := top 14
/-- what isinstance tells of a value -/
def Isi (K : PySem.W.Frag) (H : Hp) (v : V) (b1 b2 : Bool) : Prop := ∃ t, TyX K H v t ∧ PySem.W.kitOne K t (.type "int") = some b1 ∧ PySem.W.kitOne K t (.type "bool") = some b2
def spIsInt (K : PySem.W.Frag) : Sp := fun vs H Q _ => ∃ v b1 b2, vs = [v] ∧ Isi K H v b1 b2 ∧ Q (.bl (b1 && !b2)) H
section
variable {P : Program} {w : World} {K : PySem.W.Frag} {mg : Str → Option Value} {base : Heap} {f g gn : Addr} {fd gd gnd : FuncData}
theorem scIsInt : FnScope ["value"] ["value"] (defScope sIsInt) := ⟨rfl, rfl, rfl, by decide +kernel, rfl, by decide +kernel, by decide +kernel⟩
theorem ok_isint (F : Fun K "is_integer" "is_integer" sIsInt f fd) (M : Mn mg) : FnOk P w K mg base CX0 1 f fd ["value"] (spIsInt K) := by
  refine F.ok scIsInt (fun vs H Q E h => ?_) (fun cdv A outer s H vs Q E hr h => ?_)
  · obtain ⟨v, b1, b2, rfl, _⟩ := h
    rfl
  obtain ⟨v, b1, b2, rfl, ⟨t, ty, k1, k2⟩, q⟩ := h
  refine ⟨_, pss_one (ps_ret (pe_and (pe_callB call_isi (by rfl) M.isin (by decide +kernel) (pa_cons (pv 0) (pa_cons (pe_bltn (v := .ty "int") (by rfl) M.int (by decide +kernel) rfl) pa_nil)))
    (pe_one (pe_not (pe_callB call_isi (by rfl) M.isin (by decide +kernel) (pa_cons (pv 0) (pa_cons (pe_bltn (v := .ty "bool") (by rfl) M.bool (by decide +kernel) rfl) pa_nil))))))), ?_⟩
  refine ⟨_, rfl, v, .ty "int", t, .type "int", b1, rfl, .ty _, ty, k1, b1, rfl, ?_⟩
  cases b1 with
  | false => exact iteF q
  | true => exact iteT ⟨_, rfl, v, .ty "bool", t, .type "bool", b2, rfl, .ty _, ty, k2, b2, rfl, q⟩
end

abbrev sIsList : Stmt := top 16
abbrev sBelow : Stmt := top 17
abbrev sNumList : Stmt := top 18
abbrev sAreRows : Stmt := top 23
abbrev sWrong : Stmt := top 24
theorem TyX.same {K : PySem.W.Frag} {H G : Hp} (s : Same H G) {v : V} {t : Value} (h : TyX K H v t) : TyX K G v t := by
  cases h with
  | base b =>
    cases b with
    | non => exact .base .non
    | bl b => exact .base (.bl b)
    | int i => exact .base (.int i)
    | str x => exact .base (.str x)
    | flt x => exact .base (.flt x)
    | lst e => exact .base (.lst (s _ _ e))
    | frz e => exact .base (.frz (s _ _ e))
    | tup e => exact .base (.tup (s _ _ e))
    | dK e => exact .base (.dK (s _ _ e))
    | dT e => exact .base (.dT (s _ _ e))
    | ins e a b c d f => exact .base (.ins (s _ _ e) a b c d f)
  | byt b => exact .byt b
  | set e => exact .set (s _ _ e)
  | kList e c => exact .kList e c
  | kTuple e c => exact .kTuple e c
  | kDict e c => exact .kDict e c
  | fTuple e => exact .fTuple (s _ _ e)
  | fDict e => exact .fDict (s _ _ e)
theorem Isi.same {K : PySem.W.Frag} {H G : Hp} (s : Same H G) {v : V} {a b : Bool} (h : Isi K H v a b) : Isi K G v a b := let ⟨t, h1, h2, h3⟩ := h; ⟨t, TyX.same s h1, h2, h3⟩
theorem Same.tup {K : PySem.W.Frag} {H H' : Hp} {a : Addr} {xs : List V} (e : Same H H') (h : SqT K H a xs) : SqT K H' a xs := by
  rcases h with (h | ⟨o, h⟩) | h
  · exact .inl (.inl (e _ _ h))
  · exact .inl (.inr ⟨o, e _ _ h⟩)
  · exact .inr h
theorem Same.new {H : Hp} {p : Addr} (h : H p = none) (o : HO) : Same H (upd H p o) := fun b u e => by rw [upd_ne (ne_of_none e h)]; exact e
/-- a list or a tuple is to be read at v -/
def Sq (K : PySem.W.Frag) (H : Hp) (v : V) (xs : List V) : Prop := ∃ a, v = .ref a ∧ (SqL K H a xs ∨ SqT K H a xs)
theorem Sq.same {K : PySem.W.Frag} {H G : Hp} {v : V} {xs : List V} (s : Same H G) (h : Sq K H v xs) : Sq K G v xs := let ⟨a, e, h⟩ := h; ⟨a, e, h.imp (fun z => Same.seq s z) (fun z => Same.tup s z)⟩
theorem SqL.ty {K : PySem.W.Frag} {H : Hp} {a : Addr} {xs : List V} (h : SqL K H a xs) : TyX K H (.ref a) (.type "list") := by
  rcases h with (h | ⟨o, h⟩) | ⟨o, its, n, h, c, _⟩
  · exact .base (.lst h)
  · exact .base (.frz h)
  · exact .kList h c
theorem SqT.ty {K : PySem.W.Frag} {H : Hp} {a : Addr} {xs : List V} (h : SqT K H a xs) : TyX K H (.ref a) (.type "tuple") := by
  rcases h with (h | ⟨o, h⟩) | ⟨o, its, n, h, c, _⟩
  · exact .base (.tup h)
  · exact .fTuple h
  · exact .kTuple h c
theorem Sq.ty {K : PySem.W.Frag} {H : Hp} {v : V} {xs : List V} (h : Sq K H v xs) : ∃ t, TyX K H v t ∧ PySem.W.kitAny K t [.type "list", .type "tuple"] = some true := by
  obtain ⟨a, rfl, h | h⟩ := h
  · exact ⟨_, SqL.ty h, kitAny_cons (b := true) (kit_ty (by decide +kernel)) (fun z => nomatch z) fun _ => rfl⟩
  · exact ⟨_, SqT.ty h, kitAny_cons (b := false) (kit_ty (by decide +kernel)) (fun _ => kitAny_cons (b := true) (kit_ty (by decide +kernel)) (fun z => nomatch z) fun _ => rfl) fun z => nomatch z⟩
/-- no list and no tuple -/
def NoSq (K : PySem.W.Frag) (H : Hp) (v : V) : Prop := ∃ t, TyX K H v t ∧ PySem.W.kitAny K t [.type "list", .type "tuple"] = some false
theorem NoSq.same {K : PySem.W.Frag} {H G : Hp} {v : V} (s : Same H G) (h : NoSq K H v) : NoSq K G v := let ⟨t, a, b⟩ := h; ⟨t, TyX.same s a, b⟩
/-- an item: an int, or something that is_integer refuses -/
def Itm (K : PySem.W.Frag) (H : Hp) (v : V) : Prop := (∃ i, v = .int i) ∨ ((∀ i, v ≠ .int i) ∧ ∃ b1 b2, Isi K H v b1 b2 ∧ (b1 && !b2) = false)
theorem Itm.same {K : PySem.W.Frag} {H G : Hp} {v : V} (s : Same H G) (h : Itm K H v) : Itm K G v := h.imp id fun ⟨a, b1, b2, c, d⟩ => ⟨a, b1, b2, c.same s, d⟩
def nb (lim : Int) : V → Bool
  | .int i => decide (0 ≤ i) && decide (i < lim)
  | _ => false
def spIsList (K : PySem.W.Frag) : Sp := fun vs H Q _ => ∃ v lo hi, vs = [v, .int lo, .int hi] ∧
  ((∃ xs, Sq K H v xs ∧ ∀ H', Same H H' → Q (.bl (decide (lo ≤ (xs.length : Int)) && decide ((xs.length : Int) ≤ hi))) H') ∨ (NoSq K H v ∧ ∀ H', Same H H' → Q (.bl false) H'))
def spBelow (K : PySem.W.Frag) : Sp := fun vs H Q _ => ∃ v lim, vs = [v, .int lim] ∧ Itm K H v ∧ Q (.bl (nb lim v)) H
def spNumList (K : PySem.W.Frag) : Sp := fun vs H Q _ => ∃ v lo hi lim, vs = [v, .int lo, .int hi, .int lim] ∧
  ((∃ xs, Sq K H v xs ∧ (∀ x, x ∈ xs → Itm K H x) ∧ xs.length < 1000000 ∧ ∀ H', Same H H' → Q (.bl (decide (lo ≤ (xs.length : Int)) && decide ((xs.length : Int) ≤ hi) && xs.all (nb lim))) H') ∨ (NoSq K H v ∧ ∀ H', Same H H' → Q (.bl false) H'))
section
variable {P : Program} {w : World} {K : PySem.W.Frag} {mg : Str → Option Value} {base : Heap} {f g gn : Addr} {fd gd gnd : FuncData}
theorem scIsList : FnScope ["value", "least", "most"] ["value", "least", "most"] (defScope sIsList) := ⟨rfl, rfl, rfl, by decide +kernel, rfl, by decide +kernel, by decide +kernel⟩
theorem ok_islist (F : Fun K "is_list" "is_list" sIsList f fd) (M : Mn mg) : FnOk P w K mg base CX0 1 f fd ["value", "least", "most"] (spIsList K) := by
  refine F.ok scIsList (fun vs H Q E h => ?_) (fun cdv A outer s H vs Q E hr h => ?_)
  · obtain ⟨v, lo, hi, rfl, _⟩ := h
    rfl
  obtain ⟨v, lo, hi, rfl, h⟩ := h
  refine ⟨_, pss_one (ps_ret (pe_and (pe_callB call_isiT (by rfl) M.isin (by decide +kernel) (pa_cons (pv 0) (pa_cons (pe_tup (pa_cons (pe_bltn (v := .ty "list") (by rfl) M.list (by decide +kernel) rfl)
      (pa_cons (pe_bltn (v := .ty "tuple") (by rfl) M.tuple (by decide +kernel) rfl) pa_nil))) pa_nil)))
    (pe_one (pe_chain op_le op_le (pv 1) (pe_callB call_len_seq (by rfl) M.len PySem.boot_len (pa_cons (pv 0) pa_nil)) (pv 2))))), ?_⟩
  refine ⟨_, rfl, (by show 2 ≤ sizeLine; decide), fun tp htp => ?_⟩
  have ss := Same.new htp (.tup [V.ty "list", V.ty "tuple"])
  rcases h with ⟨xs, hs, q⟩ | ⟨hs, q⟩
  · obtain ⟨t, ty, kt⟩ := (hs.same ss).ty
    refine ⟨v, tp, _, t, _, true, rfl, upd_same, .cons (.ty _) (.cons (.ty _) .nil), ty, kt, true, rfl, iteT ?_⟩
    obtain ⟨a, rfl, hs2⟩ := hs.same ss
    refine ⟨_, rfl, _, rfl, a, xs, rfl, hs2, _, _, rfl, rfl, _, rfl, ?_⟩
    refine ite2 (fun c => ⟨_, rfl, _, _, rfl, rfl, ?_⟩) (fun c => ?_)
    · have q' := q _ ss
      rw [c] at q'
      exact q'
    · have q' := q _ ss
      rw [Bool.eq_false_iff.mpr c] at q'
      exact q'
  · obtain ⟨t, ty, kt⟩ := hs.same ss
    exact ⟨v, tp, _, t, _, false, rfl, upd_same, .cons (.ty _) (.cons (.ty _) .nil), ty, kt, false, rfl, iteF (q _ ss)⟩
theorem scBelow : FnScope ["value", "limit"] ["value", "limit"] (defScope sBelow) := ⟨rfl, rfl, rfl, by decide +kernel, rfl, by decide +kernel, by decide +kernel⟩
theorem ok_below (F : Fun K "is_number_below" "is_number_below" sBelow f fd) (G : FnOk P w K mg base CX0 1 g gd ["value"] (spIsInt K)) (bG : Binds K gd ["value"] []) (kG : PySem.W.keepIn K (.ref g) = true) (mG : mg "is_integer" = some (.ref g)) :
    FnOk P w K mg base CX0 2 f fd ["value", "limit"] (spBelow K) := by
  refine F.ok scBelow (fun vs H Q E h => ?_) (fun cdv A outer s H vs Q E hr h => ?_)
  · obtain ⟨v, lim, rfl, _⟩ := h
    rfl
  obtain ⟨v, lim, rfl, h, q⟩ := h
  refine ⟨_, pss_one (ps_ret (pe_and (pe_call G hr rfl mG kG bG .nil pass0 (pa_cons (pv 0) pa_nil)) (pe_one (pe_chain op_le op_lt pe_int (pv 0) (pv 1))))), ?_⟩
  rcases h with ⟨i, rfl⟩ | ⟨ni, b1, b2, hi, hb⟩
  · refine ⟨_, rfl, _, true, false, rfl, ⟨_, .base (.int i), kit_ty (by decide +kernel), kit_ty (by decide +kernel)⟩, true, rfl, iteT ⟨_, rfl, _, _, rfl, rfl, _, rfl, ?_⟩⟩
    refine ite2 (fun c => ⟨_, rfl, _, _, rfl, rfl, ?_⟩) (fun c => ?_)
    · have e : nb lim (.int i) = decide (i < lim) := by show (decide (0 ≤ i) && decide (i < lim)) = _; rw [c]; rfl
      rw [e] at q
      exact q
    · have e : nb lim (.int i) = false := by show (decide (0 ≤ i) && decide (i < lim)) = _; rw [Bool.eq_false_iff.mpr c]; rfl
      rw [e] at q
      exact q
  · refine ⟨_, rfl, v, b1, b2, rfl, hi, _, rfl, ?_⟩
    rw [hb]
    have e : nb lim v = false := by
      cases v with
      | int i => exact absurd rfl (ni i)
      | _ => rfl
    rw [e] at q
    exact iteF q
theorem scNumList : FnScope ["value", "least", "most", "limit", "item"] ["value", "least", "most", "limit"] (defScope sNumList) := ⟨rfl, rfl, rfl, by decide +kernel, rfl, by decide +kernel, by decide +kernel⟩
theorem ok_numlist (F : Fun K "is_number_list" "is_number_list" sNumList f fd) (M : Mn mg)
    (G : FnOk P w K mg base CX0 1 g gd ["value", "least", "most"] (spIsList K)) (bG : Binds K gd ["value", "least", "most"] []) (kG : PySem.W.keepIn K (.ref g) = true) (mG : mg "is_list" = some (.ref g))
    (N : FnOk P w K mg base CX0 2 gn gnd ["value", "limit"] (spBelow K)) (bN : Binds K gnd ["value", "limit"] []) (kN : PySem.W.keepIn K (.ref gn) = true) (mN : mg "is_number_below" = some (.ref gn)) :
    FnOk P w K mg base CX0 3 f fd ["value", "least", "most", "limit"] (spNumList K) := by
  refine F.ok scNumList (fun vs H Q E h => ?_) (fun cdv A outer s H vs Q E hr h => ?_)
  · obtain ⟨v, lo, hi, lim, rfl, _⟩ := h
    rfl
  obtain ⟨v, lo, hi, lim, rfl, h⟩ := h
  have hr1 : Room 1 _ := hr.mono (by decide)
  rcases h with ⟨xs, hs, ht, hz, q⟩ | ⟨hs, q⟩
  · -- a list or a tuple: the walk over it is one of two
    have key : ∀ (D : Addr) (G : Hp), Same H G → G D = none → ∀ (i : Nat) (J : Hp), (Same H J ∧ J D = some (.lst (((xs.take i).map (nb lim)).map V.bl))) → ∀ x, xs[i]? = some x → Itm K J x ∧
        ∃ acc, J D = some (.lst acc) ∧ acc.length < sizeLine ∧ (Same H (upd J D (.lst (acc ++ [V.bl (nb lim x)]))) ∧ (upd J D (.lst (acc ++ [V.bl (nb lim x)]))) D = some (.lst (((xs.take (i + 1)).map (nb lim)).map V.bl))) := by
      intro D G sG hD i J ⟨sJ, eD⟩ x hx
      have hD0 : H D = none := sG.free hD
      refine ⟨(ht x (List.mem_of_getElem? hx)).same sJ, _, eD, ?_, fun b o e => by rw [upd_ne (ne_of_none e hD0)]; exact sJ b o e, ?_⟩
      · rw [List.length_map, List.length_map, List.length_take, sizeLine_eq]; omega
      · rw [upd_same, List.take_add_one, hx, List.map_append, List.map_append]; rfl
    have fin : ∀ (D : Addr) (J : Hp), (Same H J ∧ J D = some (.lst (((xs.take xs.length).map (nb lim)).map V.bl))) → (decide (lo ≤ (xs.length : Int)) && decide ((xs.length : Int) ≤ hi)) = true → rAll K [.ref D] J Q := by
      intro D J ⟨sJ, eD⟩ hc
      rw [List.take_length] at eD
      refine ⟨D, _, rfl, SqL.of eD, ?_⟩
      have e2 : (xs.map (nb lim)).all id = xs.all (nb lim) := by rw [List.all_map]; rfl
      have q' := q J sJ
      rw [hc] at q'
      rw [e2]
      exact q'
    obtain ⟨a, rfl, hl | hl⟩ := id hs
    · refine ⟨_, pss_one (ps_ret (pe_and (pe_call G hr1 rfl mG kG bG .nil pass0 (pa_cons (pv 0) (pa_cons (pv 1) (pa_cons (pv 2) pa_nil))))
        (pe_one (pe_callB (cr_all rfl) (by rfl) M.all (by decide +kernel) (pa_cons (pe_lc (own := [("item", 4)]) (g := gName 4) (tt := tYes) rfl scNumList.nd (pi_list (pv 0))
          (blkOk_by (N := ["value", "least", "most", "limit", "item"]) (sc := defScope sNumList) (by decide +kernel)) (fun _ _ _ _ _ => pg_name (i := 4) scNumList.nd rfl (Or.inl rfl)) (fun _ _ _ _ _ => pts_nil)
          (fun _ _ _ _ _ => pe_call N hr rfl mN kN bN .nil pass0 (pa_cons (pv 4) (pa_cons (pv 3) pa_nil)))) pa_nil))))), ?_⟩
      refine ⟨_, rfl, _, rfl, _, rfl, _, lo, hi, rfl, .inl ⟨xs, hs, fun G sG => ⟨_, rfl, ite2 (fun c => ?_) (fun c => ?_)⟩⟩⟩
      · refine ⟨_, rfl, a, rfl, ⟨_, sG.seq hl⟩, fun D hD => lc_list (xs := xs) (fun i J => Same H J ∧ J D = some (.lst (((xs.take i).map (nb lim)).map V.bl)))
          ⟨fun b o e => by rw [upd_ne (ne_of_none (sG b o e) hD)]; exact sG b o e, upd_same⟩ (fun i J _ z => z.1.seq hl) (fun i x J hx z => ?_) fun J z => fin D J z c⟩
        obtain ⟨k1, k2⟩ := key D G sG hD i J z x hx
        exact ⟨rfl, _, rfl, _, rfl, x, lim, rfl, k1, k2⟩
      · have q' := q G sG
        rw [Bool.eq_false_iff.mpr c] at q'
        exact q'
    · refine ⟨_, pss_one (ps_ret (pe_and (pe_call G hr1 rfl mG kG bG .nil pass0 (pa_cons (pv 0) (pa_cons (pv 1) (pa_cons (pv 2) pa_nil))))
        (pe_one (pe_callB (cr_all rfl) (by rfl) M.all (by decide +kernel) (pa_cons (pe_lc (own := [("item", 4)]) (g := gName 4) (tt := tYes) rfl scNumList.nd (pi_tup (pv 0))
          (blkOk_by (N := ["value", "least", "most", "limit", "item"]) (sc := defScope sNumList) (by decide +kernel)) (fun _ _ _ _ _ => pg_name (i := 4) scNumList.nd rfl (Or.inl rfl)) (fun _ _ _ _ _ => pts_nil)
          (fun _ _ _ _ _ => pe_call N hr rfl mN kN bN .nil pass0 (pa_cons (pv 4) (pa_cons (pv 3) pa_nil)))) pa_nil))))), ?_⟩
      refine ⟨_, rfl, _, rfl, _, rfl, _, lo, hi, rfl, .inl ⟨xs, hs, fun G sG => ⟨_, rfl, ite2 (fun c => ?_) (fun c => ?_)⟩⟩⟩
      · refine ⟨_, rfl, a, rfl, ⟨_, Same.tup sG hl⟩, fun D hD => lc_tup (xs := xs) (fun i J => Same H J ∧ J D = some (.lst (((xs.take i).map (nb lim)).map V.bl)))
          ⟨fun b o e => by rw [upd_ne (ne_of_none (sG b o e) hD)]; exact sG b o e, upd_same⟩ (fun i J _ z => Same.tup z.1 hl) (fun i x J hx z => ?_) fun J z => fin D J z c⟩
        obtain ⟨k1, k2⟩ := key D G sG hD i J z x hx
        exact ⟨rfl, _, rfl, _, rfl, x, lim, rfl, k1, k2⟩
      · have q' := q G sG
        rw [Bool.eq_false_iff.mpr c] at q'
        exact q'
  · refine ⟨_, pss_one (ps_ret (pe_and (pe_call G hr1 rfl mG kG bG .nil pass0 (pa_cons (pv 0) (pa_cons (pv 1) (pa_cons (pv 2) pa_nil))))
        (pe_one (pe_callB (cr_all rfl) (by rfl) M.all (by decide +kernel) (pa_cons (pe_lc (own := [("item", 4)]) (g := gName 4) (tt := tYes) rfl scNumList.nd (pi_list (pv 0))
          (blkOk_by (N := ["value", "least", "most", "limit", "item"]) (sc := defScope sNumList) (by decide +kernel)) (fun _ _ _ _ _ => pg_name (i := 4) scNumList.nd rfl (Or.inl rfl)) (fun _ _ _ _ _ => pts_nil)
          (fun _ _ _ _ _ => pe_call N hr rfl mN kN bN .nil pass0 (pa_cons (pv 4) (pa_cons (pv 3) pa_nil)))) pa_nil))))), ?_⟩
    exact ⟨_, rfl, _, rfl, _, rfl, v, lo, hi, rfl, .inr ⟨hs, fun G sG => ⟨_, rfl, iteF (q G sG)⟩⟩⟩
end

abbrev sInit : Stmt := inClass (top 21) 0
section
variable {X : Cx}
/-- what a for walks: a list or a tuple -/
def iSq (K : PySem.W.Frag) (tl : TE) : TI := fun σ H R => iList K tl σ H R ∨ iTup K tl σ H R
theorem pi_sq {tg l : Expr} {tl : TE} (h : PE X l tl) : PI X tg l (iSq X.K tl) := ⟨fun pins s σ H R I q => q.elim (fun z => (pi_list h).run pins s σ H R I z) fun z => (pi_tup h).run pins s σ H R I z⟩
theorem isq_of {K : PySem.W.Frag} {i : Nat} {σ : L2.St} {H : Hp} {v : V} {xs : List V} {R : It → Hp → Prop} (e : σ[i]? = some (some v)) (h : Sq K H v xs) (k : ∀ J, Walk J xs.length (Same H) (YAt xs) → R J H) : iSq K (tVar i) σ H R := by
  obtain ⟨a, rfl, h | h⟩ := h
  · exact .inl ⟨_, e, a, rfl, ⟨_, h⟩, k _ (walk_list.mono (fun G s => s.seq h) fun _ _ _ _ _ _ y => y)⟩
  · exact .inr ⟨_, e, a, rfl, ⟨_, h⟩, k _ (walk_tup.mono (fun G s => Same.tup s h) fun _ _ _ _ _ _ y => y)⟩
theorem rix_of {K : PySem.W.Frag} {H : Hp} {v x : V} {xs : List V} {z : Int} {i : Nat} {Q : VK} (h : Sq K H v xs) (ez : z = (i : Int)) (hx : xs[i]? = some x) (q : Q x H) : rIx K v (.int z) H Q := by
  obtain ⟨a, rfl, h | h⟩ := h
  · exact .inl ⟨a, xs, z, x, rfl, rfl, h, at_of ez hx, q⟩
  · exact .inr (.inl ⟨a, xs, z, x, rfl, rfl, h, at_of ez hx, q⟩)
theorem call_len_sq : CallR X (.builtin "len") (fun vs H Q => ∃ v xs, vs = [v] ∧ Sq X.K H v xs ∧ Q (.int xs.length) H) := by
  intro pins s σ H xs us Q I r h
  obtain ⟨v, ys, rfl, ⟨a, rfl, h⟩, q⟩ := h
  exact call_len_seq pins s σ H _ us Q I r ⟨a, ys, rfl, h, q⟩
end
/-- a row: a list or tuple of items, or neither -/
def RowD (K : PySem.W.Frag) (H : Hp) (x : V) : Option (List V) → Prop
  | some xs => Sq K H x xs ∧ (∀ y, y ∈ xs → Itm K H y) ∧ xs.length < 1000000
  | none => NoSq K H x
theorem RowD.same {K : PySem.W.Frag} {H G : Hp} (s : Same H G) {x : V} : ∀ {o : Option (List V)}, RowD K H x o → RowD K G x o
  | some xs, h => ⟨h.1.same s, fun y hy => (h.2.1 y hy).same s, h.2.2⟩
  | none, h => NoSq.same s h
def rb (n : Nat) : Option (List V) → Bool
  | some xs => decide ((n : Int) ≤ (xs.length : Int)) && decide ((xs.length : Int) ≤ (n : Int)) && xs.all (nb (n : Int))
  | none => false
def spAreRows (K : PySem.W.Frag) : Sp := fun vs H Q _ => ∃ v, vs = [v] ∧ ((NoSq K H v ∧ ∀ H', Same H H' → Q (.bl false) H') ∨
  ∃ rs os, Sq K H v rs ∧ Paired (RowD K H) rs os ∧ ∀ H', Same H H' → Q (.bl (decide ((1 : Int) ≤ (rs.length : Int)) && decide ((rs.length : Int) ≤ 16) && os.all (rb rs.length))) H')
theorem pair_at {α β : Type} {F : α → β → Prop} : ∀ {as : List α} {bs : List β} {i : Nat} {a : α}, Paired F as bs → as[i]? = some a → ∃ b, bs[i]? = some b ∧ F a b
  | _, _, _, _, .nil, e => by simp at e
  | _, _, 0, _, .cons h _, e => by simp at e; subst e; exact ⟨_, rfl, h⟩
  | _, _, i + 1, a, .cons _ t, e => by
    obtain ⟨b, h1, h2⟩ := pair_at (i := i) (a := a) t (by simpa using e)
    exact ⟨b, by simpa using h1, h2⟩
section
variable {P : Program} {w : World} {K : PySem.W.Frag} {mg : Str → Option Value} {base : Heap} {f g gn : Addr} {fd gd gnd : FuncData}
theorem scAreRows : FnScope ["rows", "size", "row"] ["rows"] (defScope sAreRows) := ⟨rfl, rfl, rfl, by decide +kernel, rfl, by decide +kernel, by decide +kernel⟩
theorem ok_arerows (F : Fun K "_are_rows" "_are_rows" sAreRows f fd) (M : Mn mg) (mL : ∃ t, mg "LARGEST_TABLE" = some (.int 16 t))
    (G : FnOk P w K mg base CX0 1 g gd ["value", "least", "most"] (spIsList K)) (bG : Binds K gd ["value", "least", "most"] []) (kG : PySem.W.keepIn K (.ref g) = true) (mG : mg "is_list" = some (.ref g))
    (N : FnOk P w K mg base CX0 3 gn gnd ["value", "least", "most", "limit"] (spNumList K)) (bN : Binds K gnd ["value", "least", "most", "limit"] []) (kN : PySem.W.keepIn K (.ref gn) = true) (mN : mg "is_number_list" = some (.ref gn)) :
    FnOk P w K mg base CX0 4 f fd ["rows"] (spAreRows K) := by
  refine F.ok scAreRows (fun vs H Q E h => ?_) (fun cdv A outer s H vs Q E hr h => ?_)
  · obtain ⟨v, rfl, _⟩ := h
    rfl
  obtain ⟨v, rfl, h⟩ := h
  obtain ⟨tok, mL⟩ := mL
  have hr1 : Room 1 _ := hr.mono (by decide)
  refine ⟨_, pss_cons (ps_if (pt_not (pt_val (pe_call G hr1 rfl mG kG bG .nil pass0 (pa_cons (pv 0) (pa_cons pe_int (pa_cons (pe_glob (v := .int 16) (by rfl) mL ⟨_, rfl⟩) pa_nil)))))) (pss_one (ps_ret pe_bl)) pss_nil)
    (pss_cons (ps_set (i := 1) scAreRows.nd rfl (Or.inr rfl) (pe_callB call_len_sq (by rfl) M.len PySem.boot_len (pa_cons (pv 0) pa_nil)))
    (pss_one (ps_ret (pe_callB (cr_all rfl) (by rfl) M.all (by decide +kernel) (pa_cons (pe_lc (own := [("row", 2)]) (g := gName 2) (tt := tYes) rfl scAreRows.nd (pi_sq (pv 0))
      (blkOk_by (N := ["rows", "size", "row"]) (sc := defScope sAreRows) (by decide +kernel)) (fun _ _ _ _ _ => pg_name (i := 2) scAreRows.nd rfl (Or.inl rfl)) (fun _ _ _ _ _ => pts_nil)
      (fun _ _ _ _ _ => pe_call N hr rfl mN kN bN .nil pass0 (pa_cons (pv 2) (pa_cons (pv 1) (pa_cons (pv 1) (pa_cons (pv 1) pa_nil)))))) pa_nil))))), ?_⟩
  rcases h with ⟨hs, q⟩ | ⟨rs, os, hs, pr, q⟩
  · exact ⟨_, rfl, v, 1, 16, rfl, .inr ⟨hs, fun J sJ => ⟨false, rfl, iteT (q J sJ)⟩⟩⟩
  · refine ⟨_, rfl, v, 1, 16, rfl, .inl ⟨rs, hs, fun J sJ => ⟨_, rfl, ?_⟩⟩⟩
    cases hc : (decide ((1 : Int) ≤ (rs.length : Int)) && decide ((rs.length : Int) ≤ 16)) with
    | false =>
      have q' := q J sJ
      rw [hc] at q'
      exact iteT q'
    | true =>
      have hl : rs.length ≤ 16 := by
        have := of_decide_eq_true (Bool.and_eq_true_iff.mp hc).2
        omega
      refine iteF ⟨_, rfl, v, rs, rfl, hs.same sJ, ?_⟩
      refine isq_of (v := v) rfl (hs.same sJ) fun It wk D hD => ?_
      refine lc_it wk (fun i J2 => Same J J2 ∧ J2 D = some (.lst (((os.take i).map (rb rs.length)).map V.bl))) ⟨fun b o e => by rw [upd_ne (ne_of_none e hD)]; exact e, upd_same⟩ (fun _ _ _ z => z.1) ?_ ?_
      · rintro i x Jz J2 hi ⟨s2, eD⟩ ⟨rfl, hx⟩
        obtain ⟨o, ho, hrow⟩ := pair_at pr hx
        have hrow' := hrow.same (sJ.trans s2)
        refine ⟨rfl, _, rfl, _, rfl, _, rfl, _, rfl, x, _, _, _, rfl, ?_⟩
        have fin : ∀ G2, Same J2 G2 → ∃ acc, G2 D = some (.lst acc) ∧ acc.length < sizeLine ∧ (Same J (upd G2 D (.lst (acc ++ [V.bl (rb rs.length o)]))) ∧ (upd G2 D (.lst (acc ++ [V.bl (rb rs.length o)]))) D = some (.lst (((os.take (i + 1)).map (rb rs.length)).map V.bl))) := fun G2 s3 => by
          refine ⟨_, s3 _ _ eD, ?_, fun b o e => by rw [upd_ne (ne_of_none e hD)]; exact s3 _ _ (s2 b o e), ?_⟩
          · rw [List.length_map, List.length_map, List.length_take, sizeLine_eq]; omega
          · rw [upd_same, List.take_add_one, ho, List.map_append, List.map_append]; rfl
        cases o with
        | none => exact .inr ⟨hrow', fun G2 s3 => fin G2 s3⟩
        | some xs => exact .inl ⟨xs, hrow'.1, hrow'.2.1, hrow'.2.2, fun G2 s3 => fin G2 s3⟩
      · rintro J2 ⟨s2, eD⟩
        have tk : os.take rs.length = os := by rw [show rs.length = os.length from pr.length]; exact List.take_length
        rw [tk] at eD
        refine ⟨D, _, rfl, SqL.of eD, ?_⟩
        have e2 : (os.map (rb rs.length)).all id = os.all (rb rs.length) := by rw [List.all_map]; rfl
        have q' := q J2 (sJ.trans s2)
        rw [hc] at q'
        rw [e2]
        exact q'
end
/-- the rows tb are to be read at v -/
def Rws (K : PySem.W.Frag) (H : Hp) (v : V) (tb : List (List Int)) : Prop := ∃ rs, Sq K H v rs ∧ Paired (fun x row => Sq K H x (row.map V.int)) rs tb
theorem Rws.same {K : PySem.W.Frag} {H G : Hp} (s : Same H G) {v : V} {tb : List (List Int)} (h : Rws K H v tb) : Rws K G v tb :=
  let ⟨rs, a, b⟩ := h
  ⟨rs, a.same s, L2.Paired.mapP b fun _ _ z => z.same s⟩
theorem Rws.len {K : PySem.W.Frag} {H : Hp} {v : V} {tb : List (List Int)} {rs : List V} (b : Paired (fun x row => Sq K H x (row.map V.int)) rs tb) : rs.length = tb.length := b.length
/-- rows[i], then its item j -/
theorem Rws.at_ {K : PySem.W.Frag} {H : Hp} {v : V} {tb : List (List Int)} (h : Rws K H v tb) (S : Sqr tb) {i : Nat} (hi : i < tb.length) :
    ∃ rs x, Sq K H v rs ∧ rs[i]? = some x ∧ Sq K H x ((tb.getD i []).map V.int) ∧ ∀ j, j < tb.length → ((tb.getD i []).map V.int)[j]? = some (.int (mu tb i j)) := by
  obtain ⟨rs, a, b⟩ := h
  have hi' : i < rs.length := by rw [b.length]; exact hi
  obtain ⟨row, h1, h2⟩ := pair_at b (List.getElem?_eq_getElem hi')
  have e : tb.getD i [] = row := by rw [List.getD_eq_getElem?_getD, h1]; rfl
  refine ⟨rs, rs[i], a, List.getElem?_eq_getElem hi', by rw [e]; exact h2, fun j hj => ?_⟩
  have hr : row.length = tb.length := S.row row (List.mem_of_getElem? h1)
  unfold mu
  rw [e, List.getElem?_map, List.getElem?_eq_getElem (by omega), List.getD_eq_getElem?_getD, List.getElem?_eq_getElem (by omega)]
  rfl
def lexlt (x y : Nat × Nat × Nat) : Prop := x.1 < y.1 ∨ (x.1 = y.1 ∧ (x.2.1 < y.2.1 ∨ (x.2.1 = y.2.1 ∧ x.2.2 < y.2.2)))
def spWrong (K : PySem.W.Frag) : Sp := fun vs H Q _ => ∃ v tb, vs = [v] ∧ Rws K H v tb ∧ Sqr tb ∧
  ((∀ a b c, a < tb.length → b < tb.length → c < tb.length → rt tb a b c) → Q .non H) ∧
  (∀ a b c, a < tb.length → b < tb.length → c < tb.length → ¬ rt tb a b c →
    (∀ a' b' c', a' < tb.length → b' < tb.length → c' < tb.length → lexlt (a', b', c') (a, b, c) → rt tb a' b' c') → ∀ p, H p = none → Q (.ref p) (upd H p (.tup [.int a, .int b, .int c])))
/-- a product table stands at p -/
structure TbA (K : PySem.W.Frag) (C : Addr) (H : Hp) (p : Addr) (tb : List (List Int)) : Prop where
  ob : ∃ dx t rs, H p = some (.ins C dx [("_rows", .ref t)]) ∧ SqT K H t rs ∧ Paired (fun x row => ∃ r, x = V.ref r ∧ SqT K H r (row.map V.int)) rs tb
def spInit (K : PySem.W.Frag) (C : Addr) : Sp := fun vs H Q _ => ∃ p dx v tb, vs = [.ref p, v] ∧ H p = some (.ins C dx []) ∧ Rws K H v tb ∧ Sqr tb ∧ (∀ a b c, a < tb.length → b < tb.length → c < tb.length → rt tb a b c) ∧
  (∀ a, v = .ref a → a ≠ p) ∧ ∀ H', TbA K C H' p tb → (∀ b o, b ≠ p → H b = some o → H' b = some o) → Q .non H'
section
variable {P : Program} {w : World} {K : PySem.W.Frag} {mg : Str → Option Value} {base : Heap} {f g gn : Addr} {fd gd gnd : FuncData}
theorem scWrong : FnScope ["rows", "size", "a", "b", "c"] ["rows"] (defScope sWrong) := ⟨rfl, rfl, rfl, by decide +kernel, rfl, by decide +kernel, by decide +kernel⟩
theorem ok_wrong (F : Fun K "_first_wrong_triple" "_first_wrong_triple" sWrong f fd) (M : Mn mg) : FnOk P w K mg base CX0 1 f fd ["rows"] (spWrong K) := by
  refine F.ok scWrong (fun vs H Q E h => ?_) (fun cdv A outer s H vs Q E hr h => ?_)
  · obtain ⟨v, tb, rfl, _⟩ := h
    rfl
  obtain ⟨v, tb, rfl, hR, S, q1, q2⟩ := h
  have ix : ∀ {X : Cx}, IxR X (rIx X.K) := fun {X} => ix_seq
  refine ⟨_, pss_cons (ps_set (i := 1) scWrong.nd rfl (Or.inl rfl) (pe_callB call_len_sq (by rfl) M.len PySem.boot_len (pa_cons (pv 0) pa_nil)))
    (pss_cons (ps_for PassesOwn.never rfl (pi_range1 (by rfl) M.range (pa_cons (pv 1) pa_nil)) (pg_name (i := 2) scWrong.nd rfl (Or.inl rfl))
      (pss_one (ps_for PassesOwn.never rfl (pi_range1 (by rfl) M.range (pa_cons (pv 1) pa_nil)) (pg_name (i := 3) scWrong.nd rfl (Or.inl rfl))
        (pss_one (ps_for PassesOwn.never rfl (pi_range1 (by rfl) M.range (pa_cons (pv 1) pa_nil)) (pg_name (i := 4) scWrong.nd rfl (Or.inl rfl))
          (pss_one (ps_if (pt_cmpR op_ne (pe_ix ix_seq (pe_ix ix_seq (pv 0) (pe_ix ix_seq (pe_ix ix_seq (pv 0) (pv 2) (fun _ _ => rfl)) (pv 3) (fun _ _ => rfl)) (fun _ _ => rfl)) (pv 4) (fun _ _ => rfl))
            (pe_ix ix_seq (pe_ix ix_seq (pv 0) (pv 2) (fun _ _ => rfl)) (pe_ix ix_seq (pe_ix ix_seq (pv 0) (pv 3) (fun _ _ => rfl)) (pv 4) (fun _ _ => rfl)) (fun _ _ => rfl)) (nomark _))
            (pss_one (ps_ret (pe_tup (pa_cons (pv 2) (pa_cons (pv 3) (pa_cons (pv 4) pa_nil)))))) pss_nil)))))))
    (pss_one (ps_ret pe_non))), ?_⟩
  have n16 := S.ge
  obtain ⟨rs0, hs0, pr0⟩ := id hR
  have l0 : rs0.length = tb.length := pr0.length
  refine ⟨_, rfl, v, rs0, rfl, hs0, ?_⟩
  rw [l0]
  refine ⟨_, rfl, (tb.length : Int), rfl, by omega, by omega, ?_⟩
  refine for_range (lo := 0) (n := tb.length) (fun a σ J => H = J ∧ (∃ x y z, σ = [some v, some (.int tb.length), x, y, z]) ∧ ∀ a' b c, a' < a → b < tb.length → c < tb.length → rt tb a' b c)
    ⟨rfl, ⟨_, _, _, rfl⟩, fun _ _ _ z => absurd z (Nat.not_lt_zero _)⟩ ?_ ?_
  · rintro a _ _ ha ⟨rfl, ⟨x, y, z, rfl⟩, hA⟩
    refine ⟨_, rfl, (tb.length : Int), rfl, by omega, by omega, ?_⟩
    refine for_range (lo := 0) (n := tb.length) (fun b σ J => H = J ∧ (∃ y z, σ = [some v, some (.int tb.length), some (.int (0 + (a : Int))), y, z]) ∧ ∀ b' c, b' < b → c < tb.length → rt tb a b' c)
      ⟨rfl, ⟨_, _, rfl⟩, fun _ _ z => absurd z (Nat.not_lt_zero _)⟩ ?_ ?_
    · rintro b _ _ hb ⟨rfl, ⟨y, z, rfl⟩, hB⟩
      refine ⟨_, rfl, (tb.length : Int), rfl, by omega, by omega, ?_⟩
      refine for_range (lo := 0) (n := tb.length) (fun c σ J => H = J ∧ (∃ z, σ = [some v, some (.int tb.length), some (.int (0 + (a : Int))), some (.int (0 + (b : Int))), z]) ∧ ∀ c', c' < c → rt tb a b c')
        ⟨rfl, ⟨_, rfl⟩, fun _ z => absurd z (Nat.not_lt_zero _)⟩ ?_ ?_
      · rintro c _ _ hc ⟨rfl, ⟨z, rfl⟩, hC⟩
        obtain ⟨ra, xa, sa, ea, ta, ga⟩ := hR.at_ S ha
        obtain ⟨rb', xb, sb, eb, tb', gb⟩ := hR.at_ S hb
        have e1 := S.el a b ha hb
        have e2 := S.el b c hb hc
        obtain ⟨rm, xm, sm, em, tm, gm⟩ := hR.at_ S (i := (mu tb a b).toNat) (by omega)
        refine ⟨_, rfl, _, rfl, _, rfl, rix_of sa (by omega) ea ⟨_, rfl, rix_of ta (by omega) (ga b hb) (rix_of sm (by omega) em ⟨_, rfl, rix_of tm (by omega) (gm c hc) ?_⟩)⟩⟩
        refine ⟨_, rfl, _, rfl, rix_of sa (by omega) ea ⟨_, rfl, _, rfl, rix_of sb (by omega) eb ⟨_, rfl, rix_of tb' (by omega) (gb c hc) (rix_of ta (i := (mu tb b c).toNat) (by omega) (ga _ (by omega)) ⟨rfl, _, rfl, ?_⟩)⟩⟩⟩
        have ed : ∀ x y : Int, (!decide (V.int x = V.int y)) = true ↔ x ≠ y := fun x y => by
          rw [Bool.not_eq_true', decide_eq_false_iff_not]
          exact ⟨fun h e => h (by rw [e]), fun h e => h (V.int.inj e)⟩
        refine ite2 (fun k => ?_) (fun k => ?_)
        · have nr : ¬ rt tb a b c := (ed _ _).mp k
          refine ⟨_, rfl, _, rfl, _, rfl, (by show 3 ≤ sizeLine; decide), fun p hp => ?_⟩
          have q' := q2 a b c ha hb hc nr (fun a' b' c' h1 h2 h3 hl => by
            rcases hl with hl | ⟨rfl, hl | ⟨rfl, hl⟩⟩
            · exact hA a' b' c' hl h2 h3
            · exact hB b' c' hl h3
            · exact hC c' hl) p hp
          have z0 : ∀ n : Nat, (0 : Int) + (n : Int) = (n : Int) := fun n => Int.zero_add _
          rw [z0, z0, z0]
          exact q'
        · refine ⟨rfl, ⟨_, rfl⟩, fun c' hc' => ?_⟩
          rcases Nat.lt_succ_iff_lt_or_eq.mp hc' with h | rfl
          · exact hC c' h
          · exact Classical.byContradiction fun nr => k ((ed _ _).mpr nr)
      · rintro _ _ ⟨rfl, ⟨z, rfl⟩, hC⟩
        refine ⟨rfl, ⟨_, _, rfl⟩, fun b' c' h1 h2 => ?_⟩
        rcases Nat.lt_succ_iff_lt_or_eq.mp h1 with h | rfl
        · exact hB b' c' h h2
        · exact hC c' h2
    · rintro _ _ ⟨rfl, ⟨y, z, rfl⟩, hB⟩
      refine ⟨rfl, ⟨_, _, _, rfl⟩, fun a' b' c' h1 h2 h3 => ?_⟩
      rcases Nat.lt_succ_iff_lt_or_eq.mp h1 with h | rfl
      · exact hA a' b' c' h h2 h3
      · exact hB b' c' h2 h3
  · rintro _ _ ⟨rfl, ⟨x, y, z, rfl⟩, hA⟩
    exact q1 fun a b c h1 h2 h3 => hA a b c h1 h2 h3
end

section
variable {X : Cx}
/-- x is not True, x an int or a truth value -/
theorem op_notIB : OpR X (compareOp .IsNot) (fun x y H Q => ∃ b : Bool, y = .bl b ∧ ((∃ a : Bool, x = .bl a ∧ Q (.bl (!decide (a = b))) H) ∨ (∃ i, x = .int i ∧ Q (.bl true) H))) := by
  intro pins s σ H x y v u Q I rx ry h
  obtain ⟨b, rfl, h⟩ := h
  cases (show u = Value.bool b from ry)
  rcases h with ⟨a, rfl, q⟩ | ⟨i, rfl, q⟩
  · cases (show v = Value.bool a from rx)
    by_cases e : a = b
    · subst e
      exact wpAny_isNot_self rfl ⟨.bl false, H, I, rfl, by simpa using q⟩
    · exact wpAny_isNot_other rfl (fun z => e (Value.bool.inj z)) ⟨.bl true, H, I, rfl, by simpa [e] using q⟩
  · obtain ⟨t, rfl⟩ := (show ∃ t, v = Value.int i t from rx)
    exact wpAny_isNot_other rfl (fun z => nomatch z) ⟨.bl true, H, I, rfl, q⟩
end
/-- tuple(x), the written part told -/
def rTpl (K : PySem.W.Frag) : List V → Hp → VK → Prop := fun xs H Q => ∃ (p : Addr) (ys : List V), xs = [.ref p] ∧ ((SqL K H p ys ∧ ∀ l, H l = none → Q (.ref l) (upd H l (.tup ys))) ∨ (SqT K H p ys ∧ Q (.ref p) H))
theorem ctuple {X : Cx} {K : PySem.W.Frag} (hK : X.K = K) : CallR X (.type "tuple") (rTpl K) := by
  subst hK
  exact call_tuple_of
/-- what the checks of a class's instances need of the class -/
structure CTx (K : PySem.W.Frag) (mg : Str → Option Value) (C : Addr) : Prop where
  cl : Cls K C
  nR : NoAttr K C "_rows"
  mgC : mg "ProductTable" = some (.ref C)
theorem pair_map {α β γ : Type} {F : α → β → Prop} {G : α → γ → Prop} {g : β → γ} : ∀ {as : List α} {bs : List β}, Paired F as bs → (∀ a b, b ∈ bs → F a b → G a (g b)) → Paired G as (bs.map g)
  | _, _, .nil, _ => .nil
  | _, _, .cons h t, k => .cons (k _ _ List.mem_cons_self h) (pair_map t fun a b m => k a b (List.mem_cons_of_mem _ m))
theorem SqT.upd {K : PySem.W.Frag} {H : Hp} {p r C dx : Addr} {fs : List (Str × V)} {xs : List V} {o : HO} (hp : H p = some (.ins C dx fs)) (h : SqT K H r xs) : SqT K (upd H p o) r xs := by
  rcases h with (h | ⟨ob, h⟩) | h
  · exact .inl (.inl (by rw [upd_ne (ne_of h hp (by intro z; cases z))]; exact h))
  · exact .inl (.inr ⟨ob, by rw [upd_ne (ne_of h hp (by intro z; cases z))]; exact h⟩)
  · exact .inr h
theorem rows_true {tb : List (List Int)} (S : Sqr tb) : (decide ((1 : Int) ≤ (tb.length : Int)) && decide ((tb.length : Int) ≤ 16) && (tb.map fun row => some (row.map V.int)).all (rb tb.length)) = true := by
  have h1 := S.le
  have h2 := S.ge
  rw [decide_eq_true (show (1 : Int) ≤ (tb.length : Int) by omega), decide_eq_true (show (tb.length : Int) ≤ 16 by omega)]
  rw [List.all_map]
  show (tb.all _) = true
  rw [List.all_eq_true]
  intro row hr
  obtain ⟨i, hi, rfl⟩ := List.mem_iff_getElem.mp hr
  have hl := S.row _ hr
  show (decide ((tb.length : Int) ≤ ((tb[i].map V.int).length : Int)) && decide (((tb[i].map V.int).length : Int) ≤ (tb.length : Int)) && (tb[i].map V.int).all (nb (tb.length : Int))) = true
  rw [List.length_map, hl, decide_eq_true (Int.le_refl _), Bool.true_and, Bool.true_and, List.all_map, List.all_eq_true]
  intro m hm
  obtain ⟨j, hj, rfl⟩ := List.mem_iff_getElem.mp hm
  have e := S.el i j hi (by omega)
  have em : mu tb i j = tb[i][j] := by
    unfold mu
    rw [List.getD_eq_getElem?_getD, List.getD_eq_getElem?_getD, List.getElem?_eq_getElem hi]
    show (tb[i][j]?).getD 0 = _
    rw [List.getElem?_eq_getElem hj]; rfl
  rw [em] at e
  show (decide (0 ≤ tb[i][j]) && decide (tb[i][j] < (tb.length : Int))) = true
  rw [decide_eq_true e.1, decide_eq_true e.2]; rfl
theorem rows_rowd {K : PySem.W.Frag} {H : Hp} {tb : List (List Int)} {rs : List V} (S : Sqr tb) (h : Paired (fun x row => Sq K H x (row.map V.int)) rs tb) : Paired (RowD K H) rs (tb.map fun row => some (row.map V.int)) :=
  pair_map h fun x row hm z => ⟨z, fun y hy => by obtain ⟨i, _, rfl⟩ := List.mem_map.mp hy; exact .inl ⟨i, rfl⟩, by
    have h1 := S.row row hm
    have h2 := S.ge
    rw [List.length_map]; omega⟩
section
variable {P : Program} {w : World} {K : PySem.W.Frag} {mg : Str → Option Value} {base : Heap} {f g gn : Addr} {fd gd gnd : FuncData}
theorem scInit : FnScope ["self", "rows", "triple", "row"] ["self", "rows"] (defScope sInit) := ⟨rfl, rfl, rfl, by decide +kernel, rfl, by decide +kernel, by decide +kernel⟩
theorem ok_init {C : Addr} (F : Fun K "__init__" "ProductTable.__init__" sInit f fd) (M : Mn mg) (T : CTx K mg C)
    (G : FnOk P w K mg base CX0 4 g gd ["rows"] (spAreRows K)) (bG : Binds K gd ["rows"] []) (kG : PySem.W.keepIn K (.ref g) = true) (mG : mg "_are_rows" = some (.ref g))
    (N : FnOk P w K mg base CX0 1 gn gnd ["rows"] (spWrong K)) (bN : Binds K gnd ["rows"] []) (kN : PySem.W.keepIn K (.ref gn) = true) (mN : mg "_first_wrong_triple" = some (.ref gn)) :
    FnOk P w K mg base CX0 5 f fd ["self", "rows"] (spInit K C) := by
  refine F.ok scInit (fun vs H Q E h => ?_) (fun cdv A outer s H vs Q E hr h => ?_)
  · obtain ⟨p, dx, v, tb, rfl, _⟩ := h
    rfl
  obtain ⟨p, dx, v, tb, rfl, hp, hR, S, as, _, q⟩ := h
  have hr1 : Room 1 _ := hr.mono (by decide)
  refine ⟨_, pss_cons (ps_if (pt_not (pt_val (pe_call G hr rfl mG kG bG .nil pass0 (pa_cons (pv 1) pa_nil)))) pss_dead pss_nil)
    (pss_cons (ps_set (i := 2) scInit.nd rfl (Or.inl rfl) (pe_call N hr1 rfl mN kN bN .nil pass0 (pa_cons (pv 1) pa_nil)))
    (pss_cons (ps_if (pt_cmp (pc_notN (pv 2))) pss_dead pss_nil)
    (pss_one (ps_fld (pv 0) (pe_callTy call_tuple_of (by rfl) M.tuple (by decide +kernel) (pa_cons (pe_lc (own := [("row", 3)]) (g := gName 3) (tt := tYes) rfl scInit.nd (pi_sq (pv 1))
      (blkOk_by (N := ["self", "rows", "triple", "row"]) (sc := defScope sInit) (by decide +kernel)) (fun _ _ _ _ _ => pg_name (i := 3) scInit.nd rfl (Or.inl rfl)) (fun _ _ _ _ _ => pts_nil)
      (fun _ _ _ _ _ => pe_callTy (T := "tuple") (ctuple (K := K) rfl) (by rfl) M.tuple (by decide +kernel) (pa_cons (pv 3) pa_nil))) pa_nil)) rfl)))), ?_⟩
  obtain ⟨rs, hs, pr⟩ := id hR
  have ln : rs.length = tb.length := pr.length
  refine ⟨_, rfl, v, rfl, .inr ⟨rs, _, hs, rows_rowd S pr, fun J sJ => ⟨_, rfl, ?_⟩⟩⟩
  rw [ln, rows_true S]
  refine iteF ⟨_, rfl, v, tb, rfl, hR.same sJ, S, fun _ => ?_, fun a b c ha hb hc n => absurd (as a b c ha hb hc) n⟩
  refine ⟨_, rfl, _, rfl, iteF ?_⟩
  refine isq_of (v := v) rfl (hs.same sJ) fun It wk D hD => ?_
  rw [ln] at wk
  refine lc_it wk (fun i J2 => Same J J2 ∧ ∃ ts : List Addr, J2 D = some (.lst (ts.map V.ref)) ∧ ts.length = i ∧ Paired (fun r row => SqT K J2 r (row.map V.int)) ts (tb.take i))
    ⟨fun b o e => by rw [upd_ne (ne_of_none e hD)]; exact e, [], upd_same, rfl, .nil⟩ (fun _ _ _ z => z.1) ?_ ?_
  · rintro i x Jz J2 hi ⟨s2, ts, eD, lt, pt⟩ ⟨rfl, hx⟩
    obtain ⟨row, hrow, hsq⟩ := pair_at pr hx
    have tk : tb.take (i + 1) = tb.take i ++ [row] := by rw [List.take_add_one, hrow]; rfl
    have n16 := S.ge
    have app : ∀ {as : List Addr} {bs : List (List Int)} {F : Addr → List Int → Prop} {c : Addr} {kv : List Int}, Paired F as bs → F c kv → Paired F (as ++ [c]) (bs ++ [kv]) := by
      intro as bs F c kv h hc
      induction h with
      | nil => exact .cons hc .nil
      | cons h1 _ ih => exact .cons h1 ih
    have fin : ∀ (r : Addr) (J3 : Hp), Same J2 J3 → SqT K J3 r (row.map V.int) → ∃ acc, J3 D = some (.lst acc) ∧ acc.length < sizeLine ∧ (Same J (upd J3 D (.lst (acc ++ [V.ref r]))) ∧
        ∃ ts' : List Addr, (upd J3 D (.lst (acc ++ [V.ref r]))) D = some (.lst (ts'.map V.ref)) ∧ ts'.length = i + 1 ∧ Paired (fun c row => SqT K (upd J3 D (.lst (acc ++ [V.ref r]))) c (row.map V.int)) ts' (tb.take (i + 1))) := fun r J3 s3 hr3 => by
      have keep : ∀ {c : Addr} {xs : List V} {acc : List V}, SqT K J3 c xs → SqT K (upd J3 D (.lst acc)) c xs := fun {c xs acc} h => by
        have e3 := s3 _ _ eD
        rcases h with (h | ⟨ob, h⟩) | h
        · exact .inl (.inl (by rw [upd_ne (ne_of h e3 (by intro z; cases z))]; exact h))
        · exact .inl (.inr ⟨ob, by rw [upd_ne (ne_of h e3 (by intro z; cases z))]; exact h⟩)
        · exact .inr h
      refine ⟨_, s3 _ _ eD, ?_, fun b o e => by rw [upd_ne (ne_of_none e hD)]; exact s3 _ _ (s2 b o e), ts ++ [r], ?_, by simp [lt], ?_⟩
      · rw [List.length_map, lt, sizeLine_eq]; omega
      · rw [upd_same, List.map_append]; rfl
      · rw [tk]
        exact app (L2.Paired.mapP pt fun c row' h => keep (Same.tup s3 h)) (keep hr3)
    obtain ⟨a, rfl, ha | ha⟩ := hsq.same (sJ.trans s2)
    · exact ⟨rfl, _, rfl, a, _, rfl, .inl ⟨ha, fun l hl => fin l _ (Same.new hl _) (SqT.of upd_same)⟩⟩
    · exact ⟨rfl, _, rfl, a, _, rfl, .inr ⟨ha, fin a J2 (Same.refl _) ha⟩⟩
  · rintro J2 ⟨s2, ts, eD, lt, pt⟩
    rw [List.take_of_length_le (Nat.le_refl _)] at pt
    refine ⟨D, _, rfl, .inl ⟨SqL.of eD, fun t ht => ?_⟩⟩
    have s3 : Same H (upd J2 t (.tup (ts.map V.ref))) := (sJ.trans s2).trans (Same.new ht _)
    refine ⟨_, rfl, p, C, dx, [], rfl, s3 _ _ hp, T.cl, T.nR, (by show 0 < 1000; decide), ?_⟩
    refine q _ ⟨dx, t, ts.map V.ref, upd_same, SqT.upd (s3 _ _ hp) (SqT.of upd_same), ?_⟩ fun b o hb e => by rw [upd_ne hb]; exact s3 _ _ e
    have h1 : Paired (fun r row => SqT K (upd (upd J2 t (.tup (ts.map V.ref))) p (.ins C dx [("_rows", .ref t)])) r (row.map V.int)) ts tb := L2.Paired.mapP pt fun c row h => SqT.upd (s3 _ _ hp) (Same.tup (Same.new ht _) h)
    have h2 : ∀ {as : List Addr} {bs : List (List Int)} {Fn : Addr → List Int → Prop}, Paired Fn as bs → Paired (fun x row => ∃ r, x = V.ref r ∧ Fn r row) (as.map V.ref) bs := by
      intro as bs Fn h
      induction h with
      | nil => exact .nil
      | cons h1 _ ih => exact .cons ⟨_, rfl, h1⟩ ih
    exact h2 h1
end
end L

set_option Elab.async false
set_option linter.all false
set_option maxRecDepth 100000
set_option maxHeartbeats 4000000
namespace L
open PySem L2 KX
/-- a list of lists of ints stands at v -/
def RowsL (G : Hp) (v : V) (tb : List (List Int)) : Prop := ∃ a rs, v = .ref a ∧ G a = some (.lst (rs.map V.ref)) ∧ Paired (fun r row => G r = some (.lst (row.map V.int))) rs tb
theorem RowsL.same {G J : Hp} {v : V} {tb : List (List Int)} (s : Same G J) (h : RowsL G v tb) : RowsL J v tb := let ⟨a, rs, e, h1, h2⟩ := h; ⟨a, rs, e, s _ _ h1, L2.Paired.mapP h2 fun _ _ z => s _ _ z⟩
theorem pair_refs {K : PySem.W.Frag} {G : Hp} {rs : List Addr} {tb : List (List Int)} (h : Paired (fun r row => G r = some (.lst (row.map V.int))) rs tb) : Paired (fun x row => Sq K G x (row.map V.int)) (rs.map V.ref) tb := by
  induction h with
  | nil => exact .nil
  | cons h _ ih => exact .cons ⟨_, rfl, .inl (SqL.of h)⟩ ih
theorem RowsL.rws {K : PySem.W.Frag} {G : Hp} {v : V} {tb : List (List Int)} (h : RowsL G v tb) : Rws K G v tb := let ⟨a, rs, e, h1, h2⟩ := h; ⟨rs.map V.ref, ⟨a, e, .inl (SqL.of h1)⟩, pair_refs h2⟩
theorem pair_app {α β : Type} {F : α → β → Prop} {as : List α} {bs : List β} {a : α} {b : β} (h : Paired F as bs) (k : F a b) : Paired F (as ++ [a]) (bs ++ [b]) := by
  induction h with
  | nil => exact .cons k .nil
  | cons h1 _ ih => exact .cons h1 ih
/-- a list of new rows is being made at fa -/
structure Part (H J : Hp) (fa : Addr) (rows : List (List Int)) : Prop where
  same : Same H J
  new : H fa = none
  at_ : ∃ rs, J fa = some (.lst (rs.map V.ref)) ∧ Paired (fun r row => r ≠ fa ∧ H r = none ∧ J r = some (.lst (row.map V.int))) rs rows
theorem Part.to {H J G : Hp} {fa : Addr} {rows : List (List Int)} (h : Part H J fa rows) (s : Same J G) : Part H G fa rows :=
  let ⟨rs, e, p⟩ := h.at_
  ⟨h.same.trans s, h.new, rs, s _ _ e, L2.Paired.mapP p fun _ _ z => ⟨z.1, z.2.1, s _ _ z.2.2⟩⟩
theorem Part.start {H G : Hp} {fa : Addr} (s : Same H G) (h : G fa = none) : Part H (upd G fa (.lst [])) fa [] := ⟨s.trans (Same.new h _), s.free h, [], upd_same, .nil⟩
theorem Part.add {H J G : Hp} {fa q : Addr} {rows : List (List Int)} {row : List Int} (h : Part H J fa rows) (s : Same J G) (n : J q = none) (e : G q = some (.lst (row.map V.int))) :
    ∃ acc, G fa = some (.lst acc) ∧ acc.length = rows.length ∧ Part H (upd G fa (.lst (acc ++ [V.ref q]))) fa (rows ++ [row]) := by
  obtain ⟨rs, e1, p⟩ := (h.to s).at_
  obtain ⟨rs0, e0, _⟩ := h.at_
  have nq : q ≠ fa := (ne_of_none e0 n).symm
  refine ⟨_, e1, by rw [List.length_map]; exact p.length, fun b o eb => ?_, h.new, rs ++ [q], by rw [upd_same, List.map_append]; rfl, ?_⟩
  · rw [upd_ne (ne_of_none eb h.new)]; exact (h.to s).same _ _ eb
  · refine pair_app (L2.Paired.mapP p fun r row z => ⟨z.1, z.2.1, by rw [upd_ne z.1]; exact z.2.2⟩) ⟨nq, h.same.free n, by rw [upd_ne nq]; exact e⟩
theorem Part.fin {H J : Hp} {fa : Addr} {tb : List (List Int)} (h : Part H J fa tb) : RowsL (nw H J) (.ref fa) tb :=
  let ⟨rs, e, p⟩ := h.at_
  ⟨fa, rs, rfl, by rw [nw_at h.new]; exact e, L2.Paired.mapP p fun _ _ z => by rw [nw_at z.2.1]; exact z.2.2⟩
/-- what a table's row holds ahead of place b -/
def rowTo (f : Nat → Nat → Nat) (a b : Nat) : List Int := (List.range b).map fun b => ((f a b : Nat) : Int)
theorem rowTo_next {f : Nat → Nat → Nat} {a b : Nat} : rowTo f a (b + 1) = rowTo f a b ++ [((f a b : Nat) : Int)] := by unfold rowTo; rw [List.range_succ, List.map_append]; rfl
theorem rowTo_len {f : Nat → Nat → Nat} {a b : Nat} : ((rowTo f a b).map V.int).length = b := by unfold rowTo; rw [List.length_map, List.length_map, List.length_range]
/-- the rows ahead of row a -/
def rowsTo (n : Nat) (f : Nat → Nat → Nat) (a : Nat) : List (List Int) := (List.range a).map fun a => rowTo f a n
theorem rowsTo_next {n : Nat} {f : Nat → Nat → Nat} {a : Nat} : rowsTo n f (a + 1) = rowsTo n f a ++ [rowTo f a n] := by unfold rowsTo; rw [List.range_succ, List.map_append]; rfl
theorem rowsTo_len {n : Nat} {f : Nat → Nat → Nat} {a : Nat} : (rowsTo n f a).length = a := by unfold rowsTo; rw [List.length_map, List.length_range]
theorem rowsTo_all {n : Nat} {f : Nat → Nat → Nat} : rowsTo n f n = tab n f := rfl
theorem z0 (n : Nat) : (0 : Int) + (n : Int) = (n : Int) := Int.zero_add _
def spPlain : Sp := fun vs H Q _ => ∃ kind n : Nat, vs = [.int kind, .int n] ∧ kind < 6 ∧ 1 ≤ n ∧ n ≤ 16 ∧ ∀ v H', RowsL (nw H H') v (tab n (fpl kind n)) → Same H H' → Q v H'
section
variable {P : Program} {w : World} {K : PySem.W.Frag} {mg : Str → Option Value} {base : Heap} {f g gn : Addr} {fd gd gnd : FuncData}
end
end L

set_option Elab.async false
set_option linter.all false
set_option maxRecDepth 100000
set_option maxHeartbeats 4000000
namespace L
open PySem L2 KX
theorem ixl {X : Cx} {K : PySem.W.Frag} (hK : X.K = K) : IxR X (rIxL K) := by subst hK; exact ix_list
theorem lenl {X : Cx} {K : PySem.W.Frag} (hK : X.K = K) : CallR X (.builtin "len") (fun xs H Q => ∃ p ys, xs = [.ref p] ∧ (SqL K H p ys ∨ SqT K H p ys) ∧ Q (.int ys.length) H) := by subst hK; exact call_len_seq
theorem fex_row {kind n a b : Nat} {f : Nat → Nat → Nat} (ha : a < n) (hb : b < n) : fex kind n f a b = f a b := if_pos ⟨ha, hb⟩
theorem rowTo_congr {f g : Nat → Nat → Nat} {a : Nat} : ∀ {b : Nat}, (∀ c, c < b → f a c = g a c) → rowTo f a b = rowTo g a b
  | 0, _ => rfl
  | b + 1, h => by rw [rowTo_next, rowTo_next, rowTo_congr (b := b) fun c hc => h c (by omega), h b (by omega)]
def spExt : Sp := fun vs H Q _ => ∃ (v : V) (kind n : Nat) (f : Nat → Nat → Nat), vs = [v, .int kind] ∧ kind < 2 ∧ 1 ≤ n ∧ n < 16 ∧ RowsL H v (tab n f) ∧ ∀ v' H', RowsL (nw H H') v' (tab (n + 1) (fex kind n f)) → Same H H' → Q v' H'
def spPairs : Sp := fun vs H Q _ => ∃ (v u : V) (m n : Nat) (f g : Nat → Nat → Nat), vs = [v, u] ∧ 1 ≤ m ∧ 1 ≤ n ∧ m * n ≤ 16 ∧ RowsL H v (tab m f) ∧ RowsL H u (tab n g) ∧ ∀ v' H', RowsL (nw H H') v' (tab (m * n) (fpr n f g)) → Same H H' → Q v' H'
def spGrid : Sp := fun vs H Q _ => ∃ p, vs = [.ref p] ∧ Bx H p ∧ ∀ v H' (s : Nat → Nat), (∀ i, s i < 2) → RowsL (nw H H') v (tab 8 (fgr s)) → Bx H' p → Sx p H H' → Q v H'
section
variable {P : Program} {w : World} {K : PySem.W.Frag} {mg : Str → Option Value} {base : Heap} {f g gn : Addr} {fd gd gnd : FuncData}
end
end L

set_option Elab.async false
set_option linter.all false
set_option maxRecDepth 100000
set_option maxHeartbeats 4000000
namespace L
open PySem L2 KX
def wds : List Str := ["a", "b", "aa", "ab", "ba", "bb", ""]
def wd (i : Nat) : Str := wds.getD i ""
def fwd (a b : Nat) : Nat := if a < 2 ∧ b < 2 then 2 + 2 * a + b else 6
theorem asf_words : Asf 7 fwd := by
  refine ⟨fun a b ha hb => by unfold fwd; split <;> omega, fun a b c ha hb hc => ?_⟩
  have e : ∀ x y, ¬ fwd x y < 2 := fun x y => by unfold fwd; split <;> omega
  have l : fwd (fwd a b) c = 6 := if_neg fun z => e a b z.1
  have r : fwd a (fwd b c) = 6 := if_neg fun z => e b c z.2
  rw [l, r]
def bothOf (x y : Str) : Str := if (!decide (V.str x = V.str "")) = true then (if (!decide (V.str y = V.str "")) = true then x ++ y else "") else ""
def keyOf (z : Str) : Str := if decide (((z.length : Nat) : Int) < 3) = true then z else ""
def wOk (a b : Nat) : Bool := (wds[fwd a b]? == some (keyOf (bothOf (wd a) (wd b)))) && decide ((wd a).length + (wd b).length ≤ 4) && decide ((bothOf (wd a) (wd b)).length ≤ 4) &&
  eqV (.str (keyOf (bothOf (wd a) (wd b)))) (.str (keyOf (bothOf (wd a) (wd b)))) && (List.range (fwd a b)).all fun m => !eqV (.str (wd m)) (.str (keyOf (bothOf (wd a) (wd b))))
theorem wOk_all : ((List.range 7).all fun a => (List.range 7).all fun b => wOk a b) = true := by decide +kernel
theorem wd_at {m : Nat} {z : V} (h : (wds.map V.str)[m]? = some z) : z = .str (wd m) := by
  rw [List.getElem?_map] at h
  obtain ⟨x, h1, rfl⟩ := Option.map_eq_some_iff.mp h
  unfold wd
  rw [List.getD_eq_getElem?_getD, h1]; rfl
theorem w_facts {a b : Nat} (ha : a < 7) (hb : b < 7) : (wds.map V.str)[fwd a b]? = some (.str (keyOf (bothOf (wd a) (wd b)))) ∧ (wd a).length + (wd b).length ≤ 4 ∧ (bothOf (wd a) (wd b)).length ≤ 4 ∧
    eqV (.str (keyOf (bothOf (wd a) (wd b)))) (.str (keyOf (bothOf (wd a) (wd b)))) = true ∧ ∀ (m : Nat) (z' : V), m < fwd a b → (wds.map V.str)[m]? = some z' → eqV z' (.str (keyOf (bothOf (wd a) (wd b)))) = false := by
  have h := List.all_eq_true.mp (List.all_eq_true.mp wOk_all a (List.mem_range.mpr ha)) b (List.mem_range.mpr hb)
  unfold wOk at h
  obtain ⟨h, h5⟩ := Bool.and_eq_true_iff.mp h
  obtain ⟨h, h4⟩ := Bool.and_eq_true_iff.mp h
  obtain ⟨h, h3⟩ := Bool.and_eq_true_iff.mp h
  obtain ⟨h1, h2⟩ := Bool.and_eq_true_iff.mp h
  refine ⟨by rw [List.getElem?_map, eq_of_beq h1]; rfl, of_decide_eq_true h2, of_decide_eq_true h3, h4, fun m z' hm hz => ?_⟩
  have e := List.all_eq_true.mp h5 m (List.mem_range.mpr hm)
  rw [wd_at hz]
  exact Bool.not_eq_true' _ |>.mp e
def spWords : Sp := fun vs H Q _ => vs = [] ∧ ∀ v H', RowsL (nw H H') v (tab 7 fwd) → Same H H' → Q v H'
section
variable {P : Program} {w : World} {K : PySem.W.Frag} {mg : Str → Option Value} {base : Heap} {f g gn : Addr} {fd gd gnd : FuncData}
end
end L

set_option Elab.async false
set_option linter.all false
set_option maxRecDepth 100000
set_option maxHeartbeats 4000000
/-! Own layer: tables of maps under composition. Plain lists and numbers. -/
namespace KX
/-- a map of k states -/
def Mp (k : Nat) (m : List Nat) : Prop := m.length = k ∧ ∀ x, x ∈ m → x < k
/-- first x, then y -/
def cmp (x y : List Nat) : List Nat := x.map fun s => y.getD s 0
theorem getD_lt {k : Nat} {m : List Nat} (h : Mp k m) {s : Nat} (hs : s < k) : m.getD s 0 < k := by
  have hl : s < m.length := by rw [h.1]; exact hs
  rw [List.getD_eq_getElem?_getD, List.getElem?_eq_getElem hl]
  exact h.2 _ (List.getElem_mem hl)
theorem cmp_mp {k : Nat} {x y : List Nat} (hx : Mp k x) (hy : Mp k y) : Mp k (cmp x y) := by
  refine ⟨by unfold cmp; rw [List.length_map]; exact hx.1, fun z hz => ?_⟩
  obtain ⟨s, hs, rfl⟩ := List.mem_map.mp hz
  exact getD_lt hy (hx.2 s hs)
theorem cmp_as {k : Nat} {x y z : List Nat} (hx : Mp k x) (hy : Mp k y) : cmp (cmp x y) z = cmp x (cmp y z) := by
  unfold cmp
  rw [List.map_map]
  refine List.map_congr_left fun s hs => ?_
  have hl : s < y.length := by rw [hy.1]; exact hx.2 s hs
  show z.getD (y.getD s 0) 0 = (y.map fun s => z.getD s 0).getD s 0
  rw [List.getD_eq_getElem?_getD (l := y.map _), List.getElem?_map, List.getElem?_eq_getElem hl, List.getD_eq_getElem?_getD (l := y), List.getElem?_eq_getElem hl]; rfl
/-- made of letters -/
inductive Gen (ls : List (List Nat)) : List Nat → Prop
  | base {l : List Nat} : l ∈ ls → Gen ls l
  | step {x l : List Nat} : Gen ls x → l ∈ ls → Gen ls (cmp x l)
theorem Gen.mp {k : Nat} {ls : List (List Nat)} (hl : ∀ l, l ∈ ls → Mp k l) {m : List Nat} (g : Gen ls m) : Mp k m := by
  induction g with
  | base h => exact hl _ h
  | step _ h ih => exact cmp_mp ih (hl _ h)
theorem gen_closed {k : Nat} {ls ms : List (List Nat)} (hl : ∀ l, l ∈ ls → Mp k l) (hg : ∀ x, x ∈ ms → Gen ls x) (hc : ∀ x, x ∈ ms → ∀ l, l ∈ ls → cmp x l ∈ ms) {x y : List Nat} (hx : x ∈ ms) (g : Gen ls y) : cmp x y ∈ ms := by
  induction g with
  | base h => exact hc x hx _ h
  | step g h ih =>
    rw [← cmp_as ((hg x hx).mp hl) (g.mp hl)]
    exact hc _ ih _ h
/-- the place of a map -/
def fmp (ms : List (List Nat)) (a b : Nat) : Nat := ms.idxOf (cmp (ms.getD a []) (ms.getD b []))
theorem getD_mem {ms : List (List Nat)} {a : Nat} (h : a < ms.length) : ms.getD a [] ∈ ms := by
  rw [List.getD_eq_getElem?_getD, List.getElem?_eq_getElem h]
  exact List.getElem_mem h
theorem idx_get {ms : List (List Nat)} {m : List Nat} (h : m ∈ ms) : ms.idxOf m < ms.length ∧ ms[ms.idxOf m]? = some m := by
  have hl : ms.idxOf m < ms.length := List.idxOf_lt_length_iff.mpr h
  exact ⟨hl, by rw [List.getElem?_eq_getElem hl, List.getElem_idxOf hl]⟩
theorem idx_ahead {ms : List (List Nat)} {m : List Nat} : ∀ {j : Nat} {z : List Nat}, j < ms.idxOf m → ms[j]? = some z → z ≠ m := by
  induction ms with
  | nil => intro j z h e; cases e
  | cons a ms ih =>
    intro j z h e hz
    subst hz
    rw [List.idxOf_cons] at h
    by_cases ha : a = z
    · subst ha
      rw [show (a == a) = true from beq_self_eq_true a] at h
      exact absurd h (Nat.not_lt_zero _)
    · rw [show (a == z) = false from beq_eq_false_iff_ne.mpr ha] at h
      cases j with
      | zero => exact ha (Option.some.inj e)
      | succ j =>
        have h' : j + 1 < ms.idxOf z + 1 := h
        exact ih (j := j) (by omega) e rfl
/-- a list of maps closed under composition -/
structure Cl (k : Nat) (ms : List (List Nat)) : Prop where
  mp : ∀ m, m ∈ ms → Mp k m
  cl : ∀ x, x ∈ ms → ∀ y, y ∈ ms → cmp x y ∈ ms
theorem Cl.at_ {k : Nat} {ms : List (List Nat)} (C : Cl k ms) {a b : Nat} (ha : a < ms.length) (hb : b < ms.length) : fmp ms a b < ms.length ∧ ms[fmp ms a b]? = some (cmp (ms.getD a []) (ms.getD b [])) :=
  idx_get (C.cl _ (getD_mem ha) _ (getD_mem hb))
theorem asf_maps {k : Nat} {ms : List (List Nat)} (C : Cl k ms) : Asf ms.length (fmp ms) := by
  refine ⟨fun a b ha hb => (C.at_ ha hb).1, fun a b c ha hb hc => ?_⟩
  have h1 := C.at_ ha hb
  have h2 := C.at_ hb hc
  have e1 : ms.getD (fmp ms a b) [] = cmp (ms.getD a []) (ms.getD b []) := by rw [List.getD_eq_getElem?_getD, h1.2]; rfl
  have e2 : ms.getD (fmp ms b c) [] = cmp (ms.getD b []) (ms.getD c []) := by rw [List.getD_eq_getElem?_getD, h2.2]; rfl
  unfold fmp at *
  rw [e1, e2, cmp_as (C.mp _ (getD_mem ha)) (C.mp _ (getD_mem hb))]
/-- what the search knows: letters ls, found ms, i of them walked -/
structure Srch (k : Nat) (ls ms : List (List Nat)) (i : Nat) : Prop where
  lm : ∀ l, l ∈ ls → Mp k l
  sub : ∀ l, l ∈ ls → l ∈ ms
  gen : ∀ x, x ∈ ms → Gen ls x
  done : ∀ j, j < i → ∀ x, ms[j]? = some x → ∀ l, l ∈ ls → cmp x l ∈ ms
theorem Srch.cl {k : Nat} {ls ms : List (List Nat)} {i : Nat} (S : Srch k ls ms i) (h : ms.length ≤ i) : Cl k ms := by
  refine ⟨fun m hm => (S.gen m hm).mp S.lm, fun x hx y hy => gen_closed S.lm S.gen (fun x hx l hl => ?_) hx (S.gen y hy)⟩
  obtain ⟨j, hj, rfl⟩ := List.mem_iff_getElem.mp hx
  exact S.done j (by omega) _ (List.getElem?_eq_getElem hj) l hl
theorem Srch.more {k : Nat} {ls ms : List (List Nat)} {i : Nat} (S : Srch k ls ms i) {m : List Nat} (g : Gen ls m) (hi : i ≤ ms.length) : Srch k ls (ms ++ [m]) i := by
  refine ⟨S.lm, fun l hl => List.mem_append_left _ (S.sub l hl), fun x hx => ?_, fun j hj x hx l hl => ?_⟩
  · rcases List.mem_append.mp hx with h | h
    · exact S.gen x h
    · rw [List.mem_singleton.mp h]; exact g
  · rw [List.getElem?_append_left (by omega)] at hx
    exact List.mem_append_left _ (S.done j hj x hx l hl)
end KX

set_option Elab.async false
set_option linter.all false
set_option maxRecDepth 100000
set_option maxHeartbeats 4000000
namespace L
open PySem L2 KX
def nv (m : List Nat) : List V := m.map fun x : Nat => V.int ((x : Nat) : Int)
def nD (m : List Nat) : List PyData := m.map fun x : Nat => PyData.int ((x : Nat) : Int)
def tD (m : List Nat) : PyData := .tuple (nD m)
theorem nD_lay : ∀ m : List Nat, PyData.canLayAll0 (nD m) = true
  | [] => by unfold nD; simp [PyData.canLayAll0]
  | x :: m => by
    have h := nD_lay m
    unfold nD at h ⊢
    simp [PyData.canLayAll0, PyData.canLay0, h]
theorem nD_depth : ∀ m : List Nat, PyData.depthAll (nD m) = 0
  | [] => by unfold nD; simp [PyData.depthAll]
  | x :: m => by
    have h := nD_depth m
    unfold nD at h ⊢
    simp [PyData.depthAll, PyData.depth, h]
theorem tD_lay : ∀ ms : List (List Nat), PyData.canLayAll0 (ms.map tD) = true
  | [] => by simp [PyData.canLayAll0]
  | m :: ms => by
    have h := tD_lay ms
    have h2 := nD_lay m
    simp only [List.map_cons, PyData.canLayAll0, tD, PyData.canLay0, h2, Bool.true_and]
    exact h
theorem tD_depth : ∀ ms : List (List Nat), PyData.depthAll (ms.map tD) ≤ 1
  | [] => by simp [PyData.depthAll]
  | m :: ms => by
    have h := tD_depth ms
    have h2 := nD_depth m
    have h3 : (tD m).depth = 1 := by unfold tD; simp only [PyData.depth, h2]
    simp only [List.map_cons, PyData.depthAll, h3]
    omega
theorem tD_shaped (m : List Nat) : SeqAt.shaped (tD m) = true := by
  have h2 : (tD m).depth = 1 := by unfold tD; simp only [PyData.depth, nD_depth m]
  have h1 : (tD m).canLay0 = true := by unfold tD; simp only [PyData.canLay0]; exact nD_lay m
  show ((tD m).canLay0 && decide ((tD m).depth ≤ 64)) = true
  rw [Bool.and_eq_true]
  exact ⟨h1, decide_eq_true (by omega)⟩
theorem tDs_shaped (ms : List (List Nat)) : SeqAt.shaped (.list (ms.map tD)) = true := by
  have h1 := tD_depth ms
  have h2 : PyData.depth (.list (ms.map tD)) ≤ 64 := by
    simp only [PyData.depth]
    omega
  show (PyData.canLay0 (.list (ms.map tD)) && decide (PyData.depth (.list (ms.map tD)) ≤ 64)) = true
  rw [Bool.and_eq_true]
  exact ⟨by simp only [PyData.canLay0]; exact tD_lay ms, decide_eq_true h2⟩
theorem nD_eqv : ∀ a b : List Nat, PyData.eqvAll (nD a) (nD b) = decide (a = b)
  | [], [] => by unfold nD; simp [PyData.eqvAll]
  | [], _ :: _ => by unfold nD; simp [PyData.eqvAll]
  | _ :: _, [] => by unfold nD; simp [PyData.eqvAll]
  | x :: a, y :: b => by
    have h := nD_eqv a b
    unfold nD at h ⊢
    simp only [List.map_cons, PyData.eqvAll, PyData.eqv, h]
    by_cases e : x = y
    · subst e
      rw [show (((x : Int) == (x : Int))) = true from beq_self_eq_true _, Bool.true_and]
      by_cases e2 : a = b
      · subst e2; simp
      · rw [decide_eq_false e2, decide_eq_false fun z => e2 (List.cons.inj z).2]
    · rw [show (((x : Int) == (y : Int))) = false from beq_eq_false_iff_ne.mpr (by omega), Bool.false_and, decide_eq_false fun z => e (List.cons.inj z).1]
theorem tD_eqv (a b : List Nat) : PyData.eqv (tD a) (tD b) = decide (a = b) := by
  unfold tD
  simp only [PyData.eqv]
  exact nD_eqv a b
theorem tD_any (ms : List (List Nat)) (m : List Nat) : ((ms.map tD).any fun z => PyData.eqv z (tD m)) = decide (m ∈ ms) := by
  rw [List.any_map]
  rw [Bool.eq_iff_iff, List.any_eq_true, decide_eq_true_iff]
  constructor
  · rintro ⟨x, hx, e⟩
    have e' : PyData.eqv (tD x) (tD m) = true := e
    rw [tD_eqv] at e'
    exact (of_decide_eq_true e') ▸ hx
  · intro h
    refine ⟨m, h, ?_⟩
    show PyData.eqv (tD m) (tD m) = true
    rw [tD_eqv]; exact decide_eq_true rfl
theorem dp_nv {K : PySem.W.Frag} {G : Hp} : ∀ m : List Nat, DpAll K G (nv m) (nD m)
  | [] => .nil
  | x :: m => .cons (.int _) (dp_nv m)
theorem dp_tup {K : PySem.W.Frag} {G : Hp} {t : Addr} {m : List Nat} (h : G t = some (.tup (nv m))) : Dp K G (.ref t) (tD m) := .tup (SqT.of h) (dp_nv m)
theorem dp_tups {K : PySem.W.Frag} {G : Hp} {ts : List Addr} {ms : List (List Nat)} (h : Paired (fun t m => G t = some (.tup (nv m))) ts ms) : DpAll K G (ts.map V.ref) (ms.map tD) := by
  induction h with
  | nil => exact .nil
  | cons h _ ih => exact .cons (dp_tup h) ih
/-- the maps found so far stand at fa -/
structure Mi (H : Hp) (p fa : Addr) (J : Hp) (ms : List (List Nat)) : Prop where
  bx : Bx J p
  sx : Sx p H J
  nf : H fa = none
  np : fa ≠ p
  fm : ∃ ts, J fa = some (.lst (ts.map V.ref)) ∧ Paired (fun t m => J t = some (.tup (nv m))) ts ms
section
variable {H J G : Hp} {p fa q : Addr} {ms : List (List Nat)} {m : List Nat}
theorem Bx.same (b : Bx H p) (s : Same H J) : Bx J p := let ⟨b0, b1, b2, e, r⟩ := b; ⟨b0, b1, b2, s _ _ e, r⟩
theorem Mi.to (h : Mi H p fa J ms) (s : Same J G) : Mi H p fa G ms :=
  let ⟨ts, e, pr⟩ := h.fm
  ⟨h.bx.same s, h.sx.trans (Sx.of s), h.nf, h.np, ts, s _ _ e, L2.Paired.mapP pr fun _ _ z => s _ _ z⟩
theorem Bx.ne_tup {t : Addr} {xs : List V} (b : Bx H p) (h : H t = some (.tup xs)) : t ≠ p := fun z => by
  obtain ⟨b0, b1, b2, e, r⟩ := b
  rw [z, e] at h
  cases h
theorem Mi.took (h : Mi H p fa J ms) (s : Sx p J G) (b : Bx G p) : Mi H p fa G ms :=
  let ⟨ts, e, pr⟩ := h.fm
  ⟨b, h.sx.trans s, h.nf, h.np, ts, s _ _ h.np e, L2.Paired.mapP pr fun _ _ z => s _ _ (h.bx.ne_tup z) z⟩
theorem Mi.start (b : Bx G p) (s : Sx p H G) (n : G fa = none) : Mi H p fa (upd G fa (.lst [])) [] :=
  ⟨b.new n, s.trans (Sx.new n), s.free b n, b.ne n, [], upd_same, .nil⟩
theorem Mi.add (h : Mi H p fa J ms) (e : J q = some (.tup (nv m))) : ∃ acc, J fa = some (.lst acc) ∧ acc.length = ms.length ∧ Mi H p fa (upd J fa (.lst (acc ++ [V.ref q]))) (ms ++ [m]) := by
  obtain ⟨ts, e1, pr⟩ := h.fm
  refine ⟨_, e1, by rw [List.length_map]; exact pr.length, h.bx.at_ne h.np, fun b o nb eb => by rw [upd_ne (ne_of_none eb h.nf)]; exact h.sx b o nb eb, h.nf, h.np, ts ++ [q], by rw [upd_same, List.map_append]; rfl, ?_⟩
  have nt : ∀ {t : Addr} {xs : List V}, J t = some (.tup xs) → t ≠ fa := fun {t xs} z y => by rw [y, e1] at z; cases z
  exact pair_app (L2.Paired.mapP pr fun t m z => by rw [upd_ne (nt z)]; exact z) (by rw [upd_ne (nt e)]; exact e)
theorem Mi.sq {K : PySem.W.Frag} (h : Mi H p fa J ms) : ∃ xs, SqL K J fa xs ∧ xs.length = ms.length := let ⟨ts, e, pr⟩ := h.fm; ⟨_, SqL.of e, by rw [List.length_map]; exact pr.length⟩
theorem Mi.dp {K : PySem.W.Frag} (h : Mi H p fa J ms) : Dp K J (.ref fa) (.list (ms.map tD)) := let ⟨ts, e, pr⟩ := h.fm; .lst (SqL.of e) (dp_tups pr)
end
end L

set_option Elab.async false
set_option linter.all false
set_option maxRecDepth 100000
set_option maxHeartbeats 4000000
namespace L
open PySem L2 KX
theorem ixt {X : Cx} {K : PySem.W.Frag} (hK : X.K = K) : IxR X (rIxT K) := by subst hK; exact ix_tup
theorem pit {X : Cx} {K : PySem.W.Frag} (hK : X.K = K) {tg l : Expr} {tl : TE} (h : PE X l tl) : PI X tg l (iTup K tl) := by subst hK; exact pi_tup h
theorem pe_idx {X : Cx} {K : PySem.W.Frag} (hK : X.K = K) (hu : X.A.units + 65 < cLine) {o e : Expr} {apos cpos : Pos} {to : TE} {t : TA} (ho : PE X o to) (ha : PA X [e] t)
    (hbase : attributeBase o "index" X.env (eval o X.env) = eval o X.env := by rfl)
    (hfew : ((backTo cpos (starEach [e] X.env)).all (fun x => !x.1) && (backToKw cpos (keywordEach [] X.env)).all (fun x => x.1.isSome)
      && decide (([e] : List Expr).length + ([] : List Keyword).length + (if ([] : List Keyword).isEmpty then 0 else 1) < 30)) = true := by rfl)
    (hline : (apos.endLine == cpos.line) = true := by rfl) (hs : starEach [e] X.env = (false, eval e X.env) :: starEach [] X.env := by rfl) (hplain : (backTo cpos (starEach [] X.env)).any (·.1) = false := by rfl) :
    PE X (.Call (.Attribute o "index" apos) [e] [] cpos) (tBM K "list" (rIndexD K) to t) := by
  subst hK
  exact pe_bm PySem.F.plainAttrs_list PySem.F.slot_list_index PySem.F.type_list_index (mt_indexD hu) ho ha hbase hfew hline hs hplain
theorem hu65 {k : Nat} {A : Around} (r : Room k A) : A.units + 65 < cLine := by have := r.un; omega
def scReached : Scope := { kind := .function, names := [(Str.ofString ".0", .local), (Str.ofString "other", .cell), (Str.ofString "tuple", .globalImplicit), (Str.ofString "one", .cell)], isGenerator := false, isCoroutine := false }
/-- the letters stand at la -/
def Lt (la : Addr) (ts : List Addr) (ms : List (List Nat)) (J : Hp) : Prop := J la = some (.lst (ts.map V.ref)) ∧ Paired (fun t m => J t = some (.tup (nv m))) ts ms
theorem Lt.to {la : Addr} {ts : List Addr} {ms : List (List Nat)} {J G : Hp} (h : Lt la ts ms J) (s : Same J G) : Lt la ts ms G := ⟨s _ _ h.1, L2.Paired.mapP h.2 fun _ _ z => s _ _ z⟩
theorem Lt.upd {la fa : Addr} {ts : List Addr} {ms : List (List Nat)} {J : Hp} {acc xs : List V} (h : Lt la ts ms J) (n : la ≠ fa) (e : J fa = some (.lst acc)) : Lt la ts ms (upd J fa (.lst xs)) :=
  ⟨by rw [upd_ne n]; exact h.1, L2.Paired.mapP h.2 fun t m z => by rw [upd_ne fun y => by rw [y, e] at z; cases z]; exact z⟩
theorem nv_at {m : List Nat} {i : Nat} {v : V} (h : (nv m)[i]? = some v) : ∃ x : Nat, m[i]? = some x ∧ v = .int (x : Int) := by
  unfold nv at h
  rw [List.getElem?_map] at h
  obtain ⟨x, h1, h2⟩ := Option.map_eq_some_iff.mp h
  exact ⟨x, h1, h2.symm⟩
theorem nv_get {k : Nat} {m : List Nat} (h : Mp k m) {s : Nat} (hs : s < k) : (nv m)[s]? = some (.int ((m.getD s 0 : Nat) : Int)) := by
  have hl : s < m.length := by rw [h.1]; exact hs
  unfold nv
  rw [List.getElem?_map, List.getD_eq_getElem?_getD, List.getElem?_eq_getElem hl]; rfl
theorem nv_len (m : List Nat) : (nv m).length = m.length := by unfold nv; rw [List.length_map]
theorem cmp_take {x l : List Nat} {b s : Nat} (h : x[b]? = some s) : (cmp x l).take (b + 1) = (cmp x l).take b ++ [l.getD s 0] := by
  rw [List.take_add_one]
  unfold cmp
  rw [List.getElem?_map, h]; rfl
theorem ref_at {ts : List Addr} {i : Nat} {v : V} (h : (ts.map V.ref)[i]? = some v) : ∃ t, ts[i]? = some t ∧ v = .ref t := by
  rw [List.getElem?_map] at h
  obtain ⟨x, h1, h2⟩ := Option.map_eq_some_iff.mp h
  exact ⟨x, h1, h2.symm⟩
theorem pair_to {α β : Type} {F : α → β → Prop} : ∀ {as : List α} {bs : List β} {i : Nat} {b : β}, Paired F as bs → bs[i]? = some b → ∃ a, as[i]? = some a ∧ F a b
  | _, _, _, _, .nil, e => by simp at e
  | _, _, 0, _, .cons h _, e => by simp at e; subst e; exact ⟨_, rfl, h⟩
  | _, _, i + 1, _, .cons _ t, e => by
    simp at e
    obtain ⟨a, h1, h2⟩ := pair_to t e
    exact ⟨a, by simpa using h1, h2⟩
def spMaps : Sp := fun vs H Q _ => ∃ p, vs = [.ref p] ∧ Bx H p ∧ ∀ v H', (v = .non ∨ ∃ n f, 1 ≤ n ∧ n ≤ 16 ∧ Asf n f ∧ RowsL (nw H H') v (tab n f)) → Bx H' p → Sx p H H' → Q v H'
abbrev nMaps : List Str := ["box", "size", "found", "turn", "one", "letters", "at", "letter", "rows", "reached", "state", "other"]
section
variable {P : Program} {w : World} {K : PySem.W.Frag} {mg : Str → Option Value} {base : Heap} {f g gn : Addr} {fd gd gnd : FuncData}
end
end L

set_option Elab.async false
set_option linter.all false
set_option maxRecDepth 100000
set_option maxHeartbeats 4000000
namespace L
open PySem L2 KX
theorem erase_pm {α : Type} : ∀ {l : List α} {i : Nat} {y : α}, l[i]? = some y → (y :: l.eraseIdx i).Perm l
  | [], _, _, h => by simp at h
  | x :: l, 0, y, h => by simp at h; subst h; exact List.Perm.refl _
  | x :: l, i + 1, y, h => (List.Perm.swap x y _).trans ((erase_pm (l := l) (i := i) (by simpa using h)).cons x)
theorem erase_nv : ∀ {m : List Nat} {i : Nat}, (nv m).eraseIdx i = nv (m.eraseIdx i)
  | [], _ => rfl
  | x :: m, 0 => rfl
  | x :: m, i + 1 => congrArg (V.int ((x : Nat) : Int) :: ·) (erase_nv (m := m) (i := i))
theorem idx_ahead1 {ms : List Nat} {m : Nat} : ∀ {j : Nat} {z : Nat}, j < ms.idxOf m → ms[j]? = some z → z ≠ m := by
  induction ms with
  | nil => intro j z h e; cases e
  | cons a ms ih =>
    intro j z h e hz
    subst hz
    rw [List.idxOf_cons] at h
    by_cases ha : a = z
    · subst ha
      rw [show (a == a) = true from beq_self_eq_true a] at h
      exact absurd h (Nat.not_lt_zero _)
    · rw [show (a == z) = false from beq_eq_false_iff_ne.mpr ha] at h
      cases j with
      | zero => exact ha (Option.some.inj e)
      | succ j =>
        have h' : j + 1 < ms.idxOf z + 1 := h
        exact ih (j := j) (by omega) e rfl
section
variable {X : Cx} {K : PySem.W.Frag}
/-- a statement by what is known behind it -/
theorem ps_cut {st : Stmt} {t : TS} (h : PS X st t) : PS X st (fun D σ H => ∃ R : L2.St → Hp → Prop, t { D with nx := R } σ H ∧ ∀ σ' H', R σ' H' → D.nx σ' H') := by
  refine ⟨fun pins s σ H D I ⟨R, h1, k⟩ => thn (h.run pins s σ H { D with nx := R } I h1) fun f s1 q => ?_⟩
  cases f with
  | next =>
    obtain ⟨σ', H', I', q⟩ := q
    exact ⟨σ', H', I', k _ _ q⟩
  | ret v => exact q
  | brk => exact q
  | cont => exact q
theorem pil (hK : X.K = K) {tg l : Expr} {tl : TE} (h : PE X l tl) : PI X tg l (iList K tl) := by subst hK; exact pi_list h
theorem pe_bK (hK : X.K = K) {o e : Expr} {to : TE} {t : TA} {r : V → List V → Hp → VK → Prop} {name : Str} {apos cpos : Pos} (h : PE X (.Call (.Attribute o name apos) [e] [] cpos) (tBM X.K "list" r to t)) :
    PE X (.Call (.Attribute o name apos) [e] [] cpos) (tBM K "list" r to t) := by subst hK; exact h
theorem mt_idx1 (hK : X.K = K) : MtR X "list.index" (rIndex K) := by subst hK; exact mt_index
end
def scOut : Scope := { kind := .function, names := [(Str.ofString ".0", .local), (Str.ofString "a", .cell), (Str.ofString "order", .cell), (Str.ofString "rows", .cell)], isGenerator := false, isCoroutine := false }
/-- the rows so far: a new table at v -/
structure RwAt (H : Hp) (p : Addr) (J : Hp) (v : V) (n : Nat) (f : Nat → Nat → Nat) : Prop where
  bx : Bx J p
  sx : Sx p H J
  n1 : 1 ≤ n
  n16 : n ≤ 16
  as : Asf n f
  rows : RowsL (nw H J) v (tab n f)
theorem nw_to {H J : Hp} : Same (nw H J) J := fun c o h => (nw_some h).2
theorem RwAt.took {H J G : Hp} {p : Addr} {v : V} {n : Nat} {f : Nat → Nat → Nat} (h : RwAt H p J v n f) (hb : Bx H p) (s : Sx p J G) (b : Bx G p) : RwAt H p G v n f := ⟨b, h.sx.trans s, h.n1, h.n16, h.as, h.rows.same (nw_step hb s)⟩
theorem RwAt.to {H J G : Hp} {p : Addr} {v : V} {n : Nat} {f : Nat → Nat → Nat} (h : RwAt H p J v n f) (hb : Bx H p) (s : Same J G) : RwAt H p G v n f := h.took hb (Sx.of s) (h.bx.same s)
theorem RwAt.of {H J G : Hp} {p : Addr} {v : V} {n : Nat} {f : Nat → Nat → Nat} (b : Bx J p) (sx : Sx p H J) (s : Same J G) (n1 : 1 ≤ n) (n16 : n ≤ 16) (as : Asf n f) (r : RowsL (nw J G) v (tab n f)) : RwAt H p G v n f :=
  ⟨b.same s, sx.trans (Sx.of s), n1, n16, as, r.same (nw_back sx b)⟩
theorem RwAt.ofS {H J G : Hp} {p : Addr} {v : V} {n : Nat} {f : Nat → Nat → Nat} (b : Bx J p) (sx : Sx p H J) (s : Sx p J G) (bG : Bx G p) (n1 : 1 ≤ n) (n16 : n ≤ 16) (as : Asf n f) (r : RowsL (nw J G) v (tab n f)) : RwAt H p G v n f :=
  ⟨bG, sx.trans s, n1, n16, as, r.same (nw_back sx b)⟩
/-- the rows as a list -/
theorem RwAt.lst {K : PySem.W.Frag} {H J : Hp} {p : Addr} {v : V} {n : Nat} {f : Nat → Nat → Nat} (h : RwAt H p J v n f) : ∃ a xs, v = .ref a ∧ SqL K J a xs ∧ xs.length = n :=
  let ⟨a, rs, e, ea, pr⟩ := h.rows
  ⟨a, _, e, SqL.of (nw_to _ _ ea), by rw [List.length_map, pr.length, tab_len]⟩
theorem RwAt.ne {H J : Hp} {p : Addr} {v : V} {n : Nat} {f : Nat → Nat → Nat} (h : RwAt H p J v n f) : v ≠ .non := fun e => by
  obtain ⟨a, rs, e', _⟩ := h.rows
  rw [e'] at e; cases e
theorem rg_nv (n : Nat) : rgV 0 (n : Int) = nv (List.range n) := by
  unfold rgV nv
  rw [Int.sub_zero, Int.toNat_natCast]
  exact List.map_congr_left fun x _ => by rw [Int.zero_add]
def spRows : Sp := fun vs H Q _ => ∃ p, vs = [.ref p] ∧ Bx H p ∧ ∀ v H' n f, RwAt H p H' v n f → Q v H'
abbrev nRows : List Str := ["box", "kind", "rows", "more", "other", "left", "order", "k", "b", "a"]
section
variable {P : Program} {w : World} {K : PySem.W.Frag} {mg : Str → Option Value} {base : Heap} {f g gn : Addr} {fd gd gnd : FuncData} {g1 g2 g3 g4 g5 g6 : Addr} {d1 d2 d3 d4 d5 d6 : FuncData}
end
end L

set_option Elab.async false
set_option linter.all false
set_option maxRecDepth 100000
set_option maxHeartbeats 4000000
/-! Own layer: len of an own instance; a call of a def held as a value. -/
namespace KX
open PySem PySem.Spec PyProof.Rows L2
section
open PySem.W
variable {M : Model} {A : Around} {E : Value → Shared → Prop} {s : Shared} {K : Frag}
/-- a special method of the text -/
theorem cspecF {self : Value} {name : PySem.Str} {f : Addr} {args : List Value} {Q : Option Value → Shared → Prop} (X : K.In s.heap) (sp : Looks M s.heap (specialOf self name) (some (.ref f))) (tf : typeIn K (.ref f) = some (.type "function"))
    (hc : wpAny M A (call (.ref f) (self :: args)) (fun v => Q (some v)) E s) : wpAny M A (callSpecial? self name args) Q E s := by
  simp only [callSpecial?]
  refine wpAny_bind (sp.here ?_)
  refine wpAny_holding (wpAny_bind ((bind_fn X self tf).here ?_))
  exact wpAny_bind (wpAny_mono hc (fun v s' h' => wpAny_pure h') fun _ _ h' => h')
end
section
variable {X : Cx} {CX : CXT} {k : Nat} {C f : Addr} {fd : FuncData} {sp : Sp}
def rLenOwn (C : Addr) (sp : Sp) : List V → Hp → VK → Prop := fun xs H Q => ∃ (p dx : Addr) (fs : List (Str × V)), xs = [.ref p] ∧ H p = some (.ins C dx fs) ∧ sp [.ref p] H (fun v H1 => ∃ n : Nat, v = .int (n : Int) ∧ (n : Int) < 2 ^ 63 ∧ Q (.int n) H1) (fun _ _ _ => False)
theorem call_lenOwn (hm : PySem.W.findIn X.K (.ref C) "__len__" = some (some (.ref f))) (tf : PySem.W.typeIn X.K (.ref f) = some (.type "function")) (F : FnOk X.prog X.w X.K X.mg X.base CX0 k f fd ["self"] sp) (hr : Room (k + 1) X.A) (hb : Binds X.K fd ["self"] []) :
    CallR X (.builtin "len") (rLenOwn C sp) := by
  intro pins s σ H xs us Q I r h
  obtain ⟨p, dx, fs, rfl, hp, q⟩ := h
  obtain ⟨u, rfl, rx⟩ := vals1 r
  cases rx
  obtain ⟨mA, J, _⟩ := ins_get I.hok hp
  obtain ⟨od, J, _⟩ := J.look
  have sp1 : PySem.W.Looks (model X.prog X.w) s.heap (specialOf (.ref p) "__len__") (some (.ref f)) := J.type.andThen (PySem.W.looks_findIn I.kIn hm)
  have hl := F.len _ _ _ _ q
  have r2 : Vals [V.ref p] [Value.ref p] := .cons rfl .nil
  have e0 : Env0 X.prog X.w X.K X.mg X.base X.A.in1 X.stack s H := I.env0.in1
  have run : wpAny (model X.prog X.w) X.A.in1 (call (.ref f) [.ref p]) (fun r s' => ∃ n u, r = .int n u ∧ 0 ≤ n ∧ n < 2 ^ 63 ∧ EP X pins σ Q (.int n s'.toks) { s' with toks := s'.toks + 1 }) X.xe s := by
    refine wpAny_call (codeAny_mono (F.run X.A.in1 X.stack s H ⟨[.ref p], []⟩ [.ref p] [.ref p] _ _ hr.in1 e0 (by
      have := hb s [.ref p] I.kIn rfl
      simpa using this) r2 q) fun o s' hq => ?_)
    match o, hq with
    | .error u, hq => exact hq.elim
    | .ok (.ret u), hq =>
      obtain ⟨v, H1, I1, rv, n, rfl, hn, q'⟩ := I.after hq
      obtain ⟨t, rfl⟩ := rv
      exact ⟨n, t, rfl, by omega, hn, .int n, H1, I1.tok _, ⟨_, rfl⟩, q'⟩
    | .ok .next, hq => exact hq.elim
    | .ok .brk, hq => exact hq.elim
    | .ok .cont, hq => exact hq.elim
  refine Calls.call_function_entry kind_len plain_len entry_len (args_len1 _) ?_
  unfold Builtin.«len»
  refine wpAny_bind (m := oneArg "len" _) (wpAny_pure ?_)
  refine wpAny_bind (m := callSpecial? (.ref p) (PySem.Str.ofString "__len__")) (cspecF I.kIn sp1 tf (wpAny_mono run (fun r s' hr => ?_) fun _ _ y => y))
  obtain ⟨n, u, rfl, h0, h1, hq⟩ := hr
  refine wpAny_bind (wpAny_holding (wpAny_pure ?_))
  refine wpAny_bind (wpAny_letGo ?_)
  show wpAny _ _ (if n < 0 then _ else _) _ _ _
  rw [if_neg (by omega)]
  show wpAny _ _ (if n ≥ 2 ^ 63 then _ else _) _ _ _
  rw [if_neg (by omega)]
  exact wpAny_bind (wpAny_mkInt (wpAny_pure ⟨_, rfl, hq⟩))
end
/-- e(..), e one of some defs -/
structure Hld (P : Program) (w : World) (K : PySem.W.Frag) (mg : Str → Option Value) (base : Heap) (k : Nat) (f : Addr) (sp : Sp) : Prop where
  ex : ∃ (fd : FuncData) (ps : List Str), FnOk P w K mg base CX0 k f fd ps sp ∧ PySem.W.keepIn K (.ref f) = true ∧ Binds K fd ps []
def tCallV (S : Addr → Sp → Prop) (te : TE) (t : TA) : TE := fun σ H Q => te σ H fun x H0 => ∃ f sp, x = .ref f ∧ S f sp ∧ t σ H0 fun vs H1 => sp vs H1 Q (fun _ _ _ => False)
theorem Hld.of {P : Program} {w : World} {K : PySem.W.Frag} {mg : Str → Option Value} {base : Heap} {j k : Nat} {f : Addr} {fd : FuncData} {ps : List Str} {sp : Sp} (F : FnOk P w K mg base CX0 j f fd ps sp) (h : j ≤ k) (hk : PySem.W.keepIn K (.ref f) = true) (hb : Binds K fd ps []) : Hld P w K mg base k f sp :=
  ⟨fd, ps, ⟨F.len, fun A out s H args us vs Q E hr => F.run A out s H args us vs Q E (hr.mono h)⟩, hk, hb⟩
section
variable {X : Cx} {k : Nat} {o e : Expr} {es : List Expr} {t : TA} {te : TE} {pos : Pos}
theorem pe_callV {S : Addr → Sp → Prop} (A : ∀ f sp, S f sp → Hld X.prog X.w X.K X.mg X.base k f sp) (hr : Room k X.A) (ho : PE X o te) (ha : PA X (e :: es) t)
    (ht : eval (.Call o (e :: es) [] pos) X.env = (do callWith pos (← eval o X.env) [] (backTo pos (starEach (e :: es) X.env)) (backToKw pos (keywordEach [] X.env))) := by rfl)
    (hst : starEach (e :: es) X.env = (false, eval e X.env) :: starEach es X.env := by rfl) (hpl : (backTo pos (starEach es X.env)).any (·.1) = false := by rfl) : PE X (.Call o (e :: es) [] pos) (tCallV S te t) := ⟨fun pins s σ H Q I h => by
  rw [ht]
  refine wpAny_bind (thn (ho.run pins s σ H _ I h) fun u s1 ⟨x, H1, I1, rx, f, sp, ex, hS, q⟩ => ?_)
  subst ex
  obtain rfl : u = Value.ref f := rx
  obtain ⟨fd, ps, F, hk, hb⟩ := (A f sp hS).ex
  refine PySem.W.callWith_K (h₀ := X.base) I.ok.mod.kin hk (thn (ha.run pos pins s1 σ H1 _ I1 q) fun us s2 ⟨vs, H2, I2, r, q2⟩ => ⟨I2.kIn, ?_⟩) hst hpl
  have q3 : sp (vs ++ []) H2 Q (fun _ _ _ => False) := by rw [List.append_nil]; exact q2
  exact run_fn (us := us) (vs := vs) F hr hb .nil (fun _ _ _ _ _ _ _ z => z.elim) I2 r q3⟩
end
end KX

set_option Elab.async false
set_option linter.all false
set_option maxRecDepth 100000
set_option maxHeartbeats 4000000
/-! Own layer: set(a list of whole numbers), to be sorted or walked. -/
namespace KX
open PySem PySem.Spec PyProof.Rows L2
/-- an empty set, as it is made -/
abbrev freshSet (w : World) : Obj := { cls := .type "set", dict := none, data := .set #[] 0 (.fresh 0 0 (!w.params.followText "set-order")) }
abbrev listIt (l : Addr) : Obj := { cls := .type "list_iterator", data := .fields #[.ref l, .int 0 0] }
section
variable {P : Program} {w : World} {A : Around} {E : Value → Shared → Prop} {st : Shared}
/-- what stands behind set(l) -/
def SetMade (w : World) (st : Shared) (ns : List Int) (h' : Heap) (c : Nat) : Prop := SetR w h' st.heap.objs.size (fun j => decide (j ∈ ns)) c ∧ c ≤ ns.length ∧ ∀ b o, st.heap.get? b = some o → h'.get? b = some o
theorem set_init_list {l : Addr} {items : Array Value} (ns : List Int) (hh : A.handled = none) (hl : st.heap.IsList l items) (hit : IntsAre items.toList ns) (hb : ns.length + 1 < scanBound) :
    codeAny (model P w) A (.call (.builtin "set.__init__") ⟨[.ref st.heap.objs.size, .ref l], []⟩) (wants (fun r s₂ => r = .none ∧ ∃ h' tk c, s₂ = { st with heap := h', toks := tk } ∧ SetMade w st ns h' c) E) { st with heap := st.heap.push (freshSet w) } := by
  have hz : items.size = ns.length := by
    have := IntsAre.length hit
    rwa [Array.length_toList] at this
  have e0 : (st.heap.push (freshSet w)).get? st.heap.objs.size = some (freshSet w) := Heap.get?_push_size _ rfl
  have ty : Shared.TypeIs { st with heap := st.heap.push (freshSet w) } (.ref st.heap.objs.size) "set" := ⟨_, e0, rfl⟩
  refine codeAny_call_builtin F.called_set.init.plain F.entry_set_init (check_set_init_1 ty ?_)
  obtain ⟨⟨lcls, ldict, ldata, lslots⟩, hol, hcl, nl, hdl⟩ := hl
  simp only at hcl hdl
  subst hcl; subst hdl
  have hol2 : (st.heap.push (freshSet w)).get? l = some { cls := .type "list", dict := ldict, data := .seq items nl, slots := lslots } := Heap.get?_push_of_some _ hol
  have q1 := F.sub_list_set
  have q2 := F.sub_list_frozenset
  have q3 : (Value.type "list" == Value.type "dict") = false := by decide
  have isl : (st.heap.push (freshSet w)).IsList l items := ⟨_, hol2, rfl, nl, rfl⟩
  unfold Builtin.«set.__init__» noKeywords Builtin.Frozenset.updateFrom
  generalize hPI : pyIter = walk
  wp_walk
  subst hPI
  refine wpAny_pyIter_list isl ?_
  refine wpAny_bind (wpAny_runValue ?_)
  have small : l < st.heap.objs.size := Heap.lt_size hol
  have sz1 : (st.heap.push (freshSet w)).objs.size = st.heap.objs.size + 1 := Heap.size_push ..
  have calm3 : A.in1.in1.handled = none := by simp [hh]
  have apart : l ≠ (st.heap.push (freshSet w)).objs.size := by rw [sz1]; exact Nat.ne_of_lt (Nat.lt_succ_of_lt small)
  have off : st.heap.objs.size ∉ [(st.heap.push (freshSet w)).objs.size, l] := by
    rw [sz1]; simp only [List.mem_cons, List.not_mem_nil, or_false, not_or]
    exact ⟨Nat.ne_of_lt (Nat.lt_succ_self _), Nat.ne_of_gt small⟩
  have vals : ∀ (i : Nat) (v : Value), items[i]? = some v → ∃ k t, ns[i]? = some k ∧ v = .int k t := fun i v hv => by
    have hi : i < ns.length := hz ▸ (Array.getElem?_eq_some_iff.mp hv).1
    obtain ⟨t, e⟩ := IntsAre.int_at hit i v (by rw [Array.getElem?_toList]; exact hv)
    rw [List.getD_eq_getElem?_getD, List.getElem?_eq_getElem hi] at e
    exact ⟨ns[i], t, List.getElem?_eq_getElem hi, e⟩
  refine set_update_ints ((Walks.list calm3 _ l apart items).toS) st.heap.objs.size off ns hz hb vals (items.size - 0) 0 _ (by omega) (Nat.zero_le _)
    ⟨⟨_, Heap.get?_push_size _ rfl, rfl, rfl⟩, isl.push _⟩ ?first ?last
  case first =>
    have keep : ((st.heap.push (freshSet w)).push (listIt l)).get? st.heap.objs.size = some (freshSet w) := Heap.get?_push_of_some _ e0
    exact ⟨0, Nat.le_refl 0, setR_new_at keep⟩
  case last =>
    rintro ⟨h', g2, d2, tk, os2⟩ c hm hc hR
    have e1 : g2 = st.gens := hm.gens
    have e2 : d2 = st.drawn := hm.drawn
    have e3 : os2 = st.os := hm.os
    subst e1; subst e2; subst e3
    show wpAny _ _ _ _ _ _
    refine wpAny_pure ?_
    show wpAny _ _ (ret Value.none) _ _ _
    rw [hz] at hc
    refine wpAny_pure ⟨rfl, h', tk, c, rfl, hR, hc, fun b o e => ?_⟩
    have hlt : b < st.heap.objs.size := Heap.lt_size e
    refine hm.heap b o ?_ (Heap.get?_push_of_some _ (Heap.get?_push_of_some _ e))
    simp only [List.mem_cons, List.not_mem_nil, or_false, not_or]
    exact ⟨Nat.ne_of_lt hlt, by rw [sz1]; exact Nat.ne_of_lt (Nat.lt_succ_of_lt hlt)⟩
theorem set_of_list {l : Addr} {items : Array Value} (ns : List Int) {Q : Value → Shared → Prop} (hh : A.handled = none) (hl : st.heap.IsList l items) (hit : IntsAre items.toList ns) (hb : ns.length + 1 < scanBound)
    (h : ∀ h' tk c, SetMade w st ns h' c → Q (.ref st.heap.objs.size) { st with heap := h', toks := tk }) : wpAny (model P w) A (call (.type "set") [.ref l]) Q E st := by
  obtain ⟨c0, tl, hmro⟩ := F.called_set.mro
  have m1 := F.called_set.made
  have m2 := F.called_set.sub
  refine wpAny_call (codeAny_of_tree ?_)
  show wpAny _ _ (callAny (.type "set") _) _ _ _
  refine wpAny_pure ⟨Code.quiet_builtin _ (by decide +kernel), codeAny_builtin F.entry_type_call ?_⟩
  rw [Around.under_plain (weight_type_call_type "set" [.ref l] []) rfl]
  have t1 := F.called_set.notType
  have t2 := F.called_set.canCreate
  have t3 := F.typeCall_set_1 (.ref l)
  repeat (any_goals (first | assumption | wp_step))
  refine codeAny_mono (code_set_led1 (.ref l) (E := E) (Q₁ := fun ob s₁ => ob = .ref st.heap.objs.size ∧ s₁ = { st with heap := st.heap.push (freshSet w) }) ⟨rfl, rfl⟩) fun r s₁ hr => ?_
  match r, hr with
  | .error e, hr => exact hr
  | .ok .next, hr => exact hr.elim
  | .ok .brk, hr => exact hr.elim
  | .ok .cont, hr => exact hr.elim
  | .ok (.ret ob), hr =>
    obtain ⟨rfl, rfl⟩ := hr
    have e0 : (st.heap.push (freshSet w)).get? st.heap.objs.size = some (freshSet w) := Heap.get?_push_size _ rfl
    have ty : Shared.TypeIs { st with heap := st.heap.push (freshSet w) } (.ref st.heap.objs.size) "set" := ⟨_, e0, rfl⟩
    have i1 := F.called_set.init.lookup
    have i2 := F.called_set.init.bind (.ref st.heap.objs.size)
    repeat (any_goals (first | assumption | wp_step))
    refine codeAny_mono (set_init_list (P := P) (w := w) (A := A.in1) (E := E) ns ?_ hl hit hb) fun r₂ s₂ hr₂ => ?_
    · simp [hh]
    match r₂, hr₂ with
    | .error e, hr₂ => exact hr₂
    | .ok .next, hr₂ => exact hr₂.elim
    | .ok .brk, hr₂ => exact hr₂.elim
    | .ok .cont, hr₂ => exact hr₂.elim
    | .ok (.ret rr), hr₂ =>
      obtain ⟨rfl, h', tk, c, rfl, made⟩ := hr₂
      repeat (any_goals (first | assumption | wp_step))
      exact h _ _ _ made
end
section
variable {X : Cx}
/-- set(l), l a list of whole numbers -/
def rSetL (K : PySem.W.Frag) (w : World) : List V → Hp → VK → Prop := fun xs H Q => ∃ (l : Addr) (ns : List Int), xs = [.ref l] ∧ SqL K H l (ns.map V.int) ∧ ns.length ≤ 4000 ∧
  ∀ p c, H p = none → c ≤ ns.length → Q (.ref p) (upd H p (SetO w p (fun j => decide (j ∈ ns)) c))
theorem ct_set (hc : X.calm = true) {K : PySem.W.Frag} (hK : X.K = K) {w : World} (hw : X.w = w) : CallR X (.type "set") (rSetL K w) := by
  subst hK; subst hw
  intro pins s σ H xs us Q I r h
  obtain ⟨l, ns, rfl, hS, hn, q⟩ := h
  obtain ⟨u, rfl, rx⟩ := vals1 r
  cases rx
  obtain ⟨its, rv, pl, hz⟩ := I.list hS
  refine set_of_list ns (I.ok.hd hc) pl.isList (by simpa using ints_of_vals rv) (by unfold scanBound; omega) fun h' tk c ⟨R, hc', k⟩ => ?_
  exact ⟨.ref s.heap.objs.size, _, I.laid (t' := tk) k (Nat.le_refl _) (setO_new R), rfl, q _ c (I.hok.fresh (Nat.le_refl _)) hc'⟩
end
end KX

set_option Elab.async false
set_option linter.all false
set_option maxRecDepth 100000
set_option maxHeartbeats 4000000
namespace L
open PySem L2 KX
abbrev sLen : Stmt := inClass (top 21) 1
abbrev sRowsM : Stmt := inClass (top 21) 3
theorem clist {X : Cx} {K : PySem.W.Frag} (hK : X.K = K) : CallR X (.type "list") (fun xs H Q => ∃ p ys, xs = [.ref p] ∧ (SqL K H p ys ∨ SqT K H p ys) ∧ ∀ l, H l = none → Q (.ref l) (upd H l (.lst ys))) := by subst hK; exact call_list_of
theorem fldK {X : Cx} {K : PySem.W.Frag} (hK : X.K = K) {e : Expr} {f : Str} {ta : TE} {pos : Pos} (he : PE X e ta) (hb : attributeBase e f X.env (eval e X.env) = eval e X.env) : PE X (.Attribute e f pos) (tFld K ta f) := by subst hK; exact pe_fld he hb
/-! ### lists of ints as data -/
def iD (m : List Int) : List PyData := m.map PyData.int
theorem iD_lay : ∀ m : List Int, PyData.canLayAll0 (iD m) = true
  | [] => by unfold iD; simp [PyData.canLayAll0]
  | x :: m => by
    have h := iD_lay m
    unfold iD at h ⊢
    simp [PyData.canLayAll0, PyData.canLay0, h]
theorem iD_depth : ∀ m : List Int, PyData.depthAll (iD m) = 0
  | [] => by unfold iD; simp [PyData.depthAll]
  | x :: m => by
    have h := iD_depth m
    unfold iD at h ⊢
    simp [PyData.depthAll, PyData.depth, h]
theorem iD_shaped (m : List Int) : SeqAt.shaped (.list (iD m)) = true := by
  have h2 : PyData.depth (.list (iD m)) = 1 := by simp only [PyData.depth, iD_depth m]
  have h1 : PyData.canLay0 (.list (iD m)) = true := by simp only [PyData.canLay0]; exact iD_lay m
  show (PyData.canLay0 (.list (iD m)) && decide (PyData.depth (.list (iD m)) ≤ 64)) = true
  rw [Bool.and_eq_true]
  exact ⟨h1, decide_eq_true (by omega)⟩
theorem iD_eqvAll : ∀ a b : List Int, PyData.eqvAll (iD a) (iD b) = decide (a = b)
  | [], [] => by unfold iD; simp [PyData.eqvAll]
  | [], _ :: _ => by unfold iD; simp [PyData.eqvAll]
  | _ :: _, [] => by unfold iD; simp [PyData.eqvAll]
  | x :: a, y :: b => by
    have h := iD_eqvAll a b
    unfold iD at h ⊢
    simp only [List.map_cons, PyData.eqvAll, PyData.eqv, h]
    by_cases e : x = y
    · subst e
      rw [show (x == x) = true from beq_self_eq_true _, Bool.true_and]
      by_cases e2 : a = b
      · subst e2; simp
      · rw [decide_eq_false e2, decide_eq_false fun z => e2 (List.cons.inj z).2]
    · rw [show (x == y) = false from beq_eq_false_iff_ne.mpr e, Bool.false_and, decide_eq_false fun z => e (List.cons.inj z).1]
theorem iD_eqv (a b : List Int) : PyData.eqv (.list (iD a)) (.list (iD b)) = decide (a = b) := by
  simp only [PyData.eqv]; exact iD_eqvAll a b
theorem dp_ints {K : PySem.W.Frag} {G : Hp} : ∀ m : List Int, DpAll K G (m.map V.int) (iD m)
  | [] => .nil
  | x :: m => .cons (.int _) (dp_ints m)
/-- the numbers 0 .. n-1 -/
def nums (n : Nat) : List Int := (List.range n).map fun i : Nat => ((i : Nat) : Int)
theorem rg_nums (n : Nat) : rgV 0 (n : Int) = (nums n).map V.int := by
  unfold rgV nums
  rw [Int.sub_zero, Int.toNat_natCast, List.map_map]
  exact List.map_congr_left fun x _ => by rw [Int.zero_add]; rfl
def spLenM (K : PySem.W.Frag) (C : Addr) : Sp := fun vs H Q _ => ∃ p tb, vs = [.ref p] ∧ TbA K C H p tb ∧ Q (.int tb.length) H
def spRowsM (K : PySem.W.Frag) (C : Addr) : Sp := fun vs H Q _ => ∃ p tb, vs = [.ref p] ∧ TbA K C H p tb ∧ tb.length ≤ 16 ∧ ∀ v H', RowsL (nw H H') v tb → Same H H' → Q v H'
section
variable {P : Program} {w : World} {K : PySem.W.Frag} {mg : Str → Option Value} {base : Heap} {f g gn : Addr} {fd gd gnd : FuncData} {C CE fE : Addr} {dE : FuncData}
theorem scLen : FnScope ["self"] ["self"] (defScope sLen) := ⟨rfl, rfl, rfl, by decide +kernel, rfl, by decide +kernel, by decide +kernel⟩
theorem ok_len (F : Fun K "__len__" "ProductTable.__len__" sLen f fd) (M : Mn mg) (T : CTx K mg C) : FnOk P w K mg base CX0 1 f fd ["self"] (spLenM K C) := by
  refine F.ok scLen (fun vs H Q E h => ?_) (fun cdv A outer s H vs Q E hr h => ?_)
  · obtain ⟨p, tb, rfl, _⟩ := h
    rfl
  obtain ⟨p, tb, rfl, ⟨dx, t, rs, hp, ht, pr⟩, q⟩ := h
  refine ⟨_, pss_one (ps_ret (pe_callB call_len_seq (by rfl) M.len PySem.boot_len (pa_cons (pe_fld (pv 0) rfl) pa_nil))), ?_⟩
  refine ⟨_, rfl, p, C, dx, _, _, rfl, hp, T.cl, T.nR, rfl, t, rs, rfl, .inr ht, ?_⟩
  rw [pr.length]
  exact q
theorem scRowsM : FnScope ["self", "row"] ["self"] (defScope sRowsM) := ⟨rfl, rfl, rfl, by decide +kernel, rfl, by decide +kernel, by decide +kernel⟩
theorem ok_rowsM (F : Fun K "rows" "ProductTable.rows" sRowsM f fd) (M : Mn mg) (T : CTx K mg C) : FnOk P w K mg base CX0 1 f fd ["self"] (spRowsM K C) := by
  refine F.ok scRowsM (fun vs H Q E h => ?_) (fun cdv A outer s H vs Q E hr h => ?_)
  · obtain ⟨p, tb, rfl, _⟩ := h
    rfl
  obtain ⟨p, tb, rfl, ⟨dx, t, rs, hp, ht, pr⟩, n16, q⟩ := h
  refine ⟨_, pss_one (ps_ret (pe_lc (own := [("row", 1)]) (g := gName 1) (tt := tYes) rfl scRowsM.nd (pi_tup (pe_fld (pv 0) rfl))
    (blkOk_by (N := ["self", "row"]) (sc := defScope sRowsM) (by decide +kernel)) (fun _ _ _ _ _ => pg_name (i := 1) scRowsM.nd rfl (Or.inl rfl)) (fun _ _ _ _ _ => pts_nil)
    (fun _ _ _ _ _ => pe_callTy (T := "list") (clist (K := K) rfl) (by rfl) M.list (by decide +kernel) (pa_cons (pv 1) pa_nil)))), ?_⟩
  refine ⟨_, rfl, p, C, dx, _, _, rfl, hp, T.cl, T.nR, rfl, t, rfl, ⟨_, ht⟩, fun D hD => ?_⟩
  refine lc_it (walk_tup (xs := rs)) (fun i J => Part H J D (tb.take i)) (Part.start (Same.refl H) hD) (fun i J _ z => Same.tup z.same ht) ?_ ?_
  · rintro i x J J1 hi pa ⟨rfl, hx⟩
    obtain ⟨row, hrow, r, rfl, hr1⟩ := pair_at pr hx
    refine ⟨rfl, _, rfl, r, _, rfl, .inr (Same.tup pa.same hr1), fun l hl => ?_⟩
    have hi' : i < tb.length := by rw [← pr.length]; exact hi
    obtain ⟨acc, ea, la, p1⟩ := pa.add (q := l) (row := row) (Same.new hl _) hl upd_same
    have tk : tb.take (i + 1) = tb.take i ++ [row] := by rw [List.take_add_one, hrow]; rfl
    refine ⟨acc, ea, by rw [la, List.length_take]; exact small1000 (by omega), ?_⟩
    rw [tk]
    exact p1
  · rintro J pa
    rw [pr.length, List.take_of_length_le (Nat.le_refl _)] at pa
    exact q _ _ pa.fin pa.same
theorem row_at {H : Hp} {rs : List V} {tb : List (List Int)} (pr : Paired (fun x row => ∃ r, x = V.ref r ∧ SqT K H r (row.map V.int)) rs tb) (S : Sqr tb) {a : Nat} (ha : a < tb.length) :
    ∃ r, rs[a]? = some (V.ref r) ∧ SqT K H r ((tb.getD a []).map V.int) ∧ ∀ b, b < tb.length → ((tb.getD a []).map V.int)[b]? = some (.int (mu tb a b)) := by
  have hrs : a < rs.length := by rw [pr.length]; exact ha
  obtain ⟨row, h1, r, e1, hr1⟩ := pair_at pr (List.getElem?_eq_getElem hrs)
  have er : tb.getD a [] = row := by rw [List.getD_eq_getElem?_getD, h1]; rfl
  have hl : row.length = tb.length := S.row row (List.mem_of_getElem? h1)
  refine ⟨r, (List.getElem?_eq_getElem hrs).trans (congrArg some e1), by rw [er]; exact hr1, fun b hb => ?_⟩
  unfold mu
  rw [er, List.getElem?_map, List.getElem?_eq_getElem (by omega), List.getD_eq_getElem?_getD, List.getElem?_eq_getElem (by omega)]; rfl
end
end L

set_option Elab.async false
set_option linter.all false
set_option maxRecDepth 100000
set_option maxHeartbeats 4000000
namespace L
open PySem L2 KX
section
variable {X : Cx} {op op' op3 : CmpOp} {r r' r3 : R2} {a b c d : Expr} {ta tb tc td : TE} {pos : Pos}
/-- a op1 b op2 c op3 d -/
def tChain3 (r r' r3 : R2) (ta tb tc td : TE) : TE := fun σ H Q => ta σ H fun x H1 => tb σ H1 fun y H2 => r x y H2 fun z H3 => ∃ k, z = .bl k ∧
  (if k = true then tc σ H3 fun u H4 => r' y u H4 fun z' H5 => ∃ k', z' = .bl k' ∧ (if k' = true then td σ H5 fun v H6 => r3 u v H6 Q else Q (.bl false) H5) else Q (.bl false) H3)
theorem pe_chain3 (ho : OpR X (compareOp op) r) (ho' : OpR X (compareOp op') r') (ho3 : OpR X (compareOp op3) r3) (ha : PE X a ta) (hb : PE X b tb) (hc : PE X c tc) (hd : PE X d td)
    (hm : PySem.lastMarks [op, op', op3] [b, c, d] = false := by with_unfolding_all rfl) : PE X (.Compare a [op, op', op3] [b, c, d] pos) (tChain3 r r' r3 ta tb tc td) := by
  refine ⟨fun pins s σ H Q I h => ?_⟩
  refine PyProof.Rows.Compare_chain (thn (ha.run pins s σ H _ I h) fun v s1 ⟨x, H1, I1, r1, q1⟩ => PyProof.Rows.chain_link (thn (hb.run pins s1 σ H1 _ I1 q1) fun u s2 ⟨y, H2, I2, r2, q2⟩ =>
    thn (ho pins s2 σ H2 x y v u _ I2 r1 r2 q2) fun e s3 ⟨z, H3, I3, rz, k, ek, q3⟩ => ?_)) hm
  subst ek
  cases rz
  refine PySem.wpAny_truthy_bool ?_
  cases k with
  | false => exact PyProof.Rows.ite_ff ⟨.bl false, H3, I3, rfl, q3⟩
  | true =>
    refine PyProof.Rows.ite_tt (PyProof.Rows.chain_link (thn (hc.run pins s3 σ H3 _ I3 q3) fun u' s4 ⟨w', H4, I4, r4, q4⟩ => thn (ho' pins s4 σ H4 y w' u u' _ I4 r2 r4 q4) fun e2 s5 ⟨z2, H5, I5, rz2, k2, ek2, q5⟩ => ?_))
    subst ek2
    cases rz2
    refine PySem.wpAny_truthy_bool ?_
    cases k2 with
    | false => exact PyProof.Rows.ite_ff ⟨.bl false, H5, I5, rfl, q5⟩
    | true => exact PyProof.Rows.ite_tt (PyProof.Rows.chain_last (thn (hd.run pins s5 σ H5 _ I5 q5) fun v' s6 ⟨x6, H6, I6, r6, q6⟩ => ho3 pins s6 σ H6 w' x6 u' v' Q I6 r4 r6 q6))
/-- a slice of a list or of a tuple -/
def rSlSq (K : PySem.W.Frag) : V → Option Int → Option Int → Hp → VK → Prop := fun x lo hi H Q => (∃ p xs, x = .ref p ∧ SqL K H p xs ∧ ∀ l H', Same H H' → SqL K H' l (cutV xs lo hi) → Q (.ref l) H') ∨
  ∃ p xs, x = .ref p ∧ SqT K H p xs ∧ ∀ l H', Same H H' → SqT K H' l (cutV xs lo hi) → Q (.ref l) H'
theorem sl_sq : SlR X (rSlSq X.K) := by
  intro pins s σ H x v vl vu lo hi sl Q I rx hs pl pu h
  rcases h with ⟨p, xs, rfl, h, q⟩ | ⟨p, xs, rfl, h, q⟩
  · exact sl_list pins s σ H _ v vl vu lo hi sl Q I rx hs pl pu ⟨p, xs, rfl, h, fun y hy => q _ _ (Same.new hy _) (SqL.of upd_same)⟩
  · refine sl_tupA pins s σ H _ v vl vu lo hi sl Q I rx hs pl pu ⟨p, xs, rfl, h, fun z => q _ _ (Same.refl H) ?_, fun _ y hy => q _ _ (Same.new hy _) (SqT.of upd_same)⟩
    have e : cutV xs lo hi = xs := by
      unfold cutV
      rw [z.1, z.2, Nat.sub_zero, List.drop_zero, List.take_length]
    rw [e]; exact h
/-- .. whichever it is -/
theorem rSlSq.of {K : PySem.W.Frag} {H : Hp} {x : V} {xs : List V} {lo hi : Option Int} {Q : VK} (h : Sq K H x xs) (q : ∀ y H', Same H H' → Sq K H' y (cutV xs lo hi) → Q y H') : rSlSq K x lo hi H Q := by
  obtain ⟨p, rfl, h | h⟩ := h
  · exact .inl ⟨p, xs, rfl, h, fun l H' s k => q _ H' s ⟨l, rfl, .inl k⟩⟩
  · exact .inr ⟨p, xs, rfl, h, fun l H' s k => q _ H' s ⟨l, rfl, .inr k⟩⟩
end
/-- no table -/
def NotT (K : PySem.W.Frag) (C : Addr) (H : Hp) (v : V) : Prop := ∃ t, TyX K H v t ∧ PySem.W.kitOne K t (.ref C) = some false
theorem NotT.same {K : PySem.W.Frag} {C : Addr} {H G : Hp} {v : V} (s : Same H G) (h : NotT K C H v) : NotT K C G v := let ⟨t, a, b⟩ := h; ⟨t, TyX.same s a, b⟩
structure CTi (K : PySem.W.Frag) (C : Addr) : Prop where
  ha : PySem.W.findIn K (.ref C) "__class__" = some (some (.builtin "object.__class__"))
  hn : PySem.W.specialIn K (.builtin "object.__class__") "__get__" = some (some (.builtin "getset_descriptor.__get__"))
  htk : PySem.W.takesIn K (.builtin "object.__class__") = some true
  hm : PySem.W.mroIn K C (.type "object") = some true
theorem kit_self (K : PySem.W.Frag) (C : Addr) : PySem.W.kitOne K (.ref C) (.ref C) = some true := by
  unfold PySem.W.kitOne
  rw [show ((Value.ref C) == (Value.ref C)) = true from beq_self_eq_true _, if_pos rfl]
theorem TbA.to {K : PySem.W.Frag} {C : Addr} {H J : Hp} {p : Addr} {tb : List (List Int)} (s : Same H J) (h : TbA K C H p tb) : TbA K C J p tb :=
  let ⟨dx, t, rs, hp, ht, pr⟩ := h.ob
  ⟨dx, t, rs, s _ _ hp, Same.tup s ht, L2.Paired.mapP pr fun _ _ ⟨r, e, hr⟩ => ⟨r, e, Same.tup s hr⟩⟩
theorem TbA.ty {K : PySem.W.Frag} {mg : Str → Option Value} {C : Addr} {H : Hp} {p : Addr} {tb : List (List Int)} (T : CTx K mg C) (Y : CTi K C) (h : TbA K C H p tb) : TyX K H (.ref p) (.ref C) :=
  let ⟨_, _, _, hp, _, _⟩ := h.ob
  .base (.ins hp T.cl Y.ha Y.hn Y.htk Y.hm)
def okS (n : Nat) : Option (List V) → Bool
  | some xs => decide ((1 : Int) ≤ (xs.length : Int)) && decide ((xs.length : Int) ≤ 2000) && xs.all (nb (n : Int))
  | none => false
/-- the bounds of a range -/
def rgB (n : Int) (x y : V) : Bool := match x, y with
  | .int a, .int b => decide (0 ≤ a) && decide (a < b) && decide (b ≤ n)
  | _, _ => false
/-- the product of some elements -/
def fld (tb : List (List Int)) : List Nat → Nat
  | [] => 0
  | w :: r => r.foldl (fun acc x => (mu tb acc x).toNat) w
theorem fld_lt {tb : List (List Int)} (S : Sqr tb) : ∀ {ws : List Nat}, (∀ x, x ∈ ws → x < tb.length) → ws ≠ [] → fld tb ws < tb.length
  | [], _, h => absurd rfl h
  | w :: r, h, _ => by
    have go : ∀ (r : List Nat) (a : Nat), a < tb.length → (∀ x, x ∈ r → x < tb.length) → r.foldl (fun acc x => (mu tb acc x).toNat) a < tb.length := fun r => by
      induction r with
      | nil => exact fun a ha _ => ha
      | cons y r ih =>
        intro a ha hr
        have hy := hr y List.mem_cons_self
        have e := S.el a y ha hy
        exact ih _ (show (mu tb a y).toNat < tb.length by omega) fun x hx => hr x (List.mem_cons_of_mem _ hx)
    exact go r w (h w List.mem_cons_self) fun x hx => h x (List.mem_cons_of_mem _ hx)
def spChkTX (K : PySem.W.Frag) (C CT : Addr) : Sp := fun vs H Q E => ∃ v, vs = [v] ∧ ((∃ p tb, v = .ref p ∧ TbA K C H p tb ∧ Q .non H) ∨ (NotT K C H v ∧ ∀ d, H d = none → E (.ref CT) (some d) (upd H d (.xd [("value", v)]))))
def spChkS (K : PySem.W.Frag) (C CS : Addr) : Sp := fun vs H Q E => ∃ p v tb o, vs = [.ref p, v] ∧ TbA K C H p tb ∧ tb.length ≤ 16 ∧ RowD K H v o ∧ (okS tb.length o = true → ∀ H', Same H H' → Q .non H') ∧
  (okS tb.length o = false → ∀ H' d, Same H H' → H' d = none → E (.ref CS) (some d) (upd H' d (.xd [("value", v)])))
def spIsRg (K : PySem.W.Frag) : Sp := fun vs H Q _ => ∃ x y n, vs = [x, y, .int n] ∧ Itm K H x ∧ Itm K H y ∧ Q (.bl (rgB n x y)) H
def spMultd (K : PySem.W.Frag) : Sp := fun vs H Q _ => ∃ (v u : V) (tb : List (List Int)) (ws : List Nat), vs = [v, u] ∧ RowsL H v tb ∧ Sqr tb ∧ Sq K H u (nv ws) ∧ ws ≠ [] ∧ (∀ x, x ∈ ws → x < tb.length) ∧ ∀ H', Same H H' → Q (.int (fld tb ws : Nat)) H'
section
variable {P : Program} {w : World} {K : PySem.W.Frag} {mg : Str → Option Value} {base : Heap} {f g gn fl g1 g2 g3 fE : Addr} {fd gd gnd dl d1 d2 d3 dE : FuncData} {C CT CS CR : Addr}
end
end L

set_option Elab.async false
set_option linter.all false
set_option maxRecDepth 100000
set_option maxHeartbeats 4000000
namespace L
open PySem L2 KX
/-- two parts of a heap -/
def un (F G : Hp) : Hp := fun b => match F b with
  | some o => some o
  | none => G b
theorem un_l {F G : Hp} : Same F (un F G) := fun b o e => by unfold un; rw [e]
theorem un_n {F G : Hp} {b : Addr} (h : F b = none) : un F G b = G b := by unfold un; rw [h]
theorem un_to {F G J : Hp} (s1 : Same F J) (s2 : Same G J) : Same (un F G) J := fun b o e => by
  cases h : F b with
  | some o' =>
    have : un F G b = some o' := un_l _ _ h
    rw [this] at e
    cases e
    exact s1 _ _ h
  | none => rw [un_n h] at e; exact s2 _ _ e
/-- what is known of a part of the heap, when some more is new -/
theorem ext {F J J1 : Hp} (s : Same F J) (s1 : Same F J1) : ∃ F', Same F F' ∧ Same (nw J J1) F' ∧ Same F' J1 ∧ ∀ b, F b = none → J b ≠ none → F' b = none :=
  ⟨un F (nw J J1), un_l, fun b o e => by
    have h := nw_some e
    have hf : F b = none := by
      cases hf : F b with
      | none => rfl
      | some u => rw [s _ _ hf] at h; exact nomatch h.1
    rw [un_n hf]; exact e, un_to s1 nw_same, fun b h1 h2 => by
    rw [un_n h1]
    unfold nw
    cases hj : J b with
    | none => exact absurd hj h2
    | some u => rfl⟩
theorem fx {F J J' : Hp} {p : Addr} (s : Same F J) (n : F p = none) (x : Sx p J J') : Same F J' := fun b o e => x b o (ne_of_none e n) (s b o e)
theorem fu {F J : Hp} {t : Addr} {o : HO} (s : Same F J) (n : F t = none) : Same F (upd J t o) := fun b u e => by rw [upd_ne (ne_of_none e n)]; exact s b u e
theorem TbA.sx {K : PySem.W.Frag} {C : Addr} {H J : Hp} {p x : Addr} {tb : List (List Int)} (s : Sx p H J) (b : Bx H p) (h : TbA K C H x tb) : TbA K C J x tb := by
  obtain ⟨b0, b1, b2, eb, _⟩ := b
  have up : ∀ {r : Addr} {xs : List V}, SqT K H r xs → SqT K J r xs := fun {r xs} h => by
    rcases h with (h | ⟨o, h⟩) | h
    · exact .inl (.inl (s _ _ (fun z => by rw [z, eb] at h; cases h) h))
    · exact .inl (.inr ⟨o, s _ _ (fun z => by rw [z, eb] at h; cases h) h⟩)
    · exact .inr h
  obtain ⟨dx, t, rs, hp, ht, pr⟩ := h.ob
  exact ⟨dx, t, rs, s _ _ (fun z => by rw [z, eb] at hp; cases hp) hp, up ht, L2.Paired.mapP pr fun _ _ ⟨r, e, hr⟩ => ⟨r, e, up hr⟩⟩
/-- the heap but the box -/
def mn (p : Addr) (J : Hp) : Hp := fun b => if b = p then none else J b
theorem mn_same {p : Addr} {J : Hp} : Same (mn p J) J := fun b o e => by
  unfold mn at e
  by_cases h : b = p
  · rw [if_pos h] at e; cases e
  · rw [if_neg h] at e; exact e
theorem mn_p {p : Addr} {J : Hp} : mn p J p = none := if_pos rfl
theorem mn_sx {p : Addr} {J : Hp} : Sx p J (mn p J) := fun b o n e => by unfold mn; rw [if_neg n]; exact e
theorem mn_nw {p : Addr} {H J : Hp} (h : H p ≠ none) : Same (nw H J) (mn p J) := fun b o e => by
  have q := nw_some e
  exact mn_sx _ _ (fun z => h (z ▸ q.1)) q.2
end L

set_option Elab.async false
set_option linter.all false
set_option maxRecDepth 100000
set_option maxHeartbeats 4000000
set_option pp.maxSteps 400
namespace L
open PySem L2 KX
abbrev sChkE : Stmt := top 22
abbrev sPrd : Stmt := inClass (top 21) 4
abbrev sEiT : Stmt := inClass (top 4) 0
abbrev sEiM : Stmt := inClass (top 10) 0
def spChkE (K : PySem.W.Frag) (C : Addr) : Sp := fun vs H Q _ => ∃ (p : Addr) (a : Nat) (tb : List (List Int)), vs = [.ref p, .int (a : Int)] ∧ TbA K C H p tb ∧ a < tb.length ∧ tb.length ≤ 16 ∧ Q .non H
def spPrd (K : PySem.W.Frag) (C : Addr) : Sp := fun vs H Q _ => ∃ (p : Addr) (a b : Nat) (tb : List (List Int)), vs = [.ref p, .int (a : Int), .int (b : Int)] ∧ TbA K C H p tb ∧ Sqr tb ∧ a < tb.length ∧ b < tb.length ∧ Q (.int (mu tb a b)) H
theorem mu_nat {tb : List (List Int)} (S : Sqr tb) {a b : Nat} (ha : a < tb.length) (hb : b < tb.length) : mu tb a b = (((mu tb a b).toNat : Nat) : Int) ∧ (mu tb a b).toNat < tb.length := by
  have := S.el a b ha hb
  omega
theorem row_g {tb : List (List Int)} (S : Sqr tb) {a b : Nat} (ha : a < tb.length) (hb : b < tb.length) : ((tb.getD a []).map V.int)[b]? = some (.int (mu tb a b)) := by
  have e : tb.getD a [] = tb[a] := by rw [List.getD_eq_getElem?_getD, List.getElem?_eq_getElem ha]; rfl
  have l := S.row _ (List.getElem_mem ha)
  unfold mu
  rw [e, List.getElem?_map, List.getD_eq_getElem?_getD (l := tb[a]), List.getElem?_eq_getElem (by omega)]; rfl
/-- a row by its place -/
theorem rw_at {G : Hp} {v : V} {ms : List (List Int)} {a : Nat} (h : RowsL G v ms) (ha : a < ms.length) : ∃ (l : Addr) (rs : List Addr) (r : Addr), v = .ref l ∧ G l = some (.lst (rs.map V.ref)) ∧ (rs.map V.ref)[a]? = some (.ref r) ∧ G r = some (.lst ((ms.getD a []).map V.int)) := by
  obtain ⟨l, rs, rfl, e, pr⟩ := h
  have hl : rs.length = ms.length := pr.length
  have h1 : rs[a]? = some rs[a] := List.getElem?_eq_getElem (by omega)
  obtain ⟨row, hrow, er⟩ := pair_at pr h1
  refine ⟨l, rs, rs[a], rfl, e, by rw [List.getElem?_map, h1]; rfl, ?_⟩
  rw [List.getD_eq_getElem?_getD, hrow]; exact er
/-- rows as a list -/
theorem RowsL.sq {G : Hp} {v : V} {tb : List (List Int)} (h : RowsL G v tb) : ∃ a xs, v = .ref a ∧ G a = some (.lst xs) ∧ xs.length = tb.length := by
  obtain ⟨a, rs, e, h1, pr⟩ := h
  exact ⟨a, _, e, h1, by rw [List.length_map]; exact pr.length⟩
section
variable {P : Program} {w : World} {K : PySem.W.Frag} {mg : Str → Option Value} {base : Heap} {f g gn fl g1 g2 g3 fE : Addr} {fd gd gnd dl d1 d2 d3 dE : FuncData} {C CT CS CR : Addr}
theorem scChkE : FnScope ["table", "element"] ["table", "element"] (defScope sChkE) := ⟨rfl, rfl, rfl, by decide +kernel, rfl, by decide +kernel, by decide +kernel⟩
theorem ok_chkE (F : Fun K "check_element" "check_element" sChkE f fd) (M : Mn mg) (G : FnOk P w K mg base CX0 2 g gd ["value", "limit"] (spBelow K)) (bG : Binds K gd ["value", "limit"] []) (kG : PySem.W.keepIn K (.ref g) = true) (mG : mg "is_number_below" = some (.ref g))
    (GL : FnOk P w K mg base CX0 1 fl dl ["self"] (spLenM K C)) (bL : Binds K dl ["self"] []) (hL : PySem.W.findIn K (.ref C) "__len__" = some (some (.ref fl))) (tL : PySem.W.typeIn K (.ref fl) = some (.type "function")) : FnOk P w K mg base CX0 3 f fd ["table", "element"] (spChkE K C) := by
  refine F.ok scChkE (fun vs H Q E h => ?_) (fun cdv A outer s H vs Q E hr h => ?_)
  · obtain ⟨p, a, tb, rfl, _⟩ := h
    rfl
  obtain ⟨p, a, tb, rfl, ht, ha, n16, q⟩ := h
  refine ⟨_, pss_one (ps_if (pt_not (pt_val (pe_call G hr (by rfl) mG kG bG .nil pass0 (pa_cons (pv 1) (pa_cons (pe_callB (call_lenOwn hL tL GL hr bL) (by rfl) M.len PySem.boot_len (pa_cons (pv 0) pa_nil)) pa_nil))))) pss_dead pss_nil), ?_⟩
  obtain ⟨dx, t, rs, hp, _, _⟩ := ht.ob
  refine ⟨_, rfl, _, rfl, p, dx, _, rfl, hp, p, tb, rfl, ht, tb.length, rfl, by omega, _, _, rfl, .inl ⟨_, rfl⟩, _, rfl, ?_⟩
  have e : nb (tb.length : Int) (.int (a : Int)) = true := by
    show (decide ((0 : Int) ≤ (a : Int)) && decide ((a : Int) < (tb.length : Int))) = true
    rw [decide_eq_true (by omega), decide_eq_true (by omega)]; rfl
  rw [e]
  exact iteF q
theorem scPrd : FnScope ["self", "first", "second"] ["self", "first", "second"] (defScope sPrd) := ⟨rfl, rfl, rfl, by decide +kernel, rfl, by decide +kernel, by decide +kernel⟩
theorem ok_prd (F : Fun K "product" "ProductTable.product" sPrd f fd) (T : CTx K mg C)
    (G2 : FnOk P w K mg base CX0 3 g2 d2 ["table", "element"] (spChkE K C)) (b2 : Binds K d2 ["table", "element"] []) (k2 : PySem.W.keepIn K (.ref g2) = true) (m2 : mg "check_element" = some (.ref g2)) :
    FnOk P w K mg base CX0 4 f fd ["self", "first", "second"] (spPrd K C) := by
  refine F.ok scPrd (fun vs H Q E h => ?_) (fun cdv A outer s H vs Q E hr h => ?_)
  · obtain ⟨p, a, b, tb, rfl, _⟩ := h
    rfl
  obtain ⟨p, a, b, tb, rfl, ht0, S, ha, hb, q⟩ := h
  refine ⟨_, pss_cons (ps_expr (pe_call G2 hr (by rfl) m2 k2 b2 .nil pass0 (pa_cons (pv 0) (pa_cons (pv 1) pa_nil))))
    (pss_cons (ps_expr (pe_call G2 hr (by rfl) m2 k2 b2 .nil pass0 (pa_cons (pv 0) (pa_cons (pv 2) pa_nil))))
    (pss_one (ps_ret (pe_ix ix_tup (pe_ix ix_tup (pe_fld (pv 0) rfl) (pv 1) (fun _ _ => rfl)) (pv 2) (fun _ _ => rfl))))), ?_⟩
  obtain ⟨dx, t, rs, hp, ht, pr⟩ := ht0.ob
  obtain ⟨r, h1, h2, h3⟩ := row_at pr S ha
  refine ⟨_, rfl, _, rfl, p, a, tb, rfl, ht0, ha, S.ge, _, rfl, _, rfl, p, b, tb, rfl, ht0, hb, S.ge, ?_⟩
  refine ⟨_, rfl, p, C, dx, _, _, rfl, hp, T.cl, T.nR, rfl, _, rfl, t, rs, _, _, rfl, rfl, ht, at_of (j := a) rfl h1, _, rfl, r, _, _, _, rfl, rfl, h2, at_of (j := b) rfl (h3 b hb), ?_⟩
  exact q
theorem scEiT : FnScope ["self", "value"] ["self", "value"] (defScope sEiT) := ⟨rfl, rfl, rfl, by decide +kernel, rfl, by decide +kernel, by decide +kernel⟩
theorem ok_eiT (F : Fun K "__init__" "InvalidTable.__init__" sEiT f fd) : FnOk P w K mg base CX0 1 f fd ["self", "value"] (spEi K C "value") := by
  refine F.ok scEiT (fun vs H Q E h => ?_) (fun cdv A outer s H vs Q E hr h => ?_)
  · obtain ⟨a, v, rfl, _⟩ := h
    rfl
  obtain ⟨a, v, rfl, ha, T, no, q⟩ := h
  exact ⟨_, pss_one (ps_ost (pv 0) (pv 1)), ⟨_, rfl, _, rfl, a, C, rfl, T, no, .inl ⟨ha, fun dx h1 h2 => q dx h1 h2⟩⟩⟩
theorem scEiM : FnScope ["self", "count"] ["self", "count"] (defScope sEiM) := ⟨rfl, rfl, rfl, by decide +kernel, rfl, by decide +kernel, by decide +kernel⟩
theorem ok_eiM (F : Fun K "__init__" "TooMany.__init__" sEiM f fd) : FnOk P w K mg base CX0 1 f fd ["self", "count"] (spEi K C "count") := by
  refine F.ok scEiM (fun vs H Q E h => ?_) (fun cdv A outer s H vs Q E hr h => ?_)
  · obtain ⟨a, v, rfl, _⟩ := h
    rfl
  obtain ⟨a, v, rfl, ha, T, no, q⟩ := h
  exact ⟨_, pss_one (ps_ost (pv 0) (pv 1)), ⟨_, rfl, _, rfl, a, C, rfl, T, no, .inl ⟨ha, fun dx h1 h2 => q dx h1 h2⟩⟩⟩
end
end L

set_option Elab.async false
set_option linter.all false
set_option maxRecDepth 100000
set_option maxHeartbeats 4000000
/-! Own layer: lists and tuples of data that repr shows in few signs. -/
namespace KX
open PySem PySem.Spec PyProof.Rows L2
theorem okAll {n W : Nat} : ∀ {ds : List PyData}, (∀ d, d ∈ ds → OkD n W d) → PyData.leavesShortAll 110 ds = true ∧ PyData.showableAll ds = true ∧ PyData.depthAll ds ≤ n ∧ PyData.weightAll ds ≤ ds.length * (W + 1)
  | [], _ => ⟨rfl, rfl, Nat.zero_le _, Nat.zero_le _⟩
  | d :: ds, h => by
    have hd := h d List.mem_cons_self
    obtain ⟨g2, g3, g4, g5⟩ := okAll (ds := ds) fun x hx => h x (List.mem_cons_of_mem _ hx)
    refine ⟨?_, ?_, ?_, ?_⟩
    · simp only [PyData.leavesShortAll, hd.short, g2, Bool.and_self]
    · simp only [PyData.showableAll, hd.shows, g3, Bool.and_self]
    · have := hd.deep
      simp only [PyData.depthAll]; omega
    · have := hd.wt
      simp only [PyData.weightAll, List.length_cons, Nat.succ_mul]; omega
theorem okLi {n W m : Nat} {ds : List PyData} (h : ∀ d, d ∈ ds → OkD n W d) (l : ds.length ≤ m) : OkD (n + 1) (m * (W + 1)) (.list ds) := by
  obtain ⟨g2, g3, g4, g5⟩ := okAll h
  have := Nat.mul_le_mul_right (W + 1) l
  exact ⟨by simpa only [PyData.leavesShort] using g2, by simpa only [PyData.showable] using g3, by simp only [PyData.depth]; omega, by simp only [PyData.weight]; omega⟩
theorem okTu {n W m : Nat} {ds : List PyData} (h : ∀ d, d ∈ ds → OkD n W d) (l : ds.length ≤ m) : OkD (n + 1) (m * (W + 1)) (.tuple ds) := by
  obtain ⟨g2, g3, g4, g5⟩ := okAll h
  have := Nat.mul_le_mul_right (W + 1) l
  exact ⟨by simpa only [PyData.leavesShort] using g2, by simpa only [PyData.showable] using g3, by simp only [PyData.depth]; omega, by simp only [PyData.weight]; omega⟩
/-- two items of unlike weights -/
theorem okL2 {n W : Nat} {a b : PyData} (h : OkD n W a) (k : OkD n W b) : OkD (n + 1) (2 * (W + 1)) (.list [a, b]) := okLi (fun d hd => by
  rcases List.mem_cons.mp hd with e | e
  · rw [e]; exact h
  · rw [List.mem_singleton.mp e]; exact k) (Nat.le_refl 2)
theorem okT2 {n W : Nat} {a b : PyData} (h : OkD n W a) (k : OkD n W b) : OkD (n + 1) (2 * (W + 1)) (.tuple [a, b]) := okTu (fun d hd => by
  rcases List.mem_cons.mp hd with e | e
  · rw [e]; exact h
  · rw [List.mem_singleton.mp e]; exact k) (Nat.le_refl 2)
end KX

set_option Elab.async false
set_option linter.all false
set_option maxRecDepth 100000
set_option maxHeartbeats 4000000
set_option pp.maxSteps 400
namespace L
open PySem L2 KX
/-- a class that is no builtin type's ancestor -/
structure CNb (K : PySem.W.Frag) (C : Addr) : Prop where
  ma : PySem.W.makesIn K C = true
  tt : PySem.W.typeIn K (.ref C) = some (.type "type")
theorem CNb.cl {K : PySem.W.Frag} {C : Addr} (h : CNb K C) : (PySem.W.clsIn K C).isSome = true := by
  have h := h.ma
  unfold PySem.W.makesIn at h
  unfold PySem.W.clsIn
  split at h
  · rename_i e
    rw [e]; rfl
  · exact nomatch h
theorem CNb.no {K : PySem.W.Frag} {C : Addr} (h : CNb K C) {T : String} (e : (fastBuiltinMro T).map (·.contains (.ref C)) = some false) : PySem.W.kitOne K (.type T) (.ref C) = some false := by
  unfold PySem.W.kitOne
  rw [show ((Value.type T) == (Value.ref C)) = false from rfl, if_neg Bool.false_ne_true]
  show (if ((PySem.W.clsIn K C).isSome && PySem.W.typeIn K (.ref C) == some (.type "type")) = true then PySem.W.subIn K (.type T) (.ref C) else none) = some false
  rw [h.cl, h.tt]
  have e2 : (some (Value.type "type") == some (Value.type "type")) = true := by rfl
  rw [e2]
  exact e
theorem notT_of {K : PySem.W.Frag} {C : Addr} (N : CNb K C) {H : Hp} {v : V} {d : PyData} (h : Dq H v d) : NotT K C H v := by
  cases h with
  | non => exact ⟨_, .base .non, N.no (by rfl)⟩
  | bl b => exact ⟨_, .base (.bl b), N.no (by rfl)⟩
  | int i => exact ⟨_, .base (.int i), N.no (by rfl)⟩
  | str x => exact ⟨_, .base (.str x), N.no (by rfl)⟩
  | lst e _ => exact ⟨_, .base (.lst e), N.no (by rfl)⟩
  | tup e _ => exact ⟨_, .base (.tup e), N.no (by rfl)⟩
  | dct e _ => exact ⟨_, .base (.dK e), N.no (by rfl)⟩
/-- a value that is no table, as data -/
def BV (K : PySem.W.Frag) (C : Addr) (H : Hp) (v : V) : Prop := NotT K C H v ∧ ∃ d, Dq H v d ∧ OkD 3 8000 d
theorem BV.same {K : PySem.W.Frag} {C : Addr} {H G : Hp} {v : V} (s : Same H G) (h : BV K C H v) : BV K C G v := ⟨h.1.same s, let ⟨d, a, b⟩ := h.2; ⟨d, Dq.same s _ _ a, b⟩⟩
theorem BV.of {K : PySem.W.Frag} {C : Addr} (N : CNb K C) {H : Hp} {v : V} {d : PyData} (h : Dq H v d) (ok : OkD 3 8000 d) : BV K C H v := ⟨notT_of N h, d, h, ok⟩
/-! rows as data -/
def rD (tb : List (List Int)) : List PyData := tb.map fun r => .list (iD r)
theorem rD_lay : ∀ tb : List (List Int), PyData.canLayAll0 (rD tb) = true
  | [] => by unfold rD; simp [PyData.canLayAll0]
  | r :: tb => by
    have h := rD_lay tb
    have h2 : PyData.canLay0 (.list (iD r)) = true := by simp only [PyData.canLay0]; exact iD_lay r
    show (PyData.canLay0 (.list (iD r)) && PyData.canLayAll0 (rD tb)) = true
    rw [h, h2]; rfl
theorem rD_depth : ∀ tb : List (List Int), PyData.depthAll (rD tb) ≤ 1
  | [] => by unfold rD; simp [PyData.depthAll]
  | r :: tb => by
    have h := rD_depth tb
    have h2 : PyData.depth (.list (iD r)) = 1 := by simp only [PyData.depth, iD_depth r]
    show max (PyData.depth (.list (iD r))) (PyData.depthAll (rD tb)) ≤ 1
    omega
theorem rD_shaped (tb : List (List Int)) : SeqAt.shaped (.list (rD tb)) = true := by
  have h2 : PyData.depth (.list (rD tb)) ≤ 2 := by simp only [PyData.depth]; have := rD_depth tb; omega
  have h1 : PyData.canLay0 (.list (rD tb)) = true := by simp only [PyData.canLay0]; exact rD_lay tb
  show (PyData.canLay0 (.list (rD tb)) && decide (PyData.depth (.list (rD tb)) ≤ 64)) = true
  rw [Bool.and_eq_true]
  exact ⟨h1, decide_eq_true (by omega)⟩
theorem rD_dp {K : PySem.W.Frag} {G : Hp} {rs : List Addr} {tb : List (List Int)} (h : Paired (fun r row => G r = some (.lst (row.map V.int))) rs tb) : DpAll K G (rs.map V.ref) (rD tb) := by
  induction h with
  | nil => exact .nil
  | cons h _ ih => exact .cons (.lst (SqL.of h) (dp_ints _)) ih
theorem RowsL.dp {K : PySem.W.Frag} {G : Hp} {v : V} {tb : List (List Int)} (h : RowsL G v tb) : Dp K G v (.list (rD tb)) := by
  obtain ⟨a, rs, rfl, e, pr⟩ := h
  exact .lst (SqL.of e) (rD_dp pr)
theorem rD_refl_all : ∀ tb : List (List Int), PyData.eqvAll (rD tb) (rD tb) = true
  | [] => by unfold rD; simp [PyData.eqvAll]
  | r :: tb => by
    have h := rD_refl_all tb
    have h2 := iD_eqv r r
    rw [decide_eq_true rfl] at h2
    show PyData.eqvAll (.list (iD r) :: rD tb) (.list (iD r) :: rD tb) = true
    simp only [PyData.eqvAll, h, h2, Bool.and_self]
theorem rD_refl (tb : List (List Int)) : PyData.eqv (.list (rD tb)) (.list (rD tb)) = true := by simp only [PyData.eqv]; exact rD_refl_all tb
theorem szl (n : Nat) (h : n ≤ 5000) : n ≤ sizeLine := Nat.le_trans h (by rw [sizeLine_eq]; omega)
/-- a table made of the rows at v -/
theorem init_at {K : PySem.W.Frag} {C : Addr} {H : Hp} {v : V} {tb : List (List Int)} {x dx : Addr} {Q : Hp → Prop} {E : XK} (R : RowsL H v tb) (T : Tb tb) (hx : H x = none) (hdx : H dx = none) (nex : dx ≠ x) (q : ∀ J, Same H J → TbA K C J x tb → Q J) :
    spInit K C (.ref x :: ([v] ++ [])) (upd (upd H dx (.own x)) x (.ins C dx [])) (fun u H2 => u = .non ∧ Q H2) E := by
  have sn : Same H (upd (upd H dx (.own x)) x (.ins C dx [])) := fun b o e => by rw [upd_ne (ne_of_none e hx), upd_ne (ne_of_none e hdx)]; exact e
  have nD : ∀ b, v = .ref b → b ≠ x := fun b e => by
    obtain ⟨_, _, e', ed, _⟩ := id R
    rw [e'] at e
    cases e
    exact ne_of_none ed hx
  exact ⟨x, dx, v, tb, rfl, upd_same, (R.same sn).rws, T.sq, T.as, nD, fun J tx kx => ⟨rfl, q J (fun b o e => kx b o (ne_of_none e hx) (sn b o e)) tx⟩⟩
theorem iteTt {c : Bool} {A B : Prop} (e : c = true) (h : A) : if c = true then A else B := by rw [if_pos e]; exact h
theorem iteFf {c : Bool} {A B : Prop} (e : c = false) (h : B) : if c = true then A else B := by rw [if_neg (by rw [e]; exact Bool.false_ne_true)]; exact h
end L

set_option Elab.async false
set_option linter.all false
set_option maxRecDepth 100000
set_option maxHeartbeats 4000000
/-! Own layer: == and != of two instances of one class of the text, != of lists whose items are the same. -/
namespace KX
open PySem PySem.Spec PyProof.Rows L2
section
open PySem.W PySem.SeqAt
variable {prog : Program} {w : World} {A : Around} {E : Value → Shared → Prop} {s : Shared} {K : Frag} {x y C L f : Addr} {h₀ : Heap} {m : Str → Option Value} {ox : Obj} {od : Option Obj}
theorem ifBound_objNe {M : Model} {args : List Value} {Q : Option Value → Shared → Prop} (X : K.In s.heap) (I : InstAt s.heap x ox C od) (hs : findIn K (.ref C) "__ne__" = some (some (.builtin "object.__ne__")))
    (h : wpAny M A (call (.builtin "object.__ne__") (.ref x :: args)) (fun v => Q (some v)) E s) : wpAny M A (callSpecialIfBound? (.ref x) "__ne__" args) Q E s := by
  simp only [callSpecialIfBound?, bindSpecialIfBound?]
  refine wpAny_holding (wpAny_bind (wpAny_bind (wpAny_bind (I.type.here ((looks_findIn X hs).here ?_)))))
  refine wpAny_bind (wpAny_askSetting (wpAny_ite ?_))
  have fin : wpAny M A (call (.builtin "object.__ne__") ([.ref x] ++ args) >>= fun v => pure (some v)) Q E s := wpAny_bind (wpAny_mono h (fun v s' h' => wpAny_pure h') fun _ _ h' => h')
  split
  · exact wpAny_bind (wpAny_of_eq (F.cmp_object.ne.bind _) (wpAny_pure (by exact fin)))
  · exact wpAny_tryCatch (wpAny_bind (wpAny_of_eq (F.cmp_object.ne.bind _) (wpAny_pure (by exact fin))))
theorem entry_ne {Q : Fin → Shared → Prop} (hu : A.units < cLine) (X : K.In s.heap) (I : InstAt s.heap x ox C od) (hs : findIn K (.ref C) "__eq__" = some (some (.ref f))) (hf : isFn K (.ref f) = true)
    (hc : wpAny (model prog w) A (call (.ref f) [.ref x, .ref y]) (fun v s' => ∃ b, v = .bool b ∧ Q (.done (.ret (.bool (!b)))) s') E s) :
    wpAny (model prog w) A (Builtin.«object.__ne__» ⟨[.ref x, .ref y], []⟩) Q E s := by
  unfold Builtin.«object.__ne__»
  repeat (first
    | with_reducible refine wpAny_cRoomFor hu ?_
    | (refine wpAny_bind (m := callSpecialIfBound? (.ref x) (Str.ofString "__eq__") [.ref y])
        (ifBound_K X I hs hf (wpAny_mono hc (fun r s' hr => by
          obtain ⟨b, rfl, hq⟩ := hr
          repeat (first | exact hq | exact wpAny_pure hq | exact wpAny_truthy_bool hq | (refine wpAny_bind (m := truthy (.bool _)) (wpAny_truthy_bool ?_)) | wp_step)) fun _ _ e => e)))
    | wp_step)
theorem call_objNe {Q : Value → Shared → Prop} (hu : A.in1.units < cLine) (X : K.In s.heap) (I : InstAt s.heap x ox C od) (hm : mroIn K C (.type "object") = some true) (hs : findIn K (.ref C) "__eq__" = some (some (.ref f))) (hf : isFn K (.ref f) = true)
    (hc : wpAny (model prog w) A.in1 (call (.ref f) [.ref x, .ref y]) (fun v s' => ∃ b, v = .bool b ∧ Q (.bool (!b)) s') E s) : wpAny (model prog w) A (call (.builtin "object.__ne__") [.ref x, .ref y]) Q E s := by
  refine wpAny_call (codeAny_call_builtin F.cmp_object.ne.plain F.cmpEntry_ne (check_slot F.cmpKind_ne F.cmpSplit_ne (I.type.andThen (looks_mroIn X hm)) (F.cmpArgs_ne _ _) (entry_ne hu X I hs hf (wpAny_mono hc (fun v s' hv => ?_) fun _ _ e => e))))
  obtain ⟨b, rfl, hq⟩ := hv
  first | exact ⟨b, rfl, hq⟩ | exact ⟨b, rfl, _, rfl, hq⟩
theorem ne_own {Q : Value → Shared → Prop} (hu : A.in1.units < cLine) (hu0 : A.units < cLine) (X : K.In s.heap) (I : InstAt s.heap x ox C od) (hy : Looks (model prog w) s.heap (typeOf (.ref y)) (.ref C)) (hm : mroIn K C (.type "object") = some true)
    (hne : findIn K (.ref C) "__ne__" = some (some (.builtin "object.__ne__"))) (hs : findIn K (.ref C) "__eq__" = some (some (.ref f))) (hf : isFn K (.ref f) = true)
    (hc : wpAny (model prog w) A.in1 (call (.ref f) [.ref x, .ref y]) (fun v s' => ∃ b, v = .bool b ∧ Q (.bool (!b)) s') E s) : wpAny (model prog w) A (richCompare .NotEq (.ref x) (.ref y)) Q E s := by
  have one : wpAny (model prog w) A (tryCompare (.ref x) "__ne__" (.ref y)) (fun r s' => ∃ v, r = some v ∧ Q v s') E s := by
    unfold tryCompare
    refine wpAny_bind (ifBound_objNe X I hne (call_objNe hu X I hm hs hf (wpAny_mono hc (fun v s' hv => ?_) fun _ _ e => e)))
    obtain ⟨b, rfl, hq⟩ := hv
    exact ⟨b, rfl, wpAny_pure ⟨_, rfl, hq⟩⟩
  unfold richCompare
  simp only [oneThing_ref]
  rw [cmpInfo_NotEq]
  dsimp only
  refine wpAny_holding (wpAny_bind (wpAny_cRoomFor hu0 ?_))
  refine wpAny_bind (I.type.here (wpAny_bind (hy.here ?_)))
  rw [show (Value.ref C != Value.ref C) = false from by simp]
  simp only [Bool.false_eq_true, if_false]
  refine wpAny_bind (wpAny_pure ?_)
  simp only [Bool.false_eq_true, if_false]
  refine wpAny_bind (wpAny_mono one (fun r s' z => ?_) fun _ _ e => e)
  obtain ⟨v, rfl, hq⟩ := z
  exact wpAny_pure hq
end
section
variable {X : Cx} {k : Nat} {C f : Addr} {fd : FuncData} {ps : List Str} {sp : Sp}
/-- x == y, x != y of two instances: what the text's own == promises -/
def rEqO (C : Addr) (sp : Sp) : R2 := fun x y H Q => ∃ a b dx dy fs gs, x = .ref a ∧ y = .ref b ∧ H a = some (.ins C dx fs) ∧ H b = some (.ins C dy gs) ∧ sp [.ref a, .ref b] H (fun v H1 => ∃ c, v = .bl c ∧ Q (.bl c) H1) (fun _ _ _ => False)
def rNeO (C : Addr) (sp : Sp) : R2 := fun x y H Q => ∃ a b dx dy fs gs, x = .ref a ∧ y = .ref b ∧ H a = some (.ins C dx fs) ∧ H b = some (.ins C dy gs) ∧ sp [.ref a, .ref b] H (fun v H1 => ∃ c, v = .bl c ∧ Q (.bl (!c)) H1) (fun _ _ _ => False)
theorem op_eqO (F : FnOk X.prog X.w X.K X.mg X.base CX0 k f fd ps sp) (hr : Room k X.A) (hs : PySem.W.findIn X.K (.ref C) "__eq__" = some (some (.ref f))) (hf : PySem.W.isFn X.K (.ref f) = true) (hb : Binds X.K fd ps []) : OpR X (compareOp .Eq) (rEqO C sp) := by
  intro pins s σ H x y v u Q I rx ry h
  obtain ⟨a, b, dx, dy, fs, gs, rfl, rfl, ha, hb', q⟩ := h
  cases rx
  cases ry
  obtain ⟨mA, J, _⟩ := ins_get I.hok ha
  obtain ⟨mB, J', _⟩ := ins_get I.hok hb'
  obtain ⟨od, J, _⟩ := J.look
  obtain ⟨od', J', _⟩ := J'.look
  obtain ⟨m, hF⟩ := I.fr
  have hl := F.len _ _ _ _ q
  have r2 : Vals [V.ref a, V.ref b] [Value.ref a, Value.ref b] := .cons rfl (.cons rfl .nil)
  show wpAny (model X.prog X.w) X.A (richCompare .Eq (.ref a) (.ref b)) (EP X pins σ Q) X.xe s
  refine PySem.W.cmp_K (op := .Eq) (tb := .ref C) hr.units0 hF I.ok.mod.kin J J'.type (by simp [PySem.W.notFirst]) hs hf ?_
  refine wpAny_call (codeAny_mono (F.run X.A X.stack s H ⟨[.ref a, .ref b], []⟩ [.ref a, .ref b] [.ref a, .ref b] _ _ hr I.env0 (by
    have := hb s [.ref a, .ref b] I.kIn (by simpa using hl)
    simpa using this) r2 q) fun o s' hq => ?_)
  match o, hq with
  | .error u, hq => exact hq.elim
  | .ok (.ret u), hq =>
    obtain ⟨v, H1, I1, rv, c, rfl, q'⟩ := I.after hq
    obtain rfl : u = Value.bool c := rv
    exact ⟨.bl c, H1, I1, rfl, q'⟩
  | .ok .next, hq => exact hq.elim
  | .ok .brk, hq => exact hq.elim
  | .ok .cont, hq => exact hq.elim
theorem op_neO (F : FnOk X.prog X.w X.K X.mg X.base CX0 k f fd ps sp) (hr : Room (k + 1) X.A) (hm : PySem.W.mroIn X.K C (.type "object") = some true) (hne : PySem.W.findIn X.K (.ref C) "__ne__" = some (some (.builtin "object.__ne__")))
    (hs : PySem.W.findIn X.K (.ref C) "__eq__" = some (some (.ref f))) (hf : PySem.W.isFn X.K (.ref f) = true) (hb : Binds X.K fd ps []) : OpR X (compareOp .NotEq) (rNeO C sp) := by
  intro pins s σ H x y v u Q I rx ry h
  obtain ⟨a, b, dx, dy, fs, gs, rfl, rfl, ha, hb', q⟩ := h
  cases rx
  cases ry
  obtain ⟨mA, J, _⟩ := ins_get I.hok ha
  obtain ⟨mB, J', _⟩ := ins_get I.hok hb'
  obtain ⟨od, J, _⟩ := J.look
  obtain ⟨od', J', _⟩ := J'.look
  have hl := F.len _ _ _ _ q
  have r2 : Vals [V.ref a, V.ref b] [Value.ref a, Value.ref b] := .cons rfl (.cons rfl .nil)
  show wpAny (model X.prog X.w) X.A (richCompare .NotEq (.ref a) (.ref b)) (EP X pins σ Q) X.xe s
  refine ne_own hr.in1.units0 hr.units0 I.kIn J J'.type hm hne hs hf ?_
  refine wpAny_call (codeAny_mono (F.run X.A.in1 X.stack s H ⟨[.ref a, .ref b], []⟩ [.ref a, .ref b] [.ref a, .ref b] _ _ hr.in1 I.env0.in1 (by
    have := hb s [.ref a, .ref b] I.kIn (by simpa using hl)
    simpa using this) r2 q) fun o s' hq => ?_)
  match o, hq with
  | .error u, hq => exact hq.elim
  | .ok (.ret u), hq =>
    obtain ⟨v, H1, I1, rv, c, rfl, q'⟩ := I.after hq
    obtain rfl : u = Value.bool c := rv
    exact ⟨c, rfl, .bl (!c), H1, I1, rfl, q'⟩
  | .ok .next, hq => exact hq.elim
  | .ok .brk, hq => exact hq.elim
  | .ok .cont, hq => exact hq.elim
/-- a value that is equal to itself at sight -/
def sameV : V → Bool
  | .non | .bl _ | .int _ | .str _ | .ref _ => true
  | _ => false
/-- xs != ys of two lists with the very same items -/
def rNeS (K : PySem.W.Frag) : R2 := fun x y H Q => ∃ a b xs, x = .ref a ∧ y = .ref b ∧ SqL K H a xs ∧ SqL K H b xs ∧ xs.all sameV = true ∧ Q (.bl false) H
theorem op_neS (hu : X.A.units + 64 < cLine) : OpR X (compareOp .NotEq) (rNeS X.K) := by
  intro pins s σ H x y v u Q I rx ry h
  obtain ⟨a, b, xs, rfl, rfl, ha, hb, hx, q⟩ := h
  cases rx
  cases ry
  obtain ⟨its, rv, ⟨⟨cls, dd, data, sl⟩, n, ho, hc, hd, hdat⟩, hz⟩ := I.list ha
  obtain ⟨its2, rv2, ⟨⟨cls2, dd2, data2, sl2⟩, n2, ho2, hc2, hd2, hdat2⟩, hz2⟩ := I.list hb
  simp only at hc hd hdat hc2 hd2 hdat2
  subst hc hdat hc2 hdat2
  show wpAny (model X.prog X.w) X.A (richCompare .NotEq (.ref a) (.ref b)) (EP X pins σ Q) X.xe s
  have hsz : its.toArray.size = its2.toArray.size := by rw [List.size_toArray, List.size_toArray, ← rv.length, ← rv2.length]
  refine wpAny_richCompare_same_room (op := .NotEq) ⟨_, ho, rfl⟩ ⟨_, ho2, rfl⟩ F.slot_list_ne (GQ.call_here F.slot_list_ne ⟨_, ho, rfl⟩ F.entry_list_ne (F.args_list_ne_2 _ _) ?_) (by omega)
  refine PySem.SeqAt.list_neAt a b its.toArray its2.toArray n n2 dd dd2 sl sl2 hsz (fun _ => true) X.prog X.w X.A _ s ⟨ho, ho2, fun j h1 h2 => ?_, ?_⟩
  · have k1 : j < its.length := by simpa using h1
    have k2 : j < its2.length := by simpa using h2
    have kx : j < xs.length := by rw [rv.length]; exact k1
    obtain ⟨u1, e1, r1⟩ := rv.get (List.getElem?_eq_getElem kx)
    obtain ⟨u2, e2, r2⟩ := rv2.get (List.getElem?_eq_getElem kx)
    have g1 : its.toArray[j] = u1 := by
      rw [List.getElem?_eq_getElem k1] at e1
      simpa using Option.some.inj e1
    have g2 : its2.toArray[j] = u2 := by
      rw [List.getElem?_eq_getElem k2] at e2
      simpa using Option.some.inj e2
    rw [g1, g2]
    have hxj := List.all_eq_true.mp hx _ (List.getElem_mem kx)
    generalize xs[j] = z at r1 r2 hxj
    have flat : flatV z = true → eqV z z = true → SeqAt.EqAt X.A.in1 s u1 u2 true := fun f e => by
      have := eqAt_V (A := X.A.in1) (s := s) r1 r2 f f
      rw [e] at this
      exact this
    cases z with
    | non => exact flat rfl rfl
    | bl b => exact flat rfl (by cases b <;> rfl)
    | int i => exact flat rfl (beq_self_eq_true _)
    | str x => exact flat rfl (beq_self_eq_true _)
    | ref p =>
      cases r1
      cases r2
      exact SeqAt.EqAt.same (A := X.A.in1) (s := s) (.ref p)
    | _ => cases hxj
  · have e : (!(List.range its.toArray.size).all fun _ => true) = false := by
      rw [List.all_eq_true.mpr fun _ _ => rfl]; rfl
    rw [e]
    exact ⟨(fun z => nomatch z), .bl false, H, I, rfl, q⟩
end
section
variable {X : Cx} {CX : CXT} {k : Nat} {f C : Addr} {fd : FuncData} {ps : List Str} {sp : Sp} {E : L2.St → XK} {m : Str} {pos apos : Pos} {e o : Expr} {es : List Expr} {ta : TE} {t : TA}
/-- o.m(e, ..) in a try: what it raises is taken with the slots as they are -/
def tMethS (C : Addr) (m : Str) (sp : Sp) (E : L2.St → XK) (ta : TE) (t : TA) : TE := fun σ H Q => ta σ H fun x H1 => ∃ (a dx : Addr) (fs : List (Str × V)), x = .ref a ∧ H1 a = some (.ins C dx fs) ∧ fs.lookup m = none ∧ t σ H1 fun vs H2 => sp (.ref a :: vs) H2 Q (E σ)
theorem pe_methS {pl : Sem Bool} (he : PE X o ta) (c : Cls X.K C) (hm : Meth X.K C m f) (F : FnOk X.prog X.w X.K X.mg X.base CX k f fd ps sp) (hr : Room k X.A) (hb : Binds X.K fd ps []) (hx : ∀ σ, PassesAt CX X σ (E σ)) (ha : PA X (e :: es) t)
    (hst : starEach (e :: es) X.env = (false, eval e X.env) :: starEach es X.env := by rfl) (hpl : (backTo pos (starEach es X.env)).any (·.1) = false := by rfl)
    (ht : eval (.Call (.Attribute o m apos) (e :: es) [] pos) X.env = (do
      let ov ← eval o X.env
      standAt apos.atName
      let (f, first) ← holding [ov] (getMethod ov m pl)
      callWith pos f first (backTo pos (starEach (e :: es) X.env)) (backToKw pos (keywordEach [] X.env))) := by rfl) :
    PE X (.Call (.Attribute o m apos) (e :: es) [] pos) (tMethS C m sp E ta t) := by
  refine ⟨fun pins s σ H Q I h => ?_⟩
  refine PySem.W.methodCall_KW (pl := pl) (thn (he.run pins s σ H _ I h) fun u s1 ⟨x, H1, I1, rx, a, dx, fs, ex, ea, l, q⟩ => ?_) ht
  subst ex
  obtain rfl : u = Value.ref a := rx
  refine getmeth_ok I1 ea c hm l ?_
  refine PySem.W.callWith_K (first := [.ref a]) (h₀ := X.base) I.ok.mod.kin hm.kp (thn (ha.run pos pins s1 σ H1 _ I1 q) fun us s2 ⟨vs, H2, I2, r, q2⟩ => ⟨I2.kIn, ?_⟩) hst hpl
  exact run_fnS (us := .ref a :: us) (vs := .ref a :: vs) F hr hb (hx σ) I2 (.cons rfl r) q2
end
section
variable {X : Cx}
theorem flat_intsT (ns : List Int) : (ns.map V.int).all flatV = true := by
  rw [List.all_map]
  exact List.all_eq_true.mpr fun _ _ => rfl
/-- t.index(i), t a tuple of whole numbers: the first place -/
def rIndexT (K : PySem.W.Frag) : V → List V → Hp → VK → Prop := fun x xs H Q => ∃ (p : Addr) (ns : List Int) (i : Int) (j : Nat), x = .ref p ∧ xs = [.int i] ∧ SqT K H p (ns.map V.int) ∧ ns[j]? = some i ∧ (∀ m, m < j → ns[m]? ≠ some i) ∧ Q (.int (j : Nat)) H
theorem mt_tidx {K : PySem.W.Frag} (hK : X.K = K) : MtR X "tuple.index" (rIndexT K) := by
  subst hK
  intro pins s σ H x xs v us Q I rx rs h
  obtain ⟨p, ys, z, j, rfl, rfl, hq, hy, hno, q⟩ := h
  cases rx
  obtain ⟨u, rfl, t, rfl⟩ := vals1 rs
  obtain ⟨its, r, pl, hz⟩ := I.tuple hq
  obtain ⟨⟨cls, dd, dt, sl⟩, ho, hc, n, hd⟩ := pl
  simp only at hc hd
  subst hc
  subst hd
  have hl : its.toArray.size = ys.length := by rw [List.size_toArray, ← r.length, List.length_map]
  have hj : j < its.toArray.size := by rw [hl]; exact (List.getElem?_eq_some_iff.mp hy).1
  have at' : ∀ (m : Nat) (hm : m < its.toArray.size), ∃ y t', ys[m]? = some y ∧ its.toArray[m] = Value.int y t' := fun m hm => by
    have hm' : m < ys.length := by rw [← hl]; exact hm
    obtain ⟨w, hw, t', hw'⟩ := r.get (i := m) (x := .int ys[m]) (by simp [hm'])
    refine ⟨ys[m], t', List.getElem?_eq_getElem hm', ?_⟩
    have e := (List.getElem?_eq_some_iff.mp hw).2
    rw [← hw', ← e]
    simp
  refine call_meets PySem.F.slot_tuple_index ⟨_, ho, rfl⟩ PySem.F.entry_tuple_index (PySem.F.args_tuple_index_2 _ _) (TI.tuple_indexAt p its.toArray n dd sl (.int z t) (eqU (.int z)) j hj ?_ ?_)
    ⟨ho, fun w hw => mem_eqAt (x := .int z) ⟨t, rfl⟩ rfl r (flat_intsT ys) w (by simpa using hw), ⟨.int (j : Nat), H, I.tok _, ⟨_, rfl⟩, q⟩⟩
  · obtain ⟨y, t', h1, h2⟩ := at' j hj
    rw [hy] at h1
    cases h1
    rw [h2]
    show (z == z) = true
    exact beq_self_eq_true z
  · intro m hm hmj
    obtain ⟨y, t', h1, h2⟩ := at' m hm
    rw [h2]
    show (y == z) = false
    exact beq_eq_false_iff_ne.mpr fun e => hno m hmj (e ▸ h1)
end
/-! ### a tuple whose object is known: it has no attributes of its own -/
def TupF (H : Hp) (a : Addr) (xs : List V) : Prop := ∃ ob : Obj, H a = some (.frz ob (.tup xs)) ∧ ob.dict = none
theorem TupF.sq {K : PySem.W.Frag} {H : Hp} {a : Addr} {xs : List V} (h : TupF H a xs) : SqT K H a xs := let ⟨ob, e, _⟩ := h; .inl (.inr ⟨ob, e⟩)
theorem TupF.ext {H J : Hp} {a : Addr} {xs : List V} (s : ∀ b o, H b = some o → J b = some o) (h : TupF H a xs) : TupF J a xs := let ⟨ob, e, n⟩ := h; ⟨ob, s _ _ e, n⟩
section
variable {X : Cx} {o e : Expr} {es : List Expr} {to : TE} {t : TA} {name : Str} {apos cpos : Pos} {id : String} {r : V → List V → Hp → VK → Prop}
theorem call_tuple_F {K : PySem.W.Frag} (hK : X.K = K) : CallR X (.type "tuple") (fun xs H Q => ∃ p ys, xs = [.ref p] ∧ SqL K H p ys ∧ ∀ (l : Addr) (ob : Obj), H l = none → ob.dict = none → Q (.ref l) (upd H l (.frz ob (.tup ys)))) := by
  subst hK
  intro pins s σ H xs us Q I r h
  obtain ⟨p, ys, rfl, hq, q⟩ := h
  obtain ⟨u, rfl, rx⟩ := vals1 r
  cases rx
  obtain ⟨its, r', pl, hz⟩ := I.list hq
  have hlen := r'.length
  refine call_tuple_list pl.isList (fun h' kp => ?_) (by simp only [List.size_toArray] <;> omega)
  have I1 : Inv X pins σ H { s with heap := h' } := I.kept (t' := s.toks) kp
  have I2 : Inv X pins σ (upd H h'.objs.size (.frz { cls := .type "tuple", data := .seq its.toArray } (.tup ys))) { s with heap := h'.push { cls := .type "tuple", data := .seq its.toArray } } :=
    I1.laid (t' := s.toks) (fun b o e => Heap.get?_push_of_some _ e) (Nat.le_refl _) (show ObjOk X.prog X.w _ _ _ (.frz _ (.tup ys)) from ⟨Heap.get?_push_size _ rfl, hz, its, r', IsTup.new _ _⟩)
  exact ⟨.ref h'.objs.size, _, I2, rfl, q _ _ (I1.hok.fresh (Nat.le_refl _)) rfl⟩
def tBT (r : V → List V → Hp → VK → Prop) (to : TE) (t : TA) : TE := fun σ H Q => to σ H fun x H1 => (∃ p xs, x = .ref p ∧ TupF H1 p xs) ∧ t σ H1 fun vs H2 => r x vs H2 Q
theorem pe_bmT (pa : PlainAttrs "tuple") (slot : Slot "tuple" name id) (hty : typeOf (.builtin id) = pure (.type "method_descriptor")) (hm : MtR X id r) (ho : PE X o to) (ha : PA X (e :: es) t)
    (hbase : attributeBase o name X.env (eval o X.env) = eval o X.env := by rfl)
    (hfew : ((backTo cpos (starEach (e :: es) X.env)).all (fun x => !x.1) && (backToKw cpos (keywordEach [] X.env)).all (fun x => x.1.isSome)
      && decide ((e :: es).length + ([] : List Keyword).length + (if ([] : List Keyword).isEmpty then 0 else 1) < 30)) = true := by rfl)
    (hline : (apos.endLine == cpos.line) = true := by rfl) (hs : starEach (e :: es) X.env = (false, eval e X.env) :: starEach es X.env := by rfl) (hplain : (backTo cpos (starEach es X.env)).any (·.1) = false := by rfl) :
    PE X (.Call (.Attribute o name apos) (e :: es) [] cpos) (tBT r to t) := by
  refine ⟨fun pins s σ H Q I h => ?_⟩
  refine wpAny_Call_method_late hbase hfew hline rfl (thn (ho.run pins s σ H _ I h) fun v s1 ⟨x, H1, I1, r1, ⟨p, xs, ex, ob, hF, hd⟩, q1⟩ => ?_)
  subst ex
  cases r1
  obtain ⟨e1, _, its, _, o', e2, hc, _⟩ := (show ObjOk X.prog X.w H1 s1.heap p (.frz ob (.tup xs)) from I1.hok p _ hF)
  rw [e1] at e2
  cases e2
  refine ⟨"tuple", id, pa, slot, hty, ⟨ob, e1, hc⟩, fun a ea => ?_, ?_⟩
  · cases ea
    exact ⟨ob, e1, hd⟩
  have hA := ha.run cpos pins s1 σ H1 _ I1 q1
  rw [hs] at hA ⊢
  refine Calls.callWith_builtin (by show (false || (backTo cpos (starEach es X.env)).any (·.1)) = false; rw [hplain] <;> rfl) (Calls.evalArgs_plain ?_)
  exact thn hA fun us s2 ⟨vs, H2, I2, r2, q2⟩ => hm pins s2 σ H2 (.ref p) vs _ us Q I2 rfl r2 q2
end
end KX

set_option Elab.async false
set_option linter.all false
set_option maxRecDepth 100000
set_option maxHeartbeats 4000000
/-! Own layer: min of a list of pairs (int, list of ints): an item with the least first part. -/
namespace KX
open PySem PySem.Spec PyProof.Rows L2
/-- v is the pair of p's number and a list of p's numbers -/
def PairAt (H : Hp) (v : V) (p : Int × List Int) : Prop := ∃ t m, v = .ref t ∧ H t = some (.tup [.int p.1, .ref m]) ∧ H m = some (.lst (p.2.map V.int))
theorem PairAt.dq {H : Hp} {v : V} {p : Int × List Int} (h : PairAt H v p) : Dq H v (PySem.W.Datum.toD p) := by
  obtain ⟨t, m, rfl, e1, e2⟩ := h
  have go : ∀ l : List Int, DqAll H (l.map V.int) (l.map PySem.W.Datum.toD) := fun l => by
    induction l with
    | nil => exact .nil
    | cons x l ih => exact .cons (.int x) ih
  exact .tup e1 (.cons (.int _) (.cons (.lst e2 (go _)) .nil))
theorem pairs_dq {H : Hp} {vs : List V} {ps : List (Int × List Int)} (h : Paired (PairAt H) vs ps) : DqAll H vs (ps.map PySem.W.Datum.toD) := by
  induction h with
  | nil => exact .nil
  | cons h _ ih => exact .cons h.dq ih
theorem lt_fst {p q : Int × List Int} (h : PySem.W.DatumOrd.lt p q = true) : p.1 ≤ q.1 := by
  have h : (if p.1 = q.1 then PySem.W.DatumOrd.lt p.2 q.2 else decide (p.1 < q.1)) = true := h
  split at h
  · rename_i e; rw [e]; exact Int.le_refl _
  · exact Int.le_of_lt (of_decide_eq_true h)
theorem nlt_fst {p q : Int × List Int} (h : ¬ PySem.W.DatumOrd.lt p q = true) : q.1 ≤ p.1 := by
  have h : ¬ (if p.1 = q.1 then PySem.W.DatumOrd.lt p.2 q.2 else decide (p.1 < q.1)) = true := h
  split at h
  · rename_i e; rw [e]; exact Int.le_refl _
  · have : ¬ p.1 < q.1 := fun z => h (decide_eq_true z)
    omega
theorem minOf_fst : ∀ (xs : List (Int × List Int)) (x : Int × List Int), (PySem.W.minOf x xs).1 ≤ x.1 ∧ ∀ q, q ∈ xs → (PySem.W.minOf x xs).1 ≤ q.1
  | [], x => ⟨Int.le_refl _, fun _ z => nomatch z⟩
  | y :: xs, x => by
    have e : PySem.W.minOf x (y :: xs) = PySem.W.minOf (if PySem.W.DatumOrd.lt y x = true then y else x) xs := rfl
    rw [e]
    obtain ⟨h1, h2⟩ := minOf_fst xs (if PySem.W.DatumOrd.lt y x = true then y else x)
    by_cases c : PySem.W.DatumOrd.lt y x = true
    · rw [if_pos c] at h1 h2 ⊢
      refine ⟨Int.le_trans h1 (lt_fst c), fun q hq => ?_⟩
      rcases List.mem_cons.mp hq with rfl | hq
      · exact h1
      · exact h2 q hq
    · rw [if_neg c] at h1 h2 ⊢
      refine ⟨h1, fun q hq => ?_⟩
      rcases List.mem_cons.mp hq with rfl | hq
      · exact Int.le_trans h1 (nlt_fst c)
      · exact h2 q hq
theorem minOf_mem : ∀ (xs : List (Int × List Int)) (x : Int × List Int), PySem.W.minOf x xs ∈ x :: xs
  | [], x => List.mem_cons_self
  | y :: xs, x => by
    have e : PySem.W.minOf x (y :: xs) = PySem.W.minOf (if PySem.W.DatumOrd.lt y x = true then y else x) xs := rfl
    rw [e]
    by_cases c : PySem.W.DatumOrd.lt y x = true
    · rw [if_pos c]
      exact List.mem_cons_of_mem _ (minOf_mem xs y)
    · rw [if_neg c]
      rcases List.mem_cons.mp (minOf_mem xs x) with h | h
      · rw [h]; exact List.mem_cons_self
      · exact List.mem_cons_of_mem _ (List.mem_cons_of_mem _ h)
theorem paired_get {α β : Type} {R : α → β → Prop} : ∀ {as : List α} {bs : List β} {i : Nat} {a : α}, Paired R as bs → as[i]? = some a → ∃ b, bs[i]? = some b ∧ R a b
  | _, _, _, _, .nil, e => by simp at e
  | _, _, 0, _, .cons h _, e => by simp at e; subst e; exact ⟨_, rfl, h⟩
  | _, _, i + 1, a, .cons _ t, e => by
    obtain ⟨b, h1, h2⟩ := paired_get (i := i) (a := a) t (by simpa using e)
    exact ⟨b, by simpa using h1, h2⟩
section
variable {X : Cx}
/-- min(xs), xs a list of pairs (int, list of ints) -/
def rMinP (K : PySem.W.Frag) : List V → Hp → VK → Prop := fun xs H Q => ∃ (l : Addr) (vs : List V) (ps : List (Int × List Int)), xs = [.ref l] ∧ SqL K H l vs ∧ Paired (PairAt H) vs ps ∧ vs ≠ [] ∧
  ∀ (j : Nat) (v : V) (p : Int × List Int), vs[j]? = some v → ps[j]? = some p → (∀ q, q ∈ ps → p.1 ≤ q.1) → Q v H
theorem call_minP {K : PySem.W.Frag} (hK : X.K = K) (hc : X.calm = true) (hu : X.A.units + 64 < cLine) : CallR X (.builtin "min") (rMinP K) := by
  subst hK
  intro pins s σ H xs us Q I r h
  obtain ⟨l, vs, ps, rfl, hs, hp, ne, q⟩ := h
  obtain ⟨its, rv, hl, _⟩ := I.list hs
  rw [Vals.ref1 r]
  match ps, vs, hp, ne with
  | [], _, .nil, ne => exact absurd rfl ne
  | p :: ps, vs, hp, _ =>
    obtain ⟨as, hr, _⟩ := Dq.readsAll I _ _ _ (pairs_dq hp) rv
    refine PySem.W.min_list_datum (x := p) (xs := ps) (I.ok.hd hc) hl.isList ⟨as, by simpa using hr⟩ (by show X.A.units + 1 + _ < _; simp only [PySem.W.Datum.depth]; omega) fun i u h' tk hi hm hk => ?_
    have hi' : its[i]? = some u := by simpa using hi
    have hlen := rv.length
    have il : i < its.length := (List.getElem?_eq_some_iff.mp hi').1
    obtain ⟨u', e', r'⟩ := rv.get (List.getElem?_eq_getElem (show i < vs.length by omega))
    rw [hi'] at e'
    cases e'
    obtain ⟨pi, hpi, hat⟩ := paired_get hp (List.getElem?_eq_getElem (show i < vs.length by omega))
    refine ⟨vs[i], H, I.kept hk, r', q i _ pi (List.getElem?_eq_getElem _) hpi fun z hz => ?_⟩
    obtain ⟨bs, rd⟩ := hm
    obtain ⟨cs, rd', _⟩ := Dq.reads I _ _ _ hat.dq r'
    obtain ⟨e, _⟩ := PyProof.Rows.reads_det (fun b o e _ => hk b o e) rd' rd
    have e1 : PySem.W.minOf p ps = pi := by
      have : decide (PySem.W.minOf p ps = pi) = true := by rw [← PySem.W.Datum.eqv, e]; exact PySem.SeqAt.eqv_refl_plain _ (PySem.W.Datum.plain _)
      exact of_decide_eq_true this
    rw [← e1]
    rcases List.mem_cons.mp hz with rfl | hz
    · exact (minOf_fst ps _).1
    · exact (minOf_fst ps _).2 z hz
end
end KX

set_option Elab.async false
set_option linter.all false
set_option maxRecDepth 100000
set_option maxHeartbeats 4000000
/-! Own layer: dict(xs) of a list of pairs whose first parts are tuples of numbers and texts. -/
namespace KX
open PySem PySem.Spec PyProof.Rows L2
section
variable {X : Cx}
/-- T is the pair of a key's tuple and a value -/
def PT (K : PySem.W.Frag) (H : Hp) (T : Addr) (kv : List Key × V) : Prop := ∃ b, SqT K H T [.ref b, kv.2] ∧ H b = some (.tup (kv.1.map kV))
theorem pairs_ofT {pins : List (Addr × Obj)} {σ : L2.St} {H : Hp} {s : Shared} (I : Inv X pins σ H s) : ∀ {Ts : List Addr} {kvs : List (List Key × V)}, Paired (PT X.K H) Ts kvs →
    ∃ prs : List (List Key × Addr × Value), KT H kvs prs ∧ prs.length = Ts.length ∧ ∀ (j : Nat) (q : List Key × Addr × Value), prs[j]? = some q → ∃ T, Ts[j]? = some T ∧ s.heap.IsTuple T #[.ref q.2.1, q.2.2]
  | _, _, .nil => ⟨[], .nil, rfl, fun j q e => by simp at e⟩
  | _, _, .cons (a := T) (b := kv) h t => by
    obtain ⟨prs, r, hl, hp⟩ := pairs_ofT I t
    obtain ⟨b, hT, hb⟩ := h
    obtain ⟨its, rv, ht, _⟩ := I.tuple hT
    obtain ⟨u, y, ei, ru, ry⟩ := vals2 rv
    subst ei
    obtain rfl : u = .ref b := ru
    refine ⟨(kv.1, b, y) :: prs, .cons ⟨rfl, hb, ry⟩ r, by rw [List.length_cons, List.length_cons, hl], fun j q e => ?_⟩
    cases j with
    | zero =>
      have e' : (kv.1, b, y) = q := Option.some.inj e
      subst e'
      exact ⟨T, rfl, ht⟩
    | succ j =>
      obtain ⟨T', e1, e2⟩ := hp j q (by simpa using e)
      exact ⟨T', by simpa using e1, e2⟩
theorem call_dictPT {K : PySem.W.Frag} (hK : X.K = K) (hcalm : X.calm = true) (hu : X.A.units + 64 < cLine) : CallR X (.type "dict") (fun xs H Q => ∃ (a : Addr) (Ts : List Addr) (kvs : List (List Key × V)), xs = [.ref a] ∧ SqL K H a (Ts.map V.ref) ∧ Paired (PT K H) Ts kvs ∧ (kvs.map (·.1)).Nodup ∧
    ∀ p, H p = none → Q (.ref p) (upd H p (.dT kvs))) := by
  subst hK
  intro pins s σ H xs us Q I r q
  obtain ⟨a, Ts, kvs, ex, hq, hp, hnd, q⟩ := q
  subst ex
  obtain ⟨u, eu, rx⟩ := vals1 r
  subst eu
  cases rx
  obtain ⟨its, rv, pl, hz⟩ := I.list hq
  have ei := refs_at rv
  subst ei
  rw [List.length_map] at hz
  obtain ⟨prs, rel, hl, hpr⟩ := pairs_ofT I hp
  obtain ⟨o, n, ho, hc, hd, hdat⟩ := pl
  have hkl : kvs.length = prs.length := rel.length
  have hfst : prs.map (·.1) = kvs.map (·.1) := by
    have : ∀ {l : List (List Key × V)} {m : List (List Key × Addr × Value)}, KT H l m → m.map (·.1) = l.map (·.1) := fun h => by
      induction h with
      | nil => rfl
      | cons h _ ih => rw [List.map_cons, List.map_cons, ih, h.1]
    exact this rel
  have gd : ∀ j T, Ts[j]? = some T → Ts.getD j 0 = T := fun j T e => by rw [List.getD_eq_getElem?_getD, e]; rfl
  refine call_dict_pairsH (knd := tupleKind (mixKind X.prog X.w)) (ps := prs) (PairArg.list a (Ts.map Value.ref).toArray (fun j => Ts.getD j 0) (prs.map fun z => (Value.ref z.2.1, z.2.2))) (I.ok.hd hcalm) (tupleKind_room_in1 (by show X.A.units + 1 + 1 < cLine; omega)) ⟨⟨o, n, ho, hc, hd, hdat⟩, ?_, fun j k v e => ?_⟩ ⟨by rw [List.length_map], fun i key v e => ?_⟩ (fun h' hk x hx => ?_) (by rw [List.length_map]; omega) fun h' tk hd' hk => ?_
  · simp [hl]
  · rw [List.getElem?_map] at e
    obtain ⟨z, hz', e⟩ := Option.map_eq_some_iff.mp e
    cases e
    obtain ⟨T, hT, ht⟩ := hpr j z hz'
    show (List.map Value.ref Ts).toArray[j]? = some (Value.ref (Ts.getD j 0)) ∧ PySem.PairAt s.heap (Ts.getD j 0) (Value.ref z.snd.fst) z.snd.snd
    rw [gd j T hT]
    exact ⟨by simp [hT], .inl ht⟩
  · have e : (prs.map fun z => (Value.ref z.2.1, z.2.2))[i]? = some (key, v) := e
    rw [List.getElem?_map] at e
    obtain ⟨z, hz', e⟩ := Option.map_eq_some_iff.mp e
    cases e
    exact ⟨z.1, z.2.1, hz', rfl⟩
  · have all : ∀ {l : List (List Key × V)} {m : List (List Key × Addr × Value)}, KT H l m → ∀ x ∈ m, (tupleKind (mixKind X.prog X.w)).is s.heap x.1 x.2.1 := by
      intro l m q
      induction q with
      | nil => intro x hx; exact nomatch hx
      | cons hq t ih =>
        intro x hx
        rcases List.mem_cons.mp hx with e | hx
        · subst e
          exact key_of I.hok (by rw [← hq.1]; exact hq.2.1)
        · exact ih x hx
    obtain ⟨ob, its, n', h1, h2⟩ := all rel x hx
    exact ⟨ob, its, n', hk _ _ (Nat.ne_of_lt (Heap.lt_size h1)) (by simp) h1, h2⟩
  · rw [storedAllH_nil_of_nodup prs (by rw [hfst]; exact hnd)] at hd'
    have hm : (s.heap.objs.size == sysModules) = false := beq_eq_false_iff_ne.mpr (Nat.ne_of_gt I.big)
    have k0 : ∀ b u, s.heap.get? b = some u → h'.get? b = some u := fun b u e => hk b u (by simp) e
    obtain ⟨o1, es, ep, g1, g2, g3, g4, _, g6⟩ := hd'
    have hnone := I.hok.fresh (Nat.le_refl s.heap.objs.size)
    exact ⟨.ref s.heap.objs.size, upd H s.heap.objs.size (.dT kvs), I.laid (t' := tk) k0 (Nat.le_refl _) (show ObjOk X.prog X.w _ _ _ (.dT kvs) from ⟨by omega, hm, prs, rel.keeps fun b ys e => by rw [upd_ne (ne_of_none e hnone)]; exact e, o1, es, ep, g1, g2, g3, g4, g6⟩), rfl, q _ hnone⟩
end
end KX

set_option Elab.async false
set_option linter.all false
set_option maxRecDepth 100000
set_option maxHeartbeats 4000000
/-! Own layer: list(enumerate(l)), l a list. -/
namespace KX
open PySem PySem.Spec PyProof.Rows L2
theorem enum_no_len : typeLookup (.type "enumerate") "__len__" = pure none := am_miss_of_fast (by decide +kernel)
theorem enum_no_hint : typeLookup (.type "enumerate") "__length_hint__" = pure none := am_miss_of_fast (by decide +kernel)
/-- the walk stands at i -/
def EnS (e it : Addr) (i : Nat) (h : Heap) : Prop := (∃ old, IsEnum h e it i old) ∨ ∃ T old f oT, IsEnumHeld h e it i old T f ∧ h.get? T = some oT ∧ T ≠ e ∧ T ≠ it
/-- the pairs so far, one behind the other -/
def PrS (items : Array Value) (N i : Nat) (h : Heap) : Prop := ∀ j x, j < i → items[j]? = some x → ∃ t, h.get? (N + j) = some { cls := .type "tuple", data := .seq #[.int j t, x] }
def refsTo (N i : Nat) : List Value := (List.range i).map fun j => Value.ref (N + j)
theorem nA0 {n j i : Nat} (h : i < n) : n + j ≠ i := by omega
theorem nA1 {S j n : Nat} (hj : j < n) : ¬ S + 1 + j = S ∧ (S + 1 ≤ S + 1 + j ∧ S + 1 + j < S + 1 + n) ∧ S + 1 + j - (S + 1) = j := by omega
theorem nA2 {b n m : Nat} (h : n + 1 ≤ b ∧ b < n + 1 + m) : b - (n + 1) < m ∧ n + 1 + (b - (n + 1)) = b := by omega
theorem refsTo_next (N i : Nat) : refsTo N (i + 1) = refsTo N i ++ [.ref (N + i)] := by unfold refsTo; rw [List.range_succ, List.map_append]; rfl
theorem refsTo_len (N i : Nat) : (refsTo N i).length = i := by unfold refsTo; rw [List.length_map, List.length_range]
section
variable {prog : Program} {w : World} {A : Around} {R : Result → Shared → Prop} {e it l S : Addr} {items : Array Value} {N : Nat} {res : Value}
theorem enum_loop (hh : A.in1.handled = none) (hz : items.size ≤ sizeLine) (hei : e ≠ it) (hle : l ≠ e) (hli : l ≠ it) (hSe : S ≠ e) (hSi : S ≠ it) (hSl : S ≠ l) (bS : S < N) (be : e < N) (bi : it < N) :
    ∀ (k i : Nat) (s : Shared) (acc : Array Value) (c : Nat), acc.toList = refsTo N i → items.size - i = k → i ≤ items.size → s.heap.objs.size = N + i → EnS e it i s.heap → s.heap.IsListIter it l i → s.heap.IsList l items →
      s.heap.get? S = some { cls := .type "list", dict := none, data := .seq acc c, slots := #[] } → PrS items N i s.heap →
      (∀ h' tk (acc' : Array Value) c', acc'.toList = refsTo N items.size → (∀ b o, b ≠ e → b ≠ it → b ≠ S → s.heap.get? b = some o → h'.get? b = some o) → h'.get? S = some { cls := .type "list", dict := none, data := .seq acc' c', slots := #[] } →
        PrS items N items.size h' → R (.ok (.ret res)) { s with heap := h', toks := tk }) →
      codeAny (model prog w) A (.builtin "list.extend.loop" ⟨[.ref S, .ref e, res], []⟩) R s := by
  intro k
  induction k with
  | zero =>
    intro i s acc c hacc hk hi hN hst hit hl hS hP hR
    have hin : i = items.size := by omega
    subst hin
    refine codeAny_builtin F.entry_extend_loop ?_
    rw [Around.under_plainId F.plain_extend_loop _]
    show wpAny _ A.in1 (pyNext (.ref e) >>= _) _ _ s
    have fin : ∀ h', Heap.ExtBut it s.heap h' → R (.ok (.ret res)) { s with heap := h' } := fun h' x => by
      refine hR h' s.toks acc c hacc (fun b o _ n _ q => x b o n q) (x S _ hSi hS) fun j y hj hy => ?_
      obtain ⟨t, q⟩ := hP j y hj hy
      exact ⟨t, x _ _ (nA0 bi) q⟩
    refine wpAny_bind ?_
    rcases hst with ⟨old, he⟩ | ⟨T, old, f, oT, he, hT, _, _⟩
    · exact wpAny_pyNext_enum_end hh he hit hl (Array.getElem?_eq_none (Nat.le_refl _)) fun h' hx => wpAny_pure (fin h' hx)
    · exact wpAny_pyNext_enum_end_held hh he hit hl (Array.getElem?_eq_none (Nat.le_refl _)) fun h' hx => wpAny_pure (fin h' hx)
  | succ k ih =>
    intro i s acc c hacc hk hi hN hst hit hl hS hP hR
    have hlt : i < items.size := by omega
    refine codeAny_builtin F.entry_extend_loop ?_
    rw [Around.under_plainId F.plain_extend_loop _]
    show wpAny _ A.in1 (pyNext (.ref e) >>= _) _ _ s
    have hx : items[i]? = some items[i] := Array.getElem?_eq_getElem hlt
    have go : ∀ h', EnS e it (i + 1) h' → h'.IsListIter it l (i + 1) → h'.get? s.heap.objs.size = some { cls := .type "tuple", data := .seq #[.int i s.toks, items[i]] } → h'.objs.size = s.heap.objs.size + 1 →
        (∀ b o, b ≠ e → b ≠ it → s.heap.get? b = some o → h'.get? b = some o) →
        wpAny (model prog w) A.in1 (updateSeq S (·.push (.ref s.heap.objs.size)) >>= fun _ => again (.builtin "list.extend.loop" ⟨[.ref S, .ref e, res], []⟩))
          (fun fin s' => match fin with | .done f => R (.ok f) s' | .again c' => c'.quiet = true ∧ codeAny (model prog w) A c' R s') (fun e s' => R (.error e) s') { s with heap := h', toks := s.toks + 1 } := by
      intro h' st' it' hT hsz hk'
      have hS' := hk' S _ hSe hSi hS
      have sz : acc.size = i := by rw [← Array.length_toList, hacc, refsTo_len]
      refine wpAny_bind ?_
      have nN : N + i ≠ S := nA0 bS
      have oth : ∀ b, b ≠ S → (h'.update S (Obj.mapSeq (·.push (.ref s.heap.objs.size)))).get? b = h'.get? b := fun b hb => Heap.get?_update_other _ _ (fun z => hb z.symm)
      refine wpAny_updateSeq hS' rfl (wpAny_pure ⟨plainId_quiet F.plain_extend_loop _, ih (i + 1) _ (acc.push (.ref s.heap.objs.size)) _ (by rw [Array.toList_push, hacc, refsTo_next, hN]) (by omega) hlt ?_ ?_ ?_ ?_ (Heap.get?_update_self _ hS' rfl) ?_ fun h2 tk acc2 c' ha2 hk2 hS2 hP2 => ?_⟩) (by rw [sz]; omega) (by show (acc.push _).size ≤ _; rw [Array.size_push, sz]; omega)
      · show (h'.update S _).objs.size = _
        rw [Heap.size_update, hsz]; omega
      · rcases st' with ⟨old, q⟩ | ⟨T, old, f, oT, q, hT', n1, n2⟩
        · exact .inl ⟨old, (oth e (Ne.symm hSe)).trans q⟩
        · refine .inr ⟨T, old, f, ?_⟩
          by_cases z : T = S
          · rw [z]
            exact ⟨_, (oth e (Ne.symm hSe)).trans (z ▸ q), Heap.get?_update_self _ hS' rfl, z ▸ n1, z ▸ n2⟩
          · exact ⟨oT, (oth e (Ne.symm hSe)).trans q, (oth T z).trans hT', n1, n2⟩
      · obtain ⟨o, q, r⟩ := it'
        exact ⟨o, (oth it (Ne.symm hSi)).trans q, r⟩
      · obtain ⟨o, q, r⟩ := hl
        exact ⟨o, (oth l (Ne.symm hSl)).trans (hk' l o hle hli q), r⟩
      · intro j y hj hy
        by_cases z : j = i
        · subst z
          rw [hx] at hy
          cases hy
          exact ⟨s.toks, (oth _ (nA0 bS)).trans (by rw [← hN]; exact hT)⟩
        · obtain ⟨t, q⟩ := hP j y (by omega) hy
          exact ⟨t, (oth _ (nA0 bS)).trans (hk' _ _ (nA0 be) (nA0 bi) q)⟩
      · exact hR h2 tk acc2 c' ha2 (fun b o n1 n2 n3 q => hk2 b o n1 n2 n3 ((oth b n3).trans (hk' b o n1 n2 q))) hS2 hP2
    refine wpAny_bind ?_
    rcases hst with ⟨old, he⟩ | ⟨T, old, f, oT, he, hT, n1, n2⟩
    · refine wpAny_pyNext_enum_item he hit hl hx hei fun h' ho hit' hT hsz hk' => ?_
      exact go h' (.inr ⟨s.heap.objs.size, items[i], false, _, ho, hT, by rw [hN]; exact nA0 be, by rw [hN]; exact nA0 bi⟩) hit' hT hsz hk'
    · refine wpAny_pyNext_enum_item_held he hT n1 n2 hit hl hx hei fun h' ho hit' hT' hsz hk' => ?_
      exact go h' (.inr ⟨T, old, true, oT, ho, hk' T oT n1 n2 hT, n1, n2⟩) hit' hT' hsz hk'
end
section
variable {prog : Program} {w : World} {A : Around} {E : Value → Shared → Prop} {R : Result → Shared → Prop} {s : Shared} {e it l S : Addr} {items : Array Value}
theorem extend_enum (hh : A.in1.handled = none) (hz : items.size ≤ sizeLine) (hei : e ≠ it) (hle : l ≠ e) (hli : l ≠ it) (hSe : S ≠ e) (hSi : S ≠ it) (hSl : S ≠ l) (he : IsEnum s.heap e it 0 .none) (hit : s.heap.IsListIter it l 0) (hl : s.heap.IsList l items)
    (res : Value) (c₀ : Nat) (hS : s.heap.get? S = some { cls := .type "list", data := .seq #[] c₀ })
    (hR : ∀ h' tk (acc' : Array Value) c', acc'.toList = refsTo s.heap.objs.size items.size → (∀ b o, b ≠ e → b ≠ it → b ≠ S → s.heap.get? b = some o → h'.get? b = some o) → h'.get? S = some { cls := .type "list", dict := none, data := .seq acc' c', slots := #[] } →
        PrS items s.heap.objs.size items.size h' → R (.ok (.ret res)) { s with heap := h', toks := tk }) :
    wpAny (model prog w) A.in1 (Builtin.List.listExtendWith (.ref S) (.ref e) res)
      (fun fin s' => match fin with | .done f => R (.ok f) s' | .again c' => c'.quiet = true ∧ codeAny (model prog w) A c' R s') (fun e s' => R (.error e) s') s := by
  have hT : s.TypeIs (.ref e) "enumerate" := ⟨_, he, rfl⟩
  unfold Builtin.List.listExtendWith
  refine wpAny_bind (wpAny_typeOf hT ?_)
  have h1 : Builtin.List.listSameRef (.ref S) (.ref e) = false := by simp [Builtin.List.listSameRef, hSe]
  have h2 : (Value.type "enumerate" == Value.type "list") = false := by decide
  have h3 : (Value.type "enumerate" == Value.type "tuple") = false := by decide
  simp only [h1, h2, h3, Bool.or_false, Bool.false_eq_true, if_false]
  refine wpAny_bind (wpAny_pyIter_enum he ?_)
  refine wpAny_bind (wpAny_holding ?_)
  unfold Builtin.List.listLengthHint
  refine wpAny_bind (wpAny_specialOf hT enum_no_len ?_)
  show wpAny _ A.in1 (specialOf (Value.ref e) (Str.ofString "__length_hint__") >>= _) _ _ _
  refine wpAny_bind (wpAny_specialOf hT enum_no_hint ?_)
  refine wpAny_pure ?_
  show wpAny _ A.in1 (rule "list.extend.makes-room" >>= fun _ => Builtin.List.listTouch (.ref S) >>= fun _ =>
    again (.builtin "list.extend.loop" ⟨[.ref S, .ref e, res], []⟩)) _ _ _
  refine wpAny_bind (wpAny_rule ?_)
  refine wpAny_bind ?_
  show wpAny _ A.in1 (updateSeq S (·.push .none) >>= fun _ => updateSeq S (·.pop)) _ _ _
  refine wpAny_bind (wpAny_updateSeq hS rfl ?_)
  have hS₂ := Heap.get?_update_self (Obj.mapSeq (·.push Value.none)) hS rfl
  refine wpAny_updateSeq (hz := by seq_fits) hS₂ rfl ?_
  have hS₃ := Heap.get?_update_self (Obj.mapSeq (·.pop)) hS₂ rfl
  have oth : ∀ b o, b ≠ S → s.heap.get? b = some o → ((s.heap.update S (Obj.mapSeq (·.push Value.none))).update S (Obj.mapSeq (·.pop))).get? b = some o :=
    fun b o hb e => (Heap.get?_update_other _ _ (Ne.symm hb)).trans ((Heap.get?_update_other _ _ (Ne.symm hb)).trans e)
  have sz : ((s.heap.update S (Obj.mapSeq (·.push Value.none))).update S (Obj.mapSeq (·.pop))).objs.size = s.heap.objs.size := by rw [Heap.size_update, Heap.size_update]
  have li := Heap.lt_size hS
  have le := Heap.lt_size he
  have lt : it < s.heap.objs.size := by obtain ⟨_, q, _⟩ := hit; exact Heap.lt_size q
  refine wpAny_pure ⟨plainId_quiet F.plain_extend_loop _, enum_loop (N := s.heap.objs.size) hh hz hei hle hli hSe hSi hSl li le lt items.size 0 _ #[] _ rfl (by omega) (Nat.zero_le _) (by show Array.size _ = _; rw [sz]; rfl) (.inl ⟨.none, oth e _ (Ne.symm hSe) he⟩)
    (by obtain ⟨o, q, r⟩ := hit; exact ⟨o, oth it _ (Ne.symm hSi) q, r⟩) (by obtain ⟨o, q, r⟩ := hl; exact ⟨o, oth l _ (Ne.symm hSl) q, r⟩) hS₃ (fun j x hj => absurd hj (Nat.not_lt_zero _)) fun h' tk acc' c' ha hk hS' hP => ?_⟩
  exact hR h' tk acc' c' (by rw [ha]) (fun b o n1 n2 n3 q => hk b o n1 n2 n3 (oth b o n3 q)) hS' hP
theorem list_init_enum (hh : A.in1.handled = none) (hz : items.size ≤ sizeLine) (hei : e ≠ it) (hle : l ≠ e) (hli : l ≠ it) (hSe : S ≠ e) (hSi : S ≠ it) (hSl : S ≠ l) (he : IsEnum s.heap e it 0 .none) (hit : s.heap.IsListIter it l 0) (hl : s.heap.IsList l items)
    (hS : s.heap.get? S = some { cls := .type "list", data := .seq #[] })
    (hR : ∀ h' tk (acc' : Array Value) c', acc'.toList = refsTo s.heap.objs.size items.size → (∀ b o, b ≠ e → b ≠ it → b ≠ S → s.heap.get? b = some o → h'.get? b = some o) → h'.get? S = some { cls := .type "list", dict := none, data := .seq acc' c', slots := #[] } →
        PrS items s.heap.objs.size items.size h' → R (.ok (.ret .none)) { s with heap := h', toks := tk }) :
    wpAny (model prog w) A.in1 (Builtin.«list.__init__» ⟨[.ref S, .ref e], []⟩)
      (fun fin s' => match fin with | .done f => R (.ok f) s' | .again c' => c'.quiet = true ∧ codeAny (model prog w) A c' R s') (fun e s' => R (.error e) s') s := by
  show wpAny _ A.in1 (do let old ← Builtin.List.listItems (.ref S); Builtin.List.listUpdate (.ref S) (fun _ => #[]); letGo old.toList.reverse; Builtin.List.listExtendWith (.ref S) (.ref e) .none) _ _ s
  refine wpAny_bind ?_
  unfold Builtin.List.listItems
  refine wpAny_bind (wpAny_seqItems hS rfl (wpAny_pure ?_))
  show wpAny _ A.in1 (updateSeq S (fun _ => #[]) >>= fun _ => letGo (#[] : Array Value).toList.reverse >>= fun _ => Builtin.List.listExtendWith (.ref S) (.ref e) .none) _ _ s
  refine wpAny_bind (wpAny_updateSeq hS rfl ?_)
  have hS₂ := Heap.get?_update_self (Obj.mapSeq (fun _ => (#[] : Array Value))) hS rfl
  have oth : ∀ b o, b ≠ S → s.heap.get? b = some o → (s.heap.update S (Obj.mapSeq (fun _ => (#[] : Array Value)))).get? b = some o :=
    fun b o hb e => (Heap.get?_update_other _ _ (Ne.symm hb)).trans e
  have sz : (s.heap.update S (Obj.mapSeq (fun _ => (#[] : Array Value)))).objs.size = s.heap.objs.size := Heap.size_update ..
  refine wpAny_bind (wpAny_letGo ?_)
  refine extend_enum hh hz hei hle hli hSe hSi hSl (oth e _ (Ne.symm hSe) he) (by obtain ⟨o, q, r⟩ := hit; exact ⟨o, oth it _ (Ne.symm hSi) q, r⟩) (by obtain ⟨o, q, r⟩ := hl; exact ⟨o, oth l _ (Ne.symm hSl) q, r⟩) .none _ hS₂ fun h' tk acc' c' ha hk hS' hP => ?_
  have sz' : ({ s with heap := s.heap.update S (Obj.mapSeq (fun _ => (#[] : Array Value))) } : Shared).heap.objs.size = s.heap.objs.size := sz
  rw [sz'] at ha hP
  exact hR h' tk acc' c' ha (fun b o n1 n2 n3 q => hk b o n1 n2 n3 (oth b o n3 q)) hS' hP
theorem call_list_enum {Q : Value → Shared → Prop} (hh : A.handled = none) (hz : items.size ≤ sizeLine) (hei : e ≠ it) (hle : l ≠ e) (hli : l ≠ it) (he : IsEnum s.heap e it 0 .none) (hit : s.heap.IsListIter it l 0) (hl : s.heap.IsList l items)
    (hQ : ∀ h' tk (acc' : Array Value) c', acc'.toList = refsTo (s.heap.objs.size + 1) items.size → (∀ b o, b ≠ e → b ≠ it → s.heap.get? b = some o → h'.get? b = some o) → h'.get? s.heap.objs.size = some { cls := .type "list", dict := none, data := .seq acc' c', slots := #[] } →
        PrS items (s.heap.objs.size + 1) items.size h' → Q (.ref s.heap.objs.size) { s with heap := h', toks := tk }) :
    wpAny (model prog w) A (call (.type "list") [.ref e]) Q E s := by
  refine callType_codes (Q₁ := fun obj s₁ => obj = .ref s.heap.objs.size ∧ s₁ = { s with heap := s.heap.push { cls := .type "list", data := .seq #[] } }) F.called_list (F.typeCall_list_1 _) F.entry_list_init
    (code_list_new _ ⟨rfl, rfl⟩) fun obj s₁ h₁ => ?_
  obtain ⟨rfl, rfl⟩ := h₁
  have hS : (s.heap.push { cls := .type "list", data := .seq #[] }).get? s.heap.objs.size = some { cls := .type "list", data := .seq #[] } := Heap.get?_push_size _ rfl
  have le := Heap.lt_size he
  have li : it < s.heap.objs.size := by obtain ⟨_, q, _⟩ := hit; exact Heap.lt_size q
  have ll : l < s.heap.objs.size := by obtain ⟨_, q, _⟩ := hl; exact Heap.lt_size q
  have pz : (s.heap.push { cls := .type "list", data := .seq #[] }).objs.size = s.heap.objs.size + 1 := Heap.size_push ..
  refine ⟨⟨_, hS, rfl⟩, F.args_list_init_2 _ _, list_init_enum (A := A.in1) (by simp [hh]) hz hei hle hli (Nat.ne_of_gt le) (Nat.ne_of_gt li) (Nat.ne_of_gt ll) (Heap.get?_push_of_some _ he)
    (by obtain ⟨o, q, r⟩ := hit; exact ⟨o, Heap.get?_push_of_some _ q, r⟩) (by obtain ⟨o, q, r⟩ := hl; exact ⟨o, Heap.get?_push_of_some _ q, r⟩) hS fun h' tk acc' c' ha hk hS' hP => ?_⟩
  have pz' : ({ s with heap := s.heap.push { cls := .type "list", data := .seq #[] } } : Shared).heap.objs.size = s.heap.objs.size + 1 := pz
  rw [pz'] at ha hP
  exact ⟨rfl, hQ h' tk acc' c' ha (fun b o n1 n2 q => hk b o n1 n2 (Nat.ne_of_lt (Heap.lt_size q)) (Heap.get?_push_of_some _ q)) hS' hP⟩
end
/-- list(enumerate(l)) -/
def tListEnum (K : PySem.W.Frag) (ta : TA) : TE := fun σ H Q => ta σ H fun vs H1 => ∃ (a : Addr) (xs : List V), vs = [.ref a] ∧ SqL K H1 a xs ∧ ∀ (p : Addr) (ts : List Addr) (H2 : Hp), ts.length = xs.length → H1 p = none → Same H1 H2 → H2 p = some (.lst (ts.map V.ref)) →
  (∀ j x, xs[j]? = some x → ∃ T, ts[j]? = some T ∧ H1 T = none ∧ T ≠ p ∧ H2 T = some (.tup [.int (j : Nat), x])) → Q (.ref p) H2
/-- the heap with the list at S, the pairs behind it -/
def enH (H : Hp) (S : Addr) (xs : List V) : Hp := fun b => if b = S then some (.lst ((List.range xs.length).map fun j => V.ref (S + 1 + j))) else if S + 1 ≤ b ∧ b < S + 1 + xs.length then some (.tup [.int ((b - (S + 1) : Nat) : Int), xs.getD (b - (S + 1)) .non]) else H b
theorem enH_S {H : Hp} {S : Addr} {xs : List V} : enH H S xs S = some (.lst ((List.range xs.length).map fun j => V.ref (S + 1 + j))) := if_pos rfl
theorem enH_T {H : Hp} {S : Addr} {xs : List V} {j : Nat} {x : V} (h : xs[j]? = some x) : enH H S xs (S + 1 + j) = some (.tup [.int (j : Nat), x]) := by
  have hj := (List.getElem?_eq_some_iff.mp h).1
  unfold enH
  have z := nA1 (S := S) hj
  rw [if_neg z.1, if_pos z.2.1]
  rw [z.2.2, List.getD_eq_getElem?_getD, h]; rfl
theorem enH_old {H : Hp} {S b : Addr} {xs : List V} (h : b < S) : enH H S xs b = H b := by
  unfold enH
  rw [if_neg (Nat.ne_of_lt h), if_neg (fun z => absurd z.1 (Nat.not_le_of_lt (Nat.lt_succ_of_lt h)))]
theorem vals_refs (N n : Nat) : Vals ((List.range n).map fun j => V.ref (N + j)) (refsTo N n) := by
  unfold refsTo
  induction (List.range n) with
  | nil => exact .nil
  | cons x r ih => exact .cons rfl ih
theorem vals_get : ∀ {xs : List V} {us : List Value} {j : Nat} {x : V}, Vals xs us → xs[j]? = some x → ∃ u, us[j]? = some u ∧ RelV x u
  | _, _, _, _, .nil, h => by simp at h
  | _, _, 0, _, .cons r _, h => by simp at h; subst h; exact ⟨_, rfl, r⟩
  | _, _, j + 1, _, .cons _ t, h => by
    obtain ⟨u, h1, h2⟩ := vals_get (j := j) t (by simpa using h)
    exact ⟨u, by simpa using h1, h2⟩
section
variable {X : Cx}
theorem pe_listEnum {K : PySem.W.Frag} (hK : X.K = K) {e : Expr} {ta : TA} {p p2 pos pos2 : Pos} (hc : X.calm = true) (hg : Gl X "list") (hm : X.mg "list" = none) (hg2 : Gl X "enumerate") (hm2 : X.mg "enumerate" = none) (ha : PA X [e] ta)
    (hs : starEach [e] X.env = [(false, eval e X.env)] := by rfl)
    (na : starEach [.Call (.Name "enumerate" p2) [e] [] pos2] X.env = (false, eval (.Call (.Name "enumerate" p2) [e] [] pos2) X.env) :: starEach [] X.env := by rfl) :
    PE X (.Call (.Name "list" p) [.Call (.Name "enumerate" p2) [e] [] pos2] [] pos) (tListEnum K ta) := by
  subst hK
  refine ⟨fun pins s σ H Q I h => ?_⟩
  refine Call_ (ld_blt I hg hm boot_list (PyProof.Rows.callWith_type1 (args_cons (Call_ (ld_blt I hg2 hm2 boot_enumerate (PyProof.Rows.callWith_type1 (thn (ha.run pos2 pins s σ H _ I h) fun us s1 ⟨vs, H1, I1, r1, q1⟩ => ?_) hs rfl))) na) na))
  obtain ⟨a, xs, ex, hq, q⟩ := q1
  subst ex
  cases r1 with
  | cons r rr =>
    cases rr
    cases r
    obtain ⟨its, rv, p', hz⟩ := I1.list hq
    refine call_enumerate_list p'.isList fun h' he hit hsz hk => args_nil ?_
    have hz' : its.toArray.size ≤ sizeLine := by rw [List.size_toArray, ← rv.length]; exact hz
    have ll : a < s1.heap.objs.size := by obtain ⟨_, q, _⟩ := p'.isList; exact Heap.lt_size q
    have nle : a ≠ s1.heap.objs.size + 1 := Nat.ne_of_lt (Nat.lt_succ_of_lt ll)
    refine call_list_enum (s := { s1 with heap := h' }) (I1.ok.hd hc) hz' (Nat.succ_ne_self _) nle (Nat.ne_of_lt ll) he hit (by obtain ⟨o, q, r⟩ := p'.isList; exact ⟨o, hk _ _ q, r⟩) fun h2 tk acc2 c' ha2 hk2 hS hP => ?_
    have hN : h'.objs.size = s1.heap.objs.size + 2 := hsz
    have zn : its.toArray.size = xs.length := by rw [List.size_toArray, ← rv.length]
    rw [zn] at ha2 hP
    have ea : acc2 = (refsTo (h'.objs.size + 1) xs.length).toArray := by rw [← ha2]
    rw [ea] at hS
    have keep : ∀ b o, s1.heap.get? b = some o → h2.get? b = some o := fun b o e => by
      have := Heap.lt_size e
      exact hk2 b o (Nat.ne_of_lt (Nat.lt_succ_of_lt this)) (Nat.ne_of_lt this) (hk b o e)
    have old : ∀ b o, H1 b = some o → enH H1 h'.objs.size xs b = some o := fun b o e => by
      rw [enH_old (Nat.lt_of_lt_of_le (I1.hok b o e).lt (by rw [hN]; exact Nat.le_add_right _ _))]; exact e
    have new : ∀ b, s1.heap.objs.size ≤ b → H1 b = none := fun b hb => I1.hok.fresh hb
    have ok : HOk X.prog X.w (enH H1 h'.objs.size xs) h2 := fun b u e => by
      by_cases hb : b < h'.objs.size
      · rw [enH_old hb] at e
        exact (I1.hok b u e).stay (fun c v _ q => keep c v q) (fun c q => old c _ q) (fun c ys q => old c _ q)
      · by_cases hS' : b = h'.objs.size
        · rw [hS', enH_S] at e
          cases e
          rw [hS']
          exact ⟨by rw [List.length_map, List.length_range]; exact hz, _, _, vals_refs _ _, hS⟩
        · unfold enH at e
          rw [if_neg hS'] at e
          by_cases hr : h'.objs.size + 1 ≤ b ∧ b < h'.objs.size + 1 + xs.length
          · rw [if_pos hr] at e
            cases e
            have hj : b - (h'.objs.size + 1) < xs.length := (nA2 hr).1
            have hx : xs[b - (h'.objs.size + 1)]? = some (xs.getD (b - (h'.objs.size + 1)) .non) := by rw [List.getD_eq_getElem?_getD, List.getElem?_eq_getElem hj]; rfl
            obtain ⟨v, hv, rl⟩ := vals_get rv hx
            obtain ⟨t, ht⟩ := hP (b - (h'.objs.size + 1)) v hj (by rw [List.getElem?_toArray]; exact hv)
            have eb : h'.objs.size + 1 + (b - (h'.objs.size + 1)) = b := (nA2 hr).2
            rw [show ({ s1 with heap := h' } : Shared).heap.objs.size + 1 + (b - (h'.objs.size + 1)) = b from eb] at ht
            exact ⟨by show 2 ≤ sizeLine; decide, [.int ((b - (h'.objs.size + 1) : Nat) : Int) t, v], .cons ⟨_, rfl⟩ (.cons rl .nil), ⟨_, ht, rfl, _, rfl⟩⟩
          · rw [if_neg hr] at e
            exact absurd (I1.hok b u e).lt (Nat.not_lt_of_le (Nat.le_trans (by rw [hN]; exact Nat.le_add_right _ _) (Nat.le_of_not_lt hb)))
    have un : Un X.fs [] H1 (enH H1 h'.objs.size xs) s1.heap h2 :=
      ⟨fun b o q _ _ _ => keep b o q, fun b o q _ _ _ => ⟨o.slots, keep b o q⟩, fun b o q n _ => by rw [enH_old (Nat.lt_of_lt_of_le (Heap.lt_size q) (by rw [hN]; exact Nat.le_add_right _ _))]; exact n,
        fun b o q _ => ⟨o, keep b o q⟩, fun b ys q => old b _ q, fun b o u q => old b _ q, fun b ps q => ⟨#[], by rw [old b _ q]; simp⟩⟩
    refine ⟨.ref h'.objs.size, enH H1 h'.objs.size xs, I1.un (t' := tk) un ok, rfl, ?_⟩
    refine q h'.objs.size ((List.range xs.length).map fun j => h'.objs.size + 1 + j) _ (by rw [List.length_map, List.length_range]) (new _ (by omega)) old (by rw [enH_S, List.map_map]; rfl) fun j x hx => ?_
    have hj := (List.getElem?_eq_some_iff.mp hx).1
    exact ⟨h'.objs.size + 1 + j, by rw [List.getElem?_map, List.getElem?_range hj]; rfl, new _ (by omega), by show ¬ (h'.objs.size + 1 + j : Nat) = _; omega, enH_T hx⟩
end
end KX

set_option Elab.async false
set_option linter.all false
set_option maxRecDepth 100000
set_option maxHeartbeats 4000000
/-! Own layer: list(d.values()); a method called with keywords alone; dict(t) of a tuple of pairs. -/
namespace KX
open PySem PySem.Spec PyProof.Rows L2
section
variable {X : Cx} {o : Expr} {td : TE} {p pos apos mpos : Pos}
/-- list(d.values()) -/
def tListVals (td : TE) : TE := fun σ H Q => td σ H fun x H1 => ∃ a, x = V.ref a ∧
  ((∃ kvs : List (Key × V), H1 a = some (.dK kvs) ∧ ∀ l, H1 l = none → Q (.ref l) (upd H1 l (.lst (kvs.map (·.2))))) ∨
   (∃ kvs : List (List Key × V), H1 a = some (.dT kvs) ∧ ∀ l, H1 l = none → Q (.ref l) (upd H1 l (.lst (kvs.map (·.2))))))
theorem vals_at {xs : List V} {us : List Value} (hl : xs.length = us.length) (h : ∀ (j : Nat) x u, xs[j]? = some x → us[j]? = some u → RelV x u) : Vals xs us := by
  induction xs generalizing us with
  | nil =>
    cases us with
    | nil => exact .nil
    | cons => cases hl
  | cons x xs ih =>
    cases us with
    | nil => cases hl
    | cons u us => exact .cons (h 0 x u rfl rfl) (ih (by simpa using hl) fun j x u h1 h2 => h (j + 1) x u (by simpa using h1) (by simpa using h2))
theorem pe_listVals (hc : X.calm = true) (hg : Gl X "list") (hm : X.mg "list" = none) (hd : PE X o td) (hbase : attributeBase o "values" X.env (eval o X.env) = eval o X.env := by rfl) (hline : (apos.endLine == mpos.line) = true := by rfl)
    (na : starEach [Expr.Call (.Attribute o "values" apos) [] [] mpos] X.env = (false, eval (Expr.Call (.Attribute o "values" apos) [] [] mpos) X.env) :: starEach [] X.env := by rfl) :
    PE X (.Call (.Name "list" p) [.Call (.Attribute o "values" apos) [] [] mpos] [] pos) (tListVals td) := by
  refine ⟨fun pins s σ H Q I h => ?_⟩
  refine Call_ (ld_blt I hg hm boot_list (PyProof.Rows.callWith_type1 (args_cons (wpAny_Call_method0_late hbase hline (thn (hd.run pins s σ H _ I h) fun v s1 ⟨x, H1, I1, r1, a, ex, q⟩ => ?_)) na) na))
  subst ex
  obtain rfl : v = Value.ref a := r1
  have k1 : ∀ b u, s1.heap.get? b = some u → (s1.heap.push { cls := .type "dict_values", data := .fields #[.ref a] }).get? b = some u := fun b u e => Heap.get?_push_of_some _ e
  have vw : (s1.heap.push { cls := .type "dict_values", data := .fields #[.ref a] }).IsValuesView s1.heap.objs.size a := ⟨_, Heap.get?_push_size _ rfl, rfl, rfl⟩
  have laid : ∀ {h' : Heap} {tk : Nat} {xs : List V} {acc : Array Value} {c : Nat}, (∀ b u, (s1.heap.push { cls := .type "dict_values", data := .fields #[.ref a] }).get? b = some u → h'.get? b = some u) →
      h'.get? (s1.heap.push { cls := .type "dict_values", data := .fields #[.ref a] }).objs.size = some { cls := .type "list", dict := none, data := .seq acc c, slots := #[] } → xs.length ≤ sizeLine → Vals xs acc.toList →
      (∀ l, H1 l = none → Q (.ref l) (upd H1 l (.lst xs))) → EP X pins σ Q (.ref (s1.heap.push { cls := .type "dict_values", data := .fields #[.ref a] }).objs.size) { s1 with heap := h', toks := tk } := fun {h' tk xs acc c} kp hS hz hv q => by
    have hsz : (s1.heap.push { cls := .type "dict_values", data := .fields #[.ref a] }).objs.size = s1.heap.objs.size + 1 := Heap.size_push _ _
    refine ⟨.ref (s1.heap.push { cls := .type "dict_values", data := .fields #[.ref a] }).objs.size, _, I1.laid (t' := tk) (o := .lst xs) (fun b u e => kp b u (k1 b u e)) (by rw [hsz]; exact Nat.le_succ _) ?_, rfl, q _ (I1.hok.fresh (by rw [hsz]; exact Nat.le_succ _))⟩
    exact ⟨hz, acc.toList, c, hv, by rw [Array.toArray_toList]; exact hS⟩
  rcases q with ⟨kvs, ha, q⟩ | ⟨kvs, ha, q⟩
  · obtain ⟨hz, hsys, vs, rel, dof⟩ := dk_of I1.hok ha
    obtain ⟨ep, dat⟩ := dof.dictAt
    have dat' := dat
    obtain ⟨ob, es, ho, ex, hdat, hko, hpr, hnd⟩ := dat'
    refine ⟨"dict", "dict.values", F.plainAttrs_dict, F.slot_dict_values, F.type_dict_values, ⟨ob, ho, ex.1⟩, fun b e => ?_, Calls.callWith_builtin rfl (PySem.evalArgs_none ?_)⟩
    · cases e
      exact ⟨ob, ho, ex.2.1⟩
    refine call_meetsIn F.slot_dict_values ⟨ob, ho, ex.1⟩ F.entry_dict_values (F.args_dict_values_1 _) (meets_dict_values (mixKind X.prog X.w) a hsys) ⟨⟨vs, dof⟩, ?_⟩
    have dat1 : (s1.heap.push { cls := .type "dict_values", data := .fields #[.ref a] }).DictAt (mixKind X.prog X.w) a vs ep := dat.keep k1
    have hl : kvs.length = vs.length := KV.length rel
    refine args_nil (PySem.W.kdl_call (PySem.W.kdl_values (knd := mixKind X.prog X.w) (kvs := vs) (ep := ep)) (I1.ok.hd hc) ⟨vw, dat1⟩ (by rw [← hl]; exact hz) fun h' tk acc' c' hkeep hS hacc => ?_)
    refine laid hkeep hS (by rw [List.length_map]; exact hz) (vals_at (by have q1 : acc'.toList.length = acc'.size := Array.length_toList; rw [q1, hacc.1, ← hl]; exact List.length_map _) fun j x u h1 h2 => ?_) q
    obtain ⟨k, hk⟩ := hacc.2 j u (by rw [← Array.getElem?_toList]; exact h2)
    obtain ⟨x', h3, h4⟩ := KV.at' rel hk
    rw [List.getElem?_map, h3] at h1
    cases h1
    exact h4
  · obtain ⟨z, hs, ks, pr, o', es, ep, ho, hx, hdt, he, hn⟩ := (show ObjOk X.prog X.w H1 s1.heap a (.dT kvs) from I1.hok a _ ha)
    have l1 : es.size = ks.length := size_of_entries he
    have l2 : kvs.length = ks.length := Paired.length pr
    refine ⟨"dict", "dict.values", F.plainAttrs_dict, F.slot_dict_values, F.type_dict_values, ⟨o', ho, hx.1⟩, fun b e => ?_, Calls.callWith_builtin rfl (PySem.evalArgs_none ?_)⟩
    · cases e
      exact ⟨o', ho, hx.2.1⟩
    have raw : s1.heap.DictRaw a es ep := ⟨o', ho, hx, hdt⟩
    refine call_meetsIn F.slot_dict_values ⟨o', ho, hx.1⟩ F.entry_dict_values (F.args_dict_values_1 _) (meets_dict_values_raw a hs) ⟨⟨es, ep, raw⟩, ?_⟩
    have raw1 : (s1.heap.push { cls := .type "dict_values", data := .fields #[.ref a] }).DictRaw a es ep := ⟨o', k1 _ _ ho, hx, hdt⟩
    refine args_nil (PySem.W.kdl_call KdlSrc.rawValues (I1.ok.hd hc) ⟨vw, raw1⟩ (by omega) fun h' tk acc' c' hkeep hS hacc => ?_)
    refine laid hkeep hS (by rw [List.length_map]; omega) (vals_at (by have q1 : acc'.toList.length = acc'.size := Array.length_toList; rw [q1, hacc.1, l1, ← l2]; exact List.length_map _) fun j x u h1 h2 => ?_) q
    obtain ⟨hj, hv⟩ := hacc.2 j u (by rw [← Array.getElem?_toList]; exact h2)
    have e1 := entry_at he j
    rw [Array.getElem?_eq_getElem hj] at e1
    cases hb : ks[j]? with
    | none => rw [hb] at e1; cases e1
    | some b =>
      rw [hb] at e1
      have e2 := Option.some.inj e1
      rw [List.getElem?_map] at h1
      obtain ⟨kv, hkv, rfl⟩ := Option.map_eq_some_iff.mp h1
      obtain ⟨b', hb', hr⟩ := paired_get pr hkv
      rw [hb] at hb'
      cases hb'
      rw [hv, e2]
      exact hr.2.2
end
section
variable {X : Cx} {CX : CXT} {o : Expr} {ta : TE} {tk : TA} {m : Str} {f C : Addr} {fd : FuncData} {k : Nat} {ps ks : List Str} {sp : Sp} {g : List Value → List Value → List Value} {gV : List V → List V → List V} {E : XK} {kws : List Keyword} {pos apos : Pos}
/-- o.m(k = v, ..) -/
def tMethK (C : Addr) (m : Str) (sp : Sp) (gV : List V → List V → List V) (E : XK) (ta : TE) (tk : TA) : TE := fun σ H Q => ta σ H fun x H1 => ∃ a dx fs, x = .ref a ∧ H1 a = some (.ins C dx fs) ∧ fs.lookup m = none ∧ tk σ H1 fun zs H2 => sp (gV [.ref a] zs) H2 Q E
theorem pe_methK0 {pl : Sem Bool} (he : PE X o ta) (c : Cls X.K C) (hm : Meth X.K C m f) (F : FnOk X.prog X.w X.K X.mg X.base CX k f fd ps sp) (hr : Room k X.A) (hb : KBinds X.K fd ps ks g gV) (hx : Passes CX X E) (hkw : PK X kws tk)
    (hall : (backToKw pos (keywordEach kws X.env)).all (·.1.isSome) = true := by rfl) (hks : (backToKw pos (keywordEach kws X.env)).filterMap (·.1) = ks := by rfl)
    (hpl : ((backTo pos (starEach [] X.env)).any (·.1) || (backToKw pos (keywordEach kws X.env)).any (·.1.isNone)) = false := by rfl)
    (ht : eval (.Call (.Attribute o m apos) [] kws pos) X.env = (do
      let ov ← eval o X.env
      standAt apos.atName
      let (f, first) ← holding [ov] (getMethod ov m pl)
      callWith pos f first (backTo pos (starEach [] X.env)) (backToKw pos (keywordEach kws X.env))) := by rfl) :
    PE X (.Call (.Attribute o m apos) [] kws pos) (tMethK C m sp gV E ta tk) := by
  refine ⟨fun pins s σ H Q I h => ?_⟩
  refine PySem.W.methodCall_KW (pl := pl) (thn (he.run pins s σ H _ I h) fun u s1 ⟨x, H1, I1, rx, a, dx, fs, ex, ea, l, q⟩ => ?_) ht
  subst ex
  obtain rfl : u = Value.ref a := rx
  refine getmeth_ok I1 ea c hm l ?_
  refine PySem.W.callWith_KW0 (first := [.ref a]) (h₀ := X.base) I.ok.mod.kin hm.kp hall (thn (hkw.run pos pins s1 σ H1 _ I1 q) fun ws s2 ⟨zs, H2, I2, rz, q2⟩ => ⟨I2.kIn, ?_⟩) hpl
  rw [hks]
  exact run_fnk (us := [.ref a]) (vs := [.ref a]) F hr hb hx I2 (.cons rfl .nil) rz q2
end
/-! a text not at all, or once -/
section
variable {X : Cx}
theorem op_mulZ : OpR X (binaryOp .Mult) (fun x y H Q => ∃ (z : Str) (n : Int), x = V.str z ∧ y = V.int n ∧ ((n = 0 ∧ Q (.str Str.empty) H) ∨ (n = 1 ∧ Q (.str z) H))) := by
  intro pins s σ H x y v u Q I rx ry h
  obtain ⟨z, n, rfl, rfl, h⟩ := h
  obtain ⟨t, rfl⟩ := rx
  obtain ⟨t', rfl⟩ := ry
  rcases h with ⟨rfl, q⟩ | ⟨rfl, q⟩
  · exact PySem.P.mul_str_none (by decide) (by decide) ⟨.str Str.empty, H, I.tok _, ⟨_, rfl⟩, q⟩
  · refine PySem.P.mul_str (by decide) (fun _ e => absurd e (by simp)) (fun _ e => absurd e (by simp)) ?_
    rw [if_neg (by decide), if_pos (by simp)]
    exact ⟨.str z, H, I, ⟨_, rfl⟩, q⟩
/-- the pairs at ps, raw -/
theorem pairs_raw {pins : List (Addr × Obj)} {σ : L2.St} {H : Hp} {s : Shared} (I : Inv X pins σ H s) : ∀ {ps : List Addr} {kvs : List (Key × V)}, Paired (fun p kv => SqT X.K H p [kV kv.1, kv.2]) ps kvs →
    ∃ prs : List (Key × Value × Value), KV kvs (prs.map fun z => (z.1, z.2.2)) ∧ prs.length = ps.length ∧ ∀ (j : Nat) (q : Key × Value × Value), prs[j]? = some q → ∃ b, ps[j]? = some b ∧ s.heap.IsTuple b #[q.2.1, q.2.2] ∧ keyIs q.1 q.2.1 = true
  | _, _, .nil => ⟨[], .nil, rfl, fun j q e => by simp at e⟩
  | _, _, .cons (a := p) (b := kv) h t => by
    obtain ⟨prs, r, hl, hp⟩ := pairs_raw I t
    obtain ⟨its, rv, ht, _⟩ := I.tuple h
    obtain ⟨u, y, ei, ru, ry⟩ := vals2 rv
    subst ei
    refine ⟨(kv.1, u, y) :: prs, .cons ⟨rfl, ry⟩ r, by rw [List.length_cons, List.length_cons, hl], fun j q e => ?_⟩
    cases j with
    | zero =>
      have e' : (kv.1, u, y) = q := Option.some.inj e
      subst e'
      exact ⟨p, rfl, ht, kV_is (P := X.prog) (w := X.w) ru⟩
    | succ j =>
      obtain ⟨b, e1, e2⟩ := hp j q (by simpa using e)
      exact ⟨b, by simpa using e1, e2⟩
/-- dict(t), t a tuple of pairs -/
theorem call_dictF {K : PySem.W.Frag} (hK : X.K = K) (hcalm : X.calm = true) : CallR X (.type "dict") (fun xs H Q => ∃ (a : Addr) (ps : List Addr) (kvs : List (Key × V)), xs = [.ref a] ∧ TupF H a (ps.map V.ref) ∧ Paired (fun p kv => SqT K H p [kV kv.1, kv.2]) ps kvs ∧
    ∀ p, H p = none → Q (.ref p) (upd H p (.dK (mergeK [] kvs)))) := by
  subst hK
  intro pins s σ H xs us Q I r q
  obtain ⟨a, ps, kvs, ex, hq, hp, q⟩ := q
  subst ex
  obtain ⟨u, eu, rx⟩ := vals1 r
  subst eu
  cases rx
  obtain ⟨ob, eH, ed⟩ := hq
  obtain ⟨ho, hz, its, rv, o1, ho1, hc1, n1, hd1⟩ := (show ObjOk X.prog X.w H s.heap a (.frz ob (.tup (ps.map V.ref))) from I.hok a _ eH)
  have ei := refs_at rv
  subst ei
  rw [List.length_map] at hz
  have eo : o1 = ob := by rw [ho] at ho1; exact (Option.some.inj ho1).symm
  subst eo
  obtain ⟨prs, rel, hl, hpr⟩ := pairs_raw I hp
  have gd : ∀ j T, ps[j]? = some T → ps.getD j 0 = T := fun j T e => by rw [List.getD_eq_getElem?_getD, e]; rfl
  refine PySem.call_dict_pairs (knd := mixKind X.prog X.w) (kvs := prs.map fun z => (z.1, z.2.2)) (PairArg.tuple a (ps.map Value.ref).toArray (fun j => ps.getD j 0) (prs.map fun z => (z.2.1, z.2.2))) (I.ok.hd hcalm) ⟨⟨o1, n1, ho, hc1, ed, hd1⟩, ?_, fun j k v e => ?_⟩ ⟨?_, fun i key v e => ?_⟩ ?_ fun h' tk hd' k => ?_
  · simp [hl]
  · rw [List.getElem?_map] at e
    obtain ⟨z, hz', e⟩ := Option.map_eq_some_iff.mp e
    cases e
    obtain ⟨T, hT, ht, _⟩ := hpr j z hz'
    show (List.map Value.ref ps).toArray[j]? = some (Value.ref (ps.getD j 0)) ∧ PySem.PairAt s.heap (ps.getD j 0) z.2.1 z.2.2
    rw [gd j T hT]
    exact ⟨by simp [hT], .inl ht⟩
  · simp
  · have e : (prs.map fun z => (z.2.1, z.2.2))[i]? = some (key, v) := e
    rw [List.getElem?_map] at e
    obtain ⟨z, hz', e⟩ := Option.map_eq_some_iff.mp e
    cases e
    obtain ⟨_, _, _, hk⟩ := hpr i z hz'
    exact ⟨z.1, by rw [List.getElem?_map, hz']; rfl, hk⟩
  · simp only [List.length_map]; omega
  · have hm : (s.heap.objs.size == sysModules) = false := beq_eq_false_iff_ne.mpr (Nat.ne_of_gt I.big)
    have hlen : (mergeK [] kvs).length ≤ sizeLine := by
      refine Nat.le_trans (length_mergeK kvs []) ?_
      have : kvs.length = (prs.map fun z => (z.1, z.2.2)).length := rel.length
      rw [List.length_map] at this
      rw [List.length_nil, Nat.zero_add, this, hl]
      exact hz
    exact ⟨.ref s.heap.objs.size, upd H s.heap.objs.size (.dK (mergeK [] kvs)), I.laid (t' := tk) (fun b o e => k b o (fun z => nomatch z) e) (Nat.le_refl _) (show ObjOk X.prog X.w _ _ _ (.dK (mergeK [] kvs)) from ⟨hlen, hm, merged [] (prs.map fun z => (z.1, z.2.2)), KV.merge rel .nil, hd'⟩), rfl, q _ (I.hok.fresh (Nat.le_refl _))⟩
end
section
variable {X : Cx}
/-- d != {} -/
theorem op_ne_dict0 (hu : X.A.units < cLine) : OpR X (compareOp .NotEq) (fun x y H Q => ∃ (a b : Addr) (ks : List (Key × V)), x = V.ref a ∧ y = V.ref b ∧ H a = some (.dK ks) ∧ H b = some (.dK []) ∧ Q (.bl (!ks.isEmpty)) H) := by
  intro pins s σ H x y v u Q I rx ry h
  obtain ⟨a, b, ks, rfl, rfl, ea, eb, q⟩ := h
  cases ks with
  | nil => exact op_ne_dictA hu pins s σ H _ _ v u Q I rx ry ⟨a, b, [], [], rfl, rfl, ea, eb, rfl, fun _ z => (nomatch z), q⟩
  | cons k ks =>
    obtain rfl : v = Value.ref a := rx
    obtain rfl : u = Value.ref b := ry
    obtain ⟨_, ya, va, ra, da⟩ := (show ObjOk X.prog X.w H s.heap a (.dK (k :: ks)) from I.hok a _ ea)
    obtain ⟨_, yb, vb, rb, db⟩ := (show ObjOk X.prog X.w H s.heap b (.dK []) from I.hok b _ eb)
    have l1 : va.length = ks.length + 1 := ra.length.symm
    have l2 : vb.length = 0 := rb.length.symm
    exact PySem.W.keq_ne (knd := mixKind X.prog X.w) (r := true) ya yb da db hu (fun e => by omega) (fin_bl I q (by simp [l1, l2]))
end
end KX

set_option Elab.async false
set_option linter.all false
set_option maxRecDepth 100000
set_option maxHeartbeats 4000000
/-! The search for the shortest words. -/
namespace L
open PySem L2 KX
abbrev En := List Nat × List Str
abbrev Ltt := List (Str × List Nat)
def keyL (m : List Nat) : List Key := m.map fun x : Nat => (Sum.inl (x : Int) : Key)
theorem keyL_inj : ∀ {a b : List Nat}, keyL a = keyL b → a = b
  | [], [], _ => rfl
  | [], _ :: _, h => by cases h
  | _ :: _, [], h => by cases h
  | x :: a, y :: b, h => by
    have h : (Sum.inl (x : Int) : Key) :: keyL a = Sum.inl (y : Int) :: keyL b := h
    injection h with h1 h2
    have := Sum.inl.inj h1
    rw [keyL_inj h2, show x = y by omega]
theorem keyL_kV (m : List Nat) : (keyL m).map kV = nv m := by unfold keyL nv; rw [List.map_map]; rfl
def keys (S : List En) : List (List Nat) := S.map (·.1)
def ltt (L : Ltt) : List (List Nat) := L.map (·.2)
def new (st : En) (q : Str × List Nat) : En := (cmp st.1 q.2, st.2 ++ [q.1])
def inn (st : En) : Ltt → List En → List En → Option (List En × List En)
  | [], S, lg => some (S, lg)
  | q :: r, S, lg => if cmp st.1 q.2 ∈ keys S then inn st r S lg else if S.length = 16 then none else inn st r (S ++ [new st q]) (lg ++ [new st q])
def lay (L : Ltt) : List En → List En → List En → Option (List En × List En)
  | [], S, lg => some (S, lg)
  | st :: r, S, lg => match inn st L S lg with
    | none => none
    | some p => lay L r p.1 p.2
inductive Bf (L : Ltt) : List En → List En → Option (List En) → Prop
  | done (S : List En) : Bf L S [] (some S)
  | over {S lr : List En} : lr ≠ [] → lay L lr S [] = none → Bf L S lr none
  | next {S lr S' lg : List En} {r : Option (List En)} : lr ≠ [] → lay L lr S [] = some (S', lg) → Bf L S' lg r → Bf L S lr r
theorem Bf.det {L : Ltt} {S lr : List En} {r : Option (List En)} (h : Bf L S lr r) : ∀ {r' : Option (List En)}, Bf L S lr r' → r = r' := by
  induction h with
  | done S =>
    intro r' h'
    cases h' with
    | done => rfl
    | over n _ => exact absurd rfl n
    | next n _ _ => exact absurd rfl n
  | over n e =>
    intro r' h'
    cases h' with
    | done => exact absurd rfl n
    | over _ _ => rfl
    | next _ e' _ => rw [e] at e'; cases e'
  | next n e b ih =>
    intro r' h'
    cases h' with
    | done => exact absurd rfl n
    | over _ e' => rw [e] at e'; cases e'
    | next _ e' b' =>
      rw [e] at e'
      cases e'
      exact ih b'
/-- what a step keeps -/
structure Stp (n : Nat) (ls : List (List Nat)) (S lg S' lg' : List En) : Prop where
  pre : ∃ d : List En, S' = S ++ d ∧ lg' = lg ++ d
  nd : (keys S).Nodup → (keys S').Nodup
  le : S.length ≤ 16 → S'.length ≤ 16
  gen : (∀ m, m ∈ keys S → Gen ls m) → ∀ m, m ∈ keys S' → Gen ls m
theorem Stp.refl {n : Nat} {ls : List (List Nat)} (S lg : List En) : Stp n ls S lg S lg := ⟨⟨[], by simp, by simp⟩, id, id, fun h => h⟩
theorem Stp.trans {n : Nat} {ls : List (List Nat)} {S lg S' lg' S2 lg2 : List En} (a : Stp n ls S lg S' lg') (b : Stp n ls S' lg' S2 lg2) : Stp n ls S lg S2 lg2 := by
  obtain ⟨d, e1, e2⟩ := a.pre
  obtain ⟨d', e3, e4⟩ := b.pre
  exact ⟨⟨d ++ d', by rw [e3, e1, List.append_assoc], by rw [e4, e2, List.append_assoc]⟩, fun h => b.nd (a.nd h), fun h => b.le (a.le h), fun h => b.gen (a.gen h)⟩
theorem Stp.sub {n : Nat} {ls : List (List Nat)} {S lg S' lg' : List En} (a : Stp n ls S lg S' lg') {m : List Nat} (h : m ∈ keys S) : m ∈ keys S' := by
  obtain ⟨d, e1, _⟩ := a.pre
  rw [e1]
  unfold keys at *
  rw [List.map_append]
  exact List.mem_append_left _ h
theorem keys_snoc (S : List En) (e : En) : keys (S ++ [e]) = keys S ++ [e.1] := by unfold keys; rw [List.map_append]; rfl
theorem inn_ok {n : Nat} {st : En} {ls : List (List Nat)} : ∀ {L : Ltt} {S lg S' lg' : List En}, (∀ q, q ∈ L → Gen ls (cmp st.1 q.2)) → inn st L S lg = some (S', lg') → Stp n ls S lg S' lg' ∧ ∀ q, q ∈ L → cmp st.1 q.2 ∈ keys S'
  | [], S, lg, S', lg', _, h => by
    have h : some (S, lg) = some (S', lg') := h
    cases h
    exact ⟨Stp.refl _ _, fun _ z => nomatch z⟩
  | q :: r, S, lg, S', lg', hg, h => by
    unfold inn at h
    by_cases c : cmp st.1 q.2 ∈ keys S
    · rw [if_pos c] at h
      obtain ⟨s, f⟩ := inn_ok (n := n) (fun q' hq => hg q' (List.mem_cons_of_mem _ hq)) h
      refine ⟨s, fun q' hq => ?_⟩
      rcases List.mem_cons.mp hq with rfl | hq
      · exact s.sub c
      · exact f q' hq
    · rw [if_neg c] at h
      by_cases c2 : S.length = 16
      · rw [if_pos c2] at h; cases h
      rw [if_neg c2] at h
      obtain ⟨s, f⟩ := inn_ok (n := n) (fun q' hq => hg q' (List.mem_cons_of_mem _ hq)) h
      have s1 : Stp n ls S lg (S ++ [new st q]) (lg ++ [new st q]) := by
        refine ⟨⟨_, rfl, rfl⟩, fun nd => ?_, fun l => by rw [List.length_append]; show S.length + 1 ≤ 16; omega, fun g m hm => ?_⟩
        · rw [keys_snoc]
          refine List.nodup_append.mpr ⟨nd, by simp, fun a ha b hb e => ?_⟩
          rw [List.mem_singleton] at hb
          exact c (by rw [show cmp st.1 q.2 = a from (e.trans hb).symm]; exact ha)
        · rw [keys_snoc] at hm
          rcases List.mem_append.mp hm with h | h
          · exact g m h
          · rw [List.mem_singleton.mp h]; exact hg q List.mem_cons_self
      refine ⟨s1.trans s, fun q' hq => ?_⟩
      rcases List.mem_cons.mp hq with rfl | hq
      · exact s.sub (by rw [keys_snoc]; exact List.mem_append_right _ (List.mem_singleton.mpr rfl))
      · exact f q' hq
theorem lay_ok {n : Nat} {ls : List (List Nat)} {L : Ltt} : ∀ {lr S lg S' lg' : List En}, (∀ e, e ∈ lr → ∀ q, q ∈ L → Gen ls (cmp e.1 q.2)) → lay L lr S lg = some (S', lg') → Stp n ls S lg S' lg' ∧ ∀ e, e ∈ lr → ∀ q, q ∈ L → cmp e.1 q.2 ∈ keys S'
  | [], S, lg, S', lg', _, h => by
    have h : some (S, lg) = some (S', lg') := h
    cases h
    exact ⟨Stp.refl _ _, fun _ z => nomatch z⟩
  | st :: r, S, lg, S', lg', hg, h => by
    unfold lay at h
    cases hi : inn st L S lg with
    | none => rw [hi] at h; cases h
    | some p =>
      rw [hi] at h
      obtain ⟨s1, f1⟩ := inn_ok (n := n) (hg st List.mem_cons_self) hi
      obtain ⟨s2, f2⟩ := lay_ok (n := n) (fun e he => hg e (List.mem_cons_of_mem _ he)) h
      refine ⟨s1.trans s2, fun e he q hq => ?_⟩
      rcases List.mem_cons.mp he with rfl | he
      · exact s2.sub (f1 q hq)
      · exact f2 e he q hq
/-- the letters of n states -/
structure LOk (n : Nat) (L : Ltt) : Prop where
  le : 1 ≤ L.length
  ge : L.length ≤ 4
  n1 : 1 ≤ n
  n5 : n ≤ 5
  mp : ∀ q, q ∈ L → Mp n q.2
  ss : ∀ q, q ∈ L → Ss 8 q.1
/-- where the search stands -/
structure Sea (n : Nat) (L : Ltt) (S lr : List En) : Prop where
  nd : (keys S).Nodup
  le : S.length ≤ 16
  gen : ∀ m, m ∈ keys S → Gen (ltt L) m
  lg : ∀ e, e ∈ lr → ∀ q, q ∈ L → Gen (ltt L) (cmp e.1 q.2)
  cl : ∀ m, m ∈ keys S → m ∈ keys lr ∨ ∀ q, q ∈ L → cmp m q.2 ∈ keys S
  st : (∀ q, q ∈ L → q.2 ∈ keys S) ∨ ∃ e, e ∈ lr ∧ ∀ q, q ∈ L → cmp e.1 q.2 = q.2
theorem Sea.next {n : Nat} {L : Ltt} {S lr S' lg : List En} (h : Sea n L S lr) (e : lay L lr S [] = some (S', lg)) : Sea n L S' lg := by
  obtain ⟨s, f⟩ := lay_ok (n := n) h.lg e
  obtain ⟨d, e1, e2⟩ := s.pre
  rw [List.nil_append] at e2
  subst e2
  have inl : ∀ m, m ∈ keys S' → m ∈ keys S ∨ m ∈ keys lg := fun m hm => by
    rw [e1] at hm
    unfold keys at *
    rw [List.map_append] at hm
    exact List.mem_append.mp hm
  have gS := s.gen h.gen
  refine ⟨s.nd h.nd, s.le h.le, gS, fun e he q hq => ?_, fun m hm => ?_, .inl fun q hq => ?_⟩
  · refine .step (gS e.1 ?_) (List.mem_map.mpr ⟨q, hq, rfl⟩)
    rw [e1]
    unfold keys
    rw [List.map_append]
    exact List.mem_append_right _ (List.mem_map.mpr ⟨e, he, rfl⟩)
  · rcases inl m hm with hS | hl
    · refine .inr fun q hq => ?_
      rcases h.cl m hS with hr | hc
      · obtain ⟨e, he, rfl⟩ := List.mem_map.mp hr
        exact f e he q hq
      · exact s.sub (hc q hq)
    · exact .inl hl
  · rcases h.st with k | ⟨e, he, k⟩
    · exact s.sub (k q hq)
    · rw [← k q hq]; exact f e he q hq
theorem cmp_id {n : Nat} {m : List Nat} (h : Mp n m) : cmp (List.range n) m = m := by
  unfold cmp
  apply List.ext_getElem
  · rw [List.length_map, List.length_range, h.1]
  · intro i h1 h2
    rw [List.getElem_map, List.getElem_range, List.getD_eq_getElem?_getD, List.getElem?_eq_getElem h2]; rfl
theorem sea0 {n : Nat} {L : Ltt} (o : LOk n L) : Sea n L [] [(List.range n, [])] := by
  have k : ∀ q, q ∈ L → cmp (List.range n) q.2 = q.2 := fun q hq => cmp_id (o.mp q hq)
  refine ⟨List.nodup_nil, Nat.zero_le _, fun _ z => (nomatch z), fun e he q hq => ?_, fun _ z => (nomatch z), .inr ⟨_, List.mem_singleton.mpr rfl, k⟩⟩
  rw [List.mem_singleton.mp he]
  show Gen (ltt L) (cmp (List.range n) q.2)
  rw [k q hq]
  exact .base (List.mem_map.mpr ⟨q, hq, rfl⟩)
/-- the elements found -/
structure Fnd (n : Nat) (L : Ltt) (S : List En) : Prop where
  nd : (keys S).Nodup
  le : S.length ≤ 16
  cl : Cl n (keys S)
  lt : ∀ q, q ∈ L → q.2 ∈ keys S
theorem Sea.fin {n : Nat} {L : Ltt} {S : List En} (o : LOk n L) (h : Sea n L S []) : Fnd n L S := by
  have lm : ∀ l, l ∈ ltt L → Mp n l := fun l hl => by
    obtain ⟨q, hq, rfl⟩ := List.mem_map.mp hl
    exact o.mp q hq
  refine ⟨h.nd, h.le, ⟨fun m hm => (h.gen m hm).mp lm, fun x hx y hy => gen_closed lm h.gen (fun x hx l hl => ?_) hx (h.gen y hy)⟩, fun q hq => ?_⟩
  · obtain ⟨q, hq, rfl⟩ := List.mem_map.mp hl
    rcases h.cl x hx with k | k
    · cases k
    · exact k q hq
  · rcases h.st with k | ⟨_, k, _⟩
    · exact k q hq
    · cases k
theorem Bf.fnd {n : Nat} {L : Ltt} (o : LOk n L) {S lr : List En} {r : Option (List En)} (h : Bf L S lr r) : Sea n L S lr → ∀ S', r = some S' → Fnd n L S' := by
  induction h with
  | done S =>
    intro s S' e
    cases e
    exact s.fin o
  | over _ _ => intro _ _ e; cases e
  | next _ e _ ih => exact fun s => ih (s.next e)
/-- what the search gives -/
def Res (n : Nat) (L : Ltt) (r : Option (List En)) : Prop := Bf L [] [(List.range n, [])] r
theorem Res.fnd {n : Nat} {L : Ltt} (o : LOk n L) {S : List En} (h : Res n L (some S)) : Fnd n L S := Bf.fnd o h (sea0 o) S rfl
theorem Fnd.ne {n : Nat} {L : Ltt} {S : List En} (o : LOk n L) (f : Fnd n L S) : 1 ≤ S.length := by
  cases L with
  | nil => have := o.le; simp at this
  | cons q L =>
    obtain ⟨e, he, _⟩ := List.mem_map.mp (f.lt q List.mem_cons_self)
    exact List.length_pos_of_mem he
end L

set_option Elab.async false
set_option linter.all false
set_option maxRecDepth 100000
set_option maxHeartbeats 4000000
set_option pp.maxSteps 400
namespace L
open PySem L2 KX
abbrev sIsName : Stmt := top 15
abbrev sCd : Stmt := top 31
abbrev sSw : Stmt := top 32
abbrev nSw : List Str := ["states", "letters", "words", "layer", "longer", "start", "word", "name", "targets", "reached"]
/-- the sign c lies from a to z, as both functions compare it -/
def sg (c : Nat) : Bool := if (!decide ((⟨#[c]⟩ : Str).cps.toList < (Str.ofString "a").cps.toList)) = true then !decide ((Str.ofString "z").cps.toList < (⟨#[c]⟩ : Str).cps.toList) else false
def nm (z : Str) : Bool := decide (1 ≤ z.length) && decide (z.length ≤ 8) && z.cps.toList.all sg
/-- a text, or no text -/
def Ist (K : PySem.W.Frag) (H : Hp) (v : V) (r : Bool) : Prop := (∃ z, v = .str z ∧ Ss 4000 z ∧ r = nm z) ∨ (r = false ∧ ∃ t, TyX K H v t ∧ PySem.W.kitOne K t (.type "str") = some false)
def spIsName (K : PySem.W.Frag) : Sp := fun vs H Q _ => ∃ v r, vs = [v] ∧ Ist K H v r ∧ ∀ H', Same H H' → Q (.bl r) H'
theorem inn_cons (st : En) (q : Str × List Nat) (r : Ltt) (S lg : List En) : inn st (q :: r) S lg = if cmp st.1 q.2 ∈ keys S then inn st r S lg else if S.length = 16 then none else inn st r (S ++ [new st q]) (lg ++ [new st q]) := rfl
theorem lay_cons (L : Ltt) (st : En) (r S lg : List En) : lay L (st :: r) S lg = match inn st L S lg with
    | none => none
    | some p => lay L r p.1 p.2 := rfl
def spCd (K : PySem.W.Frag) : Sp := fun vs H Q _ => ∃ (a b : Addr) (k : Nat) (x y : List Nat), vs = [.ref a, .ref b] ∧ SqT K H a (nv x) ∧ SqT K H b (nv y) ∧ Mp k x ∧ Mp k y ∧ k ≤ 5 ∧ ∀ p H', Same H H' → H p = none → H' p = some (.tup (nv (cmp x y))) → Q (.ref p) H'
/-- the letters of an object -/
def Ltr (H : Hp) (l : Addr) (L : Ltt) : Prop := ∃ ps : List Addr, TupF H l (ps.map V.ref) ∧ Paired (fun p (q : Str × List Nat) => ∃ t, H p = some (.tup [.str q.1, .ref t]) ∧ H t = some (.tup (nv q.2))) ps L
theorem Ltr.to {H H' : Hp} {l : Addr} {L : Ltt} (h : Ltr H l L) (s : Same H H') : Ltr H' l L := by
  obtain ⟨ps, e, pr⟩ := h
  exact ⟨ps, e.ext s, L2.Paired.mapP pr fun p q ⟨t, a, b⟩ => ⟨t, s _ _ a, s _ _ b⟩⟩
/-- the words of a dict -/
def Wd (H : Hp) (D : Addr) (S : List En) : Prop := ∃ kvs : List (List Key × V), H D = some (.dT kvs) ∧ Paired (fun (kv : List Key × V) (e : En) => kv.1 = keyL e.1 ∧ ∃ a, kv.2 = .ref a ∧ H a = some (.lst (e.2.map V.str))) kvs S
def ItE (H : Hp) (t : Addr) (e : En) : Prop := ∃ m wd, H t = some (.tup [.ref m, .ref wd]) ∧ H m = some (.tup (nv e.1)) ∧ H wd = some (.lst (e.2.map V.str))
theorem ItE.to {H H' : Hp} {t : Addr} {e : En} (h : ItE H t e) (s : ∀ b o, H b = some o → (∀ k, o ≠ .dT k) → H' b = some o) : ItE H' t e := by
  obtain ⟨m, wd, a, b, c⟩ := h
  exact ⟨m, wd, s _ _ a (fun k z => nomatch z), s _ _ b (fun k z => nomatch z), s _ _ c (fun k z => nomatch z)⟩
def Lay (H : Hp) (l : Addr) (lr : List En) : Prop := ∃ ts : List Addr, H l = some (.lst (ts.map V.ref)) ∧ Paired (ItE H) ts lr
theorem Lay.to {H H' : Hp} {l : Addr} {lr : List En} (h : Lay H l lr) (s : ∀ b o, H b = some o → (∀ k, o ≠ .dT k) → H' b = some o) : Lay H' l lr := by
  obtain ⟨ts, e, pr⟩ := h
  exact ⟨ts, s _ _ e (fun k z => nomatch z), L2.Paired.mapP pr fun t e h => h.to s⟩
theorem Wd.to {H H' : Hp} {D : Addr} {S : List En} (h : Wd H D S) (s : Same H H') : Wd H' D S := by
  obtain ⟨kvs, e, pr⟩ := h
  exact ⟨kvs, s _ _ e, L2.Paired.mapP pr fun kv e ⟨a, x, b, c⟩ => ⟨a, x, b, s _ _ c⟩⟩
theorem Wd.key {H : Hp} {S : List En} {kvs : List (List Key × V)} (pr : Paired (fun (kv : List Key × V) (e : En) => kv.1 = keyL e.1 ∧ ∃ a, kv.2 = .ref a ∧ H a = some (.lst (e.2.map V.str))) kvs S) (x : List Nat) : (valV kvs (keyL x)).isSome = decide (x ∈ keys S) := by
  induction pr with
  | nil => rfl
  | @cons kv e kvs S h _ ih =>
    have hk : keys (e :: S) = e.1 :: keys S := rfl
    rw [hk]
    by_cases c : x = e.1
    · subst c
      have : valV (kv :: kvs) (keyL e.1) = some kv.2 := by
        unfold valV
        simp [h.1]
      rw [this]; simp
    · have : valV (kv :: kvs) (keyL x) = valV kvs (keyL x) := by
        unfold valV
        have n : ¬ kv.1 = keyL x := fun z => c (keyL_inj (h.1 ▸ z)).symm
        simp [n]
      rw [this, ih]
      simp [c]
def spSw (CO : Addr) : Sp := fun vs H Q E => ∃ (n : Nat) (l : Addr) (L : Ltt), vs = [.int (n : Int), .ref l] ∧ LOk n L ∧ Ltr H l L ∧
  (∀ S D H', Res n L (some S) → Wd H' D S → Same H H' → H D = none → Q (.ref D) H') ∧ (∀ H' d, Res n L none → Same H H' → H' d = none → E (.ref CO) (some d) (upd H' d (.xd [("count", .int 17)])))
def muSw (σ : L2.St) (J : Hp) : Nat := (match σ.getD 2 none with
  | some (.ref a) => match J a with
    | some (.dT kvs) => (17 - kvs.length) * 2
    | _ => 0
  | _ => 0) + match σ.getD 3 none with
  | some (.ref a) => match J a with
    | some (.lst xs) => min 1 xs.length
    | _ => 0
  | _ => 0
theorem muSw_of {σ : L2.St} {J : Hp} {a b : Addr} {kvs : List (List Key × V)} {xs : List V} (h : σ.getD 2 none = some (.ref a)) (e : J a = some (.dT kvs)) (h2 : σ.getD 3 none = some (.ref b)) (e2 : J b = some (.lst xs)) : muSw σ J = (17 - kvs.length) * 2 + min 1 xs.length := by
  unfold muSw
  rw [h, h2]
  dsimp only
  rw [e, e2]
section
variable {P : Program} {w : World} {K : PySem.W.Frag} {mg : Str → Option Value} {base : Heap} {f f1 fE : Addr} {fd d1 dE : FuncData} {C CO : Addr}
theorem scIsName : FnScope ["value", "letter"] ["value"] (defScope sIsName) := ⟨rfl, rfl, rfl, by decide +kernel, rfl, by decide +kernel, by decide +kernel⟩
theorem ok_isname (F : Fun K "is_name" "is_name" sIsName f fd) (M : Mn mg) (mL : ∃ t, mg "_MOST_LETTERS" = some (.int 8 t)) : FnOk P w K mg base CX0 1 f fd ["value"] (spIsName K) := by
  refine F.ok scIsName (fun vs H Q E h => ?_) (fun cdv A outer s H vs Q E hr h => ?_)
  · obtain ⟨v, r, rfl, _⟩ := h
    rfl
  obtain ⟨v, r, rfl, hv, q⟩ := h
  obtain ⟨tok, mL⟩ := mL
  refine ⟨_, pss_cons (ps_if (pw_or (pt_not (pt_val (pe_callB call_isi (by rfl) M.isin (by decide +kernel) (pa_cons (pv 0) (pa_cons (pe_bltn (v := .ty "str") (by rfl) M.str (by decide +kernel) rfl) pa_nil)))))
      (pw_or1 (pt_not (pt_chain op_le op_le pe_int (pe_callB call_len_str (by rfl) M.len PySem.boot_len (pa_cons (pv 0) pa_nil)) (pe_glob (v := .int 8) (by rfl) mL ⟨_, rfl⟩))))).pt (pss_one (ps_ret pe_bl)) pss_nil)
    (pss_one (ps_ret (pe_callB (cr_all rfl) (by rfl) M.all (by decide +kernel) (pa_cons (pe_lc (own := [("letter", 1)]) (g := gName 1) (tt := tYes) rfl scIsName.nd (pi_str (pv 0))
      (blkOk_by (N := ["value", "letter"]) (sc := defScope sIsName) (by decide +kernel)) (fun _ _ _ _ _ => pg_name (i := 1) scIsName.nd rfl (Or.inl rfl)) (fun _ _ _ _ _ => pts_nil)
      (fun _ _ _ _ _ => pe_chain op_le_str op_le_str pe_str (pv 1) pe_str)) pa_nil)))), ?_⟩
  rcases hv with ⟨z, rfl, hz, rfl⟩ | ⟨rfl, t, ty, kt⟩
  · have hzs : z.length ≤ sizeLine := Nat.le_trans hz.1 (by decide)
    refine ⟨_, rfl, _, .ty "str", .type "str", .type "str", true, rfl, .ty _, .base (.str z), kit_ty (by decide +kernel), true, rfl, iteF ?_⟩
    refine ⟨_, rfl, z, rfl, hzs, _, _, rfl, rfl, _, rfl, ?_⟩
    refine ite2 (fun c1 => ⟨_, _, rfl, rfl, _, rfl, ite2 (fun c2 => ?_) (fun c2 => ?_)⟩) (fun c1 => ⟨_, rfl, iteT ?_⟩)
    · have e : nm z = false := by
        have c2' : ¬ (z.length : Int) ≤ 8 := of_decide_eq_false (by simpa using c2)
        unfold nm
        rw [decide_eq_false (show ¬ z.length ≤ 8 by omega)]
        simp
      rw [e] at q
      exact q H (Same.refl H)
    · have c2' : (z.length : Int) ≤ 8 := of_decide_eq_true (by simpa using c2)
      have c1' : (1 : Int) ≤ (z.length : Int) := of_decide_eq_true c1
      have e : nm z = z.cps.toList.all sg := by
        unfold nm
        rw [decide_eq_true (show 1 ≤ z.length by omega), decide_eq_true (show z.length ≤ 8 by omega)]
        rfl
      rw [e] at q
      refine ⟨_, rfl, z, rfl, fun D hD => ?_⟩
      refine lc_it (walk_str (z := z)) (fun i J => Same H J ∧ J D = some (.lst (((z.cps.toList.take i).map sg).map V.bl))) ⟨fun b o e => by rw [upd_ne (ne_of_none e hD)]; exact e, upd_same⟩ (fun _ _ _ _ => trivial) ?_ ?_
      · rintro i x Jz J hi ⟨sJ, eD⟩ ⟨rfl, c, hc, rfl⟩
        have hc' : z.cps.toList[i]? = some c := by simpa using hc
        have tk : z.cps.toList.take (i + 1) = z.cps.toList.take i ++ [c] := by
          rw [List.take_add_one, hc']; rfl
        have fin : ∀ b, b = sg c → ∃ acc, J D = some (.lst acc) ∧ acc.length < sizeLine ∧ Same H (upd J D (.lst (acc ++ [V.bl b]))) ∧ (upd J D (.lst (acc ++ [V.bl b]))) D = some (.lst (((z.cps.toList.take (i + 1)).map sg).map V.bl)) := fun b hb => by
          refine ⟨_, eD, ?_, fun b o e => by rw [upd_ne (ne_of_none e hD)]; exact sJ b o e, ?_⟩
          · rw [List.length_map, List.length_map, List.length_take]
            have : z.cps.toList.length = z.length := Array.length_toList
            exact small1000 (by omega)
          · rw [upd_same, tk, List.map_append, List.map_append, hb]; rfl
        refine ⟨rfl, _, rfl, _, _, rfl, rfl, _, rfl, ?_⟩
        refine ite2 (fun c1 => ⟨_, _, rfl, rfl, ?_⟩) (fun c1 => ?_)
        · exact fin _ (by unfold sg; rw [if_pos c1])
        · exact fin _ (by unfold sg; rw [if_neg c1])
      · rintro J ⟨sJ, eD⟩
        have hl : z.cps.toList.take z.cps.size = z.cps.toList := List.take_of_length_le (by rw [Array.length_toList]; exact Nat.le_refl _)
        rw [hl] at eD
        refine ⟨D, _, rfl, SqL.of eD, ?_⟩
        have e2 : (z.cps.toList.map sg).all id = z.cps.toList.all sg := by rw [List.all_map]; rfl
        rw [e2]
        exact q J sJ
    · have c1' : ¬ (1 : Int) ≤ (z.length : Int) := of_decide_eq_false (Bool.eq_false_iff.mpr c1)
      have e : nm z = false := by
        unfold nm
        rw [decide_eq_false (show ¬ 1 ≤ z.length by omega)]
        rfl
      rw [e] at q
      exact q H (Same.refl H)
  · refine ⟨_, rfl, v, .ty "str", t, .type "str", false, rfl, .ty _, ty, kt, false, rfl, iteT ?_⟩
    exact iteT (q H (Same.refl H))

theorem scCd : FnScope ["first", "second", "state"] ["first", "second"] (defScope sCd) := ⟨rfl, rfl, rfl, by decide +kernel, rfl, by decide +kernel, by decide +kernel⟩
theorem ok_cd (F : Fun K "_composed" "_composed" sCd f fd) (M : Mn mg) : FnOk P w K mg base CX0 1 f fd ["first", "second"] (spCd K) := by
  refine F.ok scCd (fun vs H Q E h => ?_) (fun cdv A outer s H vs Q E hr h => ?_)
  · obtain ⟨a, b, k, x, y, rfl, _⟩ := h
    rfl
  obtain ⟨a, b, k, x, y, rfl, ha, hb, hx, hy, k5, q⟩ := h
  refine ⟨_, pss_one (ps_ret (pe_callTy call_tuple_of (by rfl) M.tuple (by decide +kernel) (pa_cons (pe_lc (own := [("state", 2)]) (g := gName 2) (tt := tYes) rfl scCd.nd (pi_tup (pv 0))
    (blkOk_by (N := ["first", "second", "state"]) (sc := defScope sCd) (by decide +kernel)) (fun _ _ _ _ _ => pg_name (i := 2) scCd.nd rfl (Or.inl rfl)) (fun _ _ _ _ _ => pts_nil) (fun _ _ _ _ _ => pe_ix (ixt (K := K) rfl) (pv 1) (pv 2) (fun _ _ => rfl))) pa_nil))), ?_⟩
  refine ⟨_, rfl, a, rfl, ⟨_, ha⟩, fun D hD => ?_⟩
  refine lc_it (walk_tup (xs := nv x)) (fun i G => Same H G ∧ G D = some (.lst (nv ((cmp x y).take i)))) ⟨Same.new hD _, upd_same⟩ (fun i G _ z => Same.tup z.1 ha) ?_ ?_
  · rintro i v G G' hi ⟨sG, eD⟩ ⟨rfl, hv⟩
    obtain ⟨st, hst, rfl⟩ := nv_at hv
    have hs := hx.2 st (List.mem_of_getElem? hst)
    refine ⟨rfl, _, rfl, _, rfl, b, _, _, _, rfl, rfl, Same.tup sG hb, at_of (j := st) rfl (nv_get hy hs), _, eD, ?_, fun c o e => by rw [upd_ne (ne_of_none e hD)]; exact sG _ _ e, ?_⟩
    · rw [nv_len, List.length_take]
      have := (cmp_mp hx hy).1
      exact small1000 (by omega)
    · rw [upd_same, cmp_take hst]
      unfold nv
      rw [List.map_append]; rfl
  rintro G ⟨sG, eD⟩
  have lc : (cmp x y).length = x.length := by unfold cmp; rw [List.length_map]
  rw [nv_len, ← lc, List.take_length] at eD
  exact ⟨D, _, rfl, .inl ⟨SqL.of eD, fun l hl => q l _ (sG.trans (Same.new hl _)) (sG.free hl) upd_same⟩⟩
theorem scSw : FnScope nSw ["states", "letters"] (defScope sSw) := ⟨rfl, rfl, rfl, by decide +kernel, rfl, by decide +kernel, by decide +kernel⟩
theorem ok_sw (F : Fun K "_shortest_words" "_shortest_words" sSw f fd) (M : Mn mg) (mL : ∃ t, mg "LARGEST_TABLE" = some (.int 16 t))
    (TE : ETx K mg "TooMany" "count" CO fE) (FE : FnOk P w K mg base CX0 1 fE dE ["self", "count"] (spEi K CO "count")) (bE : Binds K dE ["self", "count"] [])
    (G1 : FnOk P w K mg base CX0 1 f1 d1 ["first", "second"] (spCd K)) (b1 : Binds K d1 ["first", "second"] []) (k1 : PySem.W.keepIn K (.ref f1) = true) (m1 : mg "_composed" = some (.ref f1)) :
    FnOk P w K mg base (L2.CX P w) 3 f fd ["states", "letters"] (spSw CO) := by
  obtain ⟨tok, mL⟩ := mL
  refine F.okX scSw (fun vs H Q E h => ?_) (fun cdv A outer s H vs Q E hr h => ?_)
  · obtain ⟨n, l, L, rfl, _⟩ := h
    rfl
  obtain ⟨n, l, L, rfl, lo, hl, q, qE⟩ := h
  have hr1 : Room 1 _ := hr.mono (by decide)
  have hu := hr.units
  have hu1 : (A.deeper (PyProof.Rows.envOfC "_shortest_words" (defScope sSw) s.heap.objs.size f cdv)).units + 1 < cLine := by omega
  refine ⟨_, (pss_cons (ps_set (i := 2) scSw.nd rfl (Or.inl rfl) pe_dnewT) (pss_cons (ps_set (i := 3) scSw.nd rfl (Or.inl rfl) (pe_lst (pa_cons (pe_tup (pa_cons (pe_tupRg rfl (by rfl) M.tuple (prg_1 (by rfl) M.range (pv 0))) (pa_cons (pe_lst pa_nil) pa_nil))) pa_nil))) (pss_cons (ps_while (passes_of rfl) (pt_mo (pt_truth (pv 3) (fun _ => rfl))) (pss_cons (ps_set (i := 4) scSw.nd rfl (Or.inl rfl) (pe_lst pa_nil)) (pss_cons (ps_for (passes_of rfl) rfl (pi_list (pv 3)) (pg_tup rfl (pgs_cons (pg_name (i := 5) scSw.nd rfl (Or.inl rfl)) (pgs_cons (pg_name (i := 6) scSw.nd rfl (Or.inl rfl)) pgs_nil))) (pss_one (ps_for (passes_of rfl) rfl (pi_tup (pv 1)) (pg_tup rfl (pgs_cons (pg_name (i := 7) scSw.nd rfl (Or.inl rfl)) (pgs_cons (pg_name (i := 8) scSw.nd rfl (Or.inl rfl)) pgs_nil))) (pss_cons (ps_set (i := 9) scSw.nd rfl (Or.inl rfl) (pe_call G1 hr1 (by rfl) m1 k1 b1 .nil pass0 (pa_cons (pv 5) (pa_cons (pv 8) pa_nil)))) (pss_cons (ps_if (pt_cmp (pc_din (by exact hu1) (pv 9) (pv 2))) (pss_one ps_continue) pss_nil) (pss_cons (ps_if (pt_cmpR op_eq (pe_callB call_len_dT (by rfl) M.len PySem.boot_len (pa_cons (pv 2) pa_nil)) (pe_glob (v := .int 16) (by rfl) mL ⟨_, rfl⟩) (nomark _)) (pss_one (ps_raise rfl (takes_of rfl rfl rfl rfl) (pmk_val TE.ox TE.iC TE.tI TE.noF FE hr bE (by rfl) TE.mgC (pa_cons (pe_op op_add (pe_glob (v := .int 16) (by rfl) mL ⟨_, rfl⟩) pe_int) pa_nil)))) pss_nil) (pss_cons (ps_dput (by exact hu1) (pv 2) (pv 9) (pe_op op_cat (pv 6) (pe_lst (pa_cons (pv 7) pa_nil))) rfl) (pss_one (ps_expr (pe_bm PySem.F.plainAttrs_list PySem.F.slot_list_append PySem.F.type_list_append mt_append (pv 4) (pa_cons (pe_tup (pa_cons (pv 9) (pa_cons (pe_op op_cat (pv 6) (pe_lst (pa_cons (pv 7) pa_nil))) pa_nil))) pa_nil))))))))))) (pss_one (ps_set (i := 3) scSw.nd rfl (Or.inl rfl) (pv 4)))))) (pss_one (ps_ret (pv 2)))))), ?_⟩
  obtain ⟨ps, hps, prl⟩ := id hl
  have Mn0 : Mp n (List.range n) := ⟨List.length_range, fun x hx => List.mem_range.mp hx⟩
  have n5 := lo.n5
  refine fun D hD => ?_
  have s1 := Same.new hD (.dT [])
  have eD0 := upd_same (H := H) (a := D) (o := .dT [])
  generalize upd H D (.dT []) = H1 at s1 eD0 ⊢
  refine ⟨_, rfl, _, rfl, RgOk.of_le (by decide) (by omega) (by decide) (by omega), fun m0 hm0 => ⟨szl _ (by simp), fun w0 hw0 => ⟨szl _ (by simp), fun T0 hT0 => ⟨szl _ (by simp), fun la hla => ?_⟩⟩⟩⟩
  rw [rg_nv] at hw0 hT0 hla ⊢
  have u2 := Same.new hm0 (.tup (nv (List.range n)))
  have u3 := Same.new hw0 (.lst [])
  have u4 := Same.new hT0 (.tup [.ref m0, .ref w0])
  have u5 := Same.new hla (.lst [.ref T0])
  have sH5 := s1.trans (((u2.trans u3).trans u4).trans u5)
  have eD5 := u5 _ _ (u4 _ _ (u3 _ _ (u2 _ _ eD0)))
  have it0 : ItE (upd (upd (upd (upd H1 m0 (.tup (nv (List.range n)))) w0 (.lst [])) T0 (.tup [.ref m0, .ref w0])) la (.lst [.ref T0])) T0 (List.range n, []) :=
    ⟨m0, w0, u5 _ _ upd_same, u5 _ _ (u4 _ _ (u3 _ _ upd_same)), u5 _ _ (u4 _ _ upd_same)⟩
  have ela := upd_same (H := (upd (upd (upd H1 m0 (.tup (nv (List.range n)))) w0 (.lst [])) T0 (.tup [.ref m0, .ref w0]))) (a := la) (o := .lst [.ref T0])
  generalize (upd (upd (upd (upd H1 m0 (.tup (nv (List.range n)))) w0 (.lst [])) T0 (.tup [.ref m0, .ref w0])) la (.lst [.ref T0])) = H5 at sH5 eD5 it0 ela ⊢
  dsimp only [gName, tSeq]
  change tWhile _ _ _ [some (.int (n : Int)), some (.ref l), some (.ref D), some (.ref la), none, none, none, none, none, none] _
  refine while_by (fun σ J => ∃ S lr la x4 x5 x6 x7 x8 x9, σ = [some (.int (n : Int)), some (.ref l), some (.ref D), some (.ref la), x4, x5, x6, x7, x8, x9] ∧ Same H J ∧ Wd J D S ∧ Lay J la lr ∧ Sea n L S lr ∧ (∀ e, e ∈ lr → Mp n e.1 ∧ e.2.length ≤ S.length) ∧ ∀ r, Bf L S lr r → Res n L r) muSw
    ⟨[], [(List.range n, [])], la, _, _, _, _, _, _, rfl, sH5, ⟨[], eD5, .nil⟩, ⟨[T0], ela, .cons it0 .nil⟩, sea0 lo, fun e he => by rw [List.mem_singleton.mp he]; exact ⟨Mn0, Nat.le_refl _⟩, fun r h => h⟩ ?_ ?_
  rotate_left
  · rintro σ H Q Q' k ⟨R, h, r⟩
    exact ⟨R, h, fun x H1 z => k _ _ (r x H1 z)⟩
  rintro _ J ⟨S, lr, la, x4, x5, x6, x7, x8, x9, rfl, sJ, hW, hLy, sea, mpl, bf⟩
  obtain ⟨ts, eLa, prT⟩ := id hLy
  have lts : ts.length = lr.length := prT.length
  have emp : (!(ts.map V.ref).isEmpty) = !lr.isEmpty := by
    cases ts <;> cases lr <;> first | rfl | cases lts
  refine ⟨fun b G1 => J = G1 ∧ b = !lr.isEmpty, ⟨_, rfl, _, .inl ⟨_, SqL.of eLa, rfl⟩, rfl, emp⟩, ?_⟩
  rintro _ _ ⟨rfl, rfl⟩
  by_cases hlr : lr = []
  · subst hlr
    exact iteF ⟨_, rfl, q S D J (bf _ (.done S)) hW sJ hD⟩
  refine iteTt (by cases lr with
    | nil => exact absurd rfl hlr
    | cons => rfl) ?_
  refine ⟨szl _ (by simp), fun lg hlg => ?_⟩
  have mnU : ∀ {A : Hp} {o : HO}, mn lg (upd A lg o) = mn lg A := fun {A o} => by
    funext b
    unfold mn
    by_cases z : b = lg
    · rw [if_pos z, if_pos z]
    · rw [if_neg z, if_neg z, upd_ne z]
  have mnM : ∀ {A B : Hp}, Same A B → Same (mn lg A) (mn lg B) := fun {A B} s b o e => by
    have nb : b ≠ lg := fun z => by rw [z, mn_p] at e; cases e
    exact mn_sx _ _ nb (s _ _ (mn_same _ _ e))
  have sJm : Same J (mn lg J) := fun b o e => mn_sx _ _ (ne_of_none e hlg) e
  refine ⟨_, rfl, la, rfl, ⟨_, SqL.of (by rw [upd_ne (ne_of_none eLa hlg)]; exact eLa)⟩, ?_⟩
  refine for_it (walk_list (xs := ts.map V.ref)) (fun i σ G => ∃ S' lg' ts' x5 x6 x7 x8 x9, σ = [some (.int (n : Int)), some (.ref l), some (.ref D), some (.ref la), some (.ref lg), x5, x6, x7, x8, x9] ∧ Same H (mn lg G) ∧ mn lg G la = some (.lst (ts.map V.ref)) ∧ Paired (ItE (mn lg G)) ts lr ∧ Wd (mn lg G) D S' ∧
      G lg = some (.lst (ts'.map V.ref)) ∧ Paired (ItE (mn lg G)) ts' lg' ∧ lay L (lr.drop i) S' lg' = lay L lr S [] ∧ S'.length ≤ 16 ∧ lg'.length + S.length = S'.length ∧ ∀ e, e ∈ lg' → Mp n e.1 ∧ e.2.length ≤ S'.length)
    ⟨S, [], [], _, _, _, _, _, rfl, by rw [mnU]; exact sJ.trans sJm, by rw [mnU]; exact sJm _ _ eLa, by rw [mnU]; exact L2.Paired.mapP prT fun t e h => h.to fun b o z _ => sJm _ _ z, by rw [mnU]; exact hW.to sJm, upd_same, .nil, rfl, sea.le, by simp, fun _ z => (nomatch z)⟩
    (fun i σ G _ z => by
      obtain ⟨S', lg', ts', x5, x6, x7, x8, x9, _, _, e, _⟩ := z
      exact SqL.of (mn_same _ _ e)) ?_ ?_
  · rintro i y _ G G' hi ⟨S', lg', ts', x5, x6, x7, x8, x9, rfl, sF, eLa', prT', hW', eLo, prL, hlay, l16, ll, mpg⟩ ⟨rfl, hy⟩
    obtain ⟨T, hT, rfl⟩ := ref_at hy
    obtain ⟨st, hst, m, wd, e1, e2, e3⟩ := pair_at prT' hT
    have hil : i < lr.length := (List.getElem?_eq_some_iff.mp hst).1
    have hst' : lr.drop i = st :: lr.drop (i + 1) := by
      rw [List.drop_eq_getElem_cons hil]
      rw [List.getElem?_eq_getElem hil] at hst
      rw [Option.some.inj hst]
    obtain ⟨mst, wst⟩ := mpl st (List.mem_of_getElem? hst)
    refine ⟨T, _, rfl, SqT.of (mn_same _ _ e1), rfl, _, _, rfl, _, _, rfl, rfl, ?_⟩
    refine ⟨_, rfl, l, rfl, ⟨_, (hps.ext (sF.trans mn_same)).sq⟩, ?_⟩
    refine for_it (walk_tup (xs := ps.map V.ref)) (fun j σ G2 => ∃ S2 lg2 ts2 x7 x8 x9, σ = [some (.int (n : Int)), some (.ref l), some (.ref D), some (.ref la), some (.ref lg), some (.ref m), some (.ref wd), x7, x8, x9] ∧ (∀ b o, mn lg G' b = some o → (∀ k, o ≠ .dT k) → mn lg G2 b = some o) ∧ Same H (mn lg G2) ∧ Wd (mn lg G2) D S2 ∧
        G2 lg = some (.lst (ts2.map V.ref)) ∧ Paired (ItE (mn lg G2)) ts2 lg2 ∧ inn st (L.drop j) S2 lg2 = inn st L S' lg' ∧ S2.length ≤ 16 ∧ lg2.length + S.length = S2.length ∧ ∀ e, e ∈ lg2 → Mp n e.1 ∧ e.2.length ≤ S2.length)
      ⟨S', lg', ts', _, _, _, rfl, fun b o e _ => e, sF, hW', eLo, prL, rfl, l16, ll, mpg⟩ (fun j σ G2 _ z => by
        obtain ⟨S2, lg2, ts2, x7, x8, x9, _, _, sF2, _⟩ := z
        exact (hps.ext (sF2.trans mn_same)).sq) ?_ ?_
    · rintro j y _ G2 G3 hj ⟨S2, lg2, ts2, x7, x8, x9, rfl, nd2, sF2, hW2, eLo2, prL2, hin, l16', ll2, mpg2⟩ ⟨rfl, hy⟩
      obtain ⟨p, hp, rfl⟩ := ref_at hy
      obtain ⟨q1, hq1, t, ep, et⟩ := pair_at prl hp
      have hjl : j < L.length := (List.getElem?_eq_some_iff.mp hq1).1
      have hq1' : L.drop j = q1 :: L.drop (j + 1) := by
        rw [List.drop_eq_getElem_cons hjl]
        rw [List.getElem?_eq_getElem hjl] at hq1
        rw [Option.some.inj hq1]
      have hqm := List.mem_of_getElem? hq1
      have mq := lo.mp q1 hqm
      have sF2' := sF2.trans (mn_same (p := lg) (J := G3))
      refine ⟨p, _, rfl, SqT.of (sF2' _ _ ep), rfl, _, _, rfl, _, _, rfl, rfl, ?_⟩
      refine ⟨_, rfl, _, rfl, m, t, n, st.1, q1.2, rfl, SqT.of (mn_same _ _ (nd2 _ _ e2 fun k z => nomatch z)), SqT.of (sF2' _ _ et), mst, mq, n5, fun rx J3 s3 hrx erx => ?_⟩
      have sm3 := mnM s3
      have hW3 := hW2.to sm3
      obtain ⟨kvs, eD3, prD⟩ := id hW3
      have lkv : kvs.length = S2.length := prD.length
      have eD3' := mn_same _ _ eD3
      have nlg : rx ≠ lg := (ne_of_none eLo2 hrx).symm
      have eLo3 := s3 _ _ eLo2
      refine ⟨_, rfl, _, rfl, D, _, rfl, DGet.t (k := keyL (cmp st.1 q1.2)) eD3' (by rw [keyL_kV]; exact erx), ?_⟩
      rw [Wd.key prD]
      rw [hq1', inn_cons] at hin
      have st3 : (∀ b o, mn lg G' b = some o → (∀ k, o ≠ .dT k) → mn lg J3 b = some o) := fun b o e k => sm3 _ _ (nd2 b o e k)
      refine ⟨_, rfl, ?_⟩
      refine ite2 (fun c => ?_) (fun c => ?_)
      · have c' : cmp st.1 q1.2 ∈ keys S2 := of_decide_eq_true c
        rw [if_pos c'] at hin
        exact ⟨S2, lg2, ts2, _, _, _, rfl, st3, sF2.trans sm3, hW3, eLo3, L2.Paired.mapP prL2 fun t e h => h.to fun b o z _ => sm3 _ _ z, hin, l16', ll2, mpg2⟩
      have c' : cmp st.1 q1.2 ∉ keys S2 := fun z => c (decide_eq_true z)
      rw [if_neg c'] at hin
      refine ⟨_, rfl, D, kvs, rfl, eD3', rfl, _, rfl, ?_⟩
      refine ite2 (fun c2 => ?_) (fun c2 => ?_)
      · have c2' : S2.length = 16 := by
          have c3 : V.int ((kvs.length : Nat) : Int) = V.int 16 := of_decide_eq_true c2
          injection c3 with z
          omega
        rw [if_pos c2'] at hin
        have hl0 : lay L lr S [] = none := by
          rw [← hlay, hst', lay_cons, ← hin]
        exact ⟨fun vs H1 => vs = [.int 17] ∧ H1 = J3, ⟨_, _, rfl, rfl, rfl, rfl⟩, by rintro _ _ ⟨rfl, rfl⟩; exact ⟨.int 17, rfl, fun d hd => qE _ d (bf _ (.over hlr hl0)) ((sF2.trans sm3).trans mn_same) hd⟩⟩
      have c2' : ¬ S2.length = 16 := fun z => c2 (decide_eq_true (by rw [lkv, z]; rfl))
      rw [if_neg c2'] at hin
      have ewd := s3 _ _ (mn_same _ _ (nd2 _ _ e3 fun k z => nomatch z))
      have wlen : (st.2.map V.str).length + [V.str q1.1].length ≤ sizeLine := szl _ (by rw [List.length_map]; simp; omega)
      have emap : st.2.map V.str ++ [V.str q1.1] = (st.2 ++ [q1.1]).map V.str := by rw [List.map_append]; rfl
      refine ⟨_, rfl, _, rfl, szl _ (by simp), fun l1 hl1 => ⟨wd, l1, _, _, rfl, rfl, Same.new hl1 _ _ _ ewd, upd_same, wlen, fun w2 hw2 => ?_⟩⟩
      rw [emap]
      have s4 := (Same.new hl1 (.lst [.str q1.1])).trans (Same.new hw2 (.lst ((st.2 ++ [q1.1]).map V.str)))
      have ew2 := upd_same (H := upd J3 l1 (.lst [.str q1.1])) (a := w2) (o := .lst ((st.2 ++ [q1.1]).map V.str))
      have nw2 : w2 ≠ lg := fun z => by rw [z, Same.new hl1 _ _ _ eLo3] at hw2; cases hw2
      generalize upd (upd J3 l1 (.lst [.str q1.1])) w2 (.lst ((st.2 ++ [q1.1]).map V.str)) = J5 at s4 ew2 ⊢
      have eD5 := s4 _ _ eD3'
      have erx5 := s4 _ _ erx
      have vn : valV kvs (keyL (cmp st.1 q1.2)) = none := by
        have := Wd.key prD (cmp st.1 q1.2)
        rw [decide_eq_false c'] at this
        cases hv : valV kvs (keyL (cmp st.1 q1.2)) with
        | none => rfl
        | some v => rw [hv] at this; cases this
      refine ⟨_, rfl, _, rfl, D, _, rfl, DPut.t (k := keyL (cmp st.1 q1.2)) eD5 (by rw [keyL_kV]; exact erx5) (by rw [lkv, sizeLine_eq]; omega), ?_⟩
      rw [putK_new _ vn]
      have n6 : ∀ b o, J5 b = some o → (∀ k, o ≠ .dT k) → (upd J5 D (.dT (kvs ++ [(keyL (cmp st.1 q1.2), .ref w2)]))) b = some o := fun b o e k => by
        rw [upd_ne (fun z => k kvs (by rw [z, eD5] at e; exact (Option.some.inj e).symm))]; exact e
      have sH6 : Same H (upd J5 D (.dT (kvs ++ [(keyL (cmp st.1 q1.2), .ref w2)]))) := fun b o e => by
        rw [upd_ne (ne_of_none e hD)]; exact s4 _ _ (mn_same _ _ (sm3 _ _ (sF2 _ _ e)))
      have eD6 := upd_same (H := J5) (a := D) (o := .dT (kvs ++ [(keyL (cmp st.1 q1.2), .ref w2)]))
      generalize upd J5 D (.dT (kvs ++ [(keyL (cmp st.1 q1.2), .ref w2)])) = J6 at n6 sH6 eD6 ⊢
      have eLo6 := n6 _ _ (s4 _ _ eLo3) fun k z => nomatch z
      have ewd6 := n6 _ _ (s4 _ _ ewd) fun k z => nomatch z
      refine ⟨_, rfl, .inl ⟨rfl, _, SqL.of eLo6⟩, _, rfl, _, rfl, _, rfl, szl _ (by simp), fun l3 hl3 => ⟨wd, l3, _, _, rfl, rfl, Same.new hl3 _ _ _ ewd6, upd_same, wlen, fun w3 hw3 => ⟨szl _ (by simp), fun T2 hT2 => ?_⟩⟩⟩
      rw [emap] at hT2 ⊢
      have s7 := ((Same.new hl3 (.lst [.str q1.1])).trans (Same.new hw3 (.lst ((st.2 ++ [q1.1]).map V.str)))).trans (Same.new hT2 (.tup [.ref rx, .ref w3]))
      have ew3 := Same.new hT2 (.tup [.ref rx, .ref w3]) _ _ (upd_same (H := upd J6 l3 (.lst [.str q1.1])) (a := w3) (o := .lst ((st.2 ++ [q1.1]).map V.str)))
      have eT2 := upd_same (H := upd (upd J6 l3 (.lst [.str q1.1])) w3 (.lst ((st.2 ++ [q1.1]).map V.str))) (a := T2) (o := .tup [.ref rx, .ref w3])
      have nw3 : w3 ≠ lg := fun z => by rw [z, Same.new hl3 _ _ _ eLo6] at hw3; cases hw3
      have nT2 : T2 ≠ lg := (ne_of_none (((Same.new hl3 (.lst [.str q1.1])).trans (Same.new hw3 (.lst ((st.2 ++ [q1.1]).map V.str)))) _ _ eLo6) hT2).symm
      generalize upd (upd (upd J6 l3 (.lst [.str q1.1])) w3 (.lst ((st.2 ++ [q1.1]).map V.str))) T2 (.tup [.ref rx, .ref w3]) = J9 at s7 ew3 eT2 ⊢
      have eLo9 := s7 _ _ eLo6
      have lts2 : ts2.length = lg2.length := prL2.length
      refine ⟨lg, _, _, rfl, rfl, eLo9, by rw [List.length_map]; exact small1000 (by omega), ?_⟩
      have up : ∀ b o, mn lg J3 b = some o → (∀ k, o ≠ .dT k) → mn lg J9 b = some o := fun b o e k => by
        have nb : b ≠ lg := fun z => by rw [z, mn_p] at e; cases e
        exact mn_sx _ _ nb (s7 _ _ (n6 _ _ (s4 _ _ (mn_same _ _ e)) k))
      have nDl : D ≠ lg := fun z => by rw [z, mn_p] at eD3; cases eD3
      refine ⟨S2 ++ [new st q1], lg2 ++ [new st q1], ts2 ++ [T2], _, _, _, rfl, ?_, ?_, ?_, ?_, ?_, hin, ?_, ?_, ?_⟩
      all_goals try rw [mnU]
      · exact fun b o e k => up _ _ (st3 b o e k) k
      · exact fun b o e => mn_sx _ _ (ne_of_none (sJ _ _ e) hlg) (s7 _ _ (sH6 _ _ e))
      · refine ⟨_, mn_sx _ _ nDl (s7 _ _ eD6), pair_app (L2.Paired.mapP prD fun kv e ⟨h1, a, h2, h3⟩ => ⟨h1, a, h2, up _ _ h3 fun k z => nomatch z⟩) ⟨rfl, w2, rfl, ?_⟩⟩
        exact mn_sx _ _ nw2 (s7 _ _ (n6 _ _ ew2 fun k z => nomatch z))
      · rw [upd_same, List.map_append]; rfl
      · refine pair_app (L2.Paired.mapP prL2 fun t e h => h.to fun b o z k => up _ _ (sm3 _ _ z) k) ⟨rx, w3, mn_sx _ _ nT2 eT2, mn_sx _ _ nlg (s7 _ _ (n6 _ _ erx5 fun k z => nomatch z)), mn_sx _ _ nw3 ew3⟩
      · rw [List.length_append]; show S2.length + 1 ≤ 16; omega
      · rw [List.length_append, List.length_append]; simp; omega
      · intro e he
        rw [List.length_append]
        rcases List.mem_append.mp he with h | h
        · obtain ⟨a1, a2⟩ := mpg2 e h
          exact ⟨a1, by simp; omega⟩
        · rw [List.mem_singleton.mp h]
          refine ⟨cmp_mp mst mq, ?_⟩
          show (st.2 ++ [q1.1]).length ≤ _
          rw [List.length_append]; simp; omega
    · rintro _ G2 ⟨S2, lg2, ts2, x7, x8, x9, rfl, nd2, sF2, hW2, eLo2, prL2, hin, l16', ll2, mpg2⟩
      have lps : ps.length = L.length := prl.length
      rw [List.length_map, lps, List.drop_length] at hin
      have hin' : some (S2, lg2) = inn st L S' lg' := hin
      refine ⟨S2, lg2, ts2, _, _, _, _, _, rfl, sF2, nd2 _ _ eLa' (fun k z => nomatch z), L2.Paired.mapP prT' fun t e h => h.to nd2, hW2, eLo2, prL2, ?_, l16', ll2, mpg2⟩
      have e0 : lay L (st :: lr.drop (i + 1)) S' lg' = lay L (lr.drop (i + 1)) S2 lg2 := by
        rw [lay_cons, ← hin']
      rw [← e0, ← hst']
      exact hlay
  · rintro _ G ⟨S', lg', ts', x5, x6, x7, x8, x9, rfl, sF, eLa', prT', hW', eLo, prL, hlay, l16, ll, mpg⟩
    rw [List.length_map, lts, List.drop_length] at hlay
    have hlay' : lay L lr S [] = some (S', lg') := hlay.symm
    refine ⟨_, rfl, ⟨S', lg', lg, _, _, _, _, _, _, rfl, sF.trans mn_same, hW'.to mn_same, ⟨ts', eLo, L2.Paired.mapP prL fun t e h => h.to fun b o z _ => mn_same _ _ z⟩, sea.next hlay', mpg, fun r h => bf r (.next hlr hlay' h)⟩, ?_⟩
    obtain ⟨kvs, eD, prD⟩ := id hW
    obtain ⟨kvs', eD', prD'⟩ := id hW'
    have k1 : kvs.length = S.length := prD.length
    have k2 : kvs'.length = S'.length := prD'.length
    have k3 : ts'.length = lg'.length := prL.length
    have k4 := sea.le
    have k5 : 1 ≤ lr.length := List.length_pos_iff.mpr hlr
    rw [muSw_of (a := D) (b := lg) rfl (mn_same _ _ eD') rfl eLo, muSw_of (a := D) (b := la) rfl eD rfl eLa, k1, k2, List.length_map, List.length_map, lts, k3]
    omega
end
end L

set_option Elab.async false
set_option linter.all false
set_option maxRecDepth 100000
set_option maxHeartbeats 4000000
set_option pp.maxSteps 400
namespace L
open PySem L2 KX
abbrev sAl : Stmt := top 30
abbrev sTi : Stmt := inClass (top 29) 0
abbrev nAl : List Str := ["states", "letters", "name"]
abbrev nTi : List Str := ["self", "states", "letters", "words", "name", "targets"]
theorem ctu {X : Cx} {K : PySem.W.Frag} (hK : X.K = K) : CallR X (.type "tuple") (fun xs H Q => ∃ p ys, xs = [.ref p] ∧ ((SqL K H p ys ∧ ∀ l, H l = none → Q (.ref l) (upd H l (.tup ys))) ∨ (SqT K H p ys ∧ Q (.ref p) H))) := by subst hK; exact call_tuple_of
structure TfX (K : PySem.W.Frag) (CF : Addr) : Prop where
  cl : Cls K CF
  n1 : NoAttr K CF "_states"
  n2 : NoAttr K CF "_letters"
  n3 : NoAttr K CF "_contents"
  n4 : NoAttr K CF "_words"
structure NmOk (L : Ltt) : Prop where
  nd : (L.map (·.1)).Nodup
  nm : ∀ q, q ∈ L → nm q.1 = true
/-- the letters that are passed -/
def GvP (H : Hp) (kvs : List (Key × V)) (L : Ltt) : Prop := Paired (fun (kv : Key × V) (q : Str × List Nat) => kv.1 = Sum.inr q.1 ∧ ∃ a, kv.2 = .ref a ∧ H a = some (.lst (nv q.2))) kvs L
def Gv (H : Hp) (l : Addr) (L : Ltt) : Prop := ∃ kvs, H l = some (.dK kvs) ∧ GvP H kvs L
theorem Gv.to {H H' : Hp} {l : Addr} {L : Ltt} (h : Gv H l L) (s : Same H H') : Gv H' l L := by
  obtain ⟨kvs, e, pr⟩ := h
  exact ⟨kvs, s _ _ e, L2.Paired.mapP pr fun kv q ⟨a, b, c, d⟩ => ⟨a, b, c, s _ _ d⟩⟩
theorem GvP.keys {H : Hp} {kvs : List (Key × V)} {L : Ltt} (h : GvP H kvs L) : kvs.map (·.1) = L.map fun q => (Sum.inr q.1 : Key) := by
  unfold GvP at h
  induction h with
  | nil => rfl
  | cons h _ ih => rw [List.map_cons, List.map_cons, ih, h.1]
theorem GvP.nd {H : Hp} {kvs : List (Key × V)} {L : Ltt} (h : GvP H kvs L) (n : NmOk L) : (kvs.map (·.1)).Nodup := by
  rw [h.keys]
  exact List.pairwise_map.mpr ((List.pairwise_map.mp n.nd).imp fun ne e => ne (Sum.inr.inj e))
structure TrA (CF : Addr) (H : Hp) (a : Addr) (n : Nat) (L : Ltt) (S : List En) : Prop where
  ob : ∃ dx tl cl wl, H a = some (.ins CF dx [("_states", .int (n : Int)), ("_letters", .ref tl), ("_contents", .ref cl), ("_words", .ref wl)]) ∧ Ltr H tl L ∧
    (∃ bs : List Addr, H cl = some (.lst (bs.map V.ref)) ∧ Paired (fun b (e : En) => H b = some (.tup (nv e.1))) bs S) ∧ ∃ ws : List Addr, H wl = some (.lst (ws.map V.ref)) ∧ Paired (fun b (e : En) => H b = some (.lst (e.2.map V.str))) ws S
theorem TrA.to {CF : Addr} {H H' : Hp} {a : Addr} {n : Nat} {L : Ltt} {S : List En} (h : TrA CF H a n L S) (s : Same H H') : TrA CF H' a n L S := by
  obtain ⟨dx, tl, cl, wl, e, hl, ⟨bs, e1, p1⟩, ws, e2, p2⟩ := h.ob
  exact ⟨dx, tl, cl, wl, s _ _ e, hl.to s, ⟨bs, s _ _ e1, L2.Paired.mapP p1 fun b e h => s _ _ h⟩, ws, s _ _ e2, L2.Paired.mapP p2 fun b e h => s _ _ h⟩
theorem pair_join {α β γ : Type} {R : α → β → Prop} {Q : α → γ → Prop} : ∀ {as : List α} {bs : List β} {cs : List γ}, Paired R as bs → Paired Q as cs → Paired (fun b c => ∃ a, R a b ∧ Q a c) bs cs
  | _, _, _, .nil, .nil => .nil
  | _, _, _, .cons h t, .cons h' t' => .cons ⟨_, h, h'⟩ (pair_join t t')
theorem wd_refs {H : Hp} {kvs : List (List Key × V)} {S : List En} (h : Paired (fun (kv : List Key × V) (e : En) => kv.1 = keyL e.1 ∧ ∃ a, kv.2 = .ref a ∧ H a = some (.lst (e.2.map V.str))) kvs S) : ∃ ws : List Addr, kvs.map (·.2) = ws.map V.ref ∧ Paired (fun b (e : En) => H b = some (.lst (e.2.map V.str))) ws S := by
  induction h with
  | nil => exact ⟨[], rfl, .nil⟩
  | cons h _ ih =>
    obtain ⟨ws, e1, e2⟩ := ih
    obtain ⟨_, a, h2, h3⟩ := h
    exact ⟨a :: ws, by rw [List.map_cons, List.map_cons, e1, h2], .cons h3 e2⟩
def spAl : Sp := fun vs H Q _ => ∃ (n : Nat) (l : Addr) (L : Ltt), vs = [.int (n : Int), .ref l] ∧ LOk n L ∧ NmOk L ∧ Gv H l L ∧ ∀ H', Same H H' → Q (.bl true) H'
def spTi (CF CO : Addr) : Sp := fun vs H Q E => ∃ (a dx : Addr) (n : Nat) (l : Addr) (L : Ltt), vs = [.ref a, .int (n : Int), .ref l] ∧ H a = some (.ins CF dx []) ∧ LOk n L ∧ NmOk L ∧ Gv H l L ∧
  (∀ S H', Res n L (some S) → TrA CF H' a n L S → (∀ b o, b ≠ a → H b = some o → H' b = some o) → Q .non H') ∧ (∀ H' d, Res n L none → (∀ b o, b ≠ a → H b = some o → H' b = some o) → H' d = none → E (.ref CO) (some d) (upd H' d (.xd [("count", .int 17)])))
section
variable {P : Program} {w : World} {K : PySem.W.Frag} {mg : Str → Option Value} {base : Heap} {f f1 f2 f3 : Addr} {fd d1 d2 d3 : FuncData} {C CF CO : Addr}
theorem scAl : FnScope nAl ["states", "letters"] (defScope sAl) := ⟨rfl, rfl, rfl, by decide +kernel, rfl, by decide +kernel, by decide +kernel⟩
theorem ok_al (F : Fun K "_are_letters" "_are_letters" sAl f fd) (M : Mn mg) (mL : ∃ t, mg "MOST_LETTERS" = some (.int 4 t))
    (G1 : FnOk P w K mg base CX0 1 f1 d1 ["value"] (spIsName K)) (b1 : Binds K d1 ["value"] []) (k1 : PySem.W.keepIn K (.ref f1) = true) (m1 : mg "is_name" = some (.ref f1))
    (G2 : FnOk P w K mg base CX0 3 f2 d2 ["value", "least", "most", "limit"] (spNumList K)) (b2 : Binds K d2 ["value", "least", "most", "limit"] []) (k2 : PySem.W.keepIn K (.ref f2) = true) (m2 : mg "is_number_list" = some (.ref f2)) :
    FnOk P w K mg base CX0 4 f fd ["states", "letters"] spAl := by
  obtain ⟨tok, mL⟩ := mL
  refine F.ok scAl (fun vs H Q E h => ?_) (fun cdv A outer s H vs Q E hr h => ?_)
  · obtain ⟨n, l, L, rfl, _⟩ := h
    rfl
  obtain ⟨n, l, L, rfl, lo, no, hG, q⟩ := h
  have hr1 : Room 1 _ := hr.mono (by decide)
  have hr3 : Room 3 _ := hr.mono (by decide)
  have hu := hr.units
  have hu1 : (A.deeper (PyProof.Rows.envOfC "_are_letters" (defScope sAl) s.heap.objs.size f cdv)).units + 1 < cLine := by omega
  refine ⟨_, (pss_cons (ps_if (pw_or (pt_not (pt_val (pe_callB call_isi (by rfl) M.isin (by decide +kernel) (pa_cons (pv 1) (pa_cons (pe_bltn (v := .ty "dict") (by rfl) M.dict (by decide +kernel) rfl) pa_nil))))) (pw_or1 (pt_not (pt_chain op_le op_le pe_int (pe_callB call_lenD (by rfl) M.len PySem.boot_len (pa_cons (pv 1) pa_nil)) (pe_glob (v := .int 4) (by rfl) mL ⟨_, rfl⟩))))).pt (pss_one (ps_ret pe_bl)) pss_nil) (pss_one (ps_lock (ps_ret (pe_callB (cr_all rfl) (by rfl) M.all (by decide +kernel) (pa_cons (pe_lc (own := [("name", 2)]) (g := gName 2) (tt := tYes) rfl scAl.nd (pi_keys (pv 1)) (blkOk_by (N := nAl) (sc := defScope sAl) (by decide +kernel)) (fun _ _ _ _ _ => (pg_name (i := 2) scAl.nd rfl (Or.inl rfl))) (fun _ _ _ _ _ => pts_nil) (fun _ _ _ _ _ => (pe_and (pe_call G1 hr1 (by rfl) m1 k1 b1 .nil pass0 (pa_cons (pv 2) pa_nil)) (pe_one (pe_call G2 hr3 (by rfl) m2 k2 b2 .nil pass0 (pa_cons (pe_dget (by exact hu1) (pv 1) (pv 2) (fun _ _ => rfl)) (pa_cons (pv 0) (pa_cons (pv 0) (pa_cons (pv 0) pa_nil))))))))) pa_nil)))))), ?_⟩
  obtain ⟨kvs, eg, pr⟩ := hG
  have lk : kvs.length = L.length := pr.length
  have l1 := lo.le
  have l4 := lo.ge
  have n1 := lo.n1
  have n5 := lo.n5
  have nd := GvP.nd pr no
  refine ⟨_, rfl, _, .ty "dict", .type "dict", .type "dict", true, rfl, .ty _, .base (.dK eg), kit_ty (by decide +kernel), true, rfl, iteF ?_⟩
  refine ⟨_, rfl, l, kvs, rfl, eg, _, _, rfl, rfl, _, rfl, ?_⟩
  rw [lk]
  refine iteTt (decide_eq_true (by omega)) ⟨_, _, rfl, rfl, _, rfl, iteFf (by rw [decide_eq_true (by omega)]; rfl) ?_⟩
  refine ⟨l, .dK kvs, eg, trivial, fun od => ?_⟩
  have eF := upd_same (H := H) (a := l) (o := .frz od (.dK kvs))
  have sHF : ∀ b o, b ≠ l → H b = some o → (upd H l (.frz od (.dK kvs))) b = some o := fun b o n e => by rw [upd_ne n]; exact e
  generalize upd H l (.frz od (.dK kvs)) = F at eF sHF ⊢
  refine ⟨_, rfl, l, od, rfl, .inl ⟨kvs, eF, fun D hD => ?_⟩⟩
  refine lc_it walk_keys (fun i G => Same F G ∧ G D = some (.lst ((List.replicate i true).map V.bl))) ⟨Same.new hD _, upd_same⟩ (fun i G _ z => z.1 _ _ eF) ?_ ?_
  · rintro i y G G' hi ⟨sG, eD⟩ ⟨rfl, k, v, hk, rfl⟩
    obtain ⟨q1, hq1, rfl, b, rfl, eb⟩ := pair_at pr hk
    have hqm := List.mem_of_getElem? hq1
    have nbl : b ≠ l := ne_of eb eg fun z => nomatch z
    have mq := lo.mp q1 hqm
    refine ⟨rfl, _, rfl, .str q1.1, nm q1.1, rfl, .inl ⟨q1.1, rfl, (lo.ss q1 hqm).mono (by decide), rfl⟩, fun G1 s1 => ?_⟩
    rw [no.nm q1 hqm]
    have sF1 := sG.trans s1
    have numb : (nv q1.2).all (nb (n : Int)) = true := List.all_eq_true.mpr fun x hx => by
      obtain ⟨y, hy, rfl⟩ := List.mem_map.mp hx
      have := mq.2 y hy
      show (decide ((0 : Int) ≤ (y : Int)) && decide ((y : Int) < (n : Int))) = true
      rw [decide_eq_true (by omega), decide_eq_true (by omega)]; rfl
    have itm : ∀ x, x ∈ nv q1.2 → Itm K G1 x := fun x hx => by
      obtain ⟨y, _, rfl⟩ := List.mem_map.mp hx
      exact .inl ⟨_, rfl⟩
    have gd : DGet G1 l (.str q1.1) (some (.ref b)) := .inl ⟨kvs, Sum.inr q1.1, .inr ⟨od, sF1 _ _ eF⟩, rfl, (val_nodup nd _ (List.mem_of_getElem? hk)).symm⟩
    refine ⟨_, rfl, iteT ⟨_, rfl, _, rfl, l, _, rfl, gd, _, rfl, _, rfl, _, rfl, .ref b, _, _, _, rfl, .inl ⟨nv q1.2, ⟨b, rfl, .inl (SqL.of (sF1 _ _ (sHF _ _ nbl eb)))⟩, itm, by rw [nv_len, mq.1]; omega, fun G2 s2 => ?_⟩⟩⟩
    rw [nv_len, mq.1, decide_eq_true (Int.le_refl _), numb]
    have sF2 := sF1.trans s2
    refine ⟨_, s2 _ _ (s1 _ _ eD), by rw [List.length_map, List.length_replicate]; exact small1000 (by omega), fun c o e => by rw [upd_ne (ne_of_none e hD)]; exact sF2 _ _ e, ?_⟩
    rw [upd_same, List.replicate_succ', List.map_append]; rfl
  rintro G ⟨sG, eD⟩
  refine ⟨D, _, rfl, SqL.of eD, sG _ _ eF, ?_⟩
  rw [show (List.replicate kvs.length true).all id = true from List.all_eq_true.mpr fun x hx => (List.eq_of_mem_replicate hx)]
  refine q _ fun b o e => ?_
  by_cases c : b = l
  · rw [c, upd_same]; rw [c, eg] at e; exact e
  · rw [upd_ne c]; exact sG _ _ (sHF _ _ c e)
theorem scTi : FnScope nTi ["self", "states", "letters"] (defScope sTi) := ⟨rfl, rfl, rfl, by decide +kernel, rfl, by decide +kernel, by decide +kernel⟩
theorem ok_ti (F : Fun K "__init__" "Transformations.__init__" sTi f fd) (M : Mn mg) (U : TfX K CF) (mS : ∃ t, mg "MOST_STATES" = some (.int 5 t))
    (G1 : FnOk P w K mg base CX0 1 f1 d1 ["value"] (spIsInt K)) (b1 : Binds K d1 ["value"] []) (k1 : PySem.W.keepIn K (.ref f1) = true) (m1 : mg "is_integer" = some (.ref f1))
    (G2 : FnOk P w K mg base CX0 4 f2 d2 ["states", "letters"] spAl) (b2 : Binds K d2 ["states", "letters"] []) (k2 : PySem.W.keepIn K (.ref f2) = true) (m2 : mg "_are_letters" = some (.ref f2))
    (G3 : FnOk P w K mg base (L2.CX P w) 3 f3 d3 ["states", "letters"] (spSw CO)) (b3 : Binds K d3 ["states", "letters"] []) (k3 : PySem.W.keepIn K (.ref f3) = true) (m3 : mg "_shortest_words" = some (.ref f3)) :
    FnOk P w K mg base (L2.CX P w) 5 f fd ["self", "states", "letters"] (spTi CF CO) := by
  obtain ⟨tok, mS⟩ := mS
  refine F.okX scTi (fun vs H Q E h => ?_) (fun cdv A outer s H vs Q E hr h => ?_)
  · obtain ⟨a, dx, n, l, L, rfl, _⟩ := h
    rfl
  obtain ⟨a, dx, n, l, L, rfl, ha, lo, no, hG, q, qE⟩ := h
  have hr1 : Room 1 _ := hr.mono (by decide)
  have hr3 : Room 3 _ := hr.mono (by decide)
  have hr4 : Room 4 _ := hr.mono (by decide)
  have hu := hr.units
  refine ⟨_, (pss_cons (ps_if (pw_or (pt_not (pt_val (pe_call G1 hr1 (by rfl) m1 k1 b1 .nil pass0 (pa_cons (pv 1) pa_nil)))) (pw_or1 (pt_not (pt_chain op_le op_le pe_int (pv 1) (pe_glob (v := .int 5) (by rfl) mS ⟨_, rfl⟩))))).pt pss_dead pss_nil) (pss_cons (ps_if (pt_not (pt_val (pe_call G2 hr4 (by rfl) m2 k2 b2 .nil pass0 (pa_cons (pv 1) (pa_cons (pv 2) pa_nil))))) pss_dead pss_nil) (pss_cons (ps_fld (pv 0) (pv 1) rfl) (pss_cons (ps_lock (ps_fld (pv 0) (pe_callTy (call_tuple_F (K := K) rfl) (by rfl) M.tuple (by decide +kernel) (pa_cons (pe_lc (own := [("name", 4), ("targets", 5)]) (g := gTup _ 2 (gCons (gName 4) (gCons (gName 5) gNil))) (tt := tYes) rfl scTi.nd (pi_items (pv 2)) (blkOk_by (N := nTi) (sc := defScope sTi) (by decide +kernel)) (fun _ _ _ _ _ => (pg_tup rfl (pgs_cons (pg_name (i := 4) scTi.nd rfl (Or.inl rfl)) (pgs_cons (pg_name (i := 5) scTi.nd rfl (Or.inl rfl)) pgs_nil)))) (fun _ _ _ _ _ => pts_nil) (fun _ _ _ _ _ => (pe_tup (pa_cons (pv 4) (pa_cons (pe_callTy (ctu (K := K) rfl) (by rfl) M.tuple (by decide +kernel) (pa_cons (pv 5) pa_nil)) pa_nil))))) pa_nil)) rfl)) (pss_cons (ps_set (i := 3) scTi.nd rfl (Or.inl rfl) (pe_call G3 hr3 (by rfl) m3 k3 b3 .nil (passes_call (takes_of rfl rfl rfl rfl) (fun _ _ _ _ h => h)) (pa_cons (pv 1) (pa_cons (pe_fld (pv 0) rfl) pa_nil)))) (pss_cons (ps_fld (pv 0) (pe_callTy (call_list_dT rfl) (by rfl) M.list (by decide +kernel) (pa_cons (pv 3) pa_nil)) rfl) (pss_one (ps_fld (pv 0) (pe_listVals rfl (by rfl) M.list (pv 3)) rfl)))))))), ?_⟩
  obtain ⟨kvs, eg, pr⟩ := id hG
  have nd := GvP.nd pr no
  have n1 := lo.n1
  have n5 := lo.n5
  have l4 := lo.ge
  have nla : l ≠ a := ne_of eg ha fun z => nomatch z
  let FF : Hp := mn a H
  have nF : FF a = none := mn_p
  have sF : Same FF H := mn_same
  have toF : ∀ b o, b ≠ a → H b = some o → FF b = some o := fun b o n e => mn_sx _ _ n e
  have egF : FF l = some (.dK kvs) := toF _ _ nla eg
  have prF : GvP FF kvs L := L2.Paired.mapP pr fun kv q ⟨x, b, y, z⟩ => ⟨x, b, y, toF _ _ (ne_of z ha fun z => nomatch z) z⟩
  generalize FF = F at nF sF toF egF prF
  have nx : ∀ {J : Hp} {o : HO}, Same F J → Same F (upd J a o) := fun h b o e => by rw [upd_ne (ne_of_none e nF)]; exact h _ _ e
  have out : ∀ {J : Hp}, Same F J → ∀ b o, b ≠ a → H b = some o → J b = some o := fun h b o n e => h _ _ (toF b o n e)
  refine ⟨_, rfl, _, true, false, rfl, ⟨_, .base (.int _), kit_ty (by decide +kernel), kit_ty (by decide +kernel)⟩, _, rfl, iteF ?_⟩
  refine ⟨_, rfl, _, _, rfl, rfl, _, rfl, iteTt (decide_eq_true (by omega)) ⟨_, _, rfl, rfl, _, rfl, iteFf (by rw [decide_eq_true (by omega)]; rfl) ?_⟩⟩
  refine ⟨_, rfl, _, rfl, n, l, L, rfl, lo, no, hG, fun H1 s1 => ⟨_, rfl, iteF ?_⟩⟩
  have ha1 := s1 _ _ ha
  have sF1 := sF.trans s1
  refine ⟨_, rfl, _, rfl, a, CF, dx, _, rfl, ha1, U.cl, U.n1, (by show 0 < 1000; decide), ?_⟩
  have sF2 := nx (o := .ins CF dx (putF (Str.ofString "_states") (.int (n : Int)) [])) sF1
  have c2 : (upd H1 a (.ins CF dx (putF (Str.ofString "_states") (.int (n : Int)) []))) a = some (.ins CF dx [("_states", .int (n : Int))]) := upd_same
  generalize upd H1 a (.ins CF dx (putF (Str.ofString "_states") (.int (n : Int)) [])) = H2 at sF2 c2 ⊢
  have el2 := sF2 _ _ egF
  refine ⟨l, .dK kvs, el2, trivial, fun od => ?_⟩
  have e3 := upd_same (H := H2) (a := l) (o := .frz od (.dK kvs))
  have s3 : ∀ b o, b ≠ l → H2 b = some o → (upd H2 l (.frz od (.dK kvs))) b = some o := fun b o n e => by rw [upd_ne n]; exact e
  have f3 : ∀ b, (upd H2 l (.frz od (.dK kvs))) b = none → H2 b = none := fun b e => by
    by_cases z : b = l
    · rw [z, e3] at e; cases e
    · rw [upd_ne z] at e; exact e
  generalize upd H2 l (.frz od (.dK kvs)) = H3 at e3 s3 f3 ⊢
  refine ⟨_, rfl, l, od, kvs, rfl, e3, fun D hD => ?_⟩
  refine lc_it walk_items (fun i G => Same H3 G ∧ ∃ ps : List Addr, G D = some (.lst (ps.map V.ref)) ∧ Paired (fun p (q : Str × List Nat) => p ≠ D ∧ ∃ t, t ≠ D ∧ G p = some (.tup [.str q.1, .ref t]) ∧ G t = some (.tup (nv q.2))) ps (L.take i)) ⟨Same.new hD _, [], upd_same, .nil⟩ (fun i G _ z => z.1 _ _ e3) ?_ ?_
  · rintro i y G1 G2 hi ⟨sG, ps, eD, pps⟩ ⟨T, y1, y2, rfl, hT, rfl, g1, g2⟩
    obtain ⟨⟨k, v⟩, hk⟩ : ∃ kv, kvs[i]? = some kv := ⟨kvs[i], List.getElem?_eq_getElem hi⟩
    obtain ⟨q1, hq1, rfl, b, rfl, eb⟩ := pair_at prF hk
    dsimp only at g1 g2
    rw [hk] at g1 g2
    cases g1
    cases g2
    dsimp only
    change gTup _ _ _ _ _ (upd G1 T (.tup [.str q1.1, .ref b])) _
    have lps : ps.length = i := by
      rw [pps.length, List.length_take]
      have : L.length = kvs.length := prF.length.symm
      omega
    have nbl : b ≠ l := ne_of eb egF fun z => nomatch z
    have u1 := Same.new hT (.tup [.str q1.1, .ref b])
    have eb1 := u1 _ _ (sG _ _ (s3 _ _ nbl (sF2 _ _ eb)))
    have nDT : D ≠ T := ne_of_none eD hT
    refine ⟨T, _, rfl, SqT.of upd_same, rfl, _, _, rfl, _, _, rfl, rfl, rfl, _, rfl, _, rfl, b, nv q1.2, rfl, .inl ⟨SqL.of eb1, fun t ht => ⟨szl _ (by simp), fun T2 hT2 => ?_⟩⟩⟩
    have u2 := u1.trans ((Same.new ht (.tup (nv q1.2))).trans (Same.new hT2 (.tup [.str q1.1, .ref t])))
    have et := Same.new hT2 (.tup [.str q1.1, .ref t]) _ _ (upd_same (H := upd G1 T (.tup [.str q1.1, .ref b])) (a := t) (o := .tup (nv q1.2)))
    have eT2 := upd_same (H := upd (upd G1 T (.tup [.str q1.1, .ref b])) t (.tup (nv q1.2))) (a := T2) (o := .tup [.str q1.1, .ref t])
    have ntD : t ≠ D := (ne_of_none (u1 _ _ eD) ht).symm
    have nT2D : T2 ≠ D := (ne_of_none (Same.new ht (.tup (nv q1.2)) _ _ (u1 _ _ eD)) hT2).symm
    have tk : L.take (i + 1) = L.take i ++ [q1] := by rw [List.take_add_one, hq1]; rfl
    refine ⟨_, u2 _ _ eD, by rw [List.length_map, lps]; exact small1000 (by have : L.length = kvs.length := prF.length.symm; omega), fun c o e => by rw [upd_ne (ne_of_none e hD)]; exact u2 _ _ (sG _ _ e), ps ++ [T2], by rw [upd_same, List.map_append]; rfl, ?_⟩
    rw [tk]
    exact pair_app (L2.Paired.mapP pps fun p q ⟨z1, t', z2, z3, z4⟩ => ⟨z1, t', z2, by rw [upd_ne z1]; exact u2 _ _ z3, by rw [upd_ne z2]; exact u2 _ _ z4⟩) ⟨nT2D, t, ntD, by rw [upd_ne nT2D]; exact eT2, by rw [upd_ne ntD]; exact et⟩
  rintro G ⟨sG, ps, eD, pps⟩
  have lkL : L.length = kvs.length := prF.length.symm
  rw [← lkL, List.take_length] at pps
  refine ⟨D, _, rfl, SqL.of eD, fun tl ob htl hob => ?_⟩
  have st := Same.new htl (.frz ob (.tup (ps.map V.ref)))
  have na3 : a ≠ l := nla.symm
  have ca := st _ _ (sG _ _ (s3 _ _ na3 c2))
  refine ⟨_, rfl, a, CF, dx, _, rfl, ca, U.cl, U.n2, (by show 1 < 1000; decide), ?_⟩
  have etl := upd_same (H := G) (a := tl) (o := .frz ob (.tup (ps.map V.ref)))
  have ntl : tl ≠ a := (ne_of_none (sG _ _ (s3 _ _ na3 c2)) htl).symm
  have ntl2 : tl ≠ l := (ne_of_none (sG _ _ e3) htl).symm
  refine ⟨by rw [upd_ne nla]; exact st _ _ (sG _ _ e3), ?_⟩
  have sF4 : Same F (upd (upd (upd G tl (.frz ob (.tup (ps.map V.ref)))) a (.ins CF dx (putF (Str.ofString "_letters") (.ref tl) [("_states", .int (n : Int))]))) l (.dK kvs)) := fun b o e => by
    by_cases z : b = l
    · rw [z, upd_same]; rw [z, egF] at e; exact e
    · rw [upd_ne z, upd_ne (ne_of_none e nF)]; exact st _ _ (sG _ _ (s3 _ _ z (sF2 _ _ e)))
  have c4 : (upd (upd (upd G tl (.frz ob (.tup (ps.map V.ref)))) a (.ins CF dx (putF (Str.ofString "_letters") (.ref tl) [("_states", .int (n : Int))]))) l (.dK kvs)) a = some (.ins CF dx [("_states", .int (n : Int)), ("_letters", .ref tl)]) := by rw [upd_ne na3]; exact upd_same
  have keepG : ∀ b o, b ≠ a → b ≠ l → (upd G tl (.frz ob (.tup (ps.map V.ref)))) b = some o → (upd (upd (upd G tl (.frz ob (.tup (ps.map V.ref)))) a (.ins CF dx (putF (Str.ofString "_letters") (.ref tl) [("_states", .int (n : Int))]))) l (.dK kvs)) b = some o := fun b o z1 z2 e => by rw [upd_ne z2, upd_ne z1]; exact e
  have tupk : ∀ b xs, (upd G tl (.frz ob (.tup (ps.map V.ref)))) b = some (.tup xs) → (upd (upd (upd G tl (.frz ob (.tup (ps.map V.ref)))) a (.ins CF dx (putF (Str.ofString "_letters") (.ref tl) [("_states", .int (n : Int))]))) l (.dK kvs)) b = some (.tup xs) := fun b xs e =>
    keepG _ _ (ne_of e ca fun z => nomatch z) (ne_of e (st _ _ (sG _ _ e3)) fun z => nomatch z) e
  have hL4 : Ltr (upd (upd (upd G tl (.frz ob (.tup (ps.map V.ref)))) a (.ins CF dx (putF (Str.ofString "_letters") (.ref tl) [("_states", .int (n : Int))]))) l (.dK kvs)) tl L :=
    ⟨ps, ⟨ob, keepG _ _ ntl ntl2 etl, hob⟩, L2.Paired.mapP pps fun p q ⟨_, t, _, z3, z4⟩ => ⟨t, tupk _ _ (st _ _ z3), tupk _ _ (st _ _ z4)⟩⟩
  generalize (upd (upd (upd G tl (.frz ob (.tup (ps.map V.ref)))) a (.ins CF dx (putF (Str.ofString "_letters") (.ref tl) [("_states", .int (n : Int))]))) l (.dK kvs)) = H4 at sF4 c4 hL4 ⊢
  refine ⟨_, rfl, _, rfl, a, CF, dx, _, _, rfl, c4, U.cl, U.n2, rfl, n, tl, L, rfl, lo, hL4, fun S Dw H5 res wd s5 hDw => ?_, fun H5 d res s5 hd => qE H5 d res (out (sF4.trans s5)) hd⟩
  have c5 := s5 _ _ c4
  have sF5 := sF4.trans s5
  have hL5 := hL4.to s5
  obtain ⟨kw, ew, prw⟩ := id wd
  have nwa : Dw ≠ a := ne_of ew c5 fun z => nomatch z
  refine ⟨_, rfl, Dw, kw, rfl, .inl ew, fun cl bs hcl ik => ?_⟩
  have s6 := Same.new hcl (.lst (bs.map V.ref))
  have c6 := s6 _ _ c5
  have ecl := upd_same (H := H5) (a := cl) (o := .lst (bs.map V.ref))
  have ncl : cl ≠ a := (ne_of_none c5 hcl).symm
  refine ⟨_, rfl, a, CF, dx, _, rfl, c6, U.cl, U.n3, (by show 2 < 1000; decide), ?_⟩
  have k7 : ∀ b o, b ≠ a → H5 b = some o → (upd (upd H5 cl (.lst (bs.map V.ref))) a (.ins CF dx (putF (Str.ofString "_contents") (.ref cl) [("_states", .int (n : Int)), ("_letters", .ref tl)]))) b = some o := fun b o z e => by rw [upd_ne z]; exact s6 _ _ e
  have c7 : (upd (upd H5 cl (.lst (bs.map V.ref))) a (.ins CF dx (putF (Str.ofString "_contents") (.ref cl) [("_states", .int (n : Int)), ("_letters", .ref tl)]))) a = some (.ins CF dx [("_states", .int (n : Int)), ("_letters", .ref tl), ("_contents", .ref cl)]) := upd_same
  have e7 : (upd (upd H5 cl (.lst (bs.map V.ref))) a (.ins CF dx (putF (Str.ofString "_contents") (.ref cl) [("_states", .int (n : Int)), ("_letters", .ref tl)]))) cl = some (.lst (bs.map V.ref)) := by rw [upd_ne ncl]; exact ecl
  generalize (upd (upd H5 cl (.lst (bs.map V.ref))) a (.ins CF dx (putF (Str.ofString "_contents") (.ref cl) [("_states", .int (n : Int)), ("_letters", .ref tl)]))) = H7 at k7 c7 e7 ⊢
  refine ⟨_, rfl, Dw, rfl, .inr ⟨kw, k7 _ _ nwa ew, fun wl hwl => ?_⟩⟩
  have s8 := Same.new hwl (.lst (kw.map (·.2)))
  have c8 := s8 _ _ c7
  have ewl := upd_same (H := H7) (a := wl) (o := .lst (kw.map (·.2)))
  have nwl : wl ≠ a := (ne_of_none c7 hwl).symm
  refine ⟨_, rfl, a, CF, dx, _, rfl, c8, U.cl, U.n4, (by show 3 < 1000; decide), ?_⟩
  have k9 : ∀ b o, b ≠ a → H7 b = some o → (upd (upd H7 wl (.lst (kw.map (·.2)))) a (.ins CF dx (putF (Str.ofString "_words") (.ref wl) [("_states", .int (n : Int)), ("_letters", .ref tl), ("_contents", .ref cl)]))) b = some o := fun b o z e => by rw [upd_ne z]; exact s8 _ _ e
  refine q S _ res ⟨dx, tl, cl, wl, upd_same, ?_, ⟨bs, k9 _ _ ncl e7, ?_⟩, ?_⟩ fun b o z e => k9 _ _ z (k7 _ _ z (out sF5 b o z e))
  · obtain ⟨ps5, ⟨ob5, e5, z5⟩, pr5⟩ := hL5
    refine ⟨ps5, ⟨ob5, k9 _ _ (ne_of e5 c5 fun z => nomatch z) (k7 _ _ (ne_of e5 c5 fun z => nomatch z) e5), z5⟩, L2.Paired.mapP pr5 fun p q ⟨t, x1, x2⟩ => ⟨t, k9 _ _ (ne_of x1 c5 fun z => nomatch z) (k7 _ _ (ne_of x1 c5 fun z => nomatch z) x1), k9 _ _ (ne_of x2 c5 fun z => nomatch z) (k7 _ _ (ne_of x2 c5 fun z => nomatch z) x2)⟩⟩
  · refine L2.Paired.mapP (pair_join ik prw) fun b e ⟨kv, z1, z2, _⟩ => ?_
    rw [z2, keyL_kV] at z1
    exact k9 _ _ (ne_of z1 c5 fun z => nomatch z) (k7 _ _ (ne_of z1 c5 fun z => nomatch z) z1)
  · obtain ⟨ws, e1, e2⟩ := wd_refs prw
    rw [e1] at ewl k9 ⊢
    exact ⟨ws, by rw [upd_ne nwl]; exact ewl, L2.Paired.mapP e2 fun b e z => k9 _ _ (ne_of z c5 fun z => nomatch z) (k7 _ _ (ne_of z c5 fun z => nomatch z) z)⟩
end
end L

set_option Elab.async false
set_option linter.all false
set_option maxRecDepth 100000
set_option maxHeartbeats 4000000
set_option pp.maxSteps 400
namespace L
open PySem L2 KX
abbrev sTl : Stmt := inClass (top 29) 1
abbrev sTe : Stmt := inClass (top 29) 2
abbrev sCt : Stmt := inClass (top 29) 5
abbrev sTt : Stmt := inClass (top 29) 6
abbrev sMo : Stmt := inClass (top 29) 10
abbrev sEo : Stmt := inClass (top 29) 7
abbrev sWo : Stmt := inClass (top 29) 8
abbrev sRu : Stmt := inClass (top 29) 9
abbrev nMo : List Str := ["self", "word", "letter", "steps", "targets"]
abbrev nTt : List Str := ["self", "maps", "first", "second"]
def scTtO : Scope := { kind := .function, names := [(Str.ofString ".0", .local), (Str.ofString "first", .cell), (Str.ofString "maps", .cell)], isGenerator := false, isCoroutine := false }
theorem merge_app : ∀ {more acc : List (Key × V)}, ((acc ++ more).map (·.1)).Nodup → mergeK acc more = acc ++ more
  | [], acc, _ => by rw [List.append_nil]; rfl
  | kv :: more, acc, h => by
    have hn : valV acc kv.1 = none := by
      cases hv : valV acc kv.1 with
      | none => rfl
      | some x =>
        exfalso
        have hm := valV_in hv
        rw [List.map_append, List.map_cons] at h
        have := List.nodup_append.mp h
        exact this.2.2 _ hm _ List.mem_cons_self rfl
    show mergeK (putK acc kv.1 kv.2) more = _
    rw [putK_new kv.2 hn]
    have e : acc ++ [(kv.1, kv.2)] ++ more = acc ++ kv :: more := by rw [List.append_assoc]; rfl
    rw [merge_app (by rw [e]; exact h), e]
/-- the targets of a letter -/
def tg (L : Ltt) (z : Str) : List Nat := match L.find? (fun q => decide (q.1 = z)) with
  | some q => q.2
  | none => []
def mapW (n : Nat) (L : Ltt) (zs : List Str) : List Nat := zs.foldl (fun m z => cmp m (tg L z)) (List.range n)
theorem tg_in {L : Ltt} {z : Str} (h : z ∈ L.map (·.1)) : ∃ q, q ∈ L ∧ q.1 = z ∧ q.2 = tg L z := by
  unfold tg
  cases hf : L.find? (fun q => decide (q.1 = z)) with
  | none =>
    obtain ⟨q, h1, h2⟩ := List.mem_map.mp h
    have := List.find?_eq_none.mp hf q h1
    exact absurd (decide_eq_true h2) this
  | some q =>
    have h1 := List.find?_some hf
    exact ⟨q, List.mem_of_find?_eq_some hf, of_decide_eq_true h1, rfl⟩
theorem mapW_mp {n : Nat} {L : Ltt} (o : LOk n L) : ∀ {zs : List Str} {m : List Nat}, Mp n m → (∀ z, z ∈ zs → z ∈ L.map (·.1)) → Mp n (zs.foldl (fun m z => cmp m (tg L z)) m)
  | [], m, h, _ => h
  | z :: zs, m, h, hz => by
    obtain ⟨q, h1, _, h3⟩ := tg_in (hz z List.mem_cons_self)
    exact mapW_mp (zs := zs) (m := cmp m (tg L z)) o (cmp_mp h (h3 ▸ o.mp q h1)) fun z' hz' => hz z' (List.mem_cons_of_mem _ hz')
/-- the letters' pairs as a dict's -/
theorem Ltr.kvs {H : Hp} {l : Addr} {L : Ltt} (h : Ltr H l L) : ∃ (ps : List Addr) (kvs : List (Key × V)), TupF H l (ps.map V.ref) ∧ Paired (fun p (kv : Key × V) => H p = some (.tup [kV kv.1, kv.2])) ps kvs ∧
    Paired (fun (kv : Key × V) (q : Str × List Nat) => kv.1 = Sum.inr q.1 ∧ ∃ t, kv.2 = .ref t ∧ H t = some (.tup (nv q.2))) kvs L := by
  obtain ⟨ps, e, pr⟩ := h
  suffices h : ∃ kvs : List (Key × V), Paired (fun p (kv : Key × V) => H p = some (.tup [kV kv.1, kv.2])) ps kvs ∧ Paired (fun (kv : Key × V) (q : Str × List Nat) => kv.1 = Sum.inr q.1 ∧ ∃ t, kv.2 = .ref t ∧ H t = some (.tup (nv q.2))) kvs L by
    obtain ⟨kvs, h1, h2⟩ := h
    exact ⟨ps, kvs, e, h1, h2⟩
  clear e
  induction pr with
  | nil => exact ⟨[], .nil, .nil⟩
  | @cons p q _ _ h _ ih =>
    obtain ⟨kvs, h1, h2⟩ := ih
    obtain ⟨t, e1, e2⟩ := h
    exact ⟨(Sum.inr q.1, .ref t) :: kvs, .cons e1 h1, .cons ⟨rfl, t, rfl, e2⟩ h2⟩
theorem kvs_keys {H : Hp} {kvs : List (Key × V)} {L : Ltt} (h : Paired (fun (kv : Key × V) (q : Str × List Nat) => kv.1 = Sum.inr q.1 ∧ ∃ t, kv.2 = .ref t ∧ H t = some (.tup (nv q.2))) kvs L) : kvs.map (·.1) = L.map fun q => (Sum.inr q.1 : Key) := by
  induction h with
  | nil => rfl
  | cons h _ ih => rw [List.map_cons, List.map_cons, ih, h.1]
theorem kvs_nd {H : Hp} {kvs : List (Key × V)} {L : Ltt} (h : Paired (fun (kv : Key × V) (q : Str × List Nat) => kv.1 = Sum.inr q.1 ∧ ∃ t, kv.2 = .ref t ∧ H t = some (.tup (nv q.2))) kvs L) (n : NmOk L) : (kvs.map (·.1)).Nodup := by
  rw [kvs_keys h]
  exact List.pairwise_map.mpr ((List.pairwise_map.mp n.nd).imp fun ne e => ne (Sum.inr.inj e))
theorem kvs_at {H : Hp} {kvs : List (Key × V)} {L : Ltt} (h : Paired (fun (kv : Key × V) (q : Str × List Nat) => kv.1 = Sum.inr q.1 ∧ ∃ t, kv.2 = .ref t ∧ H t = some (.tup (nv q.2))) kvs L) (n : NmOk L) {z : Str} (hz : z ∈ L.map (·.1)) : ∃ t, valV kvs (Sum.inr z) = some (.ref t) ∧ H t = some (.tup (nv (tg L z))) := by
  obtain ⟨q, h1, h2, h3⟩ := tg_in hz
  obtain ⟨j, hj, rfl⟩ := List.mem_iff_getElem.mp h1
  obtain ⟨kv, hk, e1, t, e2, e3⟩ := pair_to h (List.getElem?_eq_getElem hj)
  have := val_nodup (kvs_nd h n) kv (List.mem_of_getElem? hk)
  rw [e1, e2, h2] at this
  exact ⟨t, this, by rw [← h3]; exact e3⟩
/-! the letters as data -/
def lD (L : Ltt) : List PyData := L.map fun q => .tuple [.str q.1, tD q.2]
theorem ss_ok {n : Nat} {z : Str} (h : Ss n z) : PyData.strOk z = true := by
  unfold PyData.strOk
  rw [← Array.all_toList]
  exact List.all_eq_true.mpr fun c hc => decide_eq_true (h.2 c hc)
theorem lD_lay : ∀ L : Ltt, (∀ q, q ∈ L → Ss 8 q.1) → PyData.canLayAll0 (lD L) = true ∧ PyData.depthAll (lD L) ≤ 2
  | [], _ => ⟨rfl, Nat.zero_le _⟩
  | q :: L, hs => by
    obtain ⟨h1, h2⟩ := lD_lay L fun q' hq => hs q' (List.mem_cons_of_mem _ hq)
    have e3 := ss_ok (hs q List.mem_cons_self)
    have e0 : PyData.depth (tD q.2) = 1 := by unfold tD; simp only [PyData.depth, nD_depth q.2]
    have e1 : PyData.canLay0 (tD q.2) = true := by unfold tD; simp only [PyData.canLay0]; exact nD_lay q.2
    refine ⟨?_, ?_⟩
    · show (PyData.canLay0 (.tuple [.str q.1, tD q.2]) && PyData.canLayAll0 (lD L)) = true
      rw [h1]
      simp [PyData.canLay0, PyData.canLayAll0, e1, e3]
    · show max (PyData.depth (.tuple [.str q.1, tD q.2])) (PyData.depthAll (lD L)) ≤ 2
      have : PyData.depth (.tuple [.str q.1, tD q.2]) = 2 := by simp [PyData.depth, PyData.depthAll, e0]
      omega
theorem lD_shaped {L : Ltt} (hs : ∀ q, q ∈ L → Ss 8 q.1) : SeqAt.shaped (.tuple (lD L)) = true := by
  obtain ⟨h1, h2⟩ := lD_lay L hs
  have c1 : PyData.canLay0 (.tuple (lD L)) = true := by simp only [PyData.canLay0]; exact h1
  have c2 : PyData.depth (.tuple (lD L)) ≤ 64 := by simp only [PyData.depth]; omega
  show (PyData.canLay0 (.tuple (lD L)) && decide (PyData.depth (.tuple (lD L)) ≤ 64)) = true
  rw [c1, decide_eq_true c2]; rfl
theorem lD_refl : ∀ L : Ltt, PyData.eqvAll (lD L) (lD L) = true
  | [] => rfl
  | q :: L => by
    have h := lD_refl L
    have e := tD_eqv q.2 q.2
    rw [decide_eq_true rfl] at e
    show (PyData.eqv (.tuple [.str q.1, tD q.2]) (.tuple [.str q.1, tD q.2]) && PyData.eqvAll (lD L) (lD L)) = true
    rw [h]
    simp [PyData.eqv, PyData.eqvAll, e]
theorem Ltr.dp {K : PySem.W.Frag} {H : Hp} {l : Addr} {L : Ltt} (h : Ltr H l L) : Dp K H (.ref l) (.tuple (lD L)) := by
  obtain ⟨ps, e, pr⟩ := h
  refine .tup e.sq ?_
  clear e
  induction pr with
  | nil => exact .nil
  | @cons p q _ _ h _ ih =>
    obtain ⟨t, e1, e2⟩ := h
    exact .cons (.tup (SqT.of e1) (.cons (.str _) (.cons (dp_tup e2) .nil))) ih
theorem keys_pair {H : Hp} {bs : List Addr} {S : List En} (h : Paired (fun b (e : En) => H b = some (.tup (nv e.1))) bs S) : Paired (fun b m => H b = some (.tup (nv m))) bs (keys S) := by
  induction h with
  | nil => exact .nil
  | cons h _ ih => exact .cons h ih
theorem str_at {zs : List Str} {i : Nat} {v : V} (h : (zs.map V.str)[i]? = some v) : ∃ z, zs[i]? = some z ∧ v = .str z := by
  rw [List.getElem?_map] at h
  obtain ⟨z, h1, h2⟩ := Option.map_eq_some_iff.mp h
  exact ⟨z, h1, h2.symm⟩
def spTl (CF : Addr) : Sp := fun vs H Q _ => ∃ a n L S, vs = [.ref a] ∧ TrA CF H a n L S ∧ Q (.int ((S.length : Nat) : Int)) H
def spTe (CF : Addr) : Sp := fun vs H Q _ => ∃ a b n L S S', vs = [.ref a, .ref b] ∧ TrA CF H a n L S ∧ TrA CF H b n L S' ∧ LOk n L ∧ Q (.bl true) H
def spCt (CF : Addr) : Sp := fun vs H Q _ => ∃ a n L S, vs = [.ref a] ∧ TrA CF H a n L S ∧ ∀ (D : Addr) (bs : List Addr) H', Same H H' → H D = none → H' D = some (.lst (bs.map V.ref)) → Paired (fun b (e : En) => H b = some (.tup (nv e.1))) bs S → Q (.ref D) H'
def spTt (K : PySem.W.Frag) (C CF : Addr) : Sp := fun vs H Q _ => ∃ a n L S, vs = [.ref a] ∧ TrA CF H a n L S ∧ LOk n L ∧ Fnd n L S ∧ ∀ x H', H x = none → TbA K C H' x (tab S.length (fmp (keys S))) → Same H H' → Q (.ref x) H'
def spMo (K : PySem.W.Frag) (CF : Addr) : Sp := fun vs H Q _ => ∃ (a wl : Addr) (n : Nat) (L : Ltt) (S : List En) (zs : List Str), vs = [.ref a, .ref wl] ∧ TrA CF H a n L S ∧ LOk n L ∧ NmOk L ∧ SqL K H wl (zs.map V.str) ∧ 1 ≤ zs.length ∧ zs.length ≤ 60 ∧ (∀ z, z ∈ zs → z ∈ L.map (·.1)) ∧
  ∀ t H', Same H H' → H' t = some (.tup (nv (mapW n L zs))) → Q (.ref t) H'
def spEo (K : PySem.W.Frag) (CF : Addr) : Sp := fun vs H Q _ => ∃ (a wl : Addr) (n : Nat) (L : Ltt) (S : List En) (zs : List Str), vs = [.ref a, .ref wl] ∧ TrA CF H a n L S ∧ LOk n L ∧ NmOk L ∧ SqL K H wl (zs.map V.str) ∧ 1 ≤ zs.length ∧ zs.length ≤ 60 ∧ (∀ z, z ∈ zs → z ∈ L.map (·.1)) ∧ mapW n L zs ∈ keys S ∧
  ∀ H', Same H H' → Q (.int (((keys S).idxOf (mapW n L zs) : Nat) : Int)) H'
def spWo (CF : Addr) : Sp := fun vs H Q _ => ∃ (a : Addr) (i n : Nat) (L : Ltt) (S : List En) (e : En), vs = [.ref a, .int (i : Int)] ∧ TrA CF H a n L S ∧ S[i]? = some e ∧ S.length ≤ 16 ∧ ∀ D H', Same H H' → H D = none → H' D = some (.lst (e.2.map V.str)) → Q (.ref D) H'
def spRu (K : PySem.W.Frag) (CF : Addr) : Sp := fun vs H Q _ => ∃ (a wl : Addr) (i n : Nat) (L : Ltt) (S : List En) (zs : List Str), vs = [.ref a, .int (i : Int), .ref wl] ∧ TrA CF H a n L S ∧ LOk n L ∧ NmOk L ∧ SqL K H wl (zs.map V.str) ∧ 1 ≤ zs.length ∧ zs.length ≤ 60 ∧ (∀ z, z ∈ zs → z ∈ L.map (·.1)) ∧ i < n ∧
  ∀ H', Same H H' → Q (.int (((mapW n L zs).getD i 0 : Nat) : Int)) H'
section
variable {P : Program} {w : World} {K : PySem.W.Frag} {mg : Str → Option Value} {base : Heap} {f f1 f2 f3 fI g1 : Addr} {fd d1 d2 d3 dI : FuncData} {C CF CO : Addr}
theorem scTl : FnScope ["self"] ["self"] (defScope sTl) := ⟨rfl, rfl, rfl, by decide +kernel, rfl, by decide +kernel, by decide +kernel⟩
theorem ok_tl (F : Fun K "__len__" "Transformations.__len__" sTl f fd) (M : Mn mg) (U : TfX K CF) : FnOk P w K mg base CX0 1 f fd ["self"] (spTl CF) := by
  refine F.ok scTl (fun vs H Q E h => ?_) (fun cdv A outer s H vs Q E hr h => ?_)
  · obtain ⟨a, n, L, S, rfl, _⟩ := h
    rfl
  obtain ⟨a, n, L, S, rfl, ht, q⟩ := h
  refine ⟨_, (pss_one (ps_ret (pe_callB call_len_seq (by rfl) M.len PySem.boot_len (pa_cons (pe_fld (pv 0) rfl) pa_nil)))), ?_⟩
  obtain ⟨dx, tl, cl, wl, e, hl, ⟨bs, e1, p1⟩, ws, e2, p2⟩ := ht.ob
  refine ⟨_, rfl, a, CF, dx, _, _, rfl, e, U.cl, U.n3, rfl, cl, _, rfl, .inl (SqL.of e1), ?_⟩
  rw [List.length_map, p1.length]
  exact q
theorem scTe : FnScope ["self", "other"] ["self", "other"] (defScope sTe) := ⟨rfl, rfl, rfl, by decide +kernel, rfl, by decide +kernel, by decide +kernel⟩
theorem ok_te (F : Fun K "__eq__" "Transformations.__eq__" sTe f fd) (M : Mn mg) (U : TfX K CF) (Y : CTi K CF) (mF : mg "Transformations" = some (.ref CF)) : FnOk P w K mg base CX0 1 f fd ["self", "other"] (spTe CF) := by
  refine F.ok scTe (fun vs H Q E h => ?_) (fun cdv A outer s H vs Q E hr h => ?_)
  · obtain ⟨a, b, n, L, S, S', rfl, _⟩ := h
    rfl
  obtain ⟨a, b, n, L, S, S', rfl, ht, ht2, o, q⟩ := h
  have hu := hr.units
  refine ⟨_, (pss_one (ps_ret (pe_and (pe_callB call_isi (by rfl) M.isin (by decide +kernel) (pa_cons (pv 1) (pa_cons (pe_glob (v := .ref CF) (by rfl) mF rfl) pa_nil))) (pe_and (pe_cmpR op_eq (pe_fld (pv 0) rfl) (pe_fld (pv 1) rfl) (nomark _)) (pe_one (pe_cmpR (op_eqD hu) (pe_fld (pv 0) rfl) (pe_fld (pv 1) rfl) (nomark _))))))), ?_⟩
  obtain ⟨dx, tl, cl, wl, e, hl, _⟩ := ht.ob
  obtain ⟨dx', tl', cl', wl', e', hl', _⟩ := ht2.ob
  refine ⟨_, rfl, _, .ref CF, _, .ref CF, true, rfl, .own CF, .base (.ins e' U.cl Y.ha Y.hn Y.htk Y.hm), kit_self K CF, _, rfl, iteT ?_⟩
  refine ⟨_, rfl, a, CF, dx, _, _, rfl, e, U.cl, U.n1, rfl, _, rfl, b, CF, dx', _, _, rfl, e', U.cl, U.n1, rfl, rfl, _, rfl, iteTt (decide_eq_true rfl) ?_⟩
  refine ⟨_, rfl, a, CF, dx, _, _, rfl, e, U.cl, U.n2, rfl, _, rfl, b, CF, dx', _, _, rfl, e', U.cl, U.n2, rfl, _, _, hl.dp, hl'.dp, lD_shaped o.ss, lD_shaped o.ss, ?_⟩
  rw [show PyData.eqv (.tuple (lD L)) (.tuple (lD L)) = true by simp only [PyData.eqv]; exact lD_refl L]
  exact q
theorem scCt : FnScope ["self"] ["self"] (defScope sCt) := ⟨rfl, rfl, rfl, by decide +kernel, rfl, by decide +kernel, by decide +kernel⟩
theorem ok_ct (F : Fun K "contents" "Transformations.contents" sCt f fd) (M : Mn mg) (U : TfX K CF) : FnOk P w K mg base CX0 1 f fd ["self"] (spCt CF) := by
  refine F.ok scCt (fun vs H Q E h => ?_) (fun cdv A outer s H vs Q E hr h => ?_)
  · obtain ⟨a, n, L, S, rfl, _⟩ := h
    rfl
  obtain ⟨a, n, L, S, rfl, ht, q⟩ := h
  refine ⟨_, (pss_one (ps_ret (pe_callTy (clist (K := K) rfl) (by rfl) M.list (by decide +kernel) (pa_cons (pe_fld (pv 0) rfl) pa_nil)))), ?_⟩
  obtain ⟨dx, tl, cl, wl, e, hl, ⟨bs, e1, p1⟩, ws, e2, p2⟩ := ht.ob
  exact ⟨_, rfl, a, CF, dx, _, _, rfl, e, U.cl, U.n3, rfl, cl, _, rfl, .inl (SqL.of e1), fun D hD => q D bs _ (Same.new hD _) hD upd_same p1⟩
theorem scTt : FnScope nTt ["self"] (defScope sTt) := ⟨rfl, rfl, rfl, by decide +kernel, rfl, by decide +kernel, by decide +kernel⟩
theorem ok_tt (F : Fun K "table" "Transformations.table" sTt f fd) (M : Mn mg) (T : CTx K mg C) (U : TfX K CF)
    (MI : Mk K C fI) (GI : FnOk P w K mg base CX0 5 fI dI ["self", "rows"] (spInit K C)) (bI : Binds K dI ["self", "rows"] [])
    (G1 : FnOk P w K mg base CX0 1 f1 d1 ["first", "second"] (spCd K)) (b1 : Binds K d1 ["first", "second"] []) (k1 : PySem.W.keepIn K (.ref f1) = true) (m1 : mg "_composed" = some (.ref f1)) :
    FnOk P w K mg base CX0 7 f fd ["self"] (spTt K C CF) := by
  refine F.ok scTt (fun vs H Q E h => ?_) (fun cdv A outer s H vs Q E hr h => ?_)
  · obtain ⟨a, n, L, S, rfl, _⟩ := h
    rfl
  obtain ⟨a, n, L, S, rfl, ht, o, fn, q⟩ := h
  have hr1 : Room 1 _ := hr.mono (by decide)
  have hr6 : Room 6 _ := hr.mono (by decide)
  refine ⟨_, (pss_cons (ps_set (i := 1) scTt.nd rfl (Or.inr rfl) (pe_fld (pv 0) rfl)) (pss_one (ps_ret (pe_make MI GI hr6 (by rfl) T.mgC bI .nil pass0 (pa_cons (pe_lc (own := [("first", 2)]) (g := gName 2) (tt := tYes) rfl scTt.nd (pi_list (pv 1)) (blkOk_by (N := nTt) (sc := defScope sTt) (by decide +kernel)) (fun _ _ _ _ _ => (pg_name (i := 2) scTt.nd rfl (Or.inr rfl))) (fun _ _ _ _ _ => pts_nil) (fun _ _ _ _ _ => (pe_lc (own := [("second", 3)]) (g := gName 3) (tt := tYes) rfl scTt.nd (pil (K := K) rfl (pv 1)) (blkOk_by (N := nTt) (sc := scTtO) (by decide +kernel)) (fun _ _ _ _ _ => (pg_name (i := 3) scTt.nd rfl (Or.inl rfl))) (fun _ _ _ _ _ => pts_nil) (fun _ _ _ _ _ => (pe_idx (K := K) rfl (hu65 hr1) (pv 1) (pa_cons (pe_call G1 hr1 (by rfl) m1 k1 b1 .nil pass0 (pa_cons (pv 2) (pa_cons (pv 3) pa_nil))) pa_nil)))))) pa_nil))))), ?_⟩
  have n5 := o.n5
  have fl : (keys S).length = S.length := List.length_map _
  have s1' := fn.ne o
  have s16 := fn.le
  obtain ⟨dx, tl, cl, wl, e, hl, ⟨bs, e1, p1⟩, _⟩ := ht.ob
  have lbs : bs.length = S.length := p1.length
  have pk := keys_pair p1
  have kget : ∀ {i : Nat} {x : En}, S[i]? = some x → (keys S)[i]? = some x.1 := fun h => by unfold keys; rw [List.getElem?_map, h]; rfl
  refine ⟨_, rfl, a, CF, dx, _, _, rfl, e, U.cl, U.n3, rfl, ?_⟩
  refine ⟨_, rfl, cl, rfl, ⟨_, SqL.of e1⟩, fun D hD => ?_⟩
  refine lc_it (walk_list (xs := bs.map V.ref)) (fun i G => Part H G D (rowsTo S.length (fmp (keys S)) i)) (Part.start (Same.refl H) hD) (fun i G _ z => SqL.of (z.same _ _ e1)) ?_ ?_
  · rintro i v G1 G2 hi pa ⟨rfl, hv⟩
    rw [List.length_map, lbs] at hi
    obtain ⟨tx, htx, rfl⟩ := ref_at hv
    obtain ⟨x, hx, ex⟩ := pair_at p1 htx
    have xk := fn.cl.mp x.1 (List.mem_of_getElem? (kget hx))
    refine ⟨rfl, _, rfl, cl, rfl, ⟨_, SqL.of (pa.same _ _ e1)⟩, fun D5 hD5 => ?_⟩
    refine lc_it (walk_list (xs := bs.map V.ref)) (fun j G => Same G2 G ∧ G D5 = some (.lst ((rowTo (fmp (keys S)) i j).map V.int))) ⟨Same.new hD5 _, upd_same⟩ (fun j G _ z => SqL.of (z.1 _ _ (pa.same _ _ e1))) ?_ ?_
    · rintro j v G3 G4 hj ⟨sG, e5⟩ ⟨rfl, hv⟩
      rw [List.length_map, lbs] at hj
      obtain ⟨ty, hty, rfl⟩ := ref_at hv
      obtain ⟨y, hy, ey⟩ := pair_at p1 hty
      have yk := fn.cl.mp y.1 (List.mem_of_getElem? (kget hy))
      have sH := pa.same.trans sG
      have em : cmp x.1 y.1 = cmp ((keys S).getD i []) ((keys S).getD j []) := by
        rw [List.getD_eq_getElem?_getD, kget hx, List.getD_eq_getElem?_getD, kget hy]; rfl
      have at1 := fn.cl.at_ (a := i) (b := j) (by rw [fl]; exact hi) (by rw [fl]; exact hj)
      rw [← em] at at1
      refine ⟨rfl, _, rfl, Or.inl ⟨rfl, _, SqL.of (sH _ _ e1)⟩, _, rfl, _, rfl, tx, ty, n, x.1, y.1, rfl, SqT.of (sH _ _ ex), SqT.of (sH _ _ ey), xk, yk, n5, fun t G5 s5 ht5 et => ?_⟩
      have sH5 := sH.trans s5
      refine ⟨cl, .ref t, tD (cmp x.1 y.1), (keys S).map tD, fmp (keys S) i j, tD (cmp x.1 y.1), rfl, rfl, .lst (SqL.of (sH5 _ _ e1)) (dp_tups (L2.Paired.mapP pk fun _ _ w => sH5 _ _ w)), dp_tup et, tDs_shaped _, tD_shaped _, by rw [List.getElem?_map, at1.2]; rfl, by rw [tD_eqv]; exact decide_eq_true rfl, fun m z' hm hz' => ?_, _, s5 _ _ e5, by rw [rowTo_len]; exact small1000 (by omega), fun c o ec => by rw [upd_ne (ne_of_none ec hD5)]; exact s5 _ _ (sG c o ec), ?_⟩
      · rw [List.getElem?_map] at hz'
        obtain ⟨w, hw, rfl⟩ := Option.map_eq_some_iff.mp hz'
        rw [tD_eqv]
        refine decide_eq_false (idx_ahead (ms := keys S) (m := cmp x.1 y.1) ?_ hw)
        unfold fmp at hm
        rw [← em] at hm
        exact hm
      · rw [upd_same, rowTo_next, List.map_append]; rfl
    · rintro G3 ⟨sG, e5⟩
      rw [List.length_map, lbs] at e5
      obtain ⟨acc, ea, lacc, p1'⟩ := pa.add sG hD5 e5
      refine ⟨acc, ea, by rw [lacc, rowsTo_len]; exact small1000 (by omega), ?_⟩
      rw [rowsTo_next]
      exact p1'
  rintro G1 pa
  rw [List.length_map, lbs] at pa
  have pa' : Part H G1 D (tab S.length (fmp (keys S))) := pa
  have asf := asf_maps fn.cl
  rw [fl] at asf
  have TR : Tb (tab S.length (fmp (keys S))) := tab_tb s1' s16 asf
  refine fun y dy hy hdy ney => ?_
  have sn : Same G1 (upd (upd G1 dy (.own y)) y (.ins C dy [])) := fun b o e => by rw [upd_ne (ne_of_none e hy), upd_ne (ne_of_none e hdy)]; exact e
  have RC : RowsL G1 (.ref D) (tab S.length (fmp (keys S))) := pa'.fin.same nw_same
  have nD1 : ∀ b, V.ref D = .ref b → b ≠ y := fun b e => by
    obtain ⟨_, _, e', ed, _⟩ := id RC
    cases e'
    cases e
    exact ne_of_none ed hy
  refine ⟨y, dy, .ref D, tab S.length (fmp (keys S)), rfl, upd_same, (RC.same sn).rws, TR.sq, TR.as, nD1, fun J5 tc kc => ⟨rfl, ?_⟩⟩
  have s45 : Same G1 J5 := fun b o e => kc b o (ne_of_none e hy) (sn b o e)
  exact q y J5 (pa'.same.free hy) tc (pa'.same.trans s45)
theorem scMo : FnScope nMo ["self", "word"] (defScope sMo) := ⟨rfl, rfl, rfl, by decide +kernel, rfl, by decide +kernel, by decide +kernel⟩
theorem ok_mo (F : Fun K "_map_of" "Transformations._map_of" sMo f fd) (M : Mn mg) (U : TfX K CF) (mW : ∃ t, mg "_LONGEST_WORD" = some (.int 60 t))
    (G1 : FnOk P w K mg base CX0 1 f1 d1 ["value", "least", "most"] (spIsList K)) (b1 : Binds K d1 ["value", "least", "most"] []) (k1 : PySem.W.keepIn K (.ref f1) = true) (m1 : mg "is_list" = some (.ref f1))
    (G2 : FnOk P w K mg base CX0 1 f2 d2 ["value"] (spIsName K)) (b2 : Binds K d2 ["value"] []) (k2 : PySem.W.keepIn K (.ref f2) = true) (m2 : mg "is_name" = some (.ref f2))
    (G3 : FnOk P w K mg base CX0 1 f3 d3 ["first", "second"] (spCd K)) (b3 : Binds K d3 ["first", "second"] []) (k3 : PySem.W.keepIn K (.ref f3) = true) (m3 : mg "_composed" = some (.ref f3)) :
    FnOk P w K mg base CX0 2 f fd ["self", "word"] (spMo K CF) := by
  obtain ⟨tok, mW⟩ := mW
  refine F.ok scMo (fun vs H Q E h => ?_) (fun cdv A outer s H vs Q E hr h => ?_)
  · obtain ⟨a, wl, n, L, S, zs, rfl, _⟩ := h
    rfl
  obtain ⟨a, wl, n, L, S, zs, rfl, ht, o, no, hw, z1, z60, hz, q⟩ := h
  have hr1 : Room 1 _ := hr.mono (by decide)
  have hu := hr.units
  have hu1 : (A.deeper (PyProof.Rows.envOfC "Transformations._map_of" (defScope sMo) s.heap.objs.size f cdv)).units + 1 < cLine := by omega
  refine ⟨_, (pss_cons (ps_if (pw_or (pt_not (pt_val (pe_call G1 hr1 (by rfl) m1 k1 b1 .nil pass0 (pa_cons (pv 1) (pa_cons pe_int (pa_cons (pe_glob (v := .int 60) (by rfl) mW ⟨_, rfl⟩) pa_nil)))))) (pw_or1 (pt_not (pt_val (pe_callB (cr_all rfl) (by rfl) M.all (by decide +kernel) (pa_cons (pe_lc (own := [("letter", 2)]) (g := gName 2) (tt := tYes) rfl scMo.nd (pi_list (pv 1)) (blkOk_by (N := nMo) (sc := defScope sMo) (by decide +kernel)) (fun _ _ _ _ _ => (pg_name (i := 2) scMo.nd rfl (Or.inl rfl))) (fun _ _ _ _ _ => pts_nil) (fun _ _ _ _ _ => (pe_call G2 hr1 (by rfl) m2 k2 b2 .nil pass0 (pa_cons (pv 2) pa_nil)))) pa_nil)))))).pt pss_dead pss_nil) (pss_cons (ps_set (i := 3) scMo.nd rfl (Or.inl rfl) (pe_callTy (call_dictF (K := K) rfl rfl) (by rfl) M.dict (by decide +kernel) (pa_cons (pe_fld (pv 0) rfl) pa_nil))) (pss_cons (ps_for PassesOwn.never rfl (pi_list (pv 1)) (pg_name (i := 2) scMo.nd rfl (Or.inl rfl)) (pss_one (ps_if (pt_cmp (pc_dnotin (by exact hu1) (pv 2) (pv 3))) pss_dead pss_nil))) (pss_cons (ps_set (i := 4) scMo.nd rfl (Or.inl rfl) (pe_tupRg rfl (by rfl) M.tuple (prg_1 (by rfl) M.range (pe_fld (pv 0) rfl)))) (pss_cons (ps_for PassesOwn.never rfl (pi_list (pv 1)) (pg_name (i := 2) scMo.nd rfl (Or.inl rfl)) (pss_one (ps_set (i := 4) scMo.nd rfl (Or.inl rfl) (pe_call G3 hr1 (by rfl) m3 k3 b3 .nil pass0 (pa_cons (pv 4) (pa_cons (pe_dget (by exact hu1) (pv 3) (pv 2) (fun _ _ => rfl)) pa_nil)))))) (pss_one (ps_ret (pv 4)))))))), ?_⟩
  obtain ⟨dx, tl, cl, wl', e, hl, _⟩ := ht.ob
  obtain ⟨ps, kvs, hps, prp, prk⟩ := hl.kvs
  have nd := kvs_nd prk no
  have n5 := o.n5
  have Mn0 : Mp n (List.range n) := ⟨List.length_range, fun x hx => List.mem_range.mp hx⟩
  have lz : (zs.map V.str).length = zs.length := List.length_map _
  refine ⟨_, rfl, .ref wl, _, _, rfl, .inl ⟨zs.map V.str, ⟨wl, rfl, .inl hw⟩, fun H1 s1 => ?_⟩⟩
  rw [lz, decide_eq_true (show (1 : Int) ≤ (zs.length : Int) by omega), decide_eq_true (show (zs.length : Int) ≤ 60 by omega)]
  refine ⟨_, rfl, iteF ?_⟩
  have hw1 := s1.seq hw
  refine ⟨_, rfl, wl, rfl, ⟨_, hw1⟩, fun D hD => ?_⟩
  refine lc_it (walk_list (xs := zs.map V.str)) (fun i G => Same H1 G ∧ G D = some (.lst ((List.replicate i true).map V.bl))) ⟨Same.new hD _, upd_same⟩ (fun i G _ z => z.1.seq hw1) ?_ ?_
  · rintro i y G G' hi ⟨sG, eD⟩ ⟨rfl, hy⟩
    rw [lz] at hi
    obtain ⟨z, hz', rfl⟩ := str_at hy
    obtain ⟨q1, hq1, e1, _⟩ := tg_in (hz z (List.mem_of_getElem? hz'))
    refine ⟨rfl, _, rfl, .str z, nm z, rfl, .inl ⟨z, rfl, (e1 ▸ o.ss q1 hq1).mono (by decide), rfl⟩, fun G1 s2 => ?_⟩
    rw [show nm z = true from e1 ▸ no.nm q1 hq1]
    refine ⟨_, s2 _ _ eD, by rw [List.length_map, List.length_replicate]; exact small1000 (by omega), fun c o e => by rw [upd_ne (ne_of_none e hD)]; exact s2 _ _ (sG _ _ e), ?_⟩
    rw [upd_same, List.replicate_succ', List.map_append]; rfl
  rintro G ⟨sG, eD⟩
  refine ⟨D, _, rfl, SqL.of eD, ?_⟩
  rw [show (List.replicate (zs.map V.str).length true).all id = true from List.all_eq_true.mpr fun x hx => (List.eq_of_mem_replicate hx)]
  refine ⟨_, rfl, iteF ?_⟩
  have sH := s1.trans sG
  refine ⟨_, rfl, a, CF, dx, _, _, rfl, sH _ _ e, U.cl, U.n2, rfl, tl, ps, kvs, rfl, hps.ext sH, L2.Paired.mapP prp fun p kv h => SqT.of (sH _ _ h), fun d hd => ?_⟩
  rw [merge_app (acc := []) nd]
  have sd := sH.trans (Same.new hd (.dK ([] ++ kvs)))
  have ed : (upd G d (.dK ([] ++ kvs))) d = some (.dK kvs) := upd_same
  generalize upd G d (.dK ([] ++ kvs)) = H2 at sd ed ⊢
  have lk : ∀ {z : Str}, z ∈ zs → ∃ t, valV kvs (Sum.inr z) = some (.ref t) ∧ H2 t = some (.tup (nv (tg L z))) := fun {z} h => by
    obtain ⟨t, h1, h2⟩ := kvs_at prk no (hz z h)
    exact ⟨t, h1, sd _ _ h2⟩
  have hw2 := sd.seq hw
  refine ⟨_, rfl, wl, rfl, ⟨_, hw2⟩, ?_⟩
  refine for_it (walk_list (xs := zs.map V.str)) (fun i σ G => Same H2 G ∧ ∃ x2 x4, σ = [some (.ref a), some (.ref wl), x2, some (.ref d), x4]) ⟨Same.refl _, _, _, rfl⟩ (fun i σ G _ z => z.1.seq hw2) ?_ ?_
  · rintro i y _ G1 G2 hi ⟨sG1, x2, x4, rfl⟩ ⟨rfl, hy⟩
    obtain ⟨z, hz', rfl⟩ := str_at hy
    obtain ⟨t, h1, _⟩ := lk (List.mem_of_getElem? hz')
    have gd : DGet G2 d (.str z) (valV kvs (Sum.inr z)) := DGet.k (k := Sum.inr z) (sG1 _ _ ed)
    rw [h1] at gd
    exact ⟨_, rfl, _, rfl, d, _, rfl, gd, _, rfl, iteF ⟨sG1, _, _, rfl⟩⟩
  rintro _ G1 ⟨sG1, x2, x4, rfl⟩
  have sH1 := sd.trans sG1
  refine ⟨_, rfl, a, CF, dx, _, _, rfl, sH1 _ _ e, U.cl, U.n1, rfl, _, rfl, RgOk.of_le (by decide) (by omega) (by decide) (by omega), fun t0 ht0 => ?_⟩
  rw [rg_nv]
  have s3 := sG1.trans (Same.new ht0 (.tup (nv (List.range n))))
  have et0 := upd_same (H := G1) (a := t0) (o := .tup (nv (List.range n)))
  generalize upd G1 t0 (.tup (nv (List.range n))) = H3 at s3 et0 ⊢
  refine ⟨_, rfl, wl, rfl, ⟨_, s3.seq hw2⟩, ?_⟩
  refine for_it (walk_list (xs := zs.map V.str)) (fun i σ G => Same H2 G ∧ ∃ x2 t, σ = [some (.ref a), some (.ref wl), x2, some (.ref d), some (.ref t)] ∧ G t = some (.tup (nv (mapW n L (zs.take i)))) ∧ Mp n (mapW n L (zs.take i))) ⟨s3, _, t0, rfl, et0, Mn0⟩ (fun i σ G _ z => z.1.seq hw2) ?_ ?_
  · rintro i y _ G1 G2 hi ⟨sG1, x2, t, rfl, et, mt⟩ ⟨rfl, hy⟩
    obtain ⟨z, hz', rfl⟩ := str_at hy
    have zm := List.mem_of_getElem? hz'
    obtain ⟨t', h1, h2⟩ := lk zm
    obtain ⟨q1, hq1, _, e2⟩ := tg_in (hz z zm)
    have gd : DGet G2 d (.str z) (valV kvs (Sum.inr z)) := DGet.k (k := Sum.inr z) (sG1 _ _ ed)
    rw [h1] at gd
    have mz : Mp n (tg L z) := e2 ▸ o.mp q1 hq1
    have tk : mapW n L (zs.take (i + 1)) = cmp (mapW n L (zs.take i)) (tg L z) := by
      unfold mapW
      rw [List.take_add_one, hz', List.foldl_append]; rfl
    refine ⟨_, rfl, _, rfl, _, rfl, d, _, rfl, gd, t, t', n, _, _, rfl, SqT.of et, SqT.of (sG1 _ _ h2), mt, mz, n5, fun p G3 s4 hp ep => ?_⟩
    exact ⟨sG1.trans s4, _, p, rfl, by rw [tk]; exact ep, by rw [tk]; exact cmp_mp mt mz⟩
  rintro _ G2 ⟨sG2, x2, t, rfl, et, mt⟩
  rw [lz, List.take_length] at et
  exact ⟨_, rfl, q t G2 (sd.trans sG2) et⟩
theorem scEo : FnScope ["self", "word"] ["self", "word"] (defScope sEo) := ⟨rfl, rfl, rfl, by decide +kernel, rfl, by decide +kernel, by decide +kernel⟩
theorem ok_eo (F : Fun K "element_of" "Transformations.element_of" sEo f fd) (M : Mn mg) (U : TfX K CF)
    (G1 : FnOk P w K mg base CX0 2 g1 d1 ["self", "word"] (spMo K CF)) (b1 : Binds K d1 ["self", "word"] []) (h1 : Meth K CF "_map_of" g1) : FnOk P w K mg base CX0 3 f fd ["self", "word"] (spEo K CF) := by
  refine F.ok scEo (fun vs H Q E h => ?_) (fun cdv A outer s H vs Q E hr h => ?_)
  · obtain ⟨a, wl, n, L, S, zs, rfl, _⟩ := h
    rfl
  obtain ⟨a, wl, n, L, S, zs, rfl, ht, o, no, hw, z1, z60, hz, hin, q⟩ := h
  have hr1 : Room 1 _ := hr.mono (by decide)
  have hr2 : Room 2 _ := hr.mono (by decide)
  refine ⟨_, (pss_one (ps_ret (pe_idx (K := K) rfl (hu65 hr1) (pe_fld (pv 0) rfl) (pa_cons (pe_meth (pv 0) U.cl h1 G1 hr2 b1 .nil pass0 (pa_cons (pv 1) pa_nil)) pa_nil)))), ?_⟩
  obtain ⟨dx, tl, cl, wl', e, hl, ⟨bs, e1, p1⟩, _⟩ := ht.ob
  have pk := keys_pair p1
  refine ⟨_, rfl, a, CF, dx, _, _, rfl, e, U.cl, U.n3, rfl, Or.inl ⟨rfl, _, SqL.of e1⟩, _, rfl, a, dx, _, rfl, e, rfl, _, rfl, a, wl, n, L, S, zs, rfl, ht, o, no, hw, z1, z60, hz, fun t H1 s1 et => ?_⟩
  obtain ⟨i1, i2⟩ := idx_get hin
  refine ⟨cl, .ref t, tD (mapW n L zs), (keys S).map tD, (keys S).idxOf (mapW n L zs), tD (mapW n L zs), rfl, rfl, .lst (SqL.of (s1 _ _ e1)) (dp_tups (L2.Paired.mapP pk fun _ _ w => s1 _ _ w)), dp_tup et, tDs_shaped _, tD_shaped _, by rw [List.getElem?_map, i2]; rfl, by rw [tD_eqv]; exact decide_eq_true rfl, fun m z' hm hz' => ?_, q _ s1⟩
  rw [List.getElem?_map] at hz'
  obtain ⟨w, hw, rfl⟩ := Option.map_eq_some_iff.mp hz'
  rw [tD_eqv]
  exact decide_eq_false (idx_ahead hm hw)
theorem scWo : FnScope ["self", "element"] ["self", "element"] (defScope sWo) := ⟨rfl, rfl, rfl, by decide +kernel, rfl, by decide +kernel, by decide +kernel⟩
theorem ok_wo (F : Fun K "word_of" "Transformations.word_of" sWo f fd) (M : Mn mg) (U : TfX K CF)
    (G1 : FnOk P w K mg base CX0 2 f1 d1 ["value", "limit"] (spBelow K)) (b1 : Binds K d1 ["value", "limit"] []) (k1 : PySem.W.keepIn K (.ref f1) = true) (m1 : mg "is_number_below" = some (.ref f1)) : FnOk P w K mg base CX0 3 f fd ["self", "element"] (spWo CF) := by
  refine F.ok scWo (fun vs H Q E h => ?_) (fun cdv A outer s H vs Q E hr h => ?_)
  · obtain ⟨a, i, n, L, S, e, rfl, _⟩ := h
    rfl
  obtain ⟨a, i, n, L, S, e, rfl, ht, hi, s16, q⟩ := h
  have hr2 : Room 2 _ := hr.mono (by decide)
  refine ⟨_, (pss_cons (ps_if (pt_not (pt_val (pe_call G1 hr2 (by rfl) m1 k1 b1 .nil pass0 (pa_cons (pv 1) (pa_cons (pe_callB call_len_seq (by rfl) M.len PySem.boot_len (pa_cons (pe_fld (pv 0) rfl) pa_nil)) pa_nil))))) pss_dead pss_nil) (pss_one (ps_ret (pe_callTy (clist (K := K) rfl) (by rfl) M.list (by decide +kernel) (pa_cons (pe_ix (ixl (K := K) rfl) (pe_fld (pv 0) rfl) (pv 1) (fun _ _ => rfl)) pa_nil))))), ?_⟩
  obtain ⟨dx, tl, cl, wl, e0, hl, _, ws, e2, p2⟩ := ht.ob
  have lws : ws.length = S.length := p2.length
  have hi' := (List.getElem?_eq_some_iff.mp hi).1
  obtain ⟨b, hb, eb⟩ := pair_to p2 hi
  refine ⟨_, rfl, _, rfl, a, CF, dx, _, _, rfl, e0, U.cl, U.n4, rfl, wl, _, rfl, .inl (SqL.of e2), ?_⟩
  rw [List.length_map, lws]
  have nbt : nb ((S.length : Nat) : Int) (.int (i : Int)) = true := by
    show (decide ((0 : Int) ≤ (i : Int)) && decide ((i : Int) < (S.length : Int))) = true
    rw [decide_eq_true (by omega), decide_eq_true (by omega)]; rfl
  refine ⟨.int (i : Int), _, rfl, .inl ⟨_, rfl⟩, _, rfl, ?_⟩
  rw [nbt]
  refine iteF ⟨_, rfl, a, CF, dx, _, _, rfl, e0, U.cl, U.n4, rfl, _, rfl, wl, _, _, _, rfl, rfl, SqL.of e2, at_of (j := i) rfl (by rw [List.getElem?_map, hb]; rfl), b, _, rfl, .inl (SqL.of eb), fun D hD => q D _ (Same.new hD _) hD upd_same⟩
theorem scRu : FnScope ["self", "state", "word"] ["self", "state", "word"] (defScope sRu) := ⟨rfl, rfl, rfl, by decide +kernel, rfl, by decide +kernel, by decide +kernel⟩
theorem ok_ru (F : Fun K "run" "Transformations.run" sRu f fd) (M : Mn mg) (U : TfX K CF)
    (G1 : FnOk P w K mg base CX0 2 g1 d1 ["self", "word"] (spMo K CF)) (b1 : Binds K d1 ["self", "word"] []) (h1 : Meth K CF "_map_of" g1)
    (G2 : FnOk P w K mg base CX0 2 f2 d2 ["value", "limit"] (spBelow K)) (b2 : Binds K d2 ["value", "limit"] []) (k2 : PySem.W.keepIn K (.ref f2) = true) (m2 : mg "is_number_below" = some (.ref f2)) : FnOk P w K mg base CX0 3 f fd ["self", "state", "word"] (spRu K CF) := by
  refine F.ok scRu (fun vs H Q E h => ?_) (fun cdv A outer s H vs Q E hr h => ?_)
  · obtain ⟨a, wl, i, n, L, S, zs, rfl, _⟩ := h
    rfl
  obtain ⟨a, wl, i, n, L, S, zs, rfl, ht, o, no, hw, z1, z60, hz, hi, q⟩ := h
  have hr2 : Room 2 _ := hr.mono (by decide)
  refine ⟨_, (pss_cons (ps_if (pt_not (pt_val (pe_call G2 hr2 (by rfl) m2 k2 b2 .nil pass0 (pa_cons (pv 1) (pa_cons (pe_fld (pv 0) rfl) pa_nil))))) pss_dead pss_nil) (pss_one (ps_ret (pe_ix (ixt (K := K) rfl) (pe_meth (pv 0) U.cl h1 G1 hr2 b1 .nil pass0 (pa_cons (pv 2) pa_nil)) (pv 1) (fun _ _ => rfl))))), ?_⟩
  obtain ⟨dx, tl, cl, wl', e, hl, _⟩ := ht.ob
  have Mn0 : Mp n (List.range n) := ⟨List.length_range, fun x hx => List.mem_range.mp hx⟩
  have mm : Mp n (mapW n L zs) := mapW_mp o Mn0 hz
  refine ⟨_, rfl, _, rfl, a, CF, dx, _, _, rfl, e, U.cl, U.n1, rfl, ?_⟩
  have nbt : nb ((n : Nat) : Int) (.int (i : Int)) = true := by
    show (decide ((0 : Int) ≤ (i : Int)) && decide ((i : Int) < (n : Int))) = true
    rw [decide_eq_true (by omega), decide_eq_true (by omega)]; rfl
  refine ⟨.int (i : Int), _, rfl, .inl ⟨_, rfl⟩, _, rfl, ?_⟩
  rw [nbt]
  exact iteF ⟨_, rfl, a, dx, _, rfl, e, rfl, _, rfl, a, wl, n, L, S, zs, rfl, ht, o, no, hw, z1, z60, hz, fun t H1 s1 et => ⟨_, rfl, t, _, _, _, rfl, rfl, SqT.of et, at_of (j := i) rfl (nv_get mm hi), q _ s1⟩⟩
end
end L

set_option Elab.async false
set_option linter.all false
set_option maxRecDepth 100000
set_option maxHeartbeats 4000000
set_option pp.maxSteps 400
namespace L
open PySem L2 KX
abbrev sNa : Stmt := top 37
abbrev sLt : Stmt := top 38
abbrev nNa : List Str := ["box", "signs", "k", "stem", "first", "at", "found", "end", "sign"]
abbrev nLt : List Str := ["box", "size", "names", "found", "k", "way", "targets", "state"]
def cs (z : Str) : List Nat := z.cps.toList
theorem cs_app (a b : Str) : cs (a ++ b) = cs a ++ cs b := Array.toList_append
theorem cs_len (z : Str) : (cs z).length = z.length := Array.length_toList
theorem join_cs (l : List Nat) : cs (Txt.join (Str.ofString "") (l.map fun c => (⟨#[c]⟩ : Str))) = l := by
  have e0 : cs (Str.ofString "") = [] := by decide +kernel
  have e : ∀ l : List Nat, cs (Str.join (Str.ofString "") (l.map fun c => (⟨#[c]⟩ : Str))) = l := fun l => by
    induction l with
    | nil => decide +kernel
    | cons c l ih =>
      cases l with
      | nil => rfl
      | cons d l =>
        show cs ((⟨#[c]⟩ : Str) ++ Str.ofString "" ++ Str.join (Str.ofString "") ((d :: l).map fun c => (⟨#[c]⟩ : Str))) = c :: d :: l
        rw [cs_app, cs_app, ih, e0]; rfl
  have ej : Txt.join (Str.ofString "") (l.map fun c => (⟨#[c]⟩ : Str)) = Str.join (Str.ofString "") (l.map fun c => (⟨#[c]⟩ : Str)) := StrLaws.glued_eq_join _ _
  rw [ej, e]
theorem cs_take (z : Str) (m : Nat) : cs (cutS z none (some (m : Int))) = (cs z).take m := by
  unfold cutS cs
  rw [HT.sIx_none, HT.sIx_nat]
  simp only [List.drop_zero, Nat.sub_zero]
  have l : z.cps.toList.length = z.length := Array.length_toList
  by_cases h : m ≤ z.length
  · rw [Nat.min_eq_left h]
  · rw [Nat.min_eq_right (by omega), List.take_of_length_le (by omega), List.take_of_length_le (by omega)]
theorem cs_mid (z : Str) {a b : Nat} (h : a ≤ b) (hb : b ≤ z.length) : cs (cutS z (some (a : Int)) (some (b : Int))) = ((cs z).drop a).take (b - a) := by
  unfold cutS cs
  rw [HT.sIx_nat, HT.sIx_nat, show min a z.length = a by omega, show min b z.length = b by omega]
def Az (z : Str) : Prop := ∀ c, c ∈ cs z → 97 ≤ c ∧ c ≤ 122
theorem sg_az {c : Nat} (h : 97 ≤ c ∧ c ≤ 122) : sg c = true := by
  have k : ∀ d, d ∈ List.range 26 → sg (97 + d) = true := by decide +kernel
  have := k (c - 97) (List.mem_range.mpr (by omega))
  rw [show 97 + (c - 97) = c by omega] at this
  exact this
theorem nm_az {z : Str} (h : Az z) (l1 : 1 ≤ z.length) (l8 : z.length ≤ 8) : nm z = true := by
  unfold nm
  rw [decide_eq_true l1, decide_eq_true l8]
  exact List.all_eq_true.mpr fun c hc => sg_az (h c hc)
theorem ss_az {z : Str} (h : Az z) (l8 : z.length ≤ 8) : Ss 8 z := ⟨l8, fun c hc => by have := h c hc; omega⟩
theorem Az.app {a b : Str} (h : Az a) (g : Az b) : Az (a ++ b) := fun c hc => by
  rw [cs_app] at hc
  exact (List.mem_append.mp hc).elim (h c) (g c)
theorem sgn_at {r : Int} (h0 : 0 ≤ r) (h1 : r < 26) : ∃ c, atI (Str.ofString "abcdefghijklmnopqrstuvwxyz").cps.toList r = some c ∧ 97 ≤ c ∧ c ≤ 122 := by
  obtain ⟨j, c, hc1, hc2, _, hc3⟩ := pick (xs := (Str.ofString "abcdefghijklmnopqrstuvwxyz").cps.toList) (i := r) h0 (by rw [show (Str.ofString "abcdefghijklmnopqrstuvwxyz").cps.toList.length = 26 by decide +kernel]; exact h1)
  exact ⟨c, hc3, (show ∀ c ∈ (Str.ofString "abcdefghijklmnopqrstuvwxyz").cps.toList, 97 ≤ c ∧ c ≤ 122 by decide +kernel) c hc2⟩
def spNa : Sp := fun vs H Q _ => ∃ p : Addr, vs = [.ref p] ∧ Bx H p ∧ ∀ (zs : List Str) (D : Addr) H', Bx H' p → Sx p H H' → H D = none → H' D = some (.lst (zs.map V.str)) → zs.length = 4 → (∀ z, z ∈ zs → nm z = true ∧ Ss 8 z) → Q (.ref D) H'
def spLt : Sp := fun vs H Q _ => ∃ p : Addr, vs = [.ref p] ∧ Bx H p ∧ ∀ (t gl : Addr) (n : Nat) (L : Ltt) H', Bx H' p → Sx p H H' → H' t = some (.tup [.int (n : Int), .ref gl]) → LOk n L → NmOk L → Gv (mn p H') gl L → Q (.ref t) H'
/-- a letter more, or told anew -/
def putL (L : Ltt) (z : Str) (m : List Nat) : Ltt := if z ∈ L.map (·.1) then L.map (fun q => if q.1 = z then (q.1, m) else q) else L ++ [(z, m)]
theorem putL_in {L : Ltt} {z : Str} {m : List Nat} : ∀ q, q ∈ putL L z m → q ∈ L ∨ (q.1 = z ∧ q.2 = m) := fun q h => by
  unfold putL at h
  by_cases c : z ∈ L.map (·.1)
  · rw [if_pos c] at h
    obtain ⟨p, hp, rfl⟩ := List.mem_map.mp h
    by_cases e : p.1 = z
    · rw [if_pos e]; exact .inr ⟨e, rfl⟩
    · rw [if_neg e]; exact .inl hp
  · rw [if_neg c] at h
    rcases List.mem_append.mp h with h | h
    · exact .inl h
    · rw [List.mem_singleton.mp h]; exact .inr ⟨rfl, rfl⟩
theorem putL_len {L : Ltt} {z : Str} {m : List Nat} : 1 ≤ (putL L z m).length ∧ (putL L z m).length ≤ L.length + 1 := by
  unfold putL
  by_cases c : z ∈ L.map (·.1)
  · rw [if_pos c, List.length_map]
    obtain ⟨p, hp, _⟩ := List.mem_map.mp c
    exact ⟨List.length_pos_of_mem hp, by omega⟩
  · rw [if_neg c, List.length_append]; simp
theorem putL_nd {L : Ltt} {z : Str} {m : List Nat} (h : (L.map (·.1)).Nodup) : ((putL L z m).map (·.1)).Nodup := by
  unfold putL
  by_cases c : z ∈ L.map (·.1)
  · rw [if_pos c, List.map_map]
    have : (L.map ((fun q : Str × List Nat => q.1) ∘ fun q => if q.1 = z then (q.1, m) else q)) = L.map (·.1) := List.map_congr_left fun q _ => by
      show (if q.1 = z then (q.1, m) else q).1 = q.1
      split <;> rfl
    rw [this]; exact h
  · rw [if_neg c, List.map_append]
    refine List.nodup_append.mpr ⟨h, by simp, fun a ha b hb e => ?_⟩
    have : b = z := by simpa using hb
    exact c (by rw [← this, ← e]; exact ha)
theorem GvP.put {H : Hp} {kvs : List (Key × V)} {L : Ltt} {z : Str} {m : List Nat} {t : Addr} (h : GvP H kvs L) (ht : H t = some (.lst (nv m))) : GvP H (putK kvs (Sum.inr z) (.ref t)) (putL L z m) := by
  have hk : (kvs.any fun kv => decide (kv.1 = (Sum.inr z : Key))) = decide (z ∈ L.map (·.1)) := by
    unfold GvP at h
    induction h with
    | nil => rfl
    | @cons kv q _ _ h _ ih =>
      rw [List.any_cons, ih, h.1]
      by_cases e : q.1 = z
      · subst e; simp
      · have : ¬ (Sum.inr q.1 : Key) = Sum.inr z := fun x => e (Sum.inr.inj x)
        simp [e, this, Ne.symm e]
  unfold putK putL
  rw [hk]
  by_cases c : z ∈ L.map (·.1)
  · rw [if_pos (decide_eq_true c), if_pos c]
    clear hk c
    unfold GvP at *
    induction h with
    | nil => exact .nil
    | @cons kv q _ _ h _ ih =>
      refine .cons ?_ ih
      obtain ⟨h1, a, h2, h3⟩ := h
      dsimp only
      by_cases e : q.1 = z
      · rw [if_pos (by rw [h1, e]), if_pos e]; exact ⟨h1, t, rfl, ht⟩
      · rw [if_neg (by rw [h1]; exact fun x => e (Sum.inr.inj x)), if_neg e]; exact ⟨h1, a, h2, h3⟩
  · rw [if_neg (by rw [decide_eq_false c]; exact Bool.false_ne_true), if_neg c]
    exact pair_app h ⟨rfl, t, rfl, ht⟩
section
variable {P : Program} {w : World} {K : PySem.W.Frag} {mg : Str → Option Value} {base : Heap} {f f1 f2 : Addr} {fd d1 d2 : FuncData}
theorem scNa : FnScope nNa ["box"] (defScope sNa) := ⟨rfl, rfl, rfl, by decide +kernel, rfl, by decide +kernel, by decide +kernel⟩
theorem ok_na (F : Fun K "_law_letter_names" "_law_letter_names" sNa f fd) (M : Mn mg)
    (G1 : FnOk P w K mg base CX0 1 f1 d1 ["box", "size"] spTake) (b1 : Binds K d1 ["box", "size"] []) (k1 : PySem.W.keepIn K (.ref f1) = true) (m1 : mg "_law_take" = some (.ref f1)) :
    FnOk P w K mg base CX0 2 f fd ["box"] spNa := by
  refine F.ok scNa (fun vs H Q E h => ?_) (fun cdv A outer s H vs Q E hr h => ?_)
  · obtain ⟨p, rfl, _⟩ := h
    rfl
  obtain ⟨p, rfl, hb, q⟩ := h
  have hr1 : Room 1 _ := hr.mono (by decide)
  refine ⟨_, (pss_cons (ps_set (i := 1) scNa.nd rfl (Or.inr rfl) pe_str) (pss_cons (ps_set (i := 3) scNa.nd rfl (Or.inr rfl) (pe_join pe_str (pe_lc (own := [("k", 2)]) (g := gName 2) (tt := tYes) rfl scNa.nd (pi_range1 (by rfl) M.range (pa_cons pe_int pa_nil)) (blkOk_by (N := nNa) (sc := defScope sNa) (by decide +kernel)) (fun _ _ _ _ _ => (pg_name (i := 2) scNa.nd rfl (Or.inl rfl))) (fun _ _ _ _ _ => pts_nil) (fun _ _ _ _ _ => (pe_ix ix_str (pv 1) (pe_call G1 hr1 (by rfl) m1 k1 b1 .nil pass0 (pa_cons (pv 0) (pa_cons pe_int pa_nil))) (fun _ _ => rfl)))))) (pss_cons (ps_asg (pe_tup (pa_cons (pe_call G1 hr1 (by rfl) m1 k1 b1 .nil pass0 (pa_cons (pv 0) (pa_cons pe_int pa_nil))) (pa_cons (pe_call G1 hr1 (by rfl) m1 k1 b1 .nil pass0 (pa_cons (pv 0) (pa_cons pe_int pa_nil))) pa_nil))) (pg_tup rfl (pgs_cons (pg_name (i := 4) scNa.nd rfl (Or.inr rfl)) (pgs_cons (pg_name (i := 5) scNa.nd rfl (Or.inl rfl)) pgs_nil)))) (pss_cons (ps_if (pt_cmpR op_eq (pe_call G1 hr1 (by rfl) m1 k1 b1 .nil pass0 (pa_cons (pv 0) (pa_cons pe_int pa_nil))) pe_int (nomark _)) (pss_one (ps_ret (pe_lc (own := [("k", 2)]) (g := gName 2) (tt := tYes) rfl scNa.nd (pi_range1 (by rfl) M.range (pa_cons pe_int pa_nil)) (blkOk_by (N := nNa) (sc := defScope sNa) (by decide +kernel)) (fun _ _ _ _ _ => (pg_name (i := 2) scNa.nd rfl (Or.inl rfl))) (fun _ _ _ _ _ => pts_nil) (fun _ _ _ _ _ => (pe_slice sl_str (pv 3) po_none (po_some (pe_op op_add pe_int (pe_op op_mod (pe_op op_add (pv 4) (pe_op op_mul pe_int (pv 2))) pe_int)))))))) pss_nil) (pss_cons (ps_par (i := 6) (j := 7) (by rfl) scNa.nd rfl rfl (by decide) rfl rfl (pa_cons (pe_lst pa_nil) (pa_cons (pe_op op_add (pv 5) (pe_call G1 hr1 (by rfl) m1 k1 b1 .nil pass0 (pa_cons (pv 0) (pa_cons (pe_op op_sub pe_int (pv 5)) pa_nil)))) pa_nil)) (by rfl)) (pss_cons (ps_for PassesOwn.never rfl (pi_range1 (by rfl) M.range (pa_cons pe_int pa_nil)) (pg_name (i := 2) scNa.nd rfl (Or.inl rfl)) (pss_cons (ps_set (i := 8) scNa.nd rfl (Or.inl rfl) (pe_ix ix_str (pv 1) (pe_op op_mod (pe_op op_add (pv 4) (pe_op op_mul pe_int (pv 2))) pe_int) (fun _ _ => rfl))) (pss_one (ps_expr (pe_bm PySem.F.plainAttrs_list PySem.F.slot_list_append PySem.F.type_list_append mt_append (pv 6) (pa_cons (pe_op op_add_str (pe_op op_add_str (pe_op op_add_str (pe_slice sl_str (pv 3) po_none (po_some (pv 5))) (pv 8)) (pe_slice sl_str (pv 3) (po_some (pv 5)) (po_some (pv 7)))) (pe_op op_mulZ pe_str (pe_op op_mod (pv 2) pe_int))) pa_nil)))))) (pss_one (ps_ret (pv 6))))))))), ?_⟩
  refine ⟨⟨_, rfl⟩, _, rfl, by decide, by decide, fun D hD => ?_⟩
  have nDp : D ≠ p := hb.ne hD
  refine lc_range (lo := 0) (n := Int.toNat 8) (fun i J => Bx J p ∧ Sx p H J ∧ ∃ l : List Nat, J D = some (.lst ((l.map fun c => (⟨#[c]⟩ : Str)).map V.str)) ∧ l.length = i ∧ ∀ c, c ∈ l → 97 ≤ c ∧ c ≤ 122)
    ⟨hb.new hD, Sx.new hD, [], upd_same, rfl, fun _ z => nomatch z⟩ ?_ ?_
  · rintro i J hi ⟨bJ, sJ, l, eD, ll, hl⟩
    have hi8 : i < 8 := hi
    refine ⟨rfl, _, rfl, _, rfl, p, 26, rfl, bJ, by decide, by decide, fun r J1 ra rb bJ1 sJ1 => ?_⟩
    obtain ⟨c, hc3, hc⟩ := sgn_at ra rb
    refine ⟨_, r, c, rfl, rfl, by decide +kernel, hc3, _, sJ1 D _ nDp eD, ?_, bJ1.at_ne nDp, ?_, l ++ [c], ?_, by rw [List.length_append, ll]; rfl, fun d hd => ?_⟩
    · rw [List.length_map, List.length_map, ll]; exact small1000 (by omega)
    · intro b o hb' e
      rw [upd_ne (ne_of_none e hD)]
      exact sJ1 b o hb' (sJ b o hb' e)
    · rw [upd_same, List.map_append, List.map_append]; rfl
    · rcases List.mem_append.mp hd with h | h
      · exact hl d h
      · rw [List.mem_singleton.mp h]; exact hc
  rintro J ⟨bJ, sJ, l, eD, ll, hl⟩
  have ll8 : l.length = 8 := ll
  refine ⟨_, D, _, rfl, rfl, .inl (SqL.of eD), ?_, ?_⟩
  · have := Ss.sum (m := 1) (ys := l.map fun c => (⟨#[c]⟩ : Str)) fun y hy => by
      obtain ⟨c, hc, rfl⟩ := List.mem_map.mp hy
      exact Ss.sign (by have := hl c hc; omega)
    rw [List.length_map, ll8] at this
    show _ + _ * 0 ≤ _
    omega
  have hcs : cs (Txt.join (Str.ofString "") (l.map fun c => (⟨#[c]⟩ : Str))) = l := join_cs l
  generalize Txt.join (Str.ofString "") (l.map fun c => (⟨#[c]⟩ : Str)) = stem at hcs ⊢
  have sl8 : stem.length = 8 := by rw [← cs_len, hcs]; exact ll8
  have saz : Az stem := fun c hc => hl c (hcs ▸ hc)
  have ssz : stem.length ≤ sizeLine := szl _ (by omega)
  refine ⟨_, rfl, p, 26, rfl, bJ, by decide, by decide, fun fr J1 f0 f1 bJ1 x1 => ⟨_, rfl, p, 7, rfl, bJ1, by decide, by decide, fun at_ J2 a0 a1 bJ2 x2 => ⟨szl _ (by simp), fun T hT => ⟨T, _, rfl, SqT.of upd_same, rfl, _, _, rfl, _, _, rfl, rfl, ?_⟩⟩⟩⟩
  have bJ3 := bJ2.new (o := .tup [.int fr, .int at_]) hT
  have x3 : Sx p H (upd J2 T (.tup [.int fr, .int at_])) := sJ.trans (x1.trans (x2.trans (Sx.new hT)))
  generalize upd J2 T (.tup [.int fr, .int at_]) = J3 at bJ3 x3 ⊢
  refine ⟨_, rfl, p, 3, rfl, bJ3, by decide, by decide, fun r J4 ra rb bJ4 x4 => ⟨rfl, _, rfl, ?_⟩⟩
  have x4' := x3.trans x4
  obtain ⟨an, rfl⟩ := Int.eq_ofNat_of_zero_le a0
  refine ite2 (fun c => ?_) (fun c => ?_)
  · refine ⟨_, rfl, by decide, by decide, fun D2 hD2 => ?_⟩
    have nD2 : D2 ≠ p := bJ4.ne hD2
    have hD2' : H D2 = none := x4'.free bJ4 hD2
    refine lc_range (lo := 0) (n := Int.toNat 4) (fun i G => Bx G p ∧ Sx p H G ∧ ∃ zs : List Str, G D2 = some (.lst (zs.map V.str)) ∧ zs.length = i ∧ ∀ z, z ∈ zs → nm z = true ∧ Ss 8 z)
      ⟨bJ4.new hD2, x4'.trans (Sx.new hD2), [], upd_same, rfl, fun _ z => nomatch z⟩ ?_ ?_
    · rintro i G hi ⟨bG, sG, zs, eD2, lz, hz⟩
      have hi4 : i < 4 := hi
      refine ⟨rfl, _, rfl, _, rfl, _, rfl, _, _, rfl, rfl, .inl ⟨by decide, by decide⟩, _, _, rfl, rfl, _, _, rfl, rfl, (by show (0 : Int) < 8; decide), _, _, rfl, rfl, _, rfl, stem, rfl, ssz, ?_⟩
      have m0 := Int.emod_nonneg (fr + 3 * (0 + (i : Int))) (show (8 : Int) ≠ 0 by decide)
      have m1 := Int.emod_lt_of_pos (fr + 3 * (0 + (i : Int))) (show (0 : Int) < 8 by decide)
      generalize (fr + 3 * (0 + (i : Int))) % 8 = x at m0 m1
      obtain ⟨xn, rfl⟩ := Int.eq_ofNat_of_zero_le m0
      rw [show (1 : Int) + (xn : Int) = ((1 + xn : Nat) : Int) by omega]
      have hc2 := cs_take stem (1 + xn)
      have haz : Az (cutS stem none (some ((1 + xn : Nat) : Int))) := fun c hc => saz c (List.mem_of_mem_take (hc2 ▸ hc))
      have hlen : (cutS stem none (some ((1 + xn : Nat) : Int))).length = 1 + xn := by
        rw [← cs_len, hc2, List.length_take, cs_len, sl8]; omega
      refine ⟨_, eD2, by rw [List.length_map, lz]; exact small1000 (by omega), bG.at_ne nD2, fun b o n e => by rw [upd_ne (ne_of_none e hD2')]; exact sG b o n e, zs ++ [cutS stem none (some ((1 + xn : Nat) : Int))], by rw [upd_same, List.map_append]; rfl, by rw [List.length_append, lz]; rfl, fun z hz' => ?_⟩
      rcases List.mem_append.mp hz' with h | h
      · exact hz z h
      · rw [List.mem_singleton.mp h]
        exact ⟨nm_az haz (by omega) (by omega), ss_az haz (by omega)⟩
    rintro G ⟨bG, sG, zs, eD2, lz, hz⟩
    exact q zs D2 G bG sG hD2' eD2 lz hz
  refine ⟨szl _ (by simp), fun Fd hFd => ?_⟩
  have nFp : Fd ≠ p := bJ4.ne hFd
  have hF' : H Fd = none := x4'.free bJ4 hFd
  have bJ5 := bJ4.new (o := .lst []) hFd
  have x5 : Sx p H (upd J4 Fd (.lst [])) := x4'.trans (Sx.new hFd)
  have eF5 := upd_same (H := J4) (a := Fd) (o := .lst [])
  generalize upd J4 Fd (.lst []) = J5 at bJ5 x5 eF5 ⊢
  refine ⟨_, rfl, _, rfl, _, rfl, _, _, rfl, rfl, p, 7 - (an : Int), rfl, bJ5, by omega, by omega, fun en J6 c0 c1 bJ6 x6 => ⟨_, _, rfl, rfl, _, _, rfl, ?_⟩⟩
  obtain ⟨bn, rfl⟩ := Int.eq_ofNat_of_zero_le c0
  have x6' := x5.trans x6
  have eF6 := x6 _ _ nFp eF5
  refine ⟨_, rfl, by decide, by decide, ?_⟩
  refine for_range (lo := 0) (n := Int.toNat 4) (fun i σ G => Bx G p ∧ Sx p H G ∧ (∃ zs : List Str, G Fd = some (.lst (zs.map V.str)) ∧ zs.length = i ∧ ∀ z, z ∈ zs → nm z = true ∧ Ss 8 z) ∧ ∃ x2 x8, σ = [some (.ref p), some (.str (Str.ofString "abcdefghijklmnopqrstuvwxyz")), x2, some (.str stem), some (.int fr), some (.int (an : Int)), some (.ref Fd), some (.int ((an : Int) + (bn : Int))), x8])
    ⟨bJ6, x6', ⟨[], eF6, rfl, fun _ z => nomatch z⟩, _, _, rfl⟩ ?_ ?_
  rotate_left
  · rintro _ G ⟨bG, sG, ⟨zs, eF, lz, hz⟩, x2', x8, rfl⟩
    exact ⟨_, rfl, q zs Fd G bG sG hF' eF lz hz⟩
  rintro i _ G hi ⟨bG, sG, ⟨zs, eF, lz, hz⟩, x2', x8, rfl⟩
  have hi4 : i < 4 := hi
  refine ⟨_, rfl, _, rfl, _, rfl, _, _, rfl, rfl, .inl ⟨by decide, by decide⟩, _, _, rfl, rfl, _, _, rfl, rfl, (by show (0 : Int) < 26; decide), ?_⟩
  have m0 := Int.emod_nonneg (fr + 7 * (0 + (i : Int))) (show (26 : Int) ≠ 0 by decide)
  have m1 := Int.emod_lt_of_pos (fr + 7 * (0 + (i : Int))) (show (0 : Int) < 26 by decide)
  obtain ⟨c, hc3, hc⟩ := sgn_at m0 m1
  refine ⟨_, _, c, rfl, rfl, by decide +kernel, hc3, ?_⟩
  have e1 := cs_take stem an
  have z1 : Az (cutS stem none (some (an : Int))) := fun c hc => saz c (List.mem_of_mem_take (e1 ▸ hc))
  have l1 : (cutS stem none (some (an : Int))).length = an := by rw [← cs_len, e1, List.length_take, cs_len, sl8]; omega
  have e2 := cs_mid stem (a := an) (b := an + bn) (by omega) (by omega)
  have z2 : Az (cutS stem (some (an : Int)) (some ((an + bn : Nat) : Int))) := fun c hc => saz c (List.mem_of_mem_drop (List.mem_of_mem_take (e2 ▸ hc)))
  have l2 : (cutS stem (some (an : Int)) (some ((an + bn : Nat) : Int))).length = bn := by rw [← cs_len, e2, List.length_take, List.length_drop, cs_len, sl8]; omega
  have zc : Az ⟨#[c]⟩ := fun d hd => by
    have : d = c := by simpa [cs] using hd
    rw [this]; exact hc
  have lc : (⟨#[c]⟩ : Str).length = 1 := rfl
  have s12 : ∀ a b : Str, a.length ≤ 10 → b.length ≤ 10 → a.length + b.length ≤ sizeLine := fun a b h1 h2 => szl _ (by omega)
  refine ⟨_, rfl, .inl ⟨rfl, _, SqL.of eF⟩, _, rfl, _, rfl, _, rfl, stem, rfl, ssz, _, rfl, _, _, rfl, rfl, s12 _ _ (by omega) (by omega), ?_⟩
  refine ⟨_, rfl, _, rfl, _, rfl, _, rfl, _, rfl, stem, rfl, ssz, _, _, rfl, rfl, ?_⟩
  rw [← Int.natCast_add]
  have a1 : (cutS stem none (some (an : Int)) ++ (⟨#[c]⟩ : Str)).length = an + 1 := by rw [strLen_append, l1, lc]
  have a2 : (cutS stem none (some (an : Int)) ++ (⟨#[c]⟩ : Str) ++ cutS stem (some (an : Int)) (some ((an + bn : Nat) : Int))).length = an + 1 + bn := by rw [strLen_append, a1, l2]
  have az := (z1.app zc).app z2
  refine ⟨s12 _ _ (by omega) (by omega), _, rfl, _, _, rfl, rfl, (by show (0 : Int) < 2; decide), ?_⟩
  refine ⟨_, _, rfl, rfl, (show (0 + (i : Int)) % 2 = 0 ∨ (0 + (i : Int)) % 2 = 1 by omega).elim (fun e0 => .inl ⟨e0, ?_⟩) (fun e0 => .inr ⟨e0, ?_⟩)⟩
  · have hy : Az (Str.empty) := fun c hc => nomatch hc
    have ly : (Str.empty).length ≤ 1 := by decide
    have a3 : (cutS stem none (some (an : Int)) ++ (⟨#[c]⟩ : Str) ++ cutS stem (some (an : Int)) (some ((an + bn : Nat) : Int)) ++ Str.empty).length = an + 1 + bn + (Str.empty).length := by rw [strLen_append, a2]
    refine ⟨_, _, rfl, rfl, s12 _ _ (by omega) (by omega), Fd, _, _, rfl, rfl, eF, by rw [List.length_map, lz]; exact small1000 (by omega), ?_⟩
    refine ⟨bG.at_ne nFp, fun b o n e => by rw [upd_ne (ne_of_none e hF')]; exact sG b o n e, ⟨zs ++ [cutS stem none (some (an : Int)) ++ (⟨#[c]⟩ : Str) ++ cutS stem (some (an : Int)) (some ((an + bn : Nat) : Int)) ++ Str.empty], by rw [upd_same, List.map_append]; rfl, by rw [List.length_append, lz]; rfl, fun z hz' => ?_⟩, _, _, rfl⟩
    rcases List.mem_append.mp hz' with h | h
    · exact hz z h
    · rw [List.mem_singleton.mp h]
      exact ⟨nm_az (az.app hy) (by omega) (by omega), ss_az (az.app hy) (by omega)⟩
  · have hy : Az (Str.ofString "z") := by unfold Az; exact (by decide +kernel : ∀ c ∈ cs (Str.ofString "z"), 97 ≤ c ∧ c ≤ 122)
    have ly : (Str.ofString "z").length ≤ 1 := by decide +kernel
    have a3 : (cutS stem none (some (an : Int)) ++ (⟨#[c]⟩ : Str) ++ cutS stem (some (an : Int)) (some ((an + bn : Nat) : Int)) ++ Str.ofString "z").length = an + 1 + bn + (Str.ofString "z").length := by rw [strLen_append, a2]
    refine ⟨_, _, rfl, rfl, s12 _ _ (by omega) (by omega), Fd, _, _, rfl, rfl, eF, by rw [List.length_map, lz]; exact small1000 (by omega), ?_⟩
    refine ⟨bG.at_ne nFp, fun b o n e => by rw [upd_ne (ne_of_none e hF')]; exact sG b o n e, ⟨zs ++ [cutS stem none (some (an : Int)) ++ (⟨#[c]⟩ : Str) ++ cutS stem (some (an : Int)) (some ((an + bn : Nat) : Int)) ++ Str.ofString "z"], by rw [upd_same, List.map_append]; rfl, by rw [List.length_append, lz]; rfl, fun z hz' => ?_⟩, _, _, rfl⟩
    rcases List.mem_append.mp hz' with h | h
    · exact hz z h
    · rw [List.mem_singleton.mp h]
      exact ⟨nm_az (az.app hy) (by omega) (by omega), ss_az (az.app hy) (by omega)⟩
end
end L

set_option Elab.async false
set_option linter.all false
set_option maxRecDepth 100000
set_option maxHeartbeats 4000000
set_option pp.maxSteps 400
namespace L
open PySem L2 KX
def MidLt (p D gl : Addr) (n : Nat) (k way : V) (G1 : Hp) : L2.St → Hp → Prop := fun σ' G' => Bx G' p ∧ Sx p G1 G' ∧ ∃ (t : Addr) (m : List Nat) (x7 : Option V), σ' = [some (.ref p), some (.int (n : Int)), some (.ref D), some (.ref gl), some k, some way, some (.ref t), x7] ∧ G' t = some (.lst (nv m)) ∧ t ≠ p ∧ t ≠ gl ∧ Mp n m
theorem rep_flat (n x : Nat) : (List.replicate n [V.int (x : Int)]).flatten = nv (List.replicate n x) := by
  induction n with
  | zero => rfl
  | succ n ih => rw [List.replicate_succ, List.flatten_cons, ih, List.replicate_succ]; rfl
theorem at0 (a : Nat) (l : List Nat) : atI (nv (a :: l)) 0 = some (.int (a : Int)) := by simp [atI, nv, ixN]
section
variable {P : Program} {w : World} {K : PySem.W.Frag} {mg : Str → Option Value} {base : Heap} {f f1 f2 : Addr} {fd d1 d2 : FuncData}
theorem scLt : FnScope nLt ["box"] (defScope sLt) := ⟨rfl, rfl, rfl, by decide +kernel, rfl, by decide +kernel, by decide +kernel⟩
theorem ok_lt (F : Fun K "_law_letters" "_law_letters" sLt f fd) (M : Mn mg)
    (G1 : FnOk P w K mg base CX0 1 f1 d1 ["box", "size"] spTake) (b1 : Binds K d1 ["box", "size"] []) (k1 : PySem.W.keepIn K (.ref f1) = true) (m1 : mg "_law_take" = some (.ref f1))
    (G2 : FnOk P w K mg base CX0 2 f2 d2 ["box"] spNa) (b2 : Binds K d2 ["box"] []) (k2 : PySem.W.keepIn K (.ref f2) = true) (m2 : mg "_law_letter_names" = some (.ref f2)) :
    FnOk P w K mg base CX0 3 f fd ["box"] spLt := by
  refine F.ok scLt (fun vs H Q E h => ?_) (fun cdv A outer s H vs Q E hr h => ?_)
  · obtain ⟨p, rfl, _⟩ := h
    rfl
  obtain ⟨p, rfl, hb, q⟩ := h
  have hr1 : Room 1 _ := hr.mono (by decide)
  have hr2 : Room 2 _ := hr.mono (by decide)
  have hu := hr.units
  have hu0 : (A.deeper (PyProof.Rows.envOfC "_law_letters" (defScope sLt) s.heap.objs.size f cdv)).units < cLine := by omega
  have hu1 : (A.deeper (PyProof.Rows.envOfC "_law_letters" (defScope sLt) s.heap.objs.size f cdv)).units + 1 < cLine := by omega
  refine ⟨_, (pss_cons (ps_set (i := 1) scLt.nd rfl (Or.inr rfl) (pe_op op_add pe_int (pe_call G1 hr1 (by rfl) m1 k1 b1 .nil pass0 (pa_cons (pv 0) (pa_cons pe_int pa_nil))))) (pss_cons (ps_par (i := 2) (j := 3) (by rfl) scLt.nd rfl rfl (by decide) rfl rfl (pa_cons (pe_call G2 hr2 (by rfl) m2 k2 b2 .nil pass0 (pa_cons (pv 0) pa_nil)) (pa_cons pe_dnewK pa_nil)) (by rfl)) (pss_cons (ps_for PassesOwn.never rfl (pi_range1 (by rfl) M.range (pa_cons (pe_op op_add pe_int (pe_call G1 hr1 (by rfl) m1 k1 b1 .nil pass0 (pa_cons (pv 0) (pa_cons pe_int pa_nil)))) pa_nil)) (pg_name (i := 4) scLt.nd rfl (Or.inl rfl)) (pss_cons (ps_set (i := 5) scLt.nd rfl (Or.inl rfl) (pe_call G1 hr1 (by rfl) m1 k1 b1 .nil pass0 (pa_cons (pv 0) (pa_cons pe_int pa_nil)))) (pss_cons (ps_set (i := 6) scLt.nd rfl (Or.inr rfl) (pe_lc (own := [("state", 7)]) (g := gName 7) (tt := tYes) rfl scLt.nd (pi_range1 (by rfl) M.range (pa_cons (pv 1) pa_nil)) (blkOk_by (N := nLt) (sc := defScope sLt) (by decide +kernel)) (fun _ _ _ _ _ => (pg_name (i := 7) scLt.nd rfl (Or.inl rfl))) (fun _ _ _ _ _ => pts_nil) (fun _ _ _ _ _ => (pe_call G1 hr1 (by rfl) m1 k1 b1 .nil pass0 (pa_cons (pv 0) (pa_cons (pv 1) pa_nil)))))) (pss_cons (ps_cut (ps_if (pt_cmpR op_eq (pv 5) pe_int (nomark _)) (pss_one (ps_set (i := 6) scLt.nd rfl (Or.inr rfl) (pe_lc (own := [("state", 7)]) (g := gName 7) (tt := tYes) rfl scLt.nd (pi_range1 (by rfl) M.range (pa_cons (pv 1) pa_nil)) (blkOk_by (N := nLt) (sc := defScope sLt) (by decide +kernel)) (fun _ _ _ _ _ => (pg_name (i := 7) scLt.nd rfl (Or.inl rfl))) (fun _ _ _ _ _ => pts_nil) (fun _ _ _ _ _ => (pe_op op_mod (pe_op op_add (pv 7) (pe_ix (ixl (K := K) rfl) (pv 6) pe_int (fun _ _ => rfl))) (pv 1)))))) pss_nil)) (pss_cons (ps_cut (ps_if (pt_cmpR op_eq (pv 5) pe_int (nomark _)) (pss_one (ps_set (i := 6) scLt.nd rfl (Or.inr rfl) (pe_op op_rep (pe_lst (pa_cons (pe_ix (ixl (K := K) rfl) (pv 6) pe_int (fun _ _ => rfl)) pa_nil)) (pv 1)))) pss_nil)) (pss_cons (ps_cut (ps_if (pt_mo (pw_and (pt_cmpR op_eq (pv 5) pe_int (nomark _)) (pw_and1 (pt_cmpR (op_ne_dict0 hu0) (pv 3) pe_dnewK (nomark _)))).pt) (pss_one (ps_set (i := 6) scLt.nd rfl (Or.inr rfl) (pe_callTy (clist (K := K) rfl) (by rfl) M.list (by decide +kernel) (pa_cons (pe_ix (ixl (K := K) rfl) (pe_listVals rfl (by rfl) M.list (pv 3)) (pe_call G1 hr1 (by rfl) m1 k1 b1 .nil pass0 (pa_cons (pv 0) (pa_cons (pe_callB call_lenD (by rfl) M.len PySem.boot_len (pa_cons (pv 3) pa_nil)) pa_nil))) (fun _ _ => rfl)) pa_nil)))) pss_nil)) (pss_one (ps_dput (by exact hu1) (pv 3) (pe_ix (ixl (K := K) rfl) (pv 2) (pv 4) (fun _ _ => rfl)) (pv 6) rfl)))))))) (pss_one (ps_ret (pe_tup (pa_cons (pv 1) (pa_cons (pv 3) pa_nil)))))))), ?_⟩
  refine ⟨_, rfl, p, 5, rfl, hb, by decide, by decide, fun sz J0 s0 s1 bJ0 x0 => ⟨_, _, rfl, rfl, ?_⟩⟩
  obtain ⟨sn, rfl⟩ := Int.eq_ofNat_of_zero_le s0
  dsimp only
  rw [show (1 : Int) + (sn : Int) = ((1 + sn : Nat) : Int) by omega]
  have n1 : 1 ≤ 1 + sn := by omega
  have n5 : 1 + sn ≤ 5 := by omega
  generalize 1 + sn = n at n1 n5 ⊢
  refine ⟨_, rfl, p, rfl, bJ0, fun zs D J1 bJ1 x1 hD eD lz hz => fun gl hgl => ?_⟩
  have hD' : H D = none := x0.free bJ0 hD
  have nDp : D ≠ p := hb.ne hD'
  have nlp : gl ≠ p := bJ1.ne hgl
  have hgl' : H gl = none := (x0.trans x1).free bJ1 hgl
  have nlD : gl ≠ D := (ne_of_none eD hgl).symm
  have bJ2 := bJ1.new (o := .dK []) hgl
  have x2 : Sx p H (upd J1 gl (.dK [])) := x0.trans (x1.trans (Sx.new hgl))
  have eD2 := Sx.new (p := p) (o := .dK []) hgl D _ nDp eD
  have eg2 := upd_same (H := J1) (a := gl) (o := .dK [])
  generalize upd J1 gl (.dK []) = J2 at bJ2 x2 eD2 eg2 ⊢
  refine ⟨_, _, rfl, _, rfl, p, 4, rfl, bJ2, by decide, by decide, fun cn J3 c0 c1 bJ3 x3 => ⟨_, _, rfl, rfl, _, rfl, by omega, by omega, ?_⟩⟩
  obtain ⟨cm, rfl⟩ := Int.eq_ofNat_of_zero_le c0
  have x3' := x2.trans x3
  have mns : ∀ {J J' : Hp}, Sx p J J' → Same (mn p J) (mn p J') := fun x b o e => by
    unfold mn at e ⊢
    by_cases c : b = p
    · rw [if_pos c] at e; cases e
    · rw [if_neg c] at e ⊢; exact x _ _ c e
  refine for_range (lo := 0) (n := Int.toNat (1 + (cm : Int))) (fun i σ G => Bx G p ∧ Sx p H G ∧ G D = some (.lst (zs.map V.str)) ∧ (∃ kvs L, G gl = some (.dK kvs) ∧ GvP (mn p G) kvs L ∧ NmOk L ∧ (∀ q, q ∈ L → Mp n q.2) ∧ (∀ q, q ∈ L → Ss 8 q.1) ∧ L.length ≤ i ∧ (0 < i → 1 ≤ L.length)) ∧ ∃ x4 x5 x6 x7, σ = [some (.ref p), some (.int (n : Int)), some (.ref D), some (.ref gl), x4, x5, x6, x7])
    ⟨bJ3, x3', x3 _ _ nDp eD2, ⟨[], [], x3 _ _ nlp eg2, .nil, ⟨List.nodup_nil, fun _ z => (nomatch z)⟩, fun _ z => (nomatch z), fun _ z => (nomatch z), Nat.le_refl _, fun z => absurd z (by decide)⟩, _, _, _, _, rfl⟩ ?_ ?_
  rotate_left
  · rintro _ G ⟨bG, sG, eDG, ⟨kvs, L, eg, pr, no, mp, ss, le, ge⟩, x4, x5, x6, x7, rfl⟩
    refine ⟨_, rfl, _, rfl, szl _ (by simp), fun T hT => ?_⟩
    have e0 : Same (mn p G) (mn p (upd G T (.tup [.int (n : Int), .ref gl]))) := mns (Sx.new hT)
    exact q T gl n L _ (bG.new hT) (sG.trans (Sx.new hT)) upd_same ⟨ge (by omega), by omega, n1, n5, mp, ss⟩ no ⟨kvs, e0 _ _ (by unfold mn; rw [if_neg nlp]; exact eg), L2.Paired.mapP pr fun kv q ⟨a, b, c, d⟩ => ⟨a, b, c, e0 _ _ d⟩⟩
  rintro i _ G0 hi ⟨bG0, sG_, eD0, ⟨kvs, L, eg0, pr0, no, mp, ss, le, ge⟩, x4, x5, x6, x7, rfl⟩
  have hi4 : i < 4 := by omega
  refine ⟨_, rfl, p, 4, rfl, bG0, by decide, by decide, fun way G1 w0 w1 bG1 y1 => ?_⟩
  refine ⟨_, rfl, _, rfl, by omega, by omega, fun t1 ht1 => ?_⟩
  have nt1 : t1 ≠ p := bG1.ne ht1
  refine lc_range (lo := 0) (n := Int.toNat (n : Int)) (fun j J => Bx J p ∧ Sx p G1 J ∧ ∃ l : List Nat, J t1 = some (.lst (nv l)) ∧ l.length = j ∧ ∀ x, x ∈ l → x < n) ⟨bG1.new ht1, Sx.new ht1, [], upd_same, rfl, fun _ z => (nomatch z)⟩ ?_ ?_
  · rintro j J hj ⟨bJ, sJ, l, el, ll, hl⟩
    refine ⟨rfl, _, rfl, _, rfl, p, (n : Int), rfl, bJ, by omega, by omega, fun r J' r0 r1 bJ' sJ' => ?_⟩
    obtain ⟨rn, rfl⟩ := Int.eq_ofNat_of_zero_le r0
    refine ⟨_, sJ' _ _ nt1 el, by rw [nv_len, ll]; exact small1000 (by omega), bJ'.at_ne nt1, fun b o n e => ?_, l ++ [rn], by rw [upd_same]; unfold nv; rw [List.map_append]; rfl, by rw [List.length_append, ll]; rfl, fun x hx => ?_⟩
    · rw [upd_ne (ne_of_none e ht1)]; exact sJ' _ _ n (sJ _ _ n e)
    · rcases List.mem_append.mp hx with h | h
      · exact hl x h
      · rw [List.mem_singleton.mp h]; omega
  rintro G2 ⟨bG2, sG2, l, el, ll, hl⟩
  have eg1 := y1 _ _ nlp eg0
  have ntl : t1 ≠ gl := (ne_of_none eg1 ht1).symm
  refine ⟨MidLt p D gl n (.int (0 + (i : Int))) (.int way) G1, ?_, ?_⟩
  · refine ⟨_, rfl, rfl, _, rfl, ite2 (fun c => ?_) (fun c => ⟨bG2, sG2, t1, l, _, rfl, el, nt1, ntl, ⟨by rw [ll]; rfl, hl⟩⟩)⟩
    have hm : Mp n l := ⟨by rw [ll]; rfl, hl⟩
    obtain ⟨m0, ms, rfl⟩ : ∃ a r, l = a :: r := by
      cases l with
      | nil => exact absurd hm.1 (by show ¬ (0 = n); omega)
      | cons a r => exact ⟨_, _, rfl⟩
    have m0n := hm.2 m0 List.mem_cons_self
    refine ⟨_, rfl, _, rfl, by omega, by omega, fun t2 ht2 => ?_⟩
    have nt2 : t2 ≠ p := bG2.ne ht2
    refine lc_range (lo := 0) (n := Int.toNat (n : Int)) (fun j J => Same G2 J ∧ ∃ l : List Nat, J t2 = some (.lst (nv l)) ∧ l.length = j ∧ ∀ x, x ∈ l → x < n) ⟨Same.new ht2 _, [], upd_same, rfl, fun _ z => (nomatch z)⟩ ?_ ?_
    · rintro j J hj ⟨sJ, l2, el2, ll2, hl2⟩
      refine ⟨rfl, _, rfl, _, rfl, t1, nv (m0 :: ms), 0, .int (m0 : Int), rfl, rfl, SqL.of (sJ _ _ el), at0 _ _, _, _, rfl, rfl, _, rfl, _, _, rfl, rfl, (by omega), ?_⟩
      have r0 := Int.emod_nonneg (0 + (j : Int) + (m0 : Int)) (show (n : Int) ≠ 0 by omega)
      have r1 := Int.emod_lt_of_pos (0 + (j : Int) + (m0 : Int)) (show (0 : Int) < n by omega)
      dsimp only
      generalize (0 + (j : Int) + (m0 : Int)) % (n : Int) = r at r0 r1 ⊢
      obtain ⟨rn, rfl⟩ := Int.eq_ofNat_of_zero_le r0
      refine ⟨_, el2, by rw [nv_len, ll2]; exact small1000 (by omega), fun b o e => by rw [upd_ne (ne_of_none e ht2)]; exact sJ _ _ e, l2 ++ [rn], by rw [upd_same]; unfold nv; rw [List.map_append]; rfl, by rw [List.length_append, ll2]; rfl, fun x hx => ?_⟩
      rcases List.mem_append.mp hx with h | h
      · exact hl2 x h
      · rw [List.mem_singleton.mp h]; omega
    rintro G3 ⟨sG3, l2, el2, ll2, hl2⟩
    exact ⟨bG2.same sG3, fun b o n e => sG3 _ _ (sG2 _ _ n e), t2, l2, _, rfl, el2, nt2, (ne_of_none (sG2 _ _ nlp eg1) ht2).symm, ⟨by rw [ll2]; rfl, hl2⟩⟩
  rintro _ G3 ⟨bG3, sG3, t, m, x7', rfl, et, ntp, ntg, hm⟩
  refine ⟨MidLt p D gl n (.int (0 + (i : Int))) (.int way) G1, ?_, ?_⟩
  · refine ⟨_, rfl, rfl, _, rfl, ite2 (fun c => ?_) (fun c => ⟨bG3, sG3, t, m, _, rfl, et, ntp, ntg, hm⟩)⟩
    obtain ⟨m0, ms, rfl⟩ : ∃ a r, m = a :: r := by
      cases m with
      | nil => exact absurd hm.1 (by show ¬ (0 = n); omega)
      | cons a r => exact ⟨_, _, rfl⟩
    have m0n := hm.2 m0 List.mem_cons_self
    refine ⟨_, rfl, t, nv (m0 :: ms), 0, .int (m0 : Int), rfl, rfl, SqL.of et, at0 _ _, szl _ (by simp), fun d hd => ⟨_, rfl, d, _, _, rfl, rfl, upd_same, by omega, by omega, ?_, fun t2 ht2 => ?_⟩⟩
    · show 1 * (Int.toNat (n : Int)) ≤ sizeLine
      exact szl _ (by omega)
    rw [show Int.toNat (n : Int) = n from rfl, rep_flat]
    have bd := bG3.new (o := .lst [.int (m0 : Int)]) hd
    exact ⟨bd.new ht2, sG3.trans ((Sx.new hd).trans (Sx.new ht2)), t2, List.replicate n m0, _, rfl, upd_same, bd.ne ht2, (ne_of_none (Sx.new hd _ _ nlp (sG3 _ _ nlp eg1)) ht2).symm, ⟨List.length_replicate, fun x hx => by rw [(List.mem_replicate.mp hx).2]; exact m0n⟩⟩
  clear bG3 sG3 et ntp ntg hm
  rintro _ G3 ⟨bG3, sG3, t, m, x7', rfl, et, ntp, ntg, hm⟩
  refine ⟨MidLt p D gl n (.int (0 + (i : Int))) (.int way) G1, ?_, ?_⟩
  · refine ⟨fun b J => Bx J p ∧ Sx p G3 J ∧ (b = true → kvs ≠ []), ⟨_, rfl, rfl, _, rfl, ite2 (fun c => ?_) (fun c => ?_)⟩, ?_⟩
    · refine ⟨_, rfl, fun d hd => ⟨gl, d, kvs, rfl, rfl, Sx.new (p := p) hd _ _ nlp (sG3 _ _ nlp eg1), upd_same, _, rfl, bG3.new hd, Sx.new hd, fun e => ?_⟩⟩
      intro z; rw [z] at e; cases e
    · exact ⟨bG3, Sx.refl _, fun z => (nomatch z)⟩
    rintro b J ⟨bJ, sJ, hne⟩
    refine ite2 (fun c => ?_) (fun c => ⟨bJ, sG3.trans sJ, t, m, _, rfl, sJ _ _ ntp et, ntp, ntg, hm⟩)
    have hk := hne c
    have kl : kvs.length = L.length := pr0.length
    have k1 : 1 ≤ kvs.length := List.length_pos_iff.mpr hk
    have sJ1 := sG3.trans sJ
    refine ⟨_, rfl, gl, rfl, .inl ⟨kvs, sJ1 _ _ nlp eg1, fun vl hvl => ?_⟩⟩
    have nvl : vl ≠ p := bJ.ne hvl
    refine ⟨_, rfl, _, rfl, gl, kvs, rfl, Sx.new (p := p) hvl _ _ nlp (sJ1 _ _ nlp eg1), p, (kvs.length : Int), rfl, bJ.new hvl, by omega, by omega, fun r J2 r0 r1 bJ2 s2 => ?_⟩
    obtain ⟨j, c, hc1, _, _, hc3⟩ := pick (xs := kvs.map (·.2)) (i := r) r0 (by rw [List.length_map]; exact r1)
    rw [List.getElem?_map] at hc1
    obtain ⟨kv, hkv, rfl⟩ : ∃ kv, kvs[j]? = some kv ∧ kv.2 = c := by
      cases e : kvs[j]? with
      | none => rw [e] at hc1; cases hc1
      | some kv => rw [e] at hc1; exact ⟨kv, rfl, Option.some.inj hc1⟩
    obtain ⟨q1, hq1, _, b, eb, eb2⟩ := pair_at pr0 hkv
    have nbp : b ≠ p := fun z => by rw [z, mn_p] at eb2; cases eb2
    have eb3 : G0 b = some (.lst (nv q1.2)) := mn_same _ _ eb2
    have sJ2 : Sx p G1 J2 := sJ1.trans ((Sx.new hvl).trans s2)
    refine ⟨vl, kvs.map (·.2), r, kv.2, rfl, rfl, SqL.of (s2 _ _ nvl upd_same), hc3, b, nv q1.2, eb ▸ rfl, .inl (SqL.of (sJ2 _ _ nbp (y1 _ _ nbp eb3))), fun t2 ht2 => ?_⟩
    exact ⟨bJ2.new ht2, sJ2.trans (Sx.new ht2), t2, q1.2, _, rfl, upd_same, bJ2.ne ht2, (ne_of_none (sJ2 _ _ nlp eg1) ht2).symm, mp _ (List.mem_of_getElem? hq1)⟩
  clear bG3 sG3 et ntp ntg hm
  rintro _ G3 ⟨bG3, sG3, t, m, x7', rfl, et, ntp, ntg, hm⟩
  obtain ⟨j, c, hc1, hcm, _, hc3⟩ := pick (xs := zs.map V.str) (i := 0 + (i : Int)) (by omega) (by rw [List.length_map, lz]; omega)
  obtain ⟨z, hzm, rfl⟩ := List.mem_map.mp hcm
  have sG0 : Sx p G0 G3 := y1.trans sG3
  have kl : kvs.length = L.length := pr0.length
  refine ⟨_, rfl, _, rfl, _, rfl, _, rfl, D, zs.map V.str, _, _, rfl, rfl, SqL.of (sG0 _ _ nDp eD0), hc3, gl, _, rfl, DPut.k (k := Sum.inr z) (sG0 _ _ nlp eg0) (szl _ (by omega)), ?_⟩
  have eT : mn p (upd G3 gl (.dK (putK kvs (Sum.inr z) (.ref t)))) t = some (.lst (nv m)) := by
    unfold mn; rw [if_neg ntp, upd_ne ntg]; exact et
  have pr1 : GvP (mn p (upd G3 gl (.dK (putK kvs (Sum.inr z) (.ref t))))) kvs L := L2.Paired.mapP pr0 fun kv q ⟨a, b, c, d⟩ => ⟨a, b, c, by
    have nbp : b ≠ p := fun z => by rw [z, mn_p] at d; cases d
    have nbg : b ≠ gl := fun z => by
      have d2 := mn_same _ _ d
      rw [z, eg0] at d2; cases d2
    unfold mn; rw [if_neg nbp, upd_ne nbg]; exact sG0 _ _ nbp (mn_same _ _ d)⟩
  have pl := putL_len (L := L) (z := z) (m := m)
  refine ⟨bG3.at_ne nlp, fun b o n e => by rw [upd_ne (ne_of_none e hgl')]; exact sG0 _ _ n (sG_ b o n e), by rw [upd_ne nlD.symm]; exact sG0 _ _ nDp eD0, ⟨_, putL L z m, upd_same, GvP.put pr1 eT, ⟨putL_nd no.nd, fun q hq => ?_⟩, fun q hq => ?_, fun q hq => ?_, by omega, fun _ => pl.1⟩, _, _, _, _, rfl⟩
  · rcases putL_in q hq with h | h
    · exact no.nm q h
    · rw [h.1]; exact (hz z hzm).1
  · rcases putL_in q hq with h | h
    · exact mp q h
    · rw [h.2]; exact hm
  · rcases putL_in q hq with h | h
    · exact ss q h
    · rw [h.1]; exact (hz z hzm).2
end
end L

set_option Elab.async false
set_option linter.all false
set_option maxRecDepth 100000
set_option maxHeartbeats 4000000
set_option pp.maxSteps 400
namespace L2
open PySem PySem.Spec PyProof.Rows
section
variable {X : Cx} {CX : CXT} {k : Nat} {f C : Addr} {fd : FuncData} {ps : List Str} {sp : Sp} {dvs : List V} {ds : List Value} {E : St → XK} {x : Str} {p pos : Pos} {e : Expr} {es : List Expr} {t : TA}
/-- C(e, ..) in a try: what it raises is taken with the slots as they are -/
def tMakeS (C : Addr) (sp : Sp) (dvs : List V) (E : St → XK) (t : TA) : TE := fun σ H Q => tMake C sp dvs (E σ) t σ H Q
theorem run_makeS {pins : List (Addr × Obj)} {σ : St} {H : Hp} {s : Shared} {Q : VK} {us : List Value} {vs : List V} {E : XK} (M : Mk X.K C f) (F : FnOk X.prog X.w X.K X.mg X.base CX k f fd ps sp) (hr : Room (k + 1) X.A) (hb : Binds X.K fd ps ds) (hd : Vals dvs ds)
    (hx : PassesAt CX X σ E) (I : Inv X pins σ H s) (r : Vals vs us)
    (h : ∀ x dx, H x = none → H dx = none → dx ≠ x → sp (.ref x :: (vs ++ dvs)) (upd (upd H dx (.own x)) x (.ins C dx [])) (fun v H2 => v = .non ∧ Q (.ref x) H2) E) :
    wpAny (model X.prog X.w) X.A (call (.ref C) us) (EP X pins σ Q) X.xe s := by
  have hq := h (s.heap.objs.size + 1) s.heap.objs.size (I.hok.fresh (Nat.le_succ _)) (I.hok.fresh (Nat.le_refl _)) (Nat.ne_of_lt (Nat.lt_succ_self _))
  have I2 := Inv.made (C := C) I
  have r2 : Vals (V.ref (s.heap.objs.size + 1) :: (vs ++ dvs)) (Value.ref (s.heap.objs.size + 1) :: (us ++ ds)) := .cons rfl (r.append hd)
  have hl : (Value.ref (s.heap.objs.size + 1) :: us ++ ds).length = ps.length := by
    have e := r2.length
    rw [F.len _ _ _ _ hq] at e
    exact e.symm
  refine wpAny_call (make_map (f := f) I.kIn M.makes M.init (beq_iff_eq.mp M.fn) (codeAny_mono (F.run _ X.stack _ _ ⟨Value.ref (s.heap.objs.size + 1) :: us, []⟩ (Value.ref (s.heap.objs.size + 1) :: (us ++ ds)) _ _ E (hr.make C us [])
    (I2.env0.make C us []) (hb _ (Value.ref (s.heap.objs.size + 1) :: us) I2.kIn hl) r2 hq) fun r s' hq' => ?_))
  cases r with
  | error e => exact hx pins _ _ e s' I2 hq'
  | ok fl =>
    cases fl with
    | ret u =>
      obtain ⟨v, H', I3, rv, ev, q3⟩ := I2.after hq'
      subst ev
      exact ⟨rv, ⟨V.ref (s.heap.objs.size + 1), H', I3, rfl, q3⟩⟩
    | next => exact False.elim hq'
    | brk => exact False.elim hq'
    | cont => exact False.elim hq'
theorem pe_makeS (M : Mk X.K C f) (F : FnOk X.prog X.w X.K X.mg X.base CX k f fd ps sp) (hr : Room (k + 1) X.A) (hg : Gl X x) (hm : X.mg x = some (.ref C)) (hb : Binds X.K fd ps ds) (hd : Vals dvs ds) (hx : ∀ σ, PassesAt CX X σ (E σ))
    (ha : PA X (e :: es) t) (hdb : (x == ("__debug__" : Str)) = false := by decide) (he : starEach (e :: es) X.env = (false, eval e X.env) :: starEach es X.env := by rfl) (hpl : (backTo pos (starEach es X.env)).any (·.1) = false := by rfl) :
    PE X (.Call (.Name x p) (e :: es) [] pos) (tMakeS C sp dvs E t) := by
  refine ⟨fun pins s σ H Q I h => ?_⟩
  refine wpAny_Call_Name_kw (ld_glob I hg hm ?_ hdb)
  refine PySem.W.callWith_K (h₀ := X.base) I.ok.mod.kin M.kp (thn (ha.run pos pins s σ H _ I h) fun us s1 ⟨vs, H1, I1, r, q⟩ => ⟨I1.kIn, ?_⟩) he hpl
  exact run_makeS M F hr hb hd (hx σ) I1 r q
end
end L2
namespace L
open PySem L2 KX
theorem ixTq {X : Cx} {K : PySem.W.Frag} (hK : X.K = K) : IxR X (rIxT K) := by subst hK; exact ix_tup
abbrev sLm : Stmt := top 39
abbrev nLm : List Str := ["size", "letters", "e"]
def spLm (CF : Addr) : Sp := fun vs H Q _ => ∃ (n : Nat) (l : Addr) (L : Ltt), vs = [.int (n : Int), .ref l] ∧ LOk n L ∧ NmOk L ∧ Gv H l L ∧
  (∀ S a H', Res n L (some S) → TrA CF H' a n L S → Same H H' → H a = none → Q (.ref a) H') ∧ (∀ H', Res n L none → Same H H' → Q (.int 17) H')
section
variable {P : Program} {w : World} {K : PySem.W.Frag} {mg : Str → Option Value} {base : Heap} {f f1 f2 fI fE : Addr} {fd d1 d2 dI : FuncData} {C CF CO : Addr}
theorem scLm : FnScope nLm ["size", "letters"] (defScope sLm) := ⟨rfl, rfl, rfl, by decide +kernel, rfl, by decide +kernel, by decide +kernel⟩
theorem ok_lm (F : Fun K "_law_made" "_law_made" sLm f fd) (TE : ETx K mg "TooMany" "count" CO fE) (x11 : PySem.W.exmOne K (.ref CO) (.ref CO) = some true) (mC : mg "Transformations" = some (.ref CF))
    (MI : Mk K CF fI) (GI : FnOk P w K mg base (L2.CX P w) 5 fI dI ["self", "states", "letters"] (spTi CF CO)) (bI : Binds K dI ["self", "states", "letters"] []) :
    FnOk P w K mg base CX0 7 f fd ["size", "letters"] (spLm CF) := by
  refine F.ok scLm (fun vs H Q E h => ?_) (fun cdv A outer s H vs Q E hr h => ?_)
  · obtain ⟨n, l, L, rfl, _⟩ := h
    rfl
  obtain ⟨n, l, L, rfl, lo, no, hG, q1, q2⟩ := h
  refine ⟨_, pss_one (ps_try_to (tb := fun W => tRet (tMakeS CF (spTi CF CO) [] (WE W) (tCons (tVar 0) (tCons (tVar 1) tNil))))
      (l := [(.ref CO, 2, fun a cls d => tRet (tXf a cls d CO "count" (tVar 2)))]) rfl rfl scLm.nd
    (.cons ⟨rfl, by decide, .inl TE.mgC⟩ rfl rfl (fun a oe cls d pn hz hf => pss_one (ps_ret (by exact pe_xf TE.xf TE.noF hz hf (pv 2)))) .rest)
    (fun W pn xe tk _ => pss_one (ps_ret (by exact pe_makeS MI GI hr (by rfl) mC bI .nil (fun σ => passAt tk σ) (pa_cons (pv 0) (pa_cons (pv 1) pa_nil)))))), ?_⟩
  refine ⟨_, rfl, _, rfl, fun x dx hx hdx nx => ?_⟩
  have sn : Same H (upd (upd H dx (.own x)) x (.ins CF dx [])) := fun b o e => by rw [upd_ne (ne_of_none e hx), upd_ne (ne_of_none e hdx)]; exact e
  refine ⟨x, dx, n, l, L, rfl, upd_same, lo, no, hG.to sn, fun S H' rs ht ss => ⟨rfl, q1 S x H' rs ht (fun b o e => ss _ _ (ne_of_none e hx) (sn _ _ e)) hx⟩, fun H' d rs ss hd => ?_⟩
  have sH' : Same H H' := fun b o e => ss _ _ (ne_of_none e hx) (sn _ _ e)
  refine ⟨true, x11, fun _ a ha => ?_, fun z => nomatch z⟩
  exact ⟨_, rfl, rfl, rfl, d, _, .int 17, rfl, upd_same, rfl, q2 _ rs (sH'.trans (Same.new hd _))⟩
end
end L

set_option Elab.async false
set_option linter.all false
set_option maxRecDepth 100000
set_option maxHeartbeats 4000000
set_option pp.maxSteps 400
namespace L
open PySem L2 KX
/-- words of letters alone -/
def Wf (L : Ltt) (S : List En) : Prop := ∀ e, e ∈ S → ∀ z, z ∈ e.2 → z ∈ L.map (·.1)
theorem Wf.snoc {L : Ltt} {S : List En} {e : En} (h : Wf L S) (g : ∀ z, z ∈ e.2 → z ∈ L.map (·.1)) : Wf L (S ++ [e]) := fun x hx => by
  rcases List.mem_append.mp hx with k | k
  · exact h x k
  · rw [List.mem_singleton.mp k]; exact g
theorem inn_wf {L : Ltt} {st : En} (hst : ∀ z, z ∈ st.2 → z ∈ L.map (·.1)) : ∀ {r : Ltt} {S lg S' lg' : List En}, (∀ q, q ∈ r → q ∈ L) → Wf L S → Wf L lg → inn st r S lg = some (S', lg') → Wf L S' ∧ Wf L lg'
  | [], S, lg, S', lg', _, h1, h2, e => by
    have e := Option.some.inj e
    rw [Prod.mk.injEq] at e
    rw [← e.1, ← e.2]; exact ⟨h1, h2⟩
  | q :: r, S, lg, S', lg', hr, h1, h2, e => by
    unfold inn at e
    have hn : ∀ z, z ∈ (new st q).2 → z ∈ L.map (·.1) := fun z hz => by
      rcases List.mem_append.mp (show z ∈ st.2 ++ [q.1] from hz) with k | k
      · exact hst z k
      · rw [List.mem_singleton.mp k]; exact List.mem_map.mpr ⟨q, hr q List.mem_cons_self, rfl⟩
    have hr' : ∀ q, q ∈ r → q ∈ L := fun x hx => hr x (List.mem_cons_of_mem _ hx)
    split at e
    · exact inn_wf hst hr' h1 h2 e
    · split at e
      · cases e
      · exact inn_wf hst hr' (h1.snoc hn) (h2.snoc hn) e
theorem lay_wf {L : Ltt} : ∀ {lr S lg S' lg' : List En}, Wf L lr → Wf L S → Wf L lg → lay L lr S lg = some (S', lg') → Wf L S' ∧ Wf L lg'
  | [], S, lg, S', lg', _, h1, h2, e => by
    have e := Option.some.inj e
    rw [Prod.mk.injEq] at e
    rw [← e.1, ← e.2]; exact ⟨h1, h2⟩
  | st :: r, S, lg, S', lg', hl, h1, h2, e => by
    unfold lay at e
    cases hi : inn st L S lg with
    | none => rw [hi] at e; cases e
    | some p =>
      rw [hi] at e
      obtain ⟨k1, k2⟩ := inn_wf (hl st List.mem_cons_self) (fun _ h => h) h1 h2 (S' := p.1) (lg' := p.2) hi
      exact lay_wf (fun x hx => hl x (List.mem_cons_of_mem _ hx)) k1 k2 e
theorem Bf.wf {L : Ltt} {S lr : List En} {r : Option (List En)} (h : Bf L S lr r) : Wf L S → Wf L lr → ∀ S', r = some S' → Wf L S' := by
  induction h with
  | done S => intro h _ S' e; rw [← Option.some.inj e]; exact h
  | over => intro _ _ S' e; cases e
  | next _ e _ ih =>
    intro h1 h2 S' er
    obtain ⟨k1, k2⟩ := lay_wf h2 h1 (fun e he => by cases he) e
    exact ih k1 k2 S' er
theorem Res.wf {n : Nat} {L : Ltt} {S : List En} (h : Res n L (some S)) : Wf L S := Bf.wf h (fun e he => by cases he) (fun e he z hz => by rw [List.mem_singleton.mp he] at hz; cases hz) S rfl
theorem dp_strs {K : PySem.W.Frag} {H : Hp} : ∀ zs : List Str, DpAll K H (zs.map V.str) (zs.map PyData.str)
  | [] => .nil
  | z :: zs => .cons (.str z) (dp_strs zs)
theorem strs_plain (zs : List Str) : (PyData.list (zs.map PyData.str)).plain = true := by
  show PyData.plainAll _ = true
  induction zs with
  | nil => rfl
  | cons z zs ih => exact ih
theorem strs_lay : ∀ zs : List Str, (∀ z, z ∈ zs → ∃ n, Ss n z) → PyData.canLayAll0 (zs.map PyData.str) = true
  | [], _ => by simp [PyData.canLayAll0]
  | z :: zs, hz => by
    have h := strs_lay zs fun x hx => hz x (List.mem_cons_of_mem _ hx)
    obtain ⟨n, hn⟩ := hz z List.mem_cons_self
    have k : PyData.strOk z = true := by
      show z.cps.all (· < 0x110000) = true
      rw [← Array.all_toList]
      exact List.all_eq_true.mpr fun c hc => decide_eq_true (hn.2 c hc)
    simp [PyData.canLayAll0, PyData.canLay0, h, k]
theorem strs_depth : ∀ zs : List Str, PyData.depthAll (zs.map PyData.str) = 0
  | [] => by simp [PyData.depthAll]
  | z :: zs => by
    have h := strs_depth zs
    simp [PyData.depthAll, PyData.depth, h]
theorem strs_shaped (zs : List Str) (hz : ∀ z, z ∈ zs → ∃ n, Ss n z) : SeqAt.shaped (.list (zs.map PyData.str)) = true := by
  show ((PyData.list (zs.map PyData.str)).canLay0 && decide ((PyData.list (zs.map PyData.str)).depth ≤ 64)) = true
  have h1 : (PyData.list (zs.map PyData.str)).canLay0 = true := by simp only [PyData.canLay0]; exact strs_lay zs hz
  have h2 : (PyData.list (zs.map PyData.str)).depth = 1 := by simp only [PyData.depth, strs_depth zs]
  rw [h1, h2]; rfl
theorem ints2_shaped (a b : Int) : SeqAt.shaped (.list [.int a, .int b]) = true := by
  simp [SeqAt.shaped, PyData.canLay0, PyData.canLayAll0, PyData.depth, PyData.depthAll]
end L

set_option Elab.async false
set_option linter.all false
set_option maxRecDepth 100000
set_option maxHeartbeats 4000000
/-! Own layer: name = {..: .. for ..}, walks for it. -/
namespace KX
open PySem PySem.Spec PyProof.Rows L2
section
variable {X : Cx}
theorem sw_trueD {kx vx : Expr} {gs : List Comprehension} {scope : Scope} {pos py : Pos} {y : Str} {l : Nat} {env : Env} (hk : env.scope.kind = .function) (hy : env.scope.names.lookup y = some .local) (hl : (py.line == pos.line) = true)
    (ha : (scope.names.any fun (n, k) => n == y && (k == .local || k == .cell)) = false) : swapsWith (.DictComp kx vx gs scope pos) (some (.Name y py)) l env = pure true := by
  have ky : env.kindOf y = some .local := hy
  have hb : env.blockKind = .function := by unfold Env.blockKind; rw [hk]; rfl
  unfold swapsWith
  simp only [hb, ky, ha, Expr.pos, hl]
  rfl
theorem ps_setDc {i : Nat} {y : Str} {py : Pos} {kx vx tg iter : Expr} {ifs : List Expr} {scope : Scope} {own : List (Str × Nat)} {pos spos : Pos} {wi : TI} {g : TG} {tt : TT} {tk tv : TE} (hc : X.calm = true) (hN : X.N.Nodup) (hy : X.N[i]? = some y) (hyl : X.env.scope.names.lookup y = some .local)
    (hsw : swapsWith (.DictComp kx vx [⟨tg, iter, ifs, 0⟩] scope pos) (some (.Name y py)) spos.line X.env = pure true) (hi : PI X tg iter wi) (ok : BlkOk X.N X.env.scope scope own)
    (hg : ∀ (s : Shared) (H : Hp) (C : Addr) (cl : List (Str × Addr)) (fp : List Addr), PG (X.blk s H scope (compEnvC scope cl C X.env) fp) tg g) (ht : ∀ (s : Shared) (H : Hp) (C : Addr) (cl : List (Str × Addr)) (fp : List Addr), PTs (X.blk s H scope (compEnvC scope cl C X.env) fp) ifs tt)
    (hk : ∀ (s : Shared) (H : Hp) (C : Addr) (cl : List (Str × Addr)) (fp : List Addr), PE (X.blk s H scope (compEnvC scope cl C X.env) fp) kx tk)
    (he : ∀ (s : Shared) (H : Hp) (C : Addr) (cl : List (Str × Addr)) (fp : List Addr), PE (X.blk s H scope (compEnvC scope cl C X.env) fp) vx tv) (hs : ∀ x, foldedSetIterable iter X.env x = pure x := by intro _; rfl) :
    PS X (.Assign [.Name y py] (.DictComp kx vx [⟨tg, iter, ifs, 0⟩] scope pos) spos) (tAsg (tDc wi g tt tk tv (own.map (·.2))) (gName i)) := by
  refine ⟨fun pins s σ H D I h => ?_⟩
  rw [exec_Assign_Name_used _ _ _ _ hsw]
  refine wpAny_bind (wpAny_standAt (wpAny_bind ?_))
  show wpAny _ X.A (do let _ ← comprehension (.DictComp kx vx [⟨tg, iter, ifs, 0⟩] scope pos) scope X.env (firstIterPos [⟨tg, iter, ifs, 0⟩] pos) newDict false (eval iter X.env) (some (assign (.Name y py) X.env))) _ _ s
  have h : tDc wi g tt tk tv (own.map (·.2)) σ H (fun x H1 => gName i x σ H1 D.nx) := h
  refine wpAny_bind (thn (dc_core (Qf := fun _ s' => SP X pins D .next s') hc hN I hi ok hg ht hk he hs h fun L C s' m H' I' q hn f => ?_) fun _ s' hq => wpAny_pure (wpAny_pure hq))
  show wpAny _ _ (assign (.Name y py) X.env (.ref L)) _ _ _
  refine wpAny_assign_Name (store_ok2 (v := V.ref L) I' hN hy (.inl hyl) rfl (fun s2 I2 ⟨a, sb, ha⟩ => ?_) (.inr hyl))
  obtain ⟨f0, f1, f2, f3, f4, f5⟩ := f
  have haC : C ≠ a := by
    rcases ha with z | z
    · rw [z]; exact f1
    · exact fun e => f4 y a z e.symm
  refine ⟨m, hn.sameBut sb haC, fun h3 sb3 => ?_⟩
  exact ⟨_, H', I2.turned (t' := s2.toks) (fun b o hb e => (sb3.2 b hb).trans e) f0 f1 f3 f4 f5, q⟩
end
/-- a dict's comprehension over any walk -/
theorem dc_it {J : It} {n : Nat} {G : Hp → Prop} {Y : Nat → Hp → V → Hp → Prop} (w : Walk J n G Y) {g : TG} {tt : TT} {tk tv : TE} {vs : List Nat} {σ : L2.St} {H1 : Hp} {D : Addr} {Qd : Hp → Prop} (Pv : Nat → Hp → Prop) (h0 : Pv 0 (upd H1 D (.dK []))) (hG : ∀ i H, i ≤ n → Pv i H → G H)
    (hs : ∀ i x H H', i < n → Pv i H → Y i H x H' → g x (wipe σ vs) H' fun σ2 H2 => wipe σ2 vs = wipe σ vs ∧ tt σ2 H2 fun b H3 =>
      if b = true then tk σ2 H3 fun y H4 => tv σ2 H4 fun z H5 => ∃ kvs k, y = kV k ∧ H5 D = some (.dK kvs) ∧ kvs.length < sizeLine ∧ Pv (i + 1) (upd H5 D (.dK (putK kvs k z))) else Pv (i + 1) H3) (hd : ∀ H, Pv n H → Qd H) :
    ∃ W : Nat → Nat → Hp → Prop, (∃ m, W 0 m (upd H1 D (.dK []))) ∧ ∀ i m H, W i m H →
      (J.stop i H ∧ Qd H) ∨ (J.go i H ∧ ∃ Nx : Hp → Prop, (∀ H', Nx H' → ∃ m', m' < m ∧ W (i + 1) m' H') ∧ ∀ x H', J.yld i H x H' → g x (wipe σ vs) H' fun σ2 H2 => wipe σ2 vs = wipe σ vs ∧ tt σ2 H2 fun b H3 =>
        if b = true then tk σ2 H3 fun y H4 => tv σ2 H4 fun z H5 => ∃ kvs k, y = kV k ∧ H5 D = some (.dK kvs) ∧ kvs.length < sizeLine ∧ Nx (upd H5 D (.dK (putK kvs k z))) else Nx H3) := by
  refine ⟨fun i m H => m = n - i ∧ i ≤ n ∧ Pv i H, ⟨n, by simp, Nat.zero_le _, h0⟩, ?_⟩
  rintro i m H ⟨rfl, hi, p⟩
  have q := hG i H hi p
  by_cases hlt : i < n
  · refine .inr ⟨w.goes i H hlt q, Pv (i + 1), fun H' p' => ⟨n - (i + 1), by omega, rfl, hlt, p'⟩, fun x H' y => hs i x H H' hlt p (w.yields i H x H' hlt q y)⟩
  · have e : i = n := by omega
    subst e
    exact .inl ⟨w.stops H q, hd H p⟩
end KX

set_option Elab.async false
set_option linter.all false
set_option maxRecDepth 100000
set_option maxHeartbeats 4000000
set_option pp.maxSteps 400
namespace KX
open PySem PySem.Spec PyProof.Rows L2
section
variable {X : Cx}
/-- x != y of data, dicts among them -/
def rNeQ : R2 := fun x y H Q => ∃ d e, Dq H x d ∧ Dq H y e ∧ SeqAt.shaped d = true ∧ SeqAt.shaped e = true ∧ Q (.bl (!PyData.eqv d e)) H
theorem op_neQ (hu : X.A.units + 64 < cLine) : OpR X (compareOp .NotEq) rNeQ := by
  intro pins s σ H x y v u Q I rx ry h
  obtain ⟨d, e, hd, he, sd, se, q⟩ := h
  obtain ⟨as, r1, _⟩ := Dq.reads I d x v hd rx
  obtain ⟨bs, r2, _⟩ := Dq.reads I e y u he ry
  exact SeqAt.compareNe_shaped r1 r2 sd se hu ⟨.bl _, H, I, rfl, q⟩
def rEqQ : R2 := fun x y H Q => ∃ d e, Dq H x d ∧ Dq H y e ∧ SeqAt.shaped d = true ∧ SeqAt.shaped e = true ∧ Q (.bl (PyData.eqv d e)) H
theorem op_eqQ (hu : X.A.units + 64 < cLine) : OpR X (compareOp .Eq) rEqQ := by
  intro pins s σ H x y v u Q I rx ry h
  obtain ⟨d, e, hd, he, sd, se, q⟩ := h
  obtain ⟨as, r1, _⟩ := Dq.reads I d x v hd rx
  obtain ⟨bs, r2, _⟩ := Dq.reads I e y u he ry
  exact SeqAt.compareEq_shaped r1 r2 sd se hu ⟨.bl _, H, I, rfl, q⟩
/-- xs != [] -/
def rNeE (K : PySem.W.Frag) : R2 := fun x y H Q => ∃ a b xs, x = .ref a ∧ y = .ref b ∧ SqL K H a xs ∧ SqL K H b [] ∧ Q (.bl (!xs.isEmpty)) H
theorem op_neE (hu : X.A.units + 64 < cLine) : OpR X (compareOp .NotEq) (rNeE X.K) := by
  intro pins s σ H x y v u Q I rx ry h
  obtain ⟨a, b, xs, rfl, rfl, ha, hb, q⟩ := h
  cases rx
  cases ry
  obtain ⟨its, rv, ⟨⟨cls, dd, data, sl⟩, n, ho, hc, hd, hdat⟩, hz⟩ := I.list ha
  obtain ⟨its2, rv2, ⟨⟨cls2, dd2, data2, sl2⟩, n2, ho2, hc2, hd2, hdat2⟩, hz2⟩ := I.list hb
  simp only at hc hd hdat hc2 hd2 hdat2
  subst hc hdat hc2 hdat2
  cases rv2
  show wpAny (model X.prog X.w) X.A (richCompare .NotEq (.ref a) (.ref b)) (EP X pins σ Q) X.xe s
  refine wpAny_richCompare_same_room (op := .NotEq) ⟨_, ho, rfl⟩ ⟨_, ho2, rfl⟩ F.slot_list_ne (GQ.call_here F.slot_list_ne ⟨_, ho, rfl⟩ F.entry_list_ne (F.args_list_ne_2 _ _) ?_) (by omega)
  cases rv with
  | nil => exact PySem.SeqAt.list_neAt a b _ _ n n2 dd dd2 sl sl2 rfl (fun _ => true) X.prog X.w X.A _ s ⟨ho, ho2, fun j h1 h2 => absurd h1 (Nat.not_lt_zero j), (fun z => nomatch z), .bl false, H, I, rfl, q⟩
  | cons h t => exact PySem.SeqAt.list_ne_lengthsAt a b _ _ n n2 dd dd2 sl sl2 (by simp) X.prog X.w X.A _ s ⟨ho, ho2, (fun z => nomatch z), .bl true, H, I, rfl, q⟩
end
end KX

set_option Elab.async false
set_option linter.all false
set_option maxRecDepth 100000
set_option maxHeartbeats 4000000
set_option pp.maxSteps 400
namespace L
open PySem L2 KX
abbrev sLs : Stmt := inClass (top 29) 4
abbrev sMp : Stmt := top 41
abbrev nLs : List Str := ["self", "name", "targets"]
abbrev nMp : List Str := ["size", "letters", "word", "found", "state", "here", "letter"]
def hf (L : Ltt) (zs : List Str) (st : Nat) : Nat := zs.foldl (fun h z => (tg L z).getD h 0) st
theorem mapW_hf' {L : Ltt} : ∀ {zs : List Str} {m : List Nat}, zs.foldl (fun m z => cmp m (tg L z)) m = m.map (hf L zs)
  | [], m => by
    show m = m.map (fun x => x)
    rw [List.map_id']
  | z :: zs, m => by
    show zs.foldl (fun m z => cmp m (tg L z)) (cmp m (tg L z)) = _
    rw [mapW_hf' (zs := zs)]
    unfold cmp
    rw [List.map_map]; rfl
theorem mapW_hf (n : Nat) (L : Ltt) (zs : List Str) : mapW n L zs = (List.range n).map (hf L zs) := mapW_hf'
theorem hf_lt {n : Nat} {L : Ltt} (o : LOk n L) : ∀ {zs : List Str} {st : Nat}, st < n → (∀ z, z ∈ zs → z ∈ L.map (·.1)) → hf L zs st < n
  | [], st, h, _ => h
  | z :: zs, st, h, hz => by
    obtain ⟨q, h1, _, h3⟩ := tg_in (hz z List.mem_cons_self)
    have m := o.mp q h1
    rw [h3] at m
    refine hf_lt (zs := zs) o ?_ fun x hx => hz x (List.mem_cons_of_mem _ hx)
    show (tg L z).getD st 0 < n
    rw [List.getD_eq_getElem?_getD, List.getElem?_eq_getElem (by rw [m.1]; exact h)]
    exact m.2 _ (List.getElem_mem _)
theorem putL_new {L : Ltt} {z : Str} {m : List Nat} (h : z ∉ L.map (·.1)) : putL L z m = L ++ [(z, m)] := if_neg h
/-- a letter's targets where the letters stand -/
theorem gv_at {H : Hp} {kvs : List (Key × V)} {L : Ltt} (pr : GvP H kvs L) (no : NmOk L) {z : Str} (hz : z ∈ L.map (·.1)) : ∃ b, valV kvs (Sum.inr z) = some (.ref b) ∧ H b = some (.lst (nv (tg L z))) := by
  obtain ⟨q, h1, h2, h3⟩ := tg_in hz
  obtain ⟨j, hj, ej⟩ := List.mem_iff_getElem.mp h1
  have lk : kvs.length = L.length := pr.length
  obtain ⟨q', hq', e1, b, e2, eb⟩ := pair_at (i := j) pr (List.getElem?_eq_getElem (by omega))
  rw [List.getElem?_eq_getElem hj] at hq'
  cases hq'
  rw [ej] at e1 eb
  have nd := GvP.nd pr no
  have := val_nodup nd _ (List.getElem_mem (l := kvs) (n := j) (by omega))
  rw [e1, h2, e2] at this
  exact ⟨b, this, h3 ▸ eb⟩
def spMoT (K : PySem.W.Frag) (CF : Addr) : Sp := fun vs H Q _ => ∃ (a wl : Addr) (n : Nat) (L : Ltt) (S : List En) (zs : List Str), vs = [.ref a, .ref wl] ∧ TrA CF H a n L S ∧ LOk n L ∧ NmOk L ∧ SqT K H wl (zs.map V.str) ∧ 1 ≤ zs.length ∧ zs.length ≤ 60 ∧ (∀ z, z ∈ zs → z ∈ L.map (·.1)) ∧
  ∀ t H', Same H H' → H' t = some (.tup (nv (mapW n L zs))) → Q (.ref t) H'
def spEoT (K : PySem.W.Frag) (CF : Addr) : Sp := fun vs H Q _ => ∃ (a wl : Addr) (n : Nat) (L : Ltt) (S : List En) (zs : List Str), vs = [.ref a, .ref wl] ∧ TrA CF H a n L S ∧ LOk n L ∧ NmOk L ∧ SqT K H wl (zs.map V.str) ∧ 1 ≤ zs.length ∧ zs.length ≤ 60 ∧ (∀ z, z ∈ zs → z ∈ L.map (·.1)) ∧ mapW n L zs ∈ keys S ∧
  ∀ H', Same H H' → Q (.int (((keys S).idxOf (mapW n L zs) : Nat) : Int)) H'
def spLs (CF : Addr) : Sp := fun vs H Q _ => ∃ a n L S, vs = [.ref a] ∧ TrA CF H a n L S ∧ LOk n L ∧ NmOk L ∧ ∀ (D : Addr) kvs H', Same H H' → H D = none → H' D = some (.dK kvs) → GvP H' kvs L → Q (.ref D) H'
def spMp (K : PySem.W.Frag) : Sp := fun vs H Q _ => ∃ (n : Nat) (l wl : Addr) (L : Ltt) (zs : List Str), vs = [.int (n : Int), .ref l, .ref wl] ∧ LOk n L ∧ NmOk L ∧ Gv H l L ∧ SqL K H wl (zs.map V.str) ∧ (∀ z, z ∈ zs → z ∈ L.map (·.1)) ∧
  ∀ t H', Same H H' → H t = none → H' t = some (.tup (nv (mapW n L zs))) → Q (.ref t) H'
section
variable {P : Program} {w : World} {K : PySem.W.Frag} {mg : Str → Option Value} {base : Heap} {f f1 f2 f3 g1 : Addr} {fd d1 d2 d3 : FuncData} {C CF CO : Addr}
theorem ok_moT (F : Fun K "_map_of" "Transformations._map_of" sMo f fd) (M : Mn mg) (U : TfX K CF) (mW : ∃ t, mg "_LONGEST_WORD" = some (.int 60 t))
    (G1 : FnOk P w K mg base CX0 1 f1 d1 ["value", "least", "most"] (spIsList K)) (b1 : Binds K d1 ["value", "least", "most"] []) (k1 : PySem.W.keepIn K (.ref f1) = true) (m1 : mg "is_list" = some (.ref f1))
    (G2 : FnOk P w K mg base CX0 1 f2 d2 ["value"] (spIsName K)) (b2 : Binds K d2 ["value"] []) (k2 : PySem.W.keepIn K (.ref f2) = true) (m2 : mg "is_name" = some (.ref f2))
    (G3 : FnOk P w K mg base CX0 1 f3 d3 ["first", "second"] (spCd K)) (b3 : Binds K d3 ["first", "second"] []) (k3 : PySem.W.keepIn K (.ref f3) = true) (m3 : mg "_composed" = some (.ref f3)) :
    FnOk P w K mg base CX0 2 f fd ["self", "word"] (spMoT K CF) := by
  obtain ⟨tok, mW⟩ := mW
  refine F.ok scMo (fun vs H Q E h => ?_) (fun cdv A outer s H vs Q E hr h => ?_)
  · obtain ⟨a, wl, n, L, S, zs, rfl, _⟩ := h
    rfl
  obtain ⟨a, wl, n, L, S, zs, rfl, ht, o, no, hw, z1, z60, hz, q⟩ := h
  have hr1 : Room 1 _ := hr.mono (by decide)
  have hu := hr.units
  have hu1 : (A.deeper (PyProof.Rows.envOfC "Transformations._map_of" (defScope sMo) s.heap.objs.size f cdv)).units + 1 < cLine := by omega
  refine ⟨_, (pss_cons (ps_if (pw_or (pt_not (pt_val (pe_call G1 hr1 (by rfl) m1 k1 b1 .nil pass0 (pa_cons (pv 1) (pa_cons pe_int (pa_cons (pe_glob (v := .int 60) (by rfl) mW ⟨_, rfl⟩) pa_nil)))))) (pw_or1 (pt_not (pt_val (pe_callB (cr_all rfl) (by rfl) M.all (by decide +kernel) (pa_cons (pe_lc (own := [("letter", 2)]) (g := gName 2) (tt := tYes) rfl scMo.nd (pit (K := K) rfl (pv 1)) (blkOk_by (N := nMo) (sc := defScope sMo) (by decide +kernel)) (fun _ _ _ _ _ => (pg_name (i := 2) scMo.nd rfl (Or.inl rfl))) (fun _ _ _ _ _ => pts_nil) (fun _ _ _ _ _ => (pe_call G2 hr1 (by rfl) m2 k2 b2 .nil pass0 (pa_cons (pv 2) pa_nil)))) pa_nil)))))).pt pss_dead pss_nil) (pss_cons (ps_set (i := 3) scMo.nd rfl (Or.inl rfl) (pe_callTy (call_dictF (K := K) rfl rfl) (by rfl) M.dict (by decide +kernel) (pa_cons (pe_fld (pv 0) rfl) pa_nil))) (pss_cons (ps_for PassesOwn.never rfl (pit (K := K) rfl (pv 1)) (pg_name (i := 2) scMo.nd rfl (Or.inl rfl)) (pss_one (ps_if (pt_cmp (pc_dnotin (by exact hu1) (pv 2) (pv 3))) pss_dead pss_nil))) (pss_cons (ps_set (i := 4) scMo.nd rfl (Or.inl rfl) (pe_tupRg rfl (by rfl) M.tuple (prg_1 (by rfl) M.range (pe_fld (pv 0) rfl)))) (pss_cons (ps_for PassesOwn.never rfl (pit (K := K) rfl (pv 1)) (pg_name (i := 2) scMo.nd rfl (Or.inl rfl)) (pss_one (ps_set (i := 4) scMo.nd rfl (Or.inl rfl) (pe_call G3 hr1 (by rfl) m3 k3 b3 .nil pass0 (pa_cons (pv 4) (pa_cons (pe_dget (by exact hu1) (pv 3) (pv 2) (fun _ _ => rfl)) pa_nil)))))) (pss_one (ps_ret (pv 4)))))))), ?_⟩
  obtain ⟨dx, tl, cl, wl', e, hl, _⟩ := ht.ob
  obtain ⟨ps, kvs, hps, prp, prk⟩ := hl.kvs
  have nd := kvs_nd prk no
  have n5 := o.n5
  have Mn0 : Mp n (List.range n) := ⟨List.length_range, fun x hx => List.mem_range.mp hx⟩
  have lz : (zs.map V.str).length = zs.length := List.length_map _
  refine ⟨_, rfl, .ref wl, _, _, rfl, .inl ⟨zs.map V.str, ⟨wl, rfl, .inr hw⟩, fun H1 s1 => ?_⟩⟩
  rw [lz, decide_eq_true (show (1 : Int) ≤ (zs.length : Int) by omega), decide_eq_true (show (zs.length : Int) ≤ 60 by omega)]
  refine ⟨_, rfl, iteF ?_⟩
  have hw1 := Same.tup s1 hw
  refine ⟨_, rfl, wl, rfl, ⟨_, hw1⟩, fun D hD => ?_⟩
  refine lc_it (walk_tup (xs := zs.map V.str)) (fun i G => Same H1 G ∧ G D = some (.lst ((List.replicate i true).map V.bl))) ⟨Same.new hD _, upd_same⟩ (fun i G _ z => Same.tup z.1 hw1) ?_ ?_
  · rintro i y G G' hi ⟨sG, eD⟩ ⟨rfl, hy⟩
    rw [lz] at hi
    obtain ⟨z, hz', rfl⟩ := str_at hy
    obtain ⟨q1, hq1, e1, _⟩ := tg_in (hz z (List.mem_of_getElem? hz'))
    refine ⟨rfl, _, rfl, .str z, nm z, rfl, .inl ⟨z, rfl, (e1 ▸ o.ss q1 hq1).mono (by decide), rfl⟩, fun G1 s2 => ?_⟩
    rw [show nm z = true from e1 ▸ no.nm q1 hq1]
    refine ⟨_, s2 _ _ eD, by rw [List.length_map, List.length_replicate]; exact small1000 (by omega), fun c o e => by rw [upd_ne (ne_of_none e hD)]; exact s2 _ _ (sG _ _ e), ?_⟩
    rw [upd_same, List.replicate_succ', List.map_append]; rfl
  rintro G ⟨sG, eD⟩
  refine ⟨D, _, rfl, SqL.of eD, ?_⟩
  rw [show (List.replicate (zs.map V.str).length true).all id = true from List.all_eq_true.mpr fun x hx => (List.eq_of_mem_replicate hx)]
  refine ⟨_, rfl, iteF ?_⟩
  have sH := s1.trans sG
  refine ⟨_, rfl, a, CF, dx, _, _, rfl, sH _ _ e, U.cl, U.n2, rfl, tl, ps, kvs, rfl, hps.ext sH, L2.Paired.mapP prp fun p kv h => SqT.of (sH _ _ h), fun d hd => ?_⟩
  rw [merge_app (acc := []) nd]
  have sd := sH.trans (Same.new hd (.dK ([] ++ kvs)))
  have ed : (upd G d (.dK ([] ++ kvs))) d = some (.dK kvs) := upd_same
  generalize upd G d (.dK ([] ++ kvs)) = H2 at sd ed ⊢
  have lk : ∀ {z : Str}, z ∈ zs → ∃ t, valV kvs (Sum.inr z) = some (.ref t) ∧ H2 t = some (.tup (nv (tg L z))) := fun {z} h => by
    obtain ⟨t, h1, h2⟩ := kvs_at prk no (hz z h)
    exact ⟨t, h1, sd _ _ h2⟩
  have hw2 := Same.tup sd hw
  refine ⟨_, rfl, wl, rfl, ⟨_, hw2⟩, ?_⟩
  refine for_it (walk_tup (xs := zs.map V.str)) (fun i σ G => Same H2 G ∧ ∃ x2 x4, σ = [some (.ref a), some (.ref wl), x2, some (.ref d), x4]) ⟨Same.refl _, _, _, rfl⟩ (fun i σ G _ z => Same.tup z.1 hw2) ?_ ?_
  · rintro i y _ G1 G2 hi ⟨sG1, x2, x4, rfl⟩ ⟨rfl, hy⟩
    obtain ⟨z, hz', rfl⟩ := str_at hy
    obtain ⟨t, h1, _⟩ := lk (List.mem_of_getElem? hz')
    have gd : DGet G2 d (.str z) (valV kvs (Sum.inr z)) := DGet.k (k := Sum.inr z) (sG1 _ _ ed)
    rw [h1] at gd
    exact ⟨_, rfl, _, rfl, d, _, rfl, gd, _, rfl, iteF ⟨sG1, _, _, rfl⟩⟩
  rintro _ G1 ⟨sG1, x2, x4, rfl⟩
  have sH1 := sd.trans sG1
  refine ⟨_, rfl, a, CF, dx, _, _, rfl, sH1 _ _ e, U.cl, U.n1, rfl, _, rfl, RgOk.of_le (by decide) (by omega) (by decide) (by omega), fun t0 ht0 => ?_⟩
  rw [rg_nv]
  have s3 := sG1.trans (Same.new ht0 (.tup (nv (List.range n))))
  have et0 := upd_same (H := G1) (a := t0) (o := .tup (nv (List.range n)))
  generalize upd G1 t0 (.tup (nv (List.range n))) = H3 at s3 et0 ⊢
  refine ⟨_, rfl, wl, rfl, ⟨_, Same.tup s3 hw2⟩, ?_⟩
  refine for_it (walk_tup (xs := zs.map V.str)) (fun i σ G => Same H2 G ∧ ∃ x2 t, σ = [some (.ref a), some (.ref wl), x2, some (.ref d), some (.ref t)] ∧ G t = some (.tup (nv (mapW n L (zs.take i)))) ∧ Mp n (mapW n L (zs.take i))) ⟨s3, _, t0, rfl, et0, Mn0⟩ (fun i σ G _ z => Same.tup z.1 hw2) ?_ ?_
  · rintro i y _ G1 G2 hi ⟨sG1, x2, t, rfl, et, mt⟩ ⟨rfl, hy⟩
    obtain ⟨z, hz', rfl⟩ := str_at hy
    have zm := List.mem_of_getElem? hz'
    obtain ⟨t', h1, h2⟩ := lk zm
    obtain ⟨q1, hq1, _, e2⟩ := tg_in (hz z zm)
    have gd : DGet G2 d (.str z) (valV kvs (Sum.inr z)) := DGet.k (k := Sum.inr z) (sG1 _ _ ed)
    rw [h1] at gd
    have mz : Mp n (tg L z) := e2 ▸ o.mp q1 hq1
    have tk : mapW n L (zs.take (i + 1)) = cmp (mapW n L (zs.take i)) (tg L z) := by
      unfold mapW
      rw [List.take_add_one, hz', List.foldl_append]; rfl
    refine ⟨_, rfl, _, rfl, _, rfl, d, _, rfl, gd, t, t', n, _, _, rfl, SqT.of et, SqT.of (sG1 _ _ h2), mt, mz, n5, fun p G3 s4 hp ep => ?_⟩
    exact ⟨sG1.trans s4, _, p, rfl, by rw [tk]; exact ep, by rw [tk]; exact cmp_mp mt mz⟩
  rintro _ G2 ⟨sG2, x2, t, rfl, et, mt⟩
  rw [lz, List.take_length] at et
  exact ⟨_, rfl, q t G2 (sd.trans sG2) et⟩
theorem ok_eoT (F : Fun K "element_of" "Transformations.element_of" sEo f fd) (M : Mn mg) (U : TfX K CF)
    (G1 : FnOk P w K mg base CX0 2 g1 d1 ["self", "word"] (spMoT K CF)) (b1 : Binds K d1 ["self", "word"] []) (h1 : Meth K CF "_map_of" g1) : FnOk P w K mg base CX0 3 f fd ["self", "word"] (spEoT K CF) := by
  refine F.ok scEo (fun vs H Q E h => ?_) (fun cdv A outer s H vs Q E hr h => ?_)
  · obtain ⟨a, wl, n, L, S, zs, rfl, _⟩ := h
    rfl
  obtain ⟨a, wl, n, L, S, zs, rfl, ht, o, no, hw, z1, z60, hz, hin, q⟩ := h
  have hr1 : Room 1 _ := hr.mono (by decide)
  have hr2 : Room 2 _ := hr.mono (by decide)
  refine ⟨_, (pss_one (ps_ret (pe_idx (K := K) rfl (hu65 hr1) (pe_fld (pv 0) rfl) (pa_cons (pe_meth (pv 0) U.cl h1 G1 hr2 b1 .nil pass0 (pa_cons (pv 1) pa_nil)) pa_nil)))), ?_⟩
  obtain ⟨dx, tl, cl, wl', e, hl, ⟨bs, e1, p1⟩, _⟩ := ht.ob
  have pk := keys_pair p1
  refine ⟨_, rfl, a, CF, dx, _, _, rfl, e, U.cl, U.n3, rfl, Or.inl ⟨rfl, _, SqL.of e1⟩, _, rfl, a, dx, _, rfl, e, rfl, _, rfl, a, wl, n, L, S, zs, rfl, ht, o, no, hw, z1, z60, hz, fun t H1 s1 et => ?_⟩
  obtain ⟨i1, i2⟩ := idx_get hin
  refine ⟨cl, .ref t, tD (mapW n L zs), (keys S).map tD, (keys S).idxOf (mapW n L zs), tD (mapW n L zs), rfl, rfl, .lst (SqL.of (s1 _ _ e1)) (dp_tups (L2.Paired.mapP pk fun _ _ w => s1 _ _ w)), dp_tup et, tDs_shaped _, tD_shaped _, by rw [List.getElem?_map, i2]; rfl, by rw [tD_eqv]; exact decide_eq_true rfl, fun m z' hm hz' => ?_, q _ s1⟩
  rw [List.getElem?_map] at hz'
  obtain ⟨w, hw, rfl⟩ := Option.map_eq_some_iff.mp hz'
  rw [tD_eqv]
  exact decide_eq_false (idx_ahead hm hw)
theorem scLs : FnScope nLs ["self"] (defScope sLs) := ⟨rfl, rfl, rfl, by decide +kernel, rfl, by decide +kernel, by decide +kernel⟩
theorem ok_ls (F : Fun K "letters" "Transformations.letters" sLs f fd) (M : Mn mg) (U : TfX K CF) : FnOk P w K mg base CX0 1 f fd ["self"] (spLs CF) := by
  refine F.ok scLs (fun vs H Q E h => ?_) (fun cdv A outer s H vs Q E hr h => ?_)
  · obtain ⟨a, n, L, S, rfl, _⟩ := h
    rfl
  obtain ⟨a, n, L, S, rfl, ht, o, no, q⟩ := h
  refine ⟨_, (pss_one (ps_ret (pe_dc (own := [("name", 1), ("targets", 2)]) (g := gTup _ 2 (gCons (gName 1) (gCons (gName 2) gNil))) (tt := tYes) rfl scLs.nd (pit (K := K) rfl (pe_fld (pv 0) rfl)) (blkOk_by (N := nLs) (sc := defScope sLs) (by decide +kernel)) (fun _ _ _ _ _ => (pg_tup rfl (pgs_cons (pg_name (i := 1) scLs.nd rfl (Or.inl rfl)) (pgs_cons (pg_name (i := 2) scLs.nd rfl (Or.inl rfl)) pgs_nil)))) (fun _ _ _ _ _ => pts_nil) (fun _ _ _ _ _ => (pv 1)) (fun _ _ _ _ _ => (pe_callTy (clist (K := K) rfl) (by rfl) M.list (by decide +kernel) (pa_cons (pv 2) pa_nil)))))), ?_⟩
  obtain ⟨dx, tl, cl, wl, e, hl, _⟩ := ht.ob
  obtain ⟨ps, kvs, hps, prp, prk⟩ := hl.kvs
  have lpk : ps.length = kvs.length := prp.length
  have lkl : kvs.length = L.length := prk.length
  have l4 := o.ge
  refine ⟨_, rfl, a, CF, dx, _, _, rfl, e, U.cl, U.n2, rfl, tl, rfl, ⟨_, hps.sq⟩, fun D hD => ?_⟩
  refine dc_it (walk_tup (xs := ps.map V.ref)) (fun i G => Same H G ∧ ∃ acc, G D = some (.dK acc) ∧ GvP G acc (L.take i)) ⟨Same.new hD _, [], upd_same, .nil⟩ (fun i G _ z => (hps.ext z.1).sq) ?_ ?_
  · rintro i y G G' hi ⟨sG, acc, eD, pr⟩ ⟨rfl, hy⟩
    obtain ⟨p1, hp1, rfl⟩ := ref_at hy
    obtain ⟨kv, hkv, ep⟩ := pair_at prp hp1
    obtain ⟨q1, hq1, ek, t, et, ett⟩ := pair_at prk hkv
    rw [ek, et] at ep
    refine ⟨p1, _, rfl, SqT.of (sG _ _ ep), rfl, _, _, rfl, _, _, rfl, rfl, rfl, _, rfl, _, rfl, t, nv q1.2, rfl, .inr (SqT.of (sG _ _ ett)), fun t2 ht2 => ?_⟩
    have u := Same.new ht2 (.lst (nv q1.2))
    have n2D : t2 ≠ D := (ne_of_none eD ht2).symm
    have pr2 : GvP (upd (upd G' t2 (.lst (nv q1.2))) D (.dK (putK acc (Sum.inr q1.1) (.ref t2)))) acc (L.take i) := L2.Paired.mapP pr fun kv q ⟨a, b, c, d⟩ => ⟨a, b, c, by rw [upd_ne (ne_of d eD fun z => nomatch z)]; exact u _ _ d⟩
    have la : acc.length = (L.take i).length := pr.length
    refine ⟨acc, Sum.inr q1.1, rfl, u _ _ eD, by rw [la, List.length_take]; exact small1000 (by omega), fun b o e => by rw [upd_ne (ne_of_none e hD)]; exact u _ _ (sG _ _ e), _, upd_same, ?_⟩
    have tk : L.take (i + 1) = L.take i ++ [(q1.1, q1.2)] := by rw [List.take_add_one, hq1]; rfl
    have nin : q1.1 ∉ (L.take i).map (·.1) := fun hm => by
      have nd := no.nd
      obtain ⟨hi2, ei⟩ := List.getElem?_eq_some_iff.mp hq1
      rw [← List.take_append_drop i L, List.map_append, List.drop_eq_getElem_cons hi2, ei] at nd
      exact (List.nodup_append.mp nd).2.2 _ hm _ (List.mem_cons_self) rfl
    rw [tk, ← putL_new nin]
    exact GvP.put pr2 (by rw [upd_ne n2D]; exact upd_same)
  rintro G ⟨sG, acc, eD, pr⟩
  rw [List.length_map, lpk, lkl, List.take_length] at pr
  exact q D acc G sG hD eD pr
theorem scMp : FnScope nMp ["size", "letters", "word"] (defScope sMp) := ⟨rfl, rfl, rfl, by decide +kernel, rfl, by decide +kernel, by decide +kernel⟩
theorem ok_mp (F : Fun K "_law_map" "_law_map" sMp f fd) (M : Mn mg) : FnOk P w K mg base CX0 1 f fd ["size", "letters", "word"] (spMp K) := by
  refine F.ok scMp (fun vs H Q E h => ?_) (fun cdv A outer s H vs Q E hr h => ?_)
  · obtain ⟨n, l, wl, L, zs, rfl, _⟩ := h
    rfl
  obtain ⟨n, l, wl, L, zs, rfl, o, no, hG, hw, hz, q⟩ := h
  have hu := hr.units
  have hu1 : (A.deeper (PyProof.Rows.envOfC "_law_map" (defScope sMp) s.heap.objs.size f cdv)).units + 1 < cLine := by omega
  refine ⟨_, (pss_cons (ps_set (i := 3) scMp.nd rfl (Or.inl rfl) (pe_lst pa_nil)) (pss_cons (ps_for PassesOwn.never rfl (pi_range1 (by rfl) M.range (pa_cons (pv 0) pa_nil)) (pg_name (i := 4) scMp.nd rfl (Or.inl rfl)) (pss_cons (ps_set (i := 5) scMp.nd rfl (Or.inl rfl) (pv 4)) (pss_cons (ps_for PassesOwn.never rfl (pi_list (pv 2)) (pg_name (i := 6) scMp.nd rfl (Or.inl rfl)) (pss_one (ps_set (i := 5) scMp.nd rfl (Or.inl rfl) (pe_ix (ixl (K := K) rfl) (pe_dget (by exact hu1) (pv 1) (pv 6) (fun _ _ => rfl)) (pv 5) (fun _ _ => rfl))))) (pss_one (ps_expr (pe_bm PySem.F.plainAttrs_list PySem.F.slot_list_append PySem.F.type_list_append mt_append (pv 3) (pa_cons (pv 5) pa_nil))))))) (pss_one (ps_ret (pe_callTy (ctu (K := K) rfl) (by rfl) M.tuple (by decide +kernel) (pa_cons (pv 3) pa_nil)))))), ?_⟩
  obtain ⟨kvs, eg, pr⟩ := hG
  have n5 := o.n5
  have lz : (zs.map V.str).length = zs.length := List.length_map _
  refine ⟨szl _ (by simp), fun D hD => ?_⟩
  refine ⟨_, rfl, _, rfl, by omega, by omega, ?_⟩
  refine for_range (lo := 0) (n := Int.toNat (n : Int)) (fun i σ G => Same H G ∧ G D = some (.lst (nv ((List.range i).map (hf L zs)))) ∧ ∃ x4 x5 x6, σ = [some (.int (n : Int)), some (.ref l), some (.ref wl), some (.ref D), x4, x5, x6]) ⟨Same.new hD _, upd_same, _, _, _, rfl⟩ ?_ ?_
  rotate_left
  · rintro _ G ⟨sG, eD, x4, x5, x6, rfl⟩
    rw [show Int.toNat (n : Int) = n from rfl, ← mapW_hf] at eD
    exact ⟨_, rfl, D, _, rfl, .inl ⟨SqL.of eD, fun t ht => q t _ (sG.trans (Same.new ht _)) (sG.free ht) upd_same⟩⟩
  rintro i _ G hi ⟨sG, eD, x4, x5, x6, rfl⟩
  have hin : i < n := hi
  refine ⟨_, rfl, _, rfl, wl, rfl, ⟨_, sG.seq hw⟩, ?_⟩
  refine for_it (walk_list (xs := zs.map V.str)) (fun j σ G2 => G2 = G ∧ ∃ x6, σ = [some (.int (n : Int)), some (.ref l), some (.ref wl), some (.ref D), some (.int (0 + (i : Int))), some (.int ((hf L (zs.take j) i : Nat) : Int)), x6]) ⟨rfl, _, by show _ = _; rw [show (0 : Int) + (i : Int) = ((hf L (zs.take 0) i : Nat) : Int) from Int.zero_add _]; rfl⟩ (fun j σ G2 _ z => by rw [z.1]; exact sG.seq hw) ?_ ?_
  · rintro j y _ G1 G2 hj ⟨rfl, x6', rfl⟩ ⟨rfl, hy⟩
    obtain ⟨z, hz', rfl⟩ := str_at hy
    have zm := hz z (List.mem_of_getElem? hz')
    obtain ⟨b, hb, eb⟩ := gv_at pr no zm
    obtain ⟨q1, hq1, _, e3⟩ := tg_in zm
    have mq := o.mp q1 hq1
    rw [e3] at mq
    have lt := hf_lt (zs := zs.take j) o hin fun x hx => hz x (List.mem_of_mem_take hx)
    have gd : DGet _ l (.str z) (valV kvs (Sum.inr z)) := DGet.k (k := Sum.inr z) (sG _ _ eg)
    rw [hb] at gd
    refine ⟨_, rfl, _, rfl, l, _, rfl, gd, _, rfl, b, nv (tg L z), _, _, rfl, rfl, SqL.of (sG _ _ eb), at_of (j := hf L (zs.take j) i) rfl (nv_get mq lt), rfl, some (.str z), ?_⟩
    have tk : hf L (zs.take (j + 1)) i = (tg L z).getD (hf L (zs.take j) i) 0 := by
      unfold hf
      rw [List.take_add_one, hz', List.foldl_append]; rfl
    rw [tk]
    rfl
  rintro _ G2 ⟨rfl, x6', rfl⟩
  rw [lz, List.take_length]
  refine ⟨_, rfl, .inl ⟨rfl, _, SqL.of eD⟩, _, rfl, D, _, _, rfl, rfl, eD, by rw [nv_len, List.length_map, List.length_range]; exact small1000 (by omega), fun b o e => by rw [upd_ne (ne_of_none e hD)]; exact sG _ _ e, ?_, _, _, _, rfl⟩
  rw [upd_same, List.range_succ, List.map_append]
  unfold nv
  rw [List.map_append]; rfl
end
end L

set_option Elab.async false
set_option linter.all false
set_option maxRecDepth 100000
set_option maxHeartbeats 4000000
set_option pp.maxSteps 400
namespace L
open PySem L2 KX
abbrev sLc : Stmt := top 40
abbrev nLc : List Str := ["size", "letters", "names", "found", "firsts", "newest", "later", "word", "targets", "letter", "one", "target"]
def ItL (H : Hp) (t : Addr) (e : En) : Prop := ∃ wd tg, H t = some (.tup [.ref wd, .ref tg]) ∧ H wd = some (.lst (e.2.map V.str)) ∧ H tg = some (.lst (nv e.1))
theorem ItL.to {H H' : Hp} {t : Addr} {e : En} (h : ItL H t e) (s : Same H H') : ItL H' t e := by
  obtain ⟨m, wd, a, b, c⟩ := h
  exact ⟨m, wd, s _ _ a, s _ _ b, s _ _ c⟩
def muLc (σ : L2.St) (J : Hp) : Nat := (match σ.getD 3 none with
  | some (.ref a) => match J a with
    | some (.lst xs) => (17 - xs.length) * 2
    | _ => 0
  | _ => 0) + match σ.getD 5 none with
  | some (.ref a) => match J a with
    | some (.lst xs) => min 1 xs.length
    | _ => 0
  | _ => 0
theorem muLc_of {σ : L2.St} {J : Hp} {a b : Addr} {ys xs : List V} (h : σ.getD 3 none = some (.ref a)) (e : J a = some (.lst ys)) (h2 : σ.getD 5 none = some (.ref b)) (e2 : J b = some (.lst xs)) : muLc σ J = (17 - ys.length) * 2 + min 1 xs.length := by
  unfold muLc
  rw [h, h2]
  dsimp only
  rw [e, e2]
theorem mn_self {p : Addr} {J : Hp} {o : HO} : mn p (upd J p o) = mn p J := by
  funext b
  unfold mn
  by_cases z : b = p
  · rw [if_pos z, if_pos z]
  · rw [if_neg z, if_neg z, upd_ne z]
theorem mn_out {p q : Addr} {J : Hp} {o : HO} (n : q ≠ p) : mn p (upd J q o) = upd (mn p J) q o := by
  funext b
  by_cases z : b = q
  · subst z
    rw [upd_same]
    unfold mn
    rw [if_neg n, upd_same]
  · rw [upd_ne z]
    unfold mn
    rw [upd_ne z]
theorem mn_mono {p : Addr} {A B : Hp} (s : Same A B) : Same (mn p A) (mn p B) := fun b o e => by
  have nb : b ≠ p := fun z => by rw [z, mn_p] at e; cases e
  exact mn_sx _ _ nb (s _ _ (mn_same _ _ e))
theorem bf_step {L : Ltt} {S lr R : List En} (h : Bf L S lr (some R)) : lr = [] ∧ S = R ∨ ∃ S' lg, lay L lr S [] = some (S', lg) ∧ Bf L S' lg (some R) := by
  cases h with
  | done => exact .inl ⟨rfl, rfl⟩
  | next h1 h2 h3 => exact .inr ⟨_, _, h2, h3⟩
def spLc : Sp := fun vs H Q _ => ∃ (n : Nat) (l : Addr) (L : Ltt) (S : List En), vs = [.int (n : Int), .ref l] ∧ LOk n L ∧ NmOk L ∧ Gv H l L ∧ Res n L (some S) ∧
  ∀ (t ft wt : Addr) (bs ws : List Addr) H', Same H H' → H ft = none → H wt = none → H' t = some (.tup [.ref ft, .ref wt]) → H' ft = some (.lst (bs.map V.ref)) → Paired (fun b (e : En) => H' b = some (.tup (nv e.1))) bs S →
    H' wt = some (.lst (ws.map V.ref)) → Paired (fun b (e : En) => H' b = some (.lst (e.2.map V.str))) ws S → Q (.ref t) H'
section
variable {P : Program} {w : World} {K : PySem.W.Frag} {mg : Str → Option Value} {base : Heap} {f f1 f2 f3 g1 : Addr} {fd d1 d2 d3 : FuncData} {C CF CO : Addr}
theorem scLc : FnScope nLc ["size", "letters"] (defScope sLc) := ⟨rfl, rfl, rfl, by decide +kernel, rfl, by decide +kernel, by decide +kernel⟩
theorem ok_lc (F : Fun K "_law_contents" "_law_contents" sLc f fd) (M : Mn mg) : FnOk P w K mg base CX0 1 f fd ["size", "letters"] spLc := by
  refine F.ok scLc (fun vs H Q E h => ?_) (fun cdv A outer s H vs Q E hr h => ?_)
  · obtain ⟨n, l, L, S, rfl, _⟩ := h
    rfl
  obtain ⟨n, l, L, R, rfl, lo, no, hG, rs, q⟩ := h
  have hu := hr.units
  have hu0 : (A.deeper (PyProof.Rows.envOfC "_law_contents" (defScope sLc) s.heap.objs.size f cdv)).units + 64 < cLine := hu
  have hu1 : (A.deeper (PyProof.Rows.envOfC "_law_contents" (defScope sLc) s.heap.objs.size f cdv)).units + 1 < cLine := by omega
  have hu6 : (A.deeper (PyProof.Rows.envOfC "_law_contents" (defScope sLc) s.heap.objs.size f cdv)).units + 65 < cLine := hu65 hr
  refine ⟨_, (pss_cons (ps_par3 (i := 2) (j := 3) (l := 4) (by rfl) scLc.nd rfl rfl rfl (by decide) (by decide) (by decide) rfl rfl rfl (pa_cons (pe_callTy (call_listD rfl) (by rfl) M.list (by decide +kernel) (pa_cons (pv 1) pa_nil)) (pa_cons (pe_lst pa_nil) (pa_cons (pe_lst pa_nil) pa_nil))) (by rfl)) (pss_cons (ps_set (i := 5) scLc.nd rfl (Or.inl rfl) (pe_lst (pa_cons (pe_tup (pa_cons (pe_lst pa_nil) (pa_cons (pe_listRg rfl (by rfl) M.list (prg_1 (by rfl) M.range (pv 0))) pa_nil))) pa_nil))) (pss_cons (ps_while PassesOwn.never (pt_mo (pt_cmpR (op_neE hu0) (pv 5) (pe_lst pa_nil) (nomark _))) (pss_cons (ps_set (i := 6) scLc.nd rfl (Or.inl rfl) (pe_lst pa_nil)) (pss_cons (ps_for PassesOwn.never rfl (pi_list (pv 5)) (pg_tup rfl (pgs_cons (pg_name (i := 7) scLc.nd rfl (Or.inl rfl)) (pgs_cons (pg_name (i := 8) scLc.nd rfl (Or.inl rfl)) pgs_nil))) (pss_one (ps_for PassesOwn.never rfl (pi_list (pv 2)) (pg_name (i := 9) scLc.nd rfl (Or.inr rfl)) (pss_cons (ps_set (i := 10) scLc.nd rfl (Or.inl rfl) (pe_callTy (ctu (K := K) rfl) (by rfl) M.tuple (by decide +kernel) (pa_cons (pe_lc (own := [("target", 11)]) (g := gName 11) (tt := tYes) rfl scLc.nd (pil (K := K) rfl (pv 8)) (blkOk_by (N := nLc) (sc := defScope sLc) (by decide +kernel)) (fun _ _ _ _ _ => (pg_name (i := 11) scLc.nd rfl (Or.inl rfl))) (fun _ _ _ _ _ => pts_nil) (fun _ _ _ _ _ => (pe_ix (ixl (K := K) rfl) (pe_dget (by exact hu1) (pv 1) (pv 9) (fun _ _ => rfl)) (pv 11) (fun _ _ => rfl)))) pa_nil))) (pss_one (ps_if (pt_cmpR (op_notInD hu6) (pv 10) (pv 3) (by rfl)) (pss_cons (ps_expr (pe_bm PySem.F.plainAttrs_list PySem.F.slot_list_append PySem.F.type_list_append mt_append (pv 3) (pa_cons (pv 10) pa_nil))) (pss_cons (ps_expr (pe_bm PySem.F.plainAttrs_list PySem.F.slot_list_append PySem.F.type_list_append mt_append (pv 4) (pa_cons (pe_op op_cat (pv 7) (pe_lst (pa_cons (pv 9) pa_nil))) pa_nil))) (pss_one (ps_expr (pe_bm PySem.F.plainAttrs_list PySem.F.slot_list_append PySem.F.type_list_append mt_append (pv 6) (pa_cons (pe_tup (pa_cons (pe_op op_cat (pv 7) (pe_lst (pa_cons (pv 9) pa_nil))) (pa_cons (pe_callTy (clist (K := K) rfl) (by rfl) M.list (by decide +kernel) (pa_cons (pv 10) pa_nil)) pa_nil))) pa_nil)))))) pss_nil)))))) (pss_cons (ps_if (pt_cmpR op_gt (pe_callB (lenl (K := K) rfl) (by rfl) M.len PySem.boot_len (pa_cons (pv 3) pa_nil)) pe_int (nomark _)) (pss_one (ps_ret pe_non)) pss_nil) (pss_one (ps_set (i := 5) scLc.nd rfl (Or.inl rfl) (pv 6))))))) (pss_one (ps_ret (pe_tup (pa_cons (pv 3) (pa_cons (pv 4) pa_nil)))))))), ?_⟩
  obtain ⟨kvs, eg, pr⟩ := hG
  have n5 := lo.n5
  have l4 := lo.ge
  have Mn0 : Mp n (List.range n) := ⟨List.length_range, fun x hx => List.mem_range.mp hx⟩
  have fR := Res.fnd lo rs
  have ekeys : (kvs.map fun kv => kV kv.1) = L.map fun q => V.str q.1 := by
    have h := pr.keys
    have : (kvs.map fun kv => kV kv.1) = (kvs.map (·.1)).map kV := by rw [List.map_map]; rfl
    rw [this, h, List.map_map]; rfl
  refine ⟨_, rfl, l, kvs, rfl, .inl eg, fun D0 hD0 => ?_⟩
  rw [ekeys]
  have s0 := Same.new hD0 (.lst (L.map fun q => V.str q.1))
  have e00 := upd_same (H := H) (a := D0) (o := .lst (L.map fun q => V.str q.1))
  generalize upd H D0 (.lst (L.map fun q => V.str q.1)) = H0 at s0 e00 ⊢
  refine ⟨szl _ (by simp), fun a ha => ⟨szl _ (by simp), fun b hb => ⟨_, _, _, rfl, ?_⟩⟩⟩
  have eg0 := s0 _ _ eg
  have pr0 : GvP H0 kvs L := L2.Paired.mapP pr fun kv q ⟨a, b, c, d⟩ => ⟨a, b, c, s0 _ _ d⟩
  have nab : a ≠ b := ne_of_none (upd_same (H := H0) (a := a) (o := .lst [])) hb
  have hb0 : H0 b = none := (Same.new ha (.lst [])).free hb
  have ea1 := Same.new hb (.lst []) _ _ (upd_same (H := H0) (a := a) (o := .lst []))
  have eb1 := upd_same (H := upd H0 a (.lst [])) (a := b) (o := .lst [])
  have s1 : Same H0 (mn a (mn b (upd (upd H0 a (.lst [])) b (.lst [])))) := fun x o e => mn_sx _ _ (ne_of_none e ha) (mn_sx _ _ (ne_of_none e hb0) (by rw [upd_ne (ne_of_none e hb0), upd_ne (ne_of_none e ha)]; exact e))
  generalize upd (upd H0 a (.lst [])) b (.lst []) = H1 at ea1 eb1 s1 ⊢
  refine ⟨szl _ (by simp), fun w0 hw0 => ⟨_, rfl, _, rfl, RgOk.of_le (by decide) (by omega) (by decide) (by omega), fun m0 hm0 => ⟨szl _ (by simp), fun T0 hT0 => ⟨szl _ (by simp), fun nt hnt => ?_⟩⟩⟩⟩
  rw [rg_nv] at hT0 hnt ⊢
  have u1 := Same.new hw0 (.lst [])
  have u2 := Same.new hm0 (.lst (nv (List.range n)))
  have u3 := Same.new hT0 (.tup [.ref w0, .ref m0])
  have u4 := Same.new hnt (.lst [.ref T0])
  have u14 := u1.trans (u2.trans (u3.trans u4))
  have out : ∀ {J : Hp} {x : Addr} {o : HO}, x ≠ a → x ≠ b → J x = some o → (mn a (mn b J)) x = some o := fun h1 h2 e => mn_sx _ _ h1 (mn_sx _ _ h2 e)
  have nw_ : ∀ {J : Hp} {x : Addr}, Same H1 J → J x = none → x ≠ a ∧ x ≠ b := fun s h => ⟨(ne_of_none (s _ _ ea1) h).symm, (ne_of_none (s _ _ eb1) h).symm⟩
  have w0n := nw_ (Same.refl _) hw0
  have m0n := nw_ u1 hm0
  have T0n := nw_ (u1.trans u2) hT0
  have ntn := nw_ (u1.trans (u2.trans u3)) hnt
  have it0 : ItL (mn a (mn b (upd (upd (upd (upd H1 w0 (.lst [])) m0 (.lst (nv (List.range n)))) T0 (.tup [.ref w0, .ref m0])) nt (.lst [.ref T0])))) T0 (List.range n, []) :=
    ⟨w0, m0, out T0n.1 T0n.2 (u4 _ _ upd_same), out w0n.1 w0n.2 (u4 _ _ (u3 _ _ (u2 _ _ upd_same))), out m0n.1 m0n.2 (u4 _ _ (u3 _ _ upd_same))⟩
  have ent := out ntn.1 ntn.2 (upd_same (H := upd (upd (upd H1 w0 (.lst [])) m0 (.lst (nv (List.range n)))) T0 (.tup [.ref w0, .ref m0])) (a := nt) (o := .lst [.ref T0]))
  have ea2 := u14 _ _ ea1
  have eb2 := u14 _ _ eb1
  have s2 := s1.trans (mn_mono (p := a) (mn_mono (p := b) u14))
  generalize upd (upd (upd (upd H1 w0 (.lst [])) m0 (.lst (nv (List.range n)))) T0 (.tup [.ref w0, .ref m0])) nt (.lst [.ref T0]) = H2 at it0 ent ea2 eb2 s2 ⊢
  clear u14 u1 u2 u3 u4 w0n m0n T0n ntn nw_ hw0 hm0 hT0 hnt ea1 eb1 s1
  dsimp only [gName, tSeq]
  change tWhile _ _ _ [some (.int (n : Int)), some (.ref l), some (.ref D0), some (.ref a), some (.ref b), some (.ref nt), none, none, none, none, none, none] _
  refine while_by (fun σ J => ∃ S lr nt bs ws ts x6 x7 x8 x9 x10 x11, σ = [some (.int (n : Int)), some (.ref l), some (.ref D0), some (.ref a), some (.ref b), some (.ref nt), x6, x7, x8, x9, x10, x11] ∧ Same H0 (mn a (mn b J)) ∧ J a = some (.lst (bs.map V.ref)) ∧ Paired (fun x (e : En) => (mn a (mn b J)) x = some (.tup (nv e.1))) bs S ∧
      J b = some (.lst (ws.map V.ref)) ∧ Paired (fun x (e : En) => (mn a (mn b J)) x = some (.lst (e.2.map V.str))) ws S ∧ (mn a (mn b J)) nt = some (.lst (ts.map V.ref)) ∧ Paired (ItL (mn a (mn b J))) ts lr ∧ Sea n L S lr ∧ (∀ e, e ∈ lr → Mp n e.1 ∧ e.2.length ≤ S.length) ∧ Bf L S lr (some R)) muLc
    ⟨[], [(List.range n, [])], nt, [], [], [T0], _, _, _, _, _, _, rfl, s2, ea2, .nil, eb2, .nil, ent, .cons it0 .nil, sea0 lo, fun e he => by rw [List.mem_singleton.mp he]; exact ⟨Mn0, Nat.le_refl _⟩, rs⟩ ?_ ?_
  rotate_left
  · rintro σ H Q Q' k ⟨R, h, r⟩
    exact ⟨R, h, fun x H1 z => k _ _ (r x H1 z)⟩
  clear it0 ent ea2 eb2 s2
  rintro _ J ⟨S, lr, nt, bs, ws, ts, x6, x7, x8, x9, x10, x11, rfl, sJ, ea, pA, eb, pB, en, pT, sea, mpl, bf⟩
  have lts : ts.length = lr.length := pT.length
  have emp : (!(ts.map V.ref).isEmpty) = !lr.isEmpty := by
    cases ts <;> cases lr <;> first | rfl | cases lts
  have enJ := mn_same _ _ (mn_same _ _ en)
  refine ⟨fun b G1 => Same J G1 ∧ b = !lr.isEmpty, ⟨_, rfl, szl _ (by simp), fun z hz => ⟨nt, z, _, rfl, rfl, SqL.of (Same.new hz _ _ _ enJ), SqL.of upd_same, _, rfl, Same.new hz _, emp⟩⟩, ?_⟩
  rintro _ J1 ⟨sJ1, rfl⟩
  have sm := mn_mono (p := a) (mn_mono (p := b) sJ1)
  have sJ' := sJ.trans sm
  have ea' := sJ1 _ _ ea
  have eb' := sJ1 _ _ eb
  by_cases hlr : lr = []
  · subst hlr
    have eSR : S = R := by
      rcases bf_step bf with ⟨_, e⟩ | ⟨S', lg, e1, e2⟩
      · exact e
      · have e1 := Option.some.inj e1
        rw [Prod.mk.injEq] at e1
        have e2 := e1.2 ▸ e1.1 ▸ e2
        rcases bf_step e2 with ⟨_, e⟩ | _
        · exact e
        · cases e2 with
          | done => rfl
          | next h => exact absurd rfl h
    subst eSR
    refine iteF ⟨_, rfl, _, rfl, szl _ (by simp), fun t ht => ?_⟩
    have st := Same.new ht (.tup [.ref a, .ref b])
    have lift : ∀ {x : Addr} {o : HO}, (mn a (mn b J)) x = some o → (upd J1 t (.tup [.ref a, .ref b])) x = some o := fun e => st _ _ (sJ1 _ _ (mn_same _ _ (mn_same _ _ e)))
    exact q t a b bs ws _ (s0.trans fun x o e => lift (sJ _ _ e)) (s0.free ha) (s0.free hb0) upd_same (st _ _ ea') (L2.Paired.mapP pA fun x e z => lift z) (st _ _ eb') (L2.Paired.mapP pB fun x e z => lift z)
  refine iteTt (by cases lr with
    | nil => exact absurd rfl hlr
    | cons => rfl) ?_
  obtain ⟨S', lg', hlay, bf'⟩ : ∃ S' lg, lay L lr S [] = some (S', lg) ∧ Bf L S' lg (some R) := (bf_step bf).elim (fun z => absurd z.1 hlr) id
  have sea' := sea.next hlay
  refine ⟨szl _ (by simp), fun c hc => ?_⟩
  have nca : c ≠ a := (ne_of_none ea' hc).symm
  have ncb : c ≠ b := (ne_of_none eb' hc).symm
  have mnc : ∀ {A : Hp} {o : HO}, mn c (mn a (mn b (upd A c o))) = mn c (mn a (mn b A)) := fun {A o} => by rw [mn_out ncb, mn_out nca, mn_self]
  have mna : ∀ {A : Hp} {o : HO}, mn c (mn a (mn b (upd A a o))) = mn c (mn a (mn b A)) := fun {A o} => by rw [mn_out nab, mn_self]
  have mnb : ∀ {A : Hp} {o : HO}, mn c (mn a (mn b (upd A b o))) = mn c (mn a (mn b A)) := fun {A o} => by rw [mn_self]
  have up3 : ∀ {A B : Hp}, Same A B → Same (mn c (mn a (mn b A))) (mn c (mn a (mn b B))) := fun s => mn_mono (mn_mono (mn_mono s))
  have dn3 : ∀ {A : Hp}, Same (mn c (mn a (mn b A))) A := fun x o e => mn_same _ _ (mn_same _ _ (mn_same _ _ e))
  have in3 : ∀ {A : Hp} {x : Addr} {o : HO}, x ≠ a → x ≠ b → x ≠ c → A x = some o → (mn c (mn a (mn b A))) x = some o := fun h1 h2 h3 e => mn_sx _ _ h3 (mn_sx _ _ h1 (mn_sx _ _ h2 e))
  have sJc : Same (mn a (mn b J1)) (mn c (mn a (mn b J1))) := fun x o e => mn_sx _ _ (ne_of_none (mn_same _ _ (mn_same _ _ e)) hc) e
  have sJ3 := sm.trans sJc
  have en1 := sJ1 _ _ enJ
  refine ⟨_, rfl, nt, rfl, ⟨_, SqL.of (by rw [upd_ne (ne_of_none en1 hc)]; exact en1)⟩, ?_⟩
  refine for_it (walk_list (xs := ts.map V.ref)) (fun i σ G => ∃ S1 lg1 bs1 ws1 ts1 x7 x8 x9 x10 x11, σ = [some (.int (n : Int)), some (.ref l), some (.ref D0), some (.ref a), some (.ref b), some (.ref nt), some (.ref c), x7, x8, x9, x10, x11] ∧ Same (mn c (mn a (mn b J1))) (mn c (mn a (mn b G))) ∧
      G a = some (.lst (bs1.map V.ref)) ∧ Paired (fun x (e : En) => (mn c (mn a (mn b G))) x = some (.tup (nv e.1))) bs1 S1 ∧ G b = some (.lst (ws1.map V.ref)) ∧ Paired (fun x (e : En) => (mn c (mn a (mn b G))) x = some (.lst (e.2.map V.str))) ws1 S1 ∧
      G c = some (.lst (ts1.map V.ref)) ∧ Paired (ItL (mn c (mn a (mn b G)))) ts1 lg1 ∧ lay L (lr.drop i) S1 lg1 = some (S', lg') ∧ S1.length ≤ 16 ∧ lg1.length + S.length = S1.length ∧ ∀ e, e ∈ lg1 → Mp n e.1 ∧ e.2.length ≤ S1.length)
    ⟨S, [], bs, ws, [], _, _, _, _, _, rfl, by rw [mnc]; exact Same.refl _, by rw [upd_ne nca.symm]; exact ea', by rw [mnc]; exact L2.Paired.mapP pA fun x e z => sJ3 _ _ z, by rw [upd_ne ncb.symm]; exact eb', by rw [mnc]; exact L2.Paired.mapP pB fun x e z => sJ3 _ _ z, upd_same, .nil, hlay, sea.le, by simp, fun _ z => (nomatch z)⟩
    (fun i σ G _ z => by
      obtain ⟨S1, lg1, bs1, ws1, ts1, x7, x8, x9, x10, x11, _, sG, _⟩ := z
      exact SqL.of (dn3 _ _ (sG _ _ (sJ3 _ _ en)))) ?_ ?_
  · rintro i y _ G G' hi ⟨S1, lg1, bs1, ws1, ts1, x7, x8, x9, x10, x11, rfl, sG, ea1, pA1, eb1, pB1, ec1, pC1, hl1, l16, ll, mpg⟩ ⟨rfl, hy⟩
    obtain ⟨T, hT, rfl⟩ := ref_at hy
    obtain ⟨st, hst, wd, tgA, e1, e2, e3⟩ := pair_at pT hT
    have sG3 := sJ3.trans sG
    have e1 := sG3 _ _ e1
    have e2 := sG3 _ _ e2
    have e3 := sG3 _ _ e3
    have hil : i < lr.length := (List.getElem?_eq_some_iff.mp hst).1
    have hst' : lr.drop i = st :: lr.drop (i + 1) := by
      rw [List.drop_eq_getElem_cons hil]
      rw [List.getElem?_eq_getElem hil] at hst
      rw [Option.some.inj hst]
    obtain ⟨mst, wst⟩ := mpl st (List.mem_of_getElem? hst)
    rw [hst', lay_cons] at hl1
    obtain ⟨Si, lgi, hin0, hl2⟩ : ∃ Si lgi, inn st L S1 lg1 = some (Si, lgi) ∧ lay L (lr.drop (i + 1)) Si lgi = some (S', lg') := by
      cases h : inn st L S1 lg1 with
      | none => rw [h] at hl1; cases hl1
      | some p => rw [h] at hl1; exact ⟨p.1, p.2, rfl, hl1⟩
    refine ⟨T, _, rfl, SqT.of (dn3 _ _ e1), rfl, _, _, rfl, _, _, rfl, rfl, ?_⟩
    have eD0 : ∀ {A : Hp}, Same (mn c (mn a (mn b J1))) (mn c (mn a (mn b A))) → A D0 = some (.lst (L.map fun q => V.str q.1)) := fun h => dn3 _ _ (h _ _ (sJc _ _ (sJ' _ _ e00)))
    refine ⟨_, rfl, D0, rfl, ⟨_, SqL.of (eD0 sG)⟩, ?_⟩
    refine for_it (walk_list (xs := L.map fun q => V.str q.1)) (fun j σ G2 => ∃ S2 lg2 bs2 ws2 ts2 x9 x10 x11, σ = [some (.int (n : Int)), some (.ref l), some (.ref D0), some (.ref a), some (.ref b), some (.ref nt), some (.ref c), some (.ref wd), some (.ref tgA), x9, x10, x11] ∧ Same (mn c (mn a (mn b G'))) (mn c (mn a (mn b G2))) ∧
        G2 a = some (.lst (bs2.map V.ref)) ∧ Paired (fun x (e : En) => (mn c (mn a (mn b G2))) x = some (.tup (nv e.1))) bs2 S2 ∧ G2 b = some (.lst (ws2.map V.ref)) ∧ Paired (fun x (e : En) => (mn c (mn a (mn b G2))) x = some (.lst (e.2.map V.str))) ws2 S2 ∧
        G2 c = some (.lst (ts2.map V.ref)) ∧ Paired (ItL (mn c (mn a (mn b G2)))) ts2 lg2 ∧ inn st (L.drop j) S2 lg2 = some (Si, lgi) ∧ S2.length ≤ 16 ∧ lg2.length + S.length = S2.length ∧ ∀ e, e ∈ lg2 → Mp n e.1 ∧ e.2.length ≤ S2.length)
      ⟨S1, lg1, bs1, ws1, ts1, _, _, _, rfl, Same.refl _, ea1, pA1, eb1, pB1, ec1, pC1, hin0, l16, ll, mpg⟩ (fun j σ G2 _ z => by
        obtain ⟨S2, lg2, bs2, ws2, ts2, x9, x10, x11, _, sF2, _⟩ := z
        exact SqL.of (eD0 (sG.trans sF2))) ?_ ?_
    · rintro j y _ G2 G3 hj ⟨S2, lg2, bs2, ws2, ts2, x9, x10, x11, rfl, sF2, ea2, pA2, eb2, pB2, ec2, pC2, hin, l16', ll2, mpg2⟩ ⟨rfl, hy⟩
      obtain ⟨q1, hq1, rfl⟩ : ∃ q1, L[j]? = some q1 ∧ y = V.str q1.1 := by
        rw [List.getElem?_map] at hy
        obtain ⟨z, h2, h3⟩ := Option.map_eq_some_iff.mp hy
        exact ⟨z, h2, h3.symm⟩
      have hjl : j < L.length := (List.getElem?_eq_some_iff.mp hq1).1
      have hq1' : L.drop j = q1 :: L.drop (j + 1) := by
        rw [List.drop_eq_getElem_cons hjl]
        rw [List.getElem?_eq_getElem hjl] at hq1
        rw [Option.some.inj hq1]
      have hqm := List.mem_of_getElem? hq1
      have zm : q1.1 ∈ L.map (·.1) := List.mem_map.mpr ⟨q1, hqm, rfl⟩
      have etg : tg L q1.1 = q1.2 := by
        obtain ⟨q', h1, h2, h3⟩ := tg_in zm
        have := no.nd
        obtain ⟨i1, hi1, e1⟩ := List.mem_iff_getElem.mp h1
        have nd2 := List.getElem_inj (xs := L.map (·.1)) (i := i1) (j := j) (h₀ := by rw [List.length_map]; exact hi1) (h₁ := by rw [List.length_map]; exact hjl) this
        have hj2 := (List.getElem?_eq_some_iff.mp hq1).2
        have : i1 = j := nd2.mp (by rw [List.getElem_map, List.getElem_map, e1, hj2, h2])
        subst this
        rw [← h3, ← e1, hj2]
      have mq := lo.mp q1 hqm
      have sGa := sG.trans sF2
      have dnG := dn3 (A := G3)
      have toG : ∀ {x : Addr} {o : HO}, H0 x = some o → G3 x = some o := fun e => dn3 _ _ (sGa _ _ (sJc _ _ (sJ' _ _ e)))
      have e3' := dnG _ _ (sF2 _ _ e3)
      refine ⟨_, rfl, tgA, rfl, ⟨_, SqL.of e3'⟩, fun D4 hD4 => ?_⟩
      obtain ⟨bq, hbq, ebq⟩ := gv_at pr0 no zm
      rw [etg] at ebq
      refine lc_it (walk_list (xs := nv st.1)) (fun k G5 => Same G3 G5 ∧ G5 D4 = some (.lst (nv ((cmp st.1 q1.2).take k)))) ⟨Same.new hD4 _, upd_same⟩ (fun k G5 _ z => SqL.of (z.1 _ _ e3')) ?_ ?_
      · rintro k v G5 G6 hk ⟨s5, e4⟩ ⟨rfl, hv⟩
        obtain ⟨x, hx, rfl⟩ := nv_at hv
        have hs := mst.2 x (List.mem_of_getElem? hx)
        have gd : DGet G6 l (.str q1.1) (valV kvs (Sum.inr q1.1)) := DGet.k (k := Sum.inr q1.1) (s5 _ _ (toG eg0))
        rw [hbq] at gd
        refine ⟨rfl, _, rfl, _, rfl, l, _, rfl, gd, _, rfl, bq, nv q1.2, _, _, rfl, rfl, SqL.of (s5 _ _ (toG ebq)), at_of (j := x) rfl (nv_get mq hs), _, e4, ?_, fun d o e => by rw [upd_ne (ne_of_none e hD4)]; exact s5 _ _ e, ?_⟩
        · rw [nv_len, List.length_take]
          have := (cmp_mp mst mq).1
          exact small1000 (by omega)
        · rw [upd_same, cmp_take hx]
          unfold nv
          rw [List.map_append]; rfl
      rintro G5 ⟨s5, e4⟩
      have lcm : (cmp st.1 q1.2).length = st.1.length := by unfold cmp; rw [List.length_map]
      rw [nv_len, ← lcm, List.take_length] at e4
      refine ⟨D4, _, rfl, .inl ⟨SqL.of e4, fun rx hrx => ?_⟩⟩
      have s6 := s5.trans (Same.new hrx (.tup (nv (cmp st.1 q1.2))))
      have erx := upd_same (H := G5) (a := rx) (o := .tup (nv (cmp st.1 q1.2)))
      have hrx3 : G3 rx = none := s5.free hrx
      generalize upd G5 rx (.tup (nv (cmp st.1 q1.2))) = J3 at s6 erx ⊢
      have nrx : rx ≠ a ∧ rx ≠ b ∧ rx ≠ c := ⟨(ne_of_none ea2 hrx3).symm, (ne_of_none eb2 hrx3).symm, (ne_of_none ec2 hrx3).symm⟩
      have sm6 := up3 s6
      have ea3 := s6 _ _ ea2
      have eb3 := s6 _ _ eb2
      have ec3 := s6 _ _ ec2
      rw [hq1', inn_cons] at hin
      refine ⟨_, rfl, _, rfl, tD (cmp st.1 q1.2), (keys S2).map tD, dp_tup erx, .lst (SqL.of ea3) (dp_tups (L2.Paired.mapP (keys_pair pA2) fun _ _ w => dn3 _ _ (sm6 _ _ w))), tD_shaped _, tDs_shaped _, ?_⟩
      rw [tD_any]
      refine ⟨_, rfl, ?_⟩
      refine ite2 (fun cc => ?_) (fun cc => ?_)
      rotate_left
      · have c' : cmp st.1 q1.2 ∈ keys S2 := by
          by_cases h : cmp st.1 q1.2 ∈ keys S2
          · exact h
          · exact absurd (by rw [decide_eq_false h]; rfl) cc
        rw [if_pos c'] at hin
        exact ⟨S2, lg2, bs2, ws2, ts2, _, _, _, rfl, sF2.trans sm6, ea3, L2.Paired.mapP pA2 fun x e z => sm6 _ _ z, eb3, L2.Paired.mapP pB2 fun x e z => sm6 _ _ z, ec3, L2.Paired.mapP pC2 fun t e z => z.to sm6, hin, l16', ll2, mpg2⟩
      have c' : cmp st.1 q1.2 ∉ keys S2 := fun z => by rw [decide_eq_true z] at cc; cases cc
      rw [if_neg c'] at hin
      have c2' : ¬ S2.length = 16 := fun z => by rw [if_pos z] at hin; cases hin
      rw [if_neg c2'] at hin
      have lb2 : bs2.length = S2.length := pA2.length
      have lw2 : ws2.length = S2.length := pB2.length
      have lt2 : ts2.length = lg2.length := pC2.length
      refine ⟨_, rfl, .inl ⟨rfl, _, SqL.of ea3⟩, _, rfl, a, _, _, rfl, rfl, ea3, by rw [List.length_map, lb2]; exact small1000 (by omega), ?_⟩
      have ea4 := upd_same (H := J3) (a := a) (o := .lst (bs2.map V.ref ++ [.ref rx]))
      have n4 : ∀ {x : Addr} {o : HO}, x ≠ a → J3 x = some o → (upd J3 a (.lst (bs2.map V.ref ++ [.ref rx]))) x = some o := fun n e => by rw [upd_ne n]; exact e
      have m4 : Same (mn c (mn a (mn b J3))) (mn c (mn a (mn b (upd J3 a (.lst (bs2.map V.ref ++ [.ref rx])))))) := by rw [mna]; exact Same.refl _
      have eb4 := n4 nab.symm eb3
      have ec4 := n4 nca ec3
      have erx4 := n4 nrx.1 erx
      generalize upd J3 a (.lst (bs2.map V.ref ++ [.ref rx])) = J4 at ea4 n4 m4 eb4 ec4 erx4 ⊢
      have e2_3 := sm6 _ _ (sF2 _ _ e2)
      have ewd4 := dn3 _ _ (m4 _ _ e2_3)
      have wlen : (st.2.map V.str).length + [V.str q1.1].length ≤ sizeLine := szl _ (by rw [List.length_map]; simp; omega)
      have emap : st.2.map V.str ++ [V.str q1.1] = (st.2 ++ [q1.1]).map V.str := by rw [List.map_append]; rfl
      refine ⟨_, rfl, .inl ⟨rfl, _, SqL.of eb4⟩, _, rfl, _, rfl, szl _ (by simp), fun l1 hl1 => ⟨wd, l1, _, _, rfl, rfl, Same.new hl1 _ _ _ ewd4, upd_same, wlen, fun w2 hw2 => ?_⟩⟩
      rw [emap]
      have s5' := (Same.new hl1 (.lst [.str q1.1])).trans (Same.new hw2 (.lst ((st.2 ++ [q1.1]).map V.str)))
      have ew2 := upd_same (H := upd J4 l1 (.lst [.str q1.1])) (a := w2) (o := .lst ((st.2 ++ [q1.1]).map V.str))
      have hw24 : J4 w2 = none := (Same.new hl1 (.lst [.str q1.1])).free hw2
      generalize upd (upd J4 l1 (.lst [.str q1.1])) w2 (.lst ((st.2 ++ [q1.1]).map V.str)) = J5 at s5' ew2 ⊢
      have m5 := up3 s5'
      have nw2 : w2 ≠ a ∧ w2 ≠ b ∧ w2 ≠ c := ⟨(ne_of_none ea4 hw24).symm, (ne_of_none eb4 hw24).symm, (ne_of_none ec4 hw24).symm⟩
      refine ⟨b, _, _, rfl, rfl, s5' _ _ eb4, by rw [List.length_map, lw2]; exact small1000 (by omega), ?_⟩
      have eb6 := upd_same (H := J5) (a := b) (o := .lst (ws2.map V.ref ++ [.ref w2]))
      have n6 : ∀ {x : Addr} {o : HO}, x ≠ b → J5 x = some o → (upd J5 b (.lst (ws2.map V.ref ++ [.ref w2]))) x = some o := fun n e => by rw [upd_ne n]; exact e
      have m6 : Same (mn c (mn a (mn b J5))) (mn c (mn a (mn b (upd J5 b (.lst (ws2.map V.ref ++ [.ref w2])))))) := by rw [mnb]; exact Same.refl _
      have ea6 := n6 nab (s5' _ _ ea4)
      have ec6 := n6 ncb (s5' _ _ ec4)
      have erx6 := n6 nrx.2.1 (s5' _ _ erx4)
      have ew6 := n6 nw2.2.1 ew2
      generalize upd J5 b (.lst (ws2.map V.ref ++ [.ref w2])) = J6 at eb6 n6 m6 ea6 ec6 erx6 ew6 ⊢
      have ewd6 := dn3 _ _ (m6 _ _ (m5 _ _ (m4 _ _ e2_3)))
      refine ⟨_, rfl, .inl ⟨rfl, _, SqL.of ec6⟩, _, rfl, _, rfl, szl _ (by simp), fun l3 hl3 => ⟨wd, l3, _, _, rfl, rfl, Same.new hl3 _ _ _ ewd6, upd_same, wlen, fun w3 hw3 => ?_⟩⟩
      rw [emap]
      have t1 := (Same.new hl3 (.lst [.str q1.1])).trans (Same.new hw3 (.lst ((st.2 ++ [q1.1]).map V.str)))
      refine ⟨_, rfl, rx, nv (cmp st.1 q1.2), rfl, .inr (SqT.of (t1 _ _ erx6)), fun t3 ht3 => ⟨szl _ (by simp), fun T2 hT2 => ?_⟩⟩
      have t2 := Same.new ht3 (.lst (nv (cmp st.1 q1.2)))
      have t3' := Same.new hT2 (.tup [.ref w3, .ref t3])
      have ew3 := t3' _ _ (t2 _ _ (upd_same (H := upd J6 l3 (.lst [.str q1.1])) (a := w3) (o := .lst ((st.2 ++ [q1.1]).map V.str))))
      have et3 := t3' _ _ (upd_same (H := upd (upd J6 l3 (.lst [.str q1.1])) w3 (.lst ((st.2 ++ [q1.1]).map V.str))) (a := t3) (o := .lst (nv (cmp st.1 q1.2))))
      have eT2 := upd_same (H := upd (upd (upd J6 l3 (.lst [.str q1.1])) w3 (.lst ((st.2 ++ [q1.1]).map V.str))) t3 (.lst (nv (cmp st.1 q1.2)))) (a := T2) (o := .tup [.ref w3, .ref t3])
      have fr : ∀ {x : Addr}, J6 x = none → x ≠ a ∧ x ≠ b ∧ x ≠ c := fun h => ⟨(ne_of_none ea6 h).symm, (ne_of_none eb6 h).symm, (ne_of_none ec6 h).symm⟩
      have nw3 := fr ((Same.new hl3 (.lst [.str q1.1])).free hw3)
      have nt3 := fr (t1.free ht3)
      have nT2 := fr ((t1.trans t2).free hT2)
      have s7 := t1.trans (t2.trans t3')
      generalize upd (upd (upd (upd J6 l3 (.lst [.str q1.1])) w3 (.lst ((st.2 ++ [q1.1]).map V.str))) t3 (.lst (nv (cmp st.1 q1.2)))) T2 (.tup [.ref w3, .ref t3]) = J9 at ew3 et3 eT2 s7 ⊢
      have m7 := up3 s7
      refine ⟨c, _, _, rfl, rfl, s7 _ _ ec6, by rw [List.length_map, lt2]; exact small1000 (by omega), ?_⟩
      have mall := sm6.trans (m4.trans (m5.trans (m6.trans m7)))
      have erx9 := in3 nrx.1 nrx.2.1 nrx.2.2 (s7 _ _ erx6)
      have ew9 := in3 nw2.1 nw2.2.1 nw2.2.2 (s7 _ _ ew6)
      refine ⟨S2 ++ [new st q1], lg2 ++ [new st q1], bs2 ++ [rx], ws2 ++ [w2], ts2 ++ [T2], _, _, _, rfl, ?_, ?_, ?_, ?_, ?_, ?_, ?_, hin, ?_, ?_, ?_⟩
      all_goals try rw [mnc]
      · exact sF2.trans mall
      · rw [upd_ne nca.symm, List.map_append]; exact s7 _ _ ea6
      · exact pair_app (L2.Paired.mapP pA2 fun x e z => mall _ _ z) erx9
      · rw [upd_ne ncb.symm, List.map_append]; exact s7 _ _ eb6
      · exact pair_app (L2.Paired.mapP pB2 fun x e z => mall _ _ z) ew9
      · rw [upd_same, List.map_append]; rfl
      · exact pair_app (L2.Paired.mapP pC2 fun t e z => z.to mall) ⟨w3, t3, in3 nT2.1 nT2.2.1 nT2.2.2 eT2, in3 nw3.1 nw3.2.1 nw3.2.2 ew3, in3 nt3.1 nt3.2.1 nt3.2.2 et3⟩
      · rw [List.length_append]; show S2.length + 1 ≤ 16; omega
      · rw [List.length_append, List.length_append]; simp; omega
      · intro e he
        rw [List.length_append]
        rcases List.mem_append.mp he with h | h
        · obtain ⟨a1, a2⟩ := mpg2 e h
          exact ⟨a1, by simp; omega⟩
        · rw [List.mem_singleton.mp h]
          refine ⟨cmp_mp mst mq, ?_⟩
          show (st.2 ++ [q1.1]).length ≤ _
          rw [List.length_append]; simp; omega
    · rintro _ G2 ⟨S2, lg2, bs2, ws2, ts2, x9, x10, x11, rfl, sF2, ea2, pA2, eb2, pB2, ec2, pC2, hin, l16', ll2, mpg2⟩
      rw [List.length_map, List.drop_length] at hin
      have hin' : (S2, lg2) = (Si, lgi) := Option.some.inj hin
      cases hin'
      exact ⟨Si, lgi, bs2, ws2, ts2, _, _, _, _, _, rfl, sG.trans sF2, ea2, pA2, eb2, pB2, ec2, pC2, hl2, l16', ll2, mpg2⟩
  · rintro _ G ⟨S1, lg1, bs1, ws1, ts1, x7, x8, x9, x10, x11, rfl, sG, ea1, pA1, eb1, pB1, ec1, pC1, hl1, l16, ll, mpg⟩
    rw [List.length_map, lts, List.drop_length] at hl1
    have hl1' : (S1, lg1) = (S', lg') := Option.some.inj hl1
    cases hl1'
    have lb1 : bs1.length = S'.length := pA1.length
    have down : ∀ {x : Addr} {o : HO}, (mn c (mn a (mn b G))) x = some o → (mn a (mn b G)) x = some o := fun e => mn_same _ _ e
    refine ⟨_, rfl, a, _, rfl, .inl (SqL.of ea1), _, _, rfl, rfl, _, rfl, ?_⟩
    rw [List.length_map, lb1]
    refine iteFf (decide_eq_false (by omega)) ?_
    refine ⟨_, rfl, ⟨S', lg', c, bs1, ws1, ts1, _, _, _, _, _, _, rfl, fun x o e => down (sG _ _ (sJc _ _ (sJ' _ _ e))), ea1, L2.Paired.mapP pA1 fun x e z => down z, eb1, L2.Paired.mapP pB1 fun x e z => down z, out nca ncb ec1, L2.Paired.mapP pC1 fun t e z => z.to mn_same, sea', mpg, bf'⟩, ?_⟩
    have k1 : bs.length = S.length := pA.length
    have k3 : ts1.length = lg'.length := pC1.length
    have k5 : 1 ≤ lr.length := List.length_pos_iff.mpr hlr
    have k4 := sea.le
    rw [muLc_of (a := a) (b := c) rfl ea1 rfl ec1, muLc_of (a := a) (b := nt) rfl ea rfl enJ, List.length_map, List.length_map, List.length_map, List.length_map, lb1, k1, k3, lts]
    omega
end
end L

set_option Elab.async false
set_option linter.all false
set_option maxRecDepth 100000
set_option maxHeartbeats 4000000
set_option pp.maxSteps 400
namespace L
open PySem L2 KX
/-! all words, in order -/
def stp (n : Nat) (L : Ltt) (S : List En) (w : List Str) : List En := if mapW n L w ∈ keys S then S else S ++ [(mapW n L w, w)]
def xtd (L : Ltt) (us : List (List Str)) : List (List Str) := us.flatMap fun u => L.map fun q => u ++ [q.1]
theorem mapW_snoc (n : Nat) (L : Ltt) (u : List Str) (z : Str) : mapW n L (u ++ [z]) = cmp (mapW n L u) (tg L z) := by
  unfold mapW
  rw [List.foldl_append]; rfl
theorem tg_of {L : Ltt} (no : NmOk L) {q : Str × List Nat} (h : q ∈ L) : tg L q.1 = q.2 := by
  obtain ⟨q', h1, h2, h3⟩ := tg_in (List.mem_map.mpr ⟨q, h, rfl⟩)
  obtain ⟨i, hi, ei⟩ := List.mem_iff_getElem.mp h1
  obtain ⟨j, hj, ej⟩ := List.mem_iff_getElem.mp h
  have nd2 := List.getElem_inj (xs := L.map (·.1)) (i := i) (j := j) (h₀ := by rw [List.length_map]; exact hi) (h₁ := by rw [List.length_map]; exact hj) no.nd
  have e : i = j := nd2.mp (by rw [List.getElem_map, List.getElem_map, ei, ej, h2])
  subst e
  rw [← h3, ← ei, ej]
inductive Cov (n : Nat) (L : Ltt) (Sp : List En) : List (List Str) → List En → Prop
  | nil : Cov n L Sp [] []
  | new {us : List (List Str)} {lr : List En} {u : List Str} : Cov n L Sp us lr → Cov n L Sp (us ++ [u]) (lr ++ [(mapW n L u, u)])
  | old {us : List (List Str)} {lr : List En} {u : List Str} : Cov n L Sp us lr → (mapW n L u ∈ keys Sp ∨ mapW n L u ∈ keys lr) → Cov n L Sp (us ++ [u]) lr
theorem keys_app (S T : List En) : keys (S ++ T) = keys S ++ keys T := List.map_append
theorem fold_old {n : Nat} {L : Ltt} {S : List En} : ∀ {ws : List (List Str)}, (∀ w, w ∈ ws → mapW n L w ∈ keys S) → ws.foldl (stp n L) S = S
  | [], _ => rfl
  | w :: ws, h => by
    show ws.foldl (stp n L) (stp n L S w) = S
    rw [show stp n L S w = S from if_pos (h w List.mem_cons_self)]
    exact fold_old fun x hx => h x (List.mem_cons_of_mem _ hx)
theorem cov_old {n : Nat} {L : Ltt} {Sb lg : List En} : ∀ {vs ws : List (List Str)}, Cov n L Sb ws lg → (∀ w, w ∈ vs → mapW n L w ∈ keys (Sb ++ lg)) → Cov n L Sb (ws ++ vs) lg
  | [], ws, h, _ => by rw [List.append_nil]; exact h
  | v :: vs, ws, h, hv => by
    have k := hv v List.mem_cons_self
    rw [keys_app] at k
    have := cov_old (vs := vs) (Cov.old (u := v) h (List.mem_append.mp k)) fun x hx => hv x (List.mem_cons_of_mem _ hx)
    rw [List.append_assoc] at this
    exact this
theorem inn_stp {n : Nat} {L : Ltt} (no : NmOk L) {u : List Str} : ∀ {r : Ltt} {S lg S' lg' : List En}, (∀ q, q ∈ r → q ∈ L) → inn (mapW n L u, u) r S lg = some (S', lg') →
    (r.map fun q => u ++ [q.1]).foldl (stp n L) S = S' ∧ ∀ Sb ws, S = Sb ++ lg → Cov n L Sb ws lg → S' = Sb ++ lg' ∧ Cov n L Sb (ws ++ r.map fun q => u ++ [q.1]) lg'
  | [], S, lg, S', lg', _, e => by
    have e := Option.some.inj e
    rw [Prod.mk.injEq] at e
    refine ⟨e.1, fun Sb ws h1 h2 => ⟨by rw [← e.1, ← e.2]; exact h1, ?_⟩⟩
    rw [List.map_nil, List.append_nil, ← e.2]; exact h2
  | q :: r, S, lg, S', lg', hr, e => by
    have hq := hr q List.mem_cons_self
    have hr' : ∀ q, q ∈ r → q ∈ L := fun x hx => hr x (List.mem_cons_of_mem _ hx)
    have em : mapW n L (u ++ [q.1]) = cmp (mapW n L u) q.2 := by rw [mapW_snoc, tg_of no hq]
    rw [inn_cons] at e
    by_cases c : cmp (mapW n L u) q.2 ∈ keys S
    · rw [if_pos c] at e
      obtain ⟨h1, h2⟩ := inn_stp no hr' e
      refine ⟨?_, fun Sb ws g1 g2 => ?_⟩
      · show (r.map fun q => u ++ [q.1]).foldl (stp n L) (stp n L S (u ++ [q.1])) = S'
        rw [show stp n L S (u ++ [q.1]) = S from if_pos (em ▸ c)]
        exact h1
      · have k : mapW n L (u ++ [q.1]) ∈ keys Sb ∨ mapW n L (u ++ [q.1]) ∈ keys lg := by
          rw [em]
          rw [g1, keys_app] at c
          exact List.mem_append.mp c
        obtain ⟨a1, a2⟩ := h2 Sb _ g1 (Cov.old g2 k)
        rw [List.append_assoc] at a2
        exact ⟨a1, a2⟩
    · rw [if_neg c] at e
      by_cases c2 : S.length = 16
      · rw [if_pos c2] at e; cases e
      rw [if_neg c2] at e
      have en : new (mapW n L u, u) q = (mapW n L (u ++ [q.1]), u ++ [q.1]) := by rw [em]; rfl
      obtain ⟨h1, h2⟩ := inn_stp no hr' e
      refine ⟨?_, fun Sb ws g1 g2 => ?_⟩
      · show (r.map fun q => u ++ [q.1]).foldl (stp n L) (stp n L S (u ++ [q.1])) = S'
        rw [show stp n L S (u ++ [q.1]) = S ++ [(mapW n L (u ++ [q.1]), u ++ [q.1])] from if_neg (em ▸ c), ← en]
        exact h1
      · obtain ⟨a1, a2⟩ := h2 Sb (ws ++ [u ++ [q.1]]) (by rw [g1, List.append_assoc]) (by rw [en]; exact Cov.new g2)
        rw [List.append_assoc] at a2
        exact ⟨a1, a2⟩
theorem lay_snoc {L : Ltt} {e : En} : ∀ {lr S lg : List En} {p : List En × List En}, lay L (lr ++ [e]) S lg = some p → ∃ p1 : List En × List En, lay L lr S lg = some p1 ∧ inn e L p1.1 p1.2 = some p
  | [], S, lg, p, h => by
    refine ⟨(S, lg), rfl, ?_⟩
    rw [List.nil_append, lay_cons] at h
    cases hi : inn e L S lg with
    | none => rw [hi] at h; cases h
    | some p' => rw [hi] at h; exact congrArg some (Option.some.inj h)
  | x :: lr, S, lg, p, h => by
    rw [List.cons_append, lay_cons] at h
    cases hi : inn x L S lg with
    | none => rw [hi] at h; cases h
    | some p' =>
      rw [hi] at h
      obtain ⟨p1, a1, a2⟩ := lay_snoc (lr := lr) (S := p'.1) (lg := p'.2) h
      exact ⟨p1, by rw [lay_cons, hi]; exact a1, a2⟩
theorem lay_cov {n : Nat} {L : Ltt} (no : NmOk L) {Sp S0 : List En} (hcl : ∀ m, m ∈ keys Sp → ∀ q, q ∈ L → cmp m q.2 ∈ keys S0) {us : List (List Str)} {lr : List En} (h : Cov n L Sp us lr) :
    (∀ e, e ∈ lr → ∀ q, q ∈ L → Gen (ltt L) (cmp e.1 q.2)) → ∀ {S' lg' : List En}, lay L lr S0 [] = some (S', lg') → (xtd L us).foldl (stp n L) S0 = S' ∧ S' = S0 ++ lg' ∧ Cov n L S0 (xtd L us) lg' := by
  induction h with
  | nil =>
    intro _ S' lg' e
    have e := Option.some.inj e
    rw [Prod.mk.injEq] at e
    exact ⟨e.1, by rw [← e.1, ← e.2, List.append_nil], by rw [← e.2]; exact .nil⟩
  | @new us lr u _ ih =>
    intro hg S' lg' e
    obtain ⟨⟨S1, lg1⟩, e1, e2⟩ := lay_snoc e
    obtain ⟨a1, a2, a3⟩ := ih (fun x hx => hg x (List.mem_append_left _ hx)) e1
    obtain ⟨b1, b2⟩ := inn_stp no (fun _ h => h) e2
    obtain ⟨b3, b4⟩ := b2 S0 _ a2 a3
    have ee : xtd L (us ++ [u]) = xtd L us ++ L.map fun q => u ++ [q.1] := by unfold xtd; rw [List.flatMap_append]; simp
    rw [ee, List.foldl_append, a1]
    exact ⟨b1, b3, b4⟩
  | @old us lr u _ hk ih =>
    intro hg S' lg' e
    obtain ⟨a1, a2, a3⟩ := ih hg e
    have ee : xtd L (us ++ [u]) = xtd L us ++ L.map fun q => u ++ [q.1] := by unfold xtd; rw [List.flatMap_append]; simp
    have inS : ∀ w, w ∈ (L.map fun q => u ++ [q.1]) → mapW n L w ∈ keys S' := fun w hw => by
      obtain ⟨q, hq, rfl⟩ := List.mem_map.mp hw
      rw [mapW_snoc, tg_of no hq]
      rcases hk with k | k
      · rw [a2, keys_app]
        exact List.mem_append_left _ (hcl _ k q hq)
      · obtain ⟨x, hx, ex⟩ := List.mem_map.mp k
        have := (lay_ok (n := n) hg e).2 x hx q hq
        rw [ex] at this; exact this
    rw [ee, List.foldl_append, a1]
    exact ⟨fold_old inS, a2, cov_old a3 (a2 ▸ inS)⟩
structure Enu (n : Nat) (L : Ltt) (R : List En) (us : List (List Str)) (S : List En) : Prop where
  ex : ∃ Sp lr, Sea n L S lr ∧ Bf L S lr (some R) ∧ Cov n L Sp us lr ∧ ∀ m, m ∈ keys Sp → ∀ q, q ∈ L → cmp m q.2 ∈ keys S
theorem bf_pre {n : Nat} {L : Ltt} {S lr : List En} {r : Option (List En)} (h : Bf L S lr r) : Sea n L S lr → ∀ R, r = some R → ∃ d, R = S ++ d := by
  induction h with
  | done S => intro _ R e; exact ⟨[], by rw [List.append_nil]; exact (Option.some.inj e).symm⟩
  | over => intro _ R e; cases e
  | next _ e _ ih =>
    intro sea R er
    obtain ⟨d, hd⟩ := ih (sea.next e) R er
    obtain ⟨s, _⟩ := lay_ok (n := n) sea.lg e
    obtain ⟨d1, e1, _⟩ := s.pre
    exact ⟨d1 ++ d, by rw [hd, e1, List.append_assoc]⟩
theorem stp_pre (n : Nat) (L : Ltt) (S : List En) (w : List Str) : ∃ d, stp n L S w = S ++ d := by
  unfold stp
  by_cases c : mapW n L w ∈ keys S
  · rw [if_pos c]; exact ⟨[], by rw [List.append_nil]⟩
  · rw [if_neg c]; exact ⟨_, rfl⟩
theorem fold_pre (n : Nat) (L : Ltt) : ∀ (ws : List (List Str)) (S : List En), ∃ d, ws.foldl (stp n L) S = S ++ d
  | [], S => ⟨[], by rw [List.append_nil]; rfl⟩
  | w :: ws, S => by
    obtain ⟨d1, e1⟩ := stp_pre n L S w
    obtain ⟨d2, e2⟩ := fold_pre n L ws (stp n L S w)
    exact ⟨d1 ++ d2, by show ws.foldl (stp n L) (stp n L S w) = _; rw [e2, e1, List.append_assoc]⟩
theorem Enu.next {n : Nat} {L : Ltt} {R : List En} {us : List (List Str)} {S : List En} (no : NmOk L) (h : Enu n L R us S) : Enu n L R (xtd L us) ((xtd L us).foldl (stp n L) S) := by
  obtain ⟨Sp, lr, sea, bf, cov, hcl⟩ := h.ex
  obtain ⟨S', lg, hl, bf'⟩ : ∃ S' lg, lay L lr S [] = some (S', lg) ∧ Bf L S' lg (some R) := by
    rcases bf_step bf with ⟨rfl, rfl⟩ | h
    · exact ⟨S, [], rfl, .done S⟩
    · exact h
  obtain ⟨a1, a2, a3⟩ := lay_cov no hcl cov sea.lg hl
  rw [a1]
  refine ⟨S, lg, sea.next hl, bf', a3, fun m hm q hq => ?_⟩
  rcases sea.cl m hm with k | k
  · obtain ⟨x, hx, rfl⟩ := List.mem_map.mp k
    exact (lay_ok (n := n) sea.lg hl).2 x hx q hq
  · rw [a2, keys_app]
    exact List.mem_append_left _ (k q hq)
theorem Enu.pre {n : Nat} {L : Ltt} {R : List En} {us : List (List Str)} {S : List En} (h : Enu n L R us S) : ∃ d, R = S ++ d := by
  obtain ⟨Sp, lr, sea, bf, _⟩ := h.ex
  exact bf_pre bf sea R rfl
theorem enu0 {n : Nat} {L : Ltt} {R : List En} (o : LOk n L) (rs : Res n L (some R)) : Enu n L R [[]] [] :=
  ⟨[], [(List.range n, [])], sea0 o, rs, Cov.new (u := []) .nil, fun _ z => (nomatch z)⟩
/-- at word j: the elements so far are the first ones; a new one is the word's -/
theorem Enu.at_ {n : Nat} {L : Ltt} {R : List En} {us : List (List Str)} {S : List En} (no : NmOk L) (h : Enu n L R us S) {j : Nat} {w : List Str} (hw : (xtd L us)[j]? = some w) :
    (∃ d, R = ((xtd L us).take (j + 1)).foldl (stp n L) S ++ d) ∧ ((xtd L us).take (j + 1)).foldl (stp n L) S = stp n L (((xtd L us).take j).foldl (stp n L) S) w := by
  have e1 : ((xtd L us).take (j + 1)).foldl (stp n L) S = stp n L (((xtd L us).take j).foldl (stp n L) S) w := by
    rw [List.take_add_one, hw, List.foldl_append]; rfl
  refine ⟨?_, e1⟩
  obtain ⟨d, hd⟩ := (h.next no).pre
  obtain ⟨d2, h2⟩ := fold_pre n L ((xtd L us).drop (j + 1)) (((xtd L us).take (j + 1)).foldl (stp n L) S)
  rw [← List.foldl_append, List.take_append_drop] at h2
  exact ⟨d2 ++ d, by rw [hd, h2, List.append_assoc]⟩
/-- the number of the word's element -/
theorem enu_num {n : Nat} {L : Ltt} {R S : List En} {w : List Str} (nd : (keys R).Nodup) (h : ∃ d, R = stp n L S w ++ d) : mapW n L w ∈ keys R ∧
    (mapW n L w ∈ keys S → (keys R).idxOf (mapW n L w) < S.length ∧ stp n L S w = S) ∧
    (mapW n L w ∉ keys S → (keys R).idxOf (mapW n L w) = S.length ∧ (stp n L S w).length = S.length + 1 ∧ R[S.length]? = some (mapW n L w, w)) := by
  obtain ⟨d, hd⟩ := h
  by_cases c : mapW n L w ∈ keys S
  · have e : stp n L S w = S := if_pos c
    rw [e] at hd
    have hm : mapW n L w ∈ keys R := by rw [hd, keys_app]; exact List.mem_append_left _ c
    refine ⟨hm, fun _ => ⟨?_, e⟩, fun z => absurd c z⟩
    rw [hd, keys_app, List.idxOf_append, if_pos c]
    have := List.idxOf_lt_length_iff.mpr c
    unfold keys at this ⊢
    rw [List.length_map] at this
    exact this
  · have e : stp n L S w = S ++ [(mapW n L w, w)] := if_neg c
    rw [e] at hd
    have hk : keys R = keys S ++ (mapW n L w :: keys d) := by rw [hd, keys_app, keys_app, List.append_assoc]; rfl
    have lk : (keys S).length = S.length := List.length_map _
    refine ⟨by rw [hk]; exact List.mem_append_right _ List.mem_cons_self, fun z => absurd z c, fun _ => ⟨?_, by rw [e]; simp, ?_⟩⟩
    · rw [hk, List.idxOf_append, if_neg c, List.idxOf_cons_self, lk, Nat.zero_add]
    · rw [hd, List.append_assoc, List.getElem?_append_right (Nat.le_refl _), Nat.sub_self]; rfl
theorem xtd_mem {L : Ltt} {us : List (List Str)} {w : List Str} (h : w ∈ xtd L us) : ∃ u, u ∈ us ∧ ∃ q, q ∈ L ∧ w = u ++ [q.1] := by
  obtain ⟨u, hu, hw⟩ := List.mem_flatMap.mp h
  obtain ⟨q, hq, rfl⟩ := List.mem_map.mp hw
  exact ⟨u, hu, q, hq, rfl⟩
theorem xtd_len {L : Ltt} (us : List (List Str)) : (xtd L us).length = us.length * L.length := by
  unfold xtd
  induction us with
  | nil => simp
  | cons u us ih => rw [List.flatMap_cons, List.length_append, ih, List.length_map, List.length_cons, Nat.succ_mul, Nat.add_comm]
theorem xtd_take {L : Ltt} {us : List (List Str)} {j : Nat} {u : List Str} (h : us[j]? = some u) : xtd L (us.take (j + 1)) = xtd L (us.take j) ++ L.map fun q => u ++ [q.1] := by
  unfold xtd
  rw [List.take_add_one, h, List.flatMap_append]; simp
end L

set_option Elab.async false
set_option linter.all false
set_option maxRecDepth 100000
set_option maxHeartbeats 4000000
set_option pp.maxSteps 400
namespace L
open PySem L2 KX
abbrev sSr : Stmt := top 42
abbrev nSr : List Str := ["made", "size", "letters", "contents", "names", "words", "seen", "turn", "longer", "word", "element", "letter"]
theorem gv_keys {H : Hp} {kvs : List (Key × V)} {L : Ltt} (pr : GvP H kvs L) : (kvs.map fun kv => kV kv.1) = L.map fun q => V.str q.1 := by
  have h := pr.keys
  have : (kvs.map fun kv => kV kv.1) = (kvs.map (·.1)).map kV := by rw [List.map_map]; rfl
  rw [this, h, List.map_map]; rfl
theorem dq_strs {H : Hp} : ∀ zs : List Str, DqAll H (zs.map V.str) (zs.map PyData.str)
  | [] => .nil
  | z :: zs => .cons (.str z) (dq_strs zs)
theorem okWord {zs : List Str} (h : ∀ z, z ∈ zs → Ss 8 z) (l : zs.length ≤ 60) : OkD 1 540 (.list (zs.map PyData.str)) := okLi (W := 8) (m := 60) (fun d hd => by
  obtain ⟨z, hz, rfl⟩ := List.mem_map.mp hd
  exact OkD.str (h z hz)) (by rw [List.length_map]; exact l)
theorem iL_shaped (m : List Nat) : SeqAt.shaped (.list (nD m)) = true := by
  show ((PyData.list (nD m)).canLay0 && decide ((PyData.list (nD m)).depth ≤ 64)) = true
  have h1 : (PyData.list (nD m)).canLay0 = true := by simp only [PyData.canLay0]; exact nD_lay m
  have h2 : (PyData.list (nD m)).depth = 1 := by simp only [PyData.depth, nD_depth m]
  rw [h1, h2]; rfl
theorem iL_eqv (m : List Nat) : PyData.eqv (.list (nD m)) (.list (nD m)) = true := by
  simp only [PyData.eqv]
  rw [nD_eqv]; exact decide_eq_true rfl
theorem nD_any (e : Nat) : ∀ ms : List Nat, ((nD ms).any fun z => PyData.eqv z (.int (e : Int))) = decide (e ∈ ms)
  | [] => by simp [nD]
  | x :: ms => by
    have h := nD_any e ms
    unfold nD at h ⊢
    rw [List.map_cons, List.any_cons, h]
    simp only [PyData.eqv]
    by_cases c : x = e
    · subst c; simp
    · have c2 : ¬ e = x := fun z => c z.symm
      have c1 : ((x : Int) == (e : Int)) = false := beq_eq_false_iff_ne.mpr (by omega)
      rw [c1]
      simp [c2]
theorem int_shaped (i : Int) : SeqAt.shaped (.int i) = true := by simp [SeqAt.shaped, PyData.canLay0, PyData.depth]
theorem pair_cat {α β : Type} {R : α → β → Prop} {as cs : List α} {bs ds : List β} (h : Paired R as bs) (g : Paired R cs ds) : Paired R (as ++ cs) (bs ++ ds) := by
  induction h with
  | nil => exact g
  | cons a _ ih => exact .cons a ih
def spSr (CF : Addr) : Sp := fun vs H Q _ => ∃ (m : Addr) (n : Nat) (l cl : Addr) (bs : List Addr) (L : Ltt) (S : List En), vs = [.ref m, .int (n : Int), .ref l, .ref cl] ∧ TrA CF H m n L S ∧ LOk n L ∧ NmOk L ∧ Gv H l L ∧ Res n L (some S) ∧
  H cl = some (.lst (bs.map V.ref)) ∧ Paired (fun b (e : En) => H b = some (.tup (nv e.1))) bs S ∧ ∀ H', Same H H' → Q (.bl true) H'
section
variable {P : Program} {w : World} {K : PySem.W.Frag} {mg : Str → Option Value} {base : Heap} {f f1 f2 f3 g1 : Addr} {fd d1 d2 d3 : FuncData} {C CF CO : Addr}
theorem scSr : FnScope nSr ["made", "size", "letters", "contents"] (defScope sSr) := ⟨rfl, rfl, rfl, by decide +kernel, rfl, by decide +kernel, by decide +kernel⟩
theorem ok_sr (F : Fun K "_law_short_right" "_law_short_right" sSr f fd) (M : Mn mg) (mSo : mg "sorted" = none) (U : TfX K CF) (hS : ∃ o, base.get? sysModules = some o)
    (G1 : FnOk P w K mg base CX0 3 f1 d1 ["self", "word"] (spEo K CF)) (b1 : Binds K d1 ["self", "word"] []) (h1 : Meth K CF "element_of" f1)
    (G2 : FnOk P w K mg base CX0 1 f2 d2 ["size", "letters", "word"] (spMp K)) (b2 : Binds K d2 ["size", "letters", "word"] []) (k2 : PySem.W.keepIn K (.ref f2) = true) (m2 : mg "_law_map" = some (.ref f2))
    (G3 : FnOk P w K mg base CX0 3 f3 d3 ["self", "element"] (spWo CF)) (b3 : Binds K d3 ["self", "element"] []) (h3 : Meth K CF "word_of" f3) :
    GOk P w K mg base CX0 4 f fd ["made", "size", "letters", "contents"] (spSr CF) := by
  refine gok F scSr (fun vs H Q E h => ?_) (fun cdv A outer s H vs Q E hr hA h => ?_)
  · obtain ⟨m, n, l, cl, bs, L, S, rfl, _⟩ := h
    rfl
  obtain ⟨m, n, l, cl, bs, L, R, rfl, ht, o, no, hG, rs, ec, pC, q⟩ := h
  have hr1 : Room 1 _ := hr.mono (by decide)
  have hr3 : Room 3 _ := hr.mono (by decide)
  have hu := hr.units
  have hu6 : (A.deeper (PyProof.Rows.envOfC "_law_short_right" (defScope sSr) s.heap.objs.size f cdv)).units + 65 < cLine := hu65 hr
  have rp := fun {X : Cx} (h1 : X.base = base) (h2 : X.A = (A.deeper (PyProof.Rows.envOfC "_law_short_right" (defScope sSr) s.heap.objs.size f cdv))) => @call_repr_q X (by rw [h1]; exact hS) (by rw [h2]; exact hA) (by rw [h2]; exact hu)
  refine ⟨_, (pss_cons (ps_par3 (i := 4) (j := 5) (l := 6) (by rfl) scSr.nd rfl rfl rfl (by decide) (by decide) (by decide) rfl rfl rfl (pa_cons (pe_callTy (call_listD rfl) (by rfl) M.list (by decide +kernel) (pa_cons (pv 2) pa_nil)) (pa_cons (pe_lst (pa_cons (pe_lst pa_nil) pa_nil)) (pa_cons (pe_lst pa_nil) pa_nil))) (by rfl)) (pss_cons (ps_for PassesOwn.never rfl (pi_range1 (by rfl) M.range (pa_cons pe_int pa_nil)) (pg_name (i := 7) scSr.nd rfl (Or.inl rfl)) (pss_cons (ps_set (i := 8) scSr.nd rfl (Or.inl rfl) (pe_lst pa_nil)) (pss_cons (ps_for PassesOwn.never rfl (pi_list (pv 5)) (pg_name (i := 9) scSr.nd rfl (Or.inr rfl)) (pss_one (ps_expr (pe_bm PySem.F.plainAttrs_list PySem.F.slot_list_extend PySem.F.type_list_extend mt_extend (pv 8) (pa_cons (pe_lc (own := [("letter", 11)]) (g := gName 11) (tt := tYes) rfl scSr.nd (pil (K := K) rfl (pv 4)) (blkOk_by (N := nSr) (sc := defScope sSr) (by decide +kernel)) (fun _ _ _ _ _ => (pg_name (i := 11) scSr.nd rfl (Or.inl rfl))) (fun _ _ _ _ _ => pts_nil) (fun _ _ _ _ _ => (pe_op op_cat (pv 9) (pe_lst (pa_cons (pv 11) pa_nil))))) pa_nil))))) (pss_cons (ps_for PassesOwn.never rfl (pi_list (pv 8)) (pg_name (i := 9) scSr.nd rfl (Or.inr rfl)) (pss_cons (ps_set (i := 10) scSr.nd rfl (Or.inl rfl) (pe_meth (pv 0) U.cl h1 G1 hr3 b1 .nil pass0 (pa_cons (pv 9) pa_nil))) (pss_cons (ps_if (pt_cmpR (op_neD hu) (pe_ix (ixl (K := K) rfl) (pv 3) (pv 10) (fun _ _ => rfl)) (pe_call G2 hr1 (by rfl) m2 k2 b2 .nil pass0 (pa_cons (pv 1) (pa_cons (pv 2) (pa_cons (pv 9) pa_nil)))) (nomark _)) (pss_one (ps_ret pe_bl)) pss_nil) (pss_one (ps_if (pt_cmpR (op_notInD hu6) (pv 10) (pv 6) (by rfl)) (pss_cons (ps_expr (pe_bm PySem.F.plainAttrs_list PySem.F.slot_list_append PySem.F.type_list_append mt_append (pv 6) (pa_cons (pv 10) pa_nil))) (pss_one (ps_if (pt_cmpR op_ne (pe_callB (rp rfl rfl) (by rfl) M.repr (by decide +kernel) (pa_cons (pe_meth (pv 0) U.cl h3 G3 hr3 b3 .nil pass0 (pa_cons (pv 10) pa_nil)) pa_nil)) (pe_callB (rp rfl rfl) (by rfl) M.repr (by decide +kernel) (pa_cons (pv 9) pa_nil)) (nomark _)) (pss_one (ps_ret pe_bl)) pss_nil))) pss_nil))))) (pss_one (ps_set (i := 5) scSr.nd rfl (Or.inl rfl) (pv 8))))))) (pss_one (ps_ret (pe_cmpR (op_eqD hu) (pv 6) (pe_callB cr_sorted (by rfl) mSo (by decide +kernel) (pa_cons (pv 6) pa_nil)) (nomark _)))))), ?_⟩
  obtain ⟨kvs, eg, pr⟩ := id hG
  have n5 := o.n5
  have l4 := o.ge
  have fR := Res.fnd o rs
  have r16 := fR.le
  refine ⟨_, rfl, l, kvs, rfl, .inl eg, fun D0 hD0 => ?_⟩
  rw [gv_keys pr]
  have s0 := Same.new hD0 (.lst (L.map fun q => V.str q.1))
  have e00 := upd_same (H := H) (a := D0) (o := .lst (L.map fun q => V.str q.1))
  generalize upd H D0 (.lst (L.map fun q => V.str q.1)) = H0 at s0 e00 ⊢
  refine ⟨szl _ (by simp), fun w0 hw0 => ⟨szl _ (by simp), fun wl hwl => ⟨szl _ (by simp), fun sn hsn => ⟨_, _, _, rfl, ?_⟩⟩⟩⟩
  have u1 := Same.new hw0 (.lst [])
  have u2 := Same.new hwl (.lst [.ref w0])
  have ew0 := u2 _ _ (upd_same (H := H0) (a := w0) (o := .lst []))
  have ewl := upd_same (H := upd H0 w0 (.lst [])) (a := wl) (o := .lst [.ref w0])
  have s1 := u1.trans u2
  generalize upd (upd H0 w0 (.lst [])) wl (.lst [.ref w0]) = H1 at hsn ew0 ewl s1 ⊢
  have hsH : H sn = none := (s0.trans s1).free hsn
  have s2 : Same H1 (mn sn (upd H1 sn (.lst []))) := by
    rw [mn_self]
    exact fun x o e => mn_sx _ _ (ne_of_none e hsn) e
  refine ⟨_, rfl, by decide, by decide, ?_⟩
  refine for_range (lo := 0) (n := Int.toNat 3) (fun i σ G => ∃ us S wl uws x7 x8 x9 x10 x11, σ = [some (.ref m), some (.int (n : Int)), some (.ref l), some (.ref cl), some (.ref D0), some (.ref wl), some (.ref sn), x7, x8, x9, x10, x11] ∧ Same H0 (mn sn G) ∧ G sn = some (.lst (nv (List.range S.length))) ∧
      (mn sn G) wl = some (.lst (uws.map V.ref)) ∧ Paired (fun x (u : List Str) => (mn sn G) x = some (.lst (u.map V.str))) uws us ∧ Enu n L R us S ∧ us.length ≤ 4 ^ i ∧ ∀ u, u ∈ us → u.length = i ∧ ∀ z, z ∈ u → z ∈ L.map (·.1))
    ⟨[[]], [], wl, [w0], _, _, _, _, _, rfl, s1.trans s2, upd_same, s2 _ _ ewl, .cons (s2 _ _ ew0) .nil, enu0 o rs, by simp, fun u hu => by rw [List.mem_singleton.mp hu]; exact ⟨rfl, fun _ z => (nomatch z)⟩⟩ ?_ ?_
  rotate_left
  · rintro _ G ⟨us, S, wl, uws, x7, x8, x9, x10, x11, rfl, sG, esn, ewl, pW, en, lus, hus⟩
    obtain ⟨d, hd⟩ := en.pre
    have lS : S.length ≤ 16 := by rw [hd, List.length_append] at r16; omega
    have eI : nv (List.range S.length) = ((List.range S.length).map fun x : Nat => (x : Int)).map V.int := by unfold nv; rw [List.map_map]; rfl
    refine ⟨_, rfl, _, rfl, sn, (List.range S.length).map fun x : Nat => (x : Int), rfl, SqL.of (by rw [← eI]; exact esn), by rw [List.length_map, List.length_range]; omega, fun ns' pS perm pw hpS => ?_⟩
    have hns : ns' = (List.range S.length).map fun x : Nat => (x : Int) := perm.eq_of_pairwise (fun x y _ _ h1 h2 => Int.le_antisymm h1 h2) pw (by
      rw [List.pairwise_map]
      exact List.pairwise_lt_range.imp fun h => by omega)
    subst hns
    rw [← eI]
    refine ⟨_, _, .lst (SqL.of (Same.new hpS _ _ _ esn)) (dp_nv _), .lst (SqL.of upd_same) (dp_nv _), iL_shaped _, iL_shaped _, ?_⟩
    rw [iL_eqv]
    exact q _ (s0.trans (sG.trans (mn_same.trans (Same.new hpS _))))
  clear s2 ewl ew0
  rintro i _ G hi ⟨us, S, wl, uws, x7, x8, x9, x10, x11, rfl, sG, esn, ewl, pW, en, lus, hus⟩
  have hi3 : i < 3 := hi
  have p4 : 4 ^ i ≤ 16 := by
    have : i = 0 ∨ i = 1 ∨ i = 2 := by omega
    rcases this with rfl | rfl | rfl <;> decide
  refine ⟨szl _ (by simp), fun c hc => ?_⟩
  have ncs : c ≠ sn := (ne_of_none esn hc).symm
  have sGc : Same (mn sn G) (mn c (mn sn (upd G c (.lst [])))) := fun x o e => by
    have nx := ne_of_none (mn_same _ _ e) hc
    rw [mn_out ncs, mn_self]
    exact mn_sx _ _ nx e
  refine ⟨_, rfl, wl, rfl, ⟨_, SqL.of (by rw [upd_ne (ne_of_none (mn_same _ _ ewl) hc)]; exact mn_same _ _ ewl)⟩, ?_⟩
  refine for_it (walk_list (xs := uws.map V.ref)) (fun j σ G1 => ∃ lws x9 x10 x11, σ = [some (.ref m), some (.int (n : Int)), some (.ref l), some (.ref cl), some (.ref D0), some (.ref wl), some (.ref sn), some (.int (0 + (i : Int))), some (.ref c), x9, x10, x11] ∧ Same (mn sn G) (mn c (mn sn G1)) ∧ G1 sn = some (.lst (nv (List.range S.length))) ∧
      G1 c = some (.lst (lws.map V.ref)) ∧ Paired (fun x (u : List Str) => (mn c (mn sn G1)) x = some (.lst (u.map V.str))) lws (xtd L (us.take j))) ⟨[], _, _, _, rfl, sGc, by rw [upd_ne ncs.symm]; exact esn, upd_same, .nil⟩ (fun j σ G1 _ z => by
      obtain ⟨lws, x9, x10, x11, _, sG1, _⟩ := z
      exact SqL.of (mn_same _ _ (mn_same _ _ (sG1 _ _ ewl)))) ?_ ?_
  · rintro j y _ G1 G2 hj ⟨lws, x9, x10, x11, rfl, sG1, es1, ec1, pL⟩ ⟨rfl, hy⟩
    obtain ⟨x, hx, rfl⟩ := ref_at hy
    obtain ⟨u, hu, ex⟩ := pair_at pW hx
    have dn : ∀ {A : Hp}, Same (mn c (mn sn A)) A := fun x o e => mn_same _ _ (mn_same _ _ e)
    have ex2 := dn _ _ (sG1 _ _ ex)
    have eD2 := dn _ _ (sG1 _ _ (sG _ _ e00))
    have ulen := hus u (List.mem_of_getElem? hu)
    have hjl : j < us.length := (List.getElem?_eq_some_iff.mp hu).1
    refine ⟨_, rfl, .inl ⟨rfl, _, SqL.of ec1⟩, _, rfl, D0, rfl, ⟨_, SqL.of eD2⟩, fun D5 hD5 => ?_⟩
    refine lc_it (walk_list (xs := L.map fun q => V.str q.1)) (fun k G3 => Same G2 G3 ∧ ∃ nws : List Addr, G3 D5 = some (.lst (nws.map V.ref)) ∧ Paired (fun x (u : List Str) => x ≠ D5 ∧ G2 x = none ∧ G3 x = some (.lst (u.map V.str))) nws ((L.take k).map fun q => u ++ [q.1])) ⟨Same.new hD5 _, [], upd_same, .nil⟩ (fun k G3 _ z => SqL.of (z.1 _ _ eD2)) ?_ ?_
    · rintro k v G3 G4 hk ⟨s3, nws, e5, pN⟩ ⟨rfl, hv⟩
      obtain ⟨q1, hq1, rfl⟩ : ∃ q1, L[k]? = some q1 ∧ v = V.str q1.1 := by
        rw [List.getElem?_map] at hv
        obtain ⟨z, h2, h3⟩ := Option.map_eq_some_iff.mp hv
        exact ⟨z, h2, h3.symm⟩
      have emap : u.map V.str ++ [V.str q1.1] = (u ++ [q1.1]).map V.str := by rw [List.map_append]; rfl
      refine ⟨rfl, _, rfl, _, rfl, szl _ (by simp), fun l1 hl1 => ⟨x, l1, _, _, rfl, rfl, Same.new hl1 _ _ _ (s3 _ _ ex2), upd_same, szl _ (by rw [List.length_map, ulen.1]; simp; omega), fun w2 hw2 => ?_⟩⟩
      rw [emap]
      have t1 := (Same.new hl1 (.lst [.str q1.1])).trans (Same.new hw2 (.lst ((u ++ [q1.1]).map V.str)))
      have ew2 := upd_same (H := upd G4 l1 (.lst [.str q1.1])) (a := w2) (o := .lst ((u ++ [q1.1]).map V.str))
      have hw24 : G4 w2 = none := (Same.new hl1 (.lst [.str q1.1])).free hw2
      have nw2 : w2 ≠ D5 := (ne_of_none e5 hw24).symm
      have lnw : nws.length ≤ 4 := by rw [pN.length, List.length_map, List.length_take]; omega
      refine ⟨_, t1 _ _ e5, by rw [List.length_map]; exact small1000 (by omega), fun b o e => by rw [upd_ne (ne_of_none e hD5)]; exact t1 _ _ (s3 _ _ e), nws ++ [w2], by rw [upd_same, List.map_append]; rfl, ?_⟩
      rw [show (L.take (k + 1)).map (fun q => u ++ [q.1]) = (L.take k).map (fun q => u ++ [q.1]) ++ [u ++ [q1.1]] by rw [List.take_add_one, hq1, List.map_append]; rfl]
      exact pair_app (L2.Paired.mapP pN fun x u ⟨a1, a2, a3⟩ => ⟨a1, a2, by rw [upd_ne a1]; exact t1 _ _ a3⟩) ⟨nw2, s3.free hw24, by rw [upd_ne nw2]; exact ew2⟩
    rintro G3 ⟨s3, nws, e5, pN⟩
    rw [List.length_map, List.take_length] at pN
    have es3 := s3 _ _ es1
    have ec3 := s3 _ _ ec1
    have ll : lws.length ≤ 64 := by
      rw [pL.length, xtd_len, List.length_take]
      have : min j us.length * L.length ≤ 16 * 4 := Nat.mul_le_mul (by omega) l4
      omega
    have ln : nws.length ≤ 4 := by rw [pN.length, List.length_map]; exact l4
    refine ⟨c, D5, _, _, rfl, rfl, ec3, e5, szl _ (by rw [List.length_map, List.length_map]; omega), ?_⟩
    have mm : ∀ {o : HO}, mn c (mn sn (upd G3 c o)) = mn c (mn sn G3) := fun {o} => by rw [mn_out ncs, mn_self]
    refine ⟨lws ++ nws, _, _, _, rfl, ?_, by rw [upd_ne ncs.symm]; exact es3, by rw [upd_same, List.map_append], ?_⟩
    · rw [mm]; exact sG1.trans (mn_mono (mn_mono s3))
    · rw [mm, xtd_take hu]
      refine pair_cat (L2.Paired.mapP pL fun x u e => mn_mono (mn_mono s3) _ _ e) (L2.Paired.mapP pN fun x u ⟨a1, a2, a3⟩ => ?_)
      exact mn_sx _ _ (ne_of_none ec1 a2).symm (mn_sx _ _ (ne_of_none es1 a2).symm a3)
  rintro _ G1 ⟨lws, x9', x10', x11', rfl, sG1, es1, ec1, pL⟩
  have luw : uws.length = us.length := pW.length
  rw [List.length_map, luw, List.take_length] at pL
  clear hc
  have dn1 : Same (mn c (mn sn G1)) (mn sn G1) := mn_same
  have sGa : Same (mn sn G) (mn sn G1) := sG1.trans dn1
  have ecM : (mn sn G1) c = some (.lst (lws.map V.ref)) := mn_sx _ _ ncs ec1
  have pW1 : Paired (fun x (u : List Str) => (mn sn G1) x = some (.lst (u.map V.str))) lws (xtd L us) := L2.Paired.mapP pL fun x u e => dn1 _ _ e
  have hws : ∀ w, w ∈ xtd L us → w.length = i + 1 ∧ ∀ z, z ∈ w → z ∈ L.map (·.1) := fun w hw => by
    obtain ⟨u, hu, q, hq, rfl⟩ := xtd_mem hw
    obtain ⟨a1, a2⟩ := hus u hu
    refine ⟨by rw [List.length_append, a1]; rfl, fun z hz => ?_⟩
    rcases List.mem_append.mp hz with h | h
    · exact a2 z h
    · rw [List.mem_singleton.mp h]; exact List.mem_map.mpr ⟨q, hq, rfl⟩
  have sH : ∀ {J : Hp}, Same (mn sn G1) (mn sn J) → Same H J := fun h => s0.trans (sG.trans (sGa.trans (h.trans mn_same)))
  obtain ⟨dx, _, _, _, em, _⟩ := id ht.ob
  have pk := keys_pair pC
  refine ⟨_, rfl, c, rfl, ⟨_, SqL.of ec1⟩, ?_⟩
  refine for_it (walk_list (xs := lws.map V.ref)) (fun j σ G2 => ∃ x9 x10 x11, σ = [some (.ref m), some (.int (n : Int)), some (.ref l), some (.ref cl), some (.ref D0), some (.ref wl), some (.ref sn), some (.int (0 + (i : Int))), some (.ref c), x9, x10, x11] ∧ Same (mn sn G1) (mn sn G2) ∧
      G2 sn = some (.lst (nv (List.range (((xtd L us).take j).foldl (stp n L) S).length)))) ⟨_, _, _, rfl, Same.refl _, es1⟩ (fun j σ G2 _ z => by
      obtain ⟨x9, x10, x11, _, sG2, _⟩ := z
      exact SqL.of (mn_same _ _ (sG2 _ _ ecM))) ?_ ?_
  rotate_left
  · rintro _ G2 ⟨y9, y10, y11, rfl, sG2, es2⟩
    have lwx : lws.length = (xtd L us).length := pW1.length
    rw [List.length_map, lwx, List.take_length] at es2
    refine ⟨_, rfl, xtd L us, (xtd L us).foldl (stp n L) S, c, lws, _, _, _, _, _, rfl, sG.trans (sGa.trans sG2), es2, sG2 _ _ ecM, L2.Paired.mapP pW1 fun x u e => sG2 _ _ e, en.next no, ?_, hws⟩
    rw [xtd_len, Nat.pow_succ]
    exact Nat.mul_le_mul lus l4
  rintro j y _ G2 G3 hj ⟨y9, y10, y11, rfl, sG2, es2⟩ ⟨rfl, hy⟩
  obtain ⟨x, hx, rfl⟩ := ref_at hy
  obtain ⟨w, hw, ex⟩ := pair_at pW1 hx
  obtain ⟨wl1, wz⟩ := hws w (List.mem_of_getElem? hw)
  obtain ⟨hp1, hp2⟩ := en.at_ no hw
  rw [hp2] at hp1
  have num := enu_num fR.nd hp1
  have ex2 := mn_same _ _ (sG2 _ _ ex)
  generalize hSj : ((xtd L us).take j).foldl (stp n L) S = Sj at es2 hp1 hp2 num
  have hin := num.1
  have sH2 := sH sG2
  have ht2 := ht.to sH2
  refine ⟨_, rfl, m, _, _, rfl, sH2 _ _ em, rfl, _, rfl, m, x, n, L, R, w, rfl, ht2, o, no, SqL.of ex2, by omega, by omega, wz, hin, fun G4 s4 => ?_⟩
  have sH4 := sH2.trans s4
  obtain ⟨i1, i2⟩ := idx_get hin
  obtain ⟨be, hbe, ebe⟩ := pair_to pk i2
  refine ⟨_, rfl, _, rfl, cl, bs.map V.ref, _, _, rfl, rfl, SqL.of (sH4 _ _ ec), at_of (j := (keys R).idxOf (mapW n L w)) rfl (by rw [List.getElem?_map, hbe]; rfl), ?_⟩
  refine ⟨_, rfl, _, rfl, _, rfl, n, l, x, L, w, rfl, o, no, hG.to sH4, SqL.of (s4 _ _ ex2), wz, fun t G5 s5 ht5 et => ?_⟩
  refine ⟨tD (mapW n L w), tD (mapW n L w), dp_tup (s5 _ _ (sH4 _ _ ebe)), dp_tup et, tD_shaped _, tD_shaped _, ?_⟩
  rw [tD_eqv, decide_eq_true rfl]
  refine ⟨_, rfl, iteFf rfl ?_⟩
  have s45 := s4.trans s5
  have es5 := s45 _ _ es2
  refine ⟨_, rfl, _, rfl, .int (((keys R).idxOf (mapW n L w) : Nat) : Int), nD (List.range Sj.length), .int _, .lst (SqL.of es5) (dp_nv _), int_shaped _, iL_shaped _, ?_⟩
  rw [nD_any]
  have sM := sG2.trans (mn_mono (p := sn) s45)
  refine ⟨_, rfl, ite2 (fun cc => ?_) (fun cc => ?_)⟩
  rotate_left
  · have c1 : (keys R).idxOf (mapW n L w) ∈ List.range Sj.length := by
      by_cases h : (keys R).idxOf (mapW n L w) ∈ List.range Sj.length
      · exact h
      · exact absurd (by rw [decide_eq_false h]; rfl) cc
    have c2 := List.mem_range.mp c1
    have hm : mapW n L w ∈ keys Sj := by
      by_cases h : mapW n L w ∈ keys Sj
      · exact h
      · have := (num.2.2 h).1; omega
    refine ⟨_, _, _, rfl, sM, ?_⟩
    rw [hp2, (num.2.1 hm).2]
    exact es5
  have c1 : ¬ (keys R).idxOf (mapW n L w) ∈ List.range Sj.length := fun h => by rw [decide_eq_true h] at cc; cases cc
  have hm : mapW n L w ∉ keys Sj := fun h => c1 (List.mem_range.mpr (num.2.1 h).1)
  obtain ⟨k1, k2, k3⟩ := num.2.2 hm
  have lj : Sj.length < R.length := (List.getElem?_eq_some_iff.mp k3).1
  refine ⟨_, rfl, .inl ⟨rfl, _, SqL.of es5⟩, _, rfl, sn, _, _, rfl, rfl, es5, by rw [nv_len, List.length_range]; exact small1000 (by omega), ?_⟩
  have es6 := upd_same (H := G5) (a := sn) (o := .lst (nv (List.range Sj.length) ++ [.int (((keys R).idxOf (mapW n L w) : Nat) : Int)]))
  have sM6 : Same (mn sn G5) (mn sn (upd G5 sn (.lst (nv (List.range Sj.length) ++ [.int (((keys R).idxOf (mapW n L w) : Nat) : Int)])))) := by rw [mn_self]; exact Same.refl _
  generalize upd G5 sn (.lst (nv (List.range Sj.length) ++ [.int (((keys R).idxOf (mapW n L w) : Nat) : Int)])) = G6 at es6 sM6 ⊢
  have sM' := sM.trans sM6
  have sH6 := sH sM'
  have e16 := k1
  refine ⟨_, rfl, m, _, _, rfl, sH6 _ _ em, rfl, _, rfl, m, (keys R).idxOf (mapW n L w), n, L, R, (mapW n L w, w), rfl, ht.to sH6, by rw [k1]; exact k3, r16, fun D7 G7 s7 hD7 eD7 => ?_⟩
  have okw := okWord (zs := w) (fun z hz => by
    obtain ⟨q, hq, e⟩ := List.mem_map.mp (wz z hz)
    exact e ▸ o.ss q hq) (by omega)
  refine ⟨_, .list (w.map PyData.str), rfl, .lst eD7 (dq_strs _), okw.shows, Nat.le_trans okw.deep (by decide), okw.len (by decide), ?_⟩
  have ex7 := s7 _ _ (mn_same _ _ (sM' _ _ ex))
  refine ⟨_, rfl, _, .list (w.map PyData.str), rfl, .lst ex7 (dq_strs _), okw.shows, Nat.le_trans okw.deep (by decide), okw.len (by decide), rfl, _, rfl, iteNS rfl ?_⟩
  refine ⟨_, _, _, rfl, sM'.trans (mn_mono s7), ?_⟩
  rw [hp2, k2, s7 _ _ es6, List.range_succ, k1]
  unfold nv
  rw [List.map_append]; rfl
end
end L

set_option Elab.async false
set_option linter.all false
set_option maxRecDepth 100000
set_option maxHeartbeats 4000000
set_option pp.maxSteps 400
namespace PySem.SeqAt
open AutoSeq1 (wpAny_loadPart')
open MeetsSeq MeetsSeq2 MeetsSeq3 SeqRoads2
section
variable {prog : Program} {w : World}
/-- the rest of two lists that are equal item by item: not unequal -/
theorem alike_loop {l b : Addr} {us vs : Array Value} {n n2 : Nat} {dd dd2 : Option Addr} {sl sl2 : Array (Option Value)} (hsz : us.size = vs.size) : ∀ k i : Nat, i + k = us.size →
    MeetsIn prog w (Builtin.«list.__eq__.loop» ⟨[.ref l, .ref b, rawInt i, rawInt 3], []⟩)
      (fun A R s => (s.heap.get? l = some { cls := .type "list", dict := dd, data := .seq us n, slots := sl } ∧ s.heap.get? b = some { cls := .type "list", dict := dd2, data := .seq vs n2, slots := sl2 }) ∧
        (∀ j (h1 : j < us.size) (h2 : j < vs.size), EqP prog w A.in1 s us[j] vs[j] true) ∧ R (.ok (.ret (.bool false))) s)
  | 0, i, hk, A, R, ⟨hp, g, d, tk, os⟩, ⟨⟨hl, hb⟩, _, h⟩ => by
    wp_walk using wpAny_loadPart' hl, wpAny_loadPart' hb
    rw [show us[((i : Nat) : Int).toNat]? = none by simp; omega, show vs[((i : Nat) : Int).toNat]? = none by simp; omega]
    wp_walk using wpAny_loadPart' hl, wpAny_loadPart' hb
    show R (.ok (.ret (.bool (us.size != vs.size)))) _
    rw [hsz]
    simpa using h
  | k + 1, i, hk, A, R, ⟨hp, g, d, tk, os⟩, ⟨⟨hl, hb⟩, he, h⟩ => by
    have h1 : i < us.size := by omega
    have h2 : i < vs.size := by omega
    wp_walk using wpAny_loadPart' hl, wpAny_loadPart' hb
    rw [show us[((i : Nat) : Int).toNat]? = some us[i] by simp [h1], show vs[((i : Nat) : Int).toNat]? = some vs[i] by simp [h2]]
    refine wpAny_bind (he i h1 h2 _ _ ?_)
    wp_walk
    rw [show ((i : Int) + 1) = ((i + 1 : Nat) : Int) from rfl]
    refine ⟨plainId_quiet plain_eq_loop _, codeAny_builtin entry_eq_loop ?_⟩
    rw [Around.under_plainId plain_eq_loop _]
    exact alike_loop hsz k (i + 1) (by omega) A R _ ⟨⟨hl, hb⟩, he, h⟩
theorem alike_ne {l b : Addr} {us vs : Array Value} {n n2 : Nat} {dd dd2 : Option Addr} {sl sl2 : Array (Option Value)} (hsz : us.size = vs.size) :
    MeetsIn prog w (Builtin.«list.__ne__» ⟨[.ref l, .ref b], []⟩)
      (fun A R s => (s.heap.get? l = some { cls := .type "list", dict := dd, data := .seq us n, slots := sl } ∧ s.heap.get? b = some { cls := .type "list", dict := dd2, data := .seq vs n2, slots := sl2 }) ∧
        (∀ j (h1 : j < us.size) (h2 : j < vs.size), EqP prog w A.in1 s us[j] vs[j] true) ∧ R (.ok (.ret (.bool false))) s) := by
  rintro A R ⟨hp, g, d, tk, os⟩ ⟨⟨hl, hb⟩, he, h⟩
  have f3 := AutoSeq1.sub_list_list
  have hne : ¬ (us.size != vs.size) = true := by simp [hsz]
  wp_walk using wpAny_loadPart' hl, wpAny_loadPart' hb
  refine ⟨plainId_quiet plain_eq_loop _, codeAny_builtin entry_eq_loop ?_⟩
  rw [Around.under_plainId plain_eq_loop _]
  exact alike_loop hsz us.size 0 (by omega) A R _ ⟨⟨hl, hb⟩, he, h⟩
end
end PySem.SeqAt
namespace KX
open PySem PySem.Spec PyProof.Rows L2
section
variable {X : Cx} {pins : List (Addr × Obj)} {σ : L2.St} {H : Hp} {s : Shared}
/-- the very same data at both -/
def Tw (H : Hp) (x y : V) : Prop := ∃ d : PyData, Dq H x d ∧ Dq H y d ∧ d.plain = true ∧ d.depth ≤ 8
theorem tw_at (I : Inv X pins σ H s) {A : Around} (hu : A.units + 8 < cLine) {x y : V} {v u : Value} (h : Tw H x y) (rx : RelV x v) (ry : RelV y u) : SeqAt.EqAt A s v u true := by
  obtain ⟨d, h1, h2, h3, h4⟩ := h
  obtain ⟨as, r1, _⟩ := Dq.reads I d x v h1 rx
  obtain ⟨bs, r2, _⟩ := Dq.reads I d y u h2 ry
  have := SeqAt.eqAt_plain d d A s v u as bs r1 r2 h3 h3 (by rw [Nat.min_self]; omega)
  rw [SeqAt.eqv_refl_plain d h3] at this
  exact this
/-- two dicts with the same data at the same keys -/
def TwD (H : Hp) (x y : V) : Prop := ∃ a b ks ls, x = .ref a ∧ y = .ref b ∧ a ≠ b ∧ H a = some (.dK ks) ∧ H b = some (.dK ls) ∧ ks.length = ls.length ∧ ∀ p ∈ ks, ∃ u, valV ls p.1 = some u ∧ Tw H p.2 u
theorem twd_at (I : Inv X pins σ H s) {A : Around} (hu : A.units + 10 < cLine) {x y : V} {v u : Value} (h : TwD H x y) (rx : RelV x v) (ry : RelV y u) : SeqAt.EqP X.prog X.w A s v u true := by
  obtain ⟨a, b, ks, ls, rfl, rfl, ne, ea, eb, hl, hp⟩ := h
  cases (show v = Value.ref a from rx)
  cases (show u = Value.ref b from ry)
  obtain ⟨_, ya, va, ra, da⟩ := (show ObjOk X.prog X.w H s.heap a (.dK ks) from I.hok a _ ea)
  obtain ⟨_, yb, vb, rb, db⟩ := (show ObjOk X.prog X.w H s.heap b (.dK ls) from I.hok b _ eb)
  refine SeqAt.eqP_refs ne fun E Q q => ?_
  refine PySem.W.rcP_dicts (knd := mixKind X.prog X.w) (r := true) ya yb da db (by omega) (fun _ => hits_run (F := Tw H) (fun x y v u h rx ry => (tw_at I (by show A.units + 1 + 8 < cLine; omega) h rx ry).eqP) rb ra hp) E Q ?_
  have e : va.length = vb.length := by rw [← ra.length, ← rb.length]; exact hl
  rw [show (va.length == vb.length && true) = true from by rw [e]; simp]
  exact q
/-- xs != ys, equal item by item -/
def rNeI (K : PySem.W.Frag) : R2 := fun x y H Q => ∃ a b xs ys, x = .ref a ∧ y = .ref b ∧ SqL K H a xs ∧ SqL K H b ys ∧ Paired (fun x y => Tw H x y ∨ TwD H x y) xs ys ∧ Q (.bl false) H
theorem op_neI (hu : X.A.units + 64 < cLine) : OpR X (compareOp .NotEq) (rNeI X.K) := by
  intro pins s σ H x y v u Q I rx ry h
  obtain ⟨a, b, xs, ys, rfl, rfl, ha, hb, hp, q⟩ := h
  cases rx
  cases ry
  obtain ⟨its, rv, ⟨⟨cls, dd, data, sl⟩, n, ho, hc, hd, hdat⟩, hz⟩ := I.list ha
  obtain ⟨its2, rv2, ⟨⟨cls2, dd2, data2, sl2⟩, n2, ho2, hc2, hd2, hdat2⟩, hz2⟩ := I.list hb
  simp only at hc hd hdat hc2 hd2 hdat2
  subst hc hdat hc2 hdat2
  show wpAny (model X.prog X.w) X.A (richCompare .NotEq (.ref a) (.ref b)) (EP X pins σ Q) X.xe s
  have lxy : xs.length = ys.length := hp.length
  have hsz : its.toArray.size = its2.toArray.size := by rw [List.size_toArray, List.size_toArray, ← rv.length, ← rv2.length]; exact lxy
  have ta : s.TypeIs (.ref a) "list" := ⟨_, ho, rfl⟩
  have tb : s.TypeIs (.ref b) "list" := ⟨_, ho2, rfl⟩
  refine wpAny_richCompare_same_room (op := .NotEq) ta tb F.slot_list_ne (call_meetsIn F.slot_list_ne ta F.entry_list_ne (F.args_list_ne_2 _ _) (SeqAt.alike_ne hsz) ⟨⟨ho, ho2⟩, fun j h1 h2 => ?_, (fun z => nomatch z), .bl false, H, I, rfl, q⟩) (by omega)
  · have k1 : j < its.length := by simpa using h1
    have k2 : j < its2.length := by simpa using h2
    have kx : j < xs.length := by rw [rv.length]; exact k1
    have ky : j < ys.length := by rw [rv2.length]; exact k2
    obtain ⟨u1, e1, r1⟩ := rv.get (List.getElem?_eq_getElem kx)
    obtain ⟨u2, e2, r2⟩ := rv2.get (List.getElem?_eq_getElem ky)
    have g1 : its.toArray[j] = u1 := by
      rw [List.getElem?_eq_getElem k1] at e1
      simpa using Option.some.inj e1
    have g2 : its2.toArray[j] = u2 := by
      rw [List.getElem?_eq_getElem k2] at e2
      simpa using Option.some.inj e2
    rw [g1, g2]
    obtain ⟨y', hy', hr⟩ := L.pair_at hp (List.getElem?_eq_getElem kx)
    rw [List.getElem?_eq_getElem ky] at hy'
    cases hy'
    rcases hr with hr | hr
    · exact (tw_at I (by show X.A.units + 1 + 8 < cLine; omega) hr r1 r2).eqP
    · exact twd_at I (by show X.A.units + 1 + 10 < cLine; omega) hr r1 r2
end
end KX

set_option Elab.async false
set_option linter.all false
set_option maxRecDepth 100000
set_option maxHeartbeats 4000000
set_option pp.maxSteps 400
namespace L
open PySem L2 KX
abbrev sBr : Stmt := top 43
abbrev nBr : List Str := ["made", "letters", "contents", "table", "first"]
theorem dq_nv {H : Hp} : ∀ m : List Nat, DqAll H (nv m) (nD m)
  | [] => .nil
  | x :: m => .cons (.int x) (dq_nv m)
theorem dq_tups {H : Hp} {ts : List Addr} {ms : List (List Nat)} (h : Paired (fun t m => H t = some (.tup (nv m))) ts ms) : DqAll H (ts.map V.ref) (ms.map tD) := by
  induction h with
  | nil => exact .nil
  | cons h _ ih => exact .cons (.tup h (dq_nv _)) ih
theorem tw_tups {H : Hp} {a b : Addr} {ts us : List Addr} {ms : List (List Nat)} (ea : H a = some (.lst (ts.map V.ref))) (eb : H b = some (.lst (us.map V.ref))) (h : Paired (fun t m => H t = some (.tup (nv m))) ts ms) (g : Paired (fun t m => H t = some (.tup (nv m))) us ms) : Tw H (.ref a) (.ref b) := by
  refine ⟨.list (ms.map tD), .lst ea (dq_tups h), .lst eb (dq_tups g), PyData.plain_of_canLay0 _ (SeqAt.canLay_of_shaped (tDs_shaped ms)), ?_⟩
  have := tD_depth ms
  simp only [PyData.depth]
  omega
theorem tw_list {H : Hp} {a b : Addr} {m : List Nat} (ea : H a = some (.lst (nv m))) (eb : H b = some (.lst (nv m))) : Tw H (.ref a) (.ref b) := by
  refine ⟨.list (nD m), .lst ea (dq_nv m), .lst eb (dq_nv m), PyData.plain_of_canLay0 _ (SeqAt.canLay_of_shaped (iL_shaped m)), ?_⟩
  simp only [PyData.depth, nD_depth]
  omega
theorem tw_int {H : Hp} (i : Int) : Tw H (.int i) (.int i) := ⟨.int i, .int i, .int i, rfl, by simp [PyData.depth]⟩
def spBr (CF : Addr) : Sp := fun vs H Q _ => ∃ (m : Addr) (n : Nat) (l cl : Addr) (bs : List Addr) (L : Ltt) (S : List En), vs = [.ref m, .ref l, .ref cl] ∧ TrA CF H m n L S ∧ LOk n L ∧ NmOk L ∧ Gv H l L ∧ Fnd n L S ∧
  H cl = some (.lst (bs.map V.ref)) ∧ Paired (fun b (e : En) => H b = some (.tup (nv e.1))) bs S ∧ ∀ H', Same H H' → Q (.bl true) H'
section
variable {P : Program} {w : World} {K : PySem.W.Frag} {mg : Str → Option Value} {base : Heap} {f f1 f2 f3 f4 fE g1 g2 : Addr} {fd d1 d2 d3 d4 dE e1 e2 : FuncData} {C CF CO : Addr}
theorem scBr : FnScope nBr ["made", "letters", "contents"] (defScope sBr) := ⟨rfl, rfl, rfl, by decide +kernel, rfl, by decide +kernel, by decide +kernel⟩
theorem ok_br (F : Fun K "_law_between_right" "_law_between_right" sBr f fd) (M : Mn mg) (U : TfX K CF)
    (G1 : FnOk P w K mg base CX0 7 f1 d1 ["self"] (spTt K C CF)) (b1 : Binds K d1 ["self"] []) (h1 : Meth K CF "table" f1)
    (G2 : FnOk P w K mg base CX0 1 f2 d2 ["self"] (spCt CF)) (b2 : Binds K d2 ["self"] []) (h2 : Meth K CF "contents" f2)
    (G3 : FnOk P w K mg base CX0 1 f3 d3 ["self"] (spLs CF)) (b3 : Binds K d3 ["self"] []) (h3 : Meth K CF "letters" f3)
    (G4 : FnOk P w K mg base CX0 3 f4 d4 ["self", "state", "word"] (spRu K CF)) (b4 : Binds K d4 ["self", "state", "word"] []) (h4 : Meth K CF "run" f4)
    (GE : FnOk P w K mg base CX0 1 fE dE ["self", "other"] (spTe CF)) (bE : Binds K dE ["self", "other"] []) (hEq : PySem.W.findIn K (.ref CF) "__eq__" = some (some (.ref fE))) (fEq : PySem.W.isFn K (.ref fE) = true)
    (hL1 : PySem.W.findIn K (.ref C) "__len__" = some (some (.ref g1))) (tL1 : PySem.W.typeIn K (.ref g1) = some (.type "function")) (GL1 : FnOk P w K mg base CX0 1 g1 e1 ["self"] (spLenM K C)) (bL1 : Binds K e1 ["self"] [])
    (hL2 : PySem.W.findIn K (.ref CF) "__len__" = some (some (.ref g2))) (tL2 : PySem.W.typeIn K (.ref g2) = some (.type "function")) (GL2 : FnOk P w K mg base CX0 1 g2 e2 ["self"] (spTl CF)) (bL2 : Binds K e2 ["self"] []) :
    FnOk P w K mg base CX0 8 f fd ["made", "letters", "contents"] (spBr CF) := by
  refine F.ok scBr (fun vs H Q E h => ?_) (fun cdv A outer s H vs Q E hr h => ?_)
  · obtain ⟨m, n, l, cl, bs, L, S, rfl, _⟩ := h
    rfl
  obtain ⟨m, n, l, cl, bs, L, S, rfl, ht, o, no, hG, fn, ec, pC, q⟩ := h
  have hr1 : Room 1 _ := hr.mono (by decide)
  have hr2 : Room 2 _ := hr.mono (by decide)
  have hr3 : Room 3 _ := hr.mono (by decide)
  have hr7 : Room 7 _ := hr
  have hu := hr.units
  have hu1 : (A.deeper (PyProof.Rows.envOfC "_law_between_right" (defScope sBr) s.heap.objs.size f cdv)).units + 1 < cLine := by omega
  refine ⟨_, (pss_cons (ps_par (i := 3) (j := 4) (by rfl) scBr.nd rfl rfl (by decide) rfl rfl (pa_cons (pe_meth0 (pv 0) U.cl h1 G1 hr7 b1 .nil pass0) (pa_cons (pe_slice sl_list (pe_callTy (call_listD rfl) (by rfl) M.list (by decide +kernel) (pa_cons (pv 1) pa_nil)) po_none (po_some pe_int)) pa_nil)) (by rfl)) (pss_cons (ps_if (pt_cmpR (op_neI hu) (pe_lst (pa_cons (pe_meth0 (pv 0) U.cl h2 G2 hr1 b2 .nil pass0) (pa_cons (pe_meth0 (pv 0) U.cl h3 G3 hr1 b3 .nil pass0) (pa_cons (pe_callB (call_lenOwn hL2 tL2 GL2 hr2 bL2) (by rfl) M.len PySem.boot_len (pa_cons (pv 0) pa_nil)) (pa_cons (pe_callB (call_lenOwn hL1 tL1 GL1 hr2 bL1) (by rfl) M.len PySem.boot_len (pa_cons (pv 3) pa_nil)) pa_nil))))) (pe_lst (pa_cons (pv 2) (pa_cons (pv 1) (pa_cons (pe_callB (lenl (K := K) rfl) (by rfl) M.len PySem.boot_len (pa_cons (pv 2) pa_nil)) (pa_cons (pe_callB (lenl (K := K) rfl) (by rfl) M.len PySem.boot_len (pa_cons (pv 2) pa_nil)) pa_nil))))) (nomark _)) (pss_one (ps_ret pe_bl)) pss_nil) (pss_one (ps_ret (pe_and (pe_cmpR op_eq (pe_meth (pv 0) U.cl h4 G4 hr3 b4 .nil pass0 (pa_cons pe_int (pa_cons (pv 4) pa_nil))) (pe_ix (ixl (K := K) rfl) (pe_dget (by exact hu1) (pv 1) (pe_ix (ixl (K := K) rfl) (pv 4) pe_int (fun _ _ => rfl)) (fun _ _ => rfl)) pe_int (fun _ _ => rfl)) (nomark _)) (pe_one (pe_cmpR (op_eqO GE hr1 hEq fEq bE) (pv 0) (pv 0) (nomark _)))))))), ?_⟩
  obtain ⟨kvs, eg, pr⟩ := id hG
  have s1' := fn.ne o
  have s16 := fn.le
  have ll1 := o.le
  have n1 := o.n1
  have lk : kvs.length = L.length := pr.length
  obtain ⟨q0, L', eL⟩ : ∃ a r, L = a :: r := by
    cases L with
    | nil => exact absurd ll1 (by simp)
    | cons a r => exact ⟨_, _, rfl⟩
  have hq0 : q0 ∈ L := by rw [eL]; exact List.mem_cons_self
  obtain ⟨dx, _, _, _, em, _⟩ := id ht.ob
  refine ⟨_, rfl, m, _, _, rfl, em, rfl, m, n, L, S, rfl, ht, o, fn, fun x G1 hx tX s1 => ⟨_, rfl, l, kvs, rfl, .inl (s1 _ _ eg), fun D1 hD1 => ⟨_, rfl, D1, _, rfl, SqL.of upd_same, fun D2 hD2 => ⟨_, _, rfl, ?_⟩⟩⟩⟩
  rw [gv_keys pr]
  have ecut : cutV (L.map fun q => V.str q.1) none (some 1) = [.str q0.1] := by
    show cutV (L.map fun q => V.str q.1) none (some ((1 : Nat) : Int)) = _
    unfold cutV
    rw [HT.sIx_none, HT.sIx_nat, eL]
    simp only [List.map_cons, List.length_cons, List.drop_zero, Nat.sub_zero]
    rw [show min 1 ((List.map (fun q : Str × List Nat => V.str q.1) L').length + 1) = 1 by omega]
    rfl
  rw [ecut]
  have u12 := (Same.new hD1 (.lst (L.map fun q => V.str q.1)))
  rw [gv_keys pr] at hD2
  have s2 := s1.trans (u12.trans (Same.new hD2 (.lst [.str q0.1])))
  have eD2 := upd_same (H := upd G1 D1 (.lst (L.map fun q => V.str q.1))) (a := D2) (o := .lst [.str q0.1])
  have tX2 := tX.to (u12.trans (Same.new hD2 (.lst [.str q0.1])))
  generalize upd (upd G1 D1 (.lst (L.map fun q => V.str q.1))) D2 (.lst [.str q0.1]) = G2 at s2 eD2 tX2 ⊢
  have ltb := tab_len S.length (fmp (keys S))
  generalize tab S.length (fmp (keys S)) = tb at tX2 ltb
  obtain ⟨dxx, _, _, exx, _, _⟩ := id tX2.ob
  refine ⟨_, rfl, m, _, _, rfl, s2 _ _ em, rfl, m, n, L, S, rfl, ht.to s2, fun D3 bs3 G3 s3 hD3 eD3 pr3 => ?_⟩
  have s23 := s2.trans s3
  refine ⟨_, rfl, m, _, _, rfl, s23 _ _ em, rfl, m, n, L, S, rfl, ht.to s23, o, no, fun D5 kv5 G4 s4 hD5 eD5 pr5 => ?_⟩
  have s24 := s23.trans s4
  have s34 := s3.trans s4
  refine ⟨_, rfl, m, _, _, rfl, s24 _ _ em, m, n, L, S, rfl, ht.to s24, _, rfl, by omega, ?_⟩
  refine ⟨_, rfl, x, _, _, rfl, s34 _ _ exx, x, tb, rfl, tX2.to s34, _, rfl, by omega, ?_⟩
  refine ⟨szl _ (by simp), fun Y1 hY1 => ?_⟩
  have s5 := Same.new hY1 (.lst [.ref D3, .ref D5, .int ((S.length : Nat) : Int), .int ((tb.length : Nat) : Int)])
  have ec5 := s5 _ _ (s24 _ _ ec)
  refine ⟨_, rfl, _, rfl, _, rfl, cl, _, rfl, .inl (SqL.of ec5), _, rfl, cl, _, rfl, .inl (SqL.of ec5), szl _ (by simp), fun Y2 hY2 => ?_⟩
  have lbs : bs.length = S.length := pC.length
  rw [List.length_map, lbs]
  have s6 := Same.new hY2 (.lst [.ref cl, .ref l, .int ((S.length : Nat) : Int), .int ((S.length : Nat) : Int)])
  have s56 := s5.trans s6
  have hl4 : G3 l = some (.dK kvs) := s23 _ _ eg
  have n5l : D5 ≠ l := (ne_of_none hl4 hD5).symm
  have s26 := s24.trans s56
  refine ⟨Y1, Y2, _, _, rfl, rfl, SqL.of (s6 _ _ upd_same), SqL.of upd_same, .cons (.inl (tw_tups (ms := keys S) (s56 _ _ (s4 _ _ eD3)) (s26 _ _ ec) (L2.Paired.mapP (keys_pair pr3) fun _ _ z => s56 _ _ (s34 _ _ z)) (L2.Paired.mapP (keys_pair pC) fun _ _ z => s26 _ _ z))) (.cons (.inr ⟨D5, l, kv5, kvs, rfl, rfl, n5l, s56 _ _ eD5, s26 _ _ eg, by rw [lk]; exact pr5.length, fun kv hkv => ?_⟩) (.cons (.inl (tw_int _)) (.cons (.inl (by rw [ltb]; exact tw_int _)) .nil))), ?_⟩
  · obtain ⟨i, hi, ei⟩ := List.mem_iff_getElem.mp hkv
    obtain ⟨q1, hq1, e1, b1, e2, eb1⟩ := pair_at pr5 (List.getElem?_eq_getElem hi)
    rw [ei] at e1 e2
    have hqm := List.mem_of_getElem? hq1
    obtain ⟨b2, h1, h2⟩ := gv_at pr no (List.mem_map.mpr ⟨q1, hqm, rfl⟩)
    rw [tg_of no hqm] at h2
    exact ⟨.ref b2, by rw [e1]; exact h1, by rw [e2]; exact tw_list (s56 _ _ eb1) (s26 _ _ h2)⟩
  refine ⟨_, rfl, iteFf rfl ?_⟩
  have hz : ∀ z, z ∈ [q0.1] → z ∈ L.map (·.1) := fun z hz => by rw [List.mem_singleton.mp hz]; exact List.mem_map.mpr ⟨q0, hq0, rfl⟩
  have rng : cmp (List.range n) q0.2 = q0.2 := cmp_id (o.mp q0 hq0)
  have emw : mapW n L [q0.1] = q0.2 := by
    show cmp (List.range n) (tg L q0.1) = q0.2
    rw [tg_of no hq0, rng]
  have sD := s34.trans s56
  obtain ⟨b2, h1, h2⟩ := gv_at pr no (List.mem_map.mpr ⟨q0, hq0, rfl⟩)
  rw [tg_of no hq0] at h2
  refine ⟨_, rfl, m, _, _, rfl, s26 _ _ em, rfl, _, rfl, m, D2, 0, n, L, S, [q0.1], rfl, ht.to s26, o, no, SqL.of (sD _ _ eD2), by simp, by simp, hz, by omega, fun G7 s7 => ?_⟩
  have s27 := s26.trans s7
  have gd : DGet G7 l (.str q0.1) (valV kvs (Sum.inr q0.1)) := DGet.k (k := Sum.inr q0.1) (s27 _ _ eg)
  rw [h1] at gd
  refine ⟨_, rfl, _, rfl, D2, [.str q0.1], _, _, rfl, rfl, SqL.of (s7 _ _ (sD _ _ eD2)), at_of (j := 0) rfl rfl, l, _, rfl, gd, b2, nv q0.2, _, _, rfl, rfl, SqL.of (s27 _ _ h2), at_of (j := 0) rfl (nv_get (o.mp q0 hq0) (by omega)), ?_⟩
  rw [emw]
  refine ⟨rfl, _, rfl, iteTt (decide_eq_true rfl) ?_⟩
  exact ⟨_, rfl, _, rfl, m, m, _, _, _, _, rfl, rfl, s27 _ _ em, s27 _ _ em, m, m, n, L, S, S, rfl, ht.to s27, ht.to s27, o, _, rfl, q _ s27⟩
end
end L

set_option Elab.async false
set_option linter.all false
set_option maxRecDepth 100000
set_option maxHeartbeats 4000000
/-! Own layer: enumerate over a tuple. -/
namespace PySem
theorem meets_enumerate_newT (l : Addr) (items : Array Value) :
    Meets (Builtin.«enumerate.__new__» ⟨[.type "enumerate", .ref l], []⟩) (fun _ R s => s.heap.IsTuple l items ∧
      R (.ok (.ret (.ref (s.heap.push { cls := .type "tuple_iterator", data := .fields #[.ref l, .int 0 0] }).objs.size)))
        { s with heap := (s.heap.push { cls := .type "tuple_iterator", data := .fields #[.ref l, .int 0 0] }).push { cls := .type "enumerate", data := .fields #[.none, .bool false, .ref s.heap.objs.size, rawInt 0, .none, .none] } }) :=
  .of_wp fun prog w A R s h => by
    obtain ⟨hp, g, d, tk, os⟩ := s; obtain ⟨hL, h⟩ := h
    have hsub := sub_enumerate
    replace hL : Heap.IsTuple (Shared.heap ⟨hp, g, d, tk, os⟩) l items := hL
    obtain ⟨o, hl, hc, n, hd⟩ := id hL
    wp_walk using wpAny_loadPart' hl
    refine wpAny_stack_any fun st => wpAny_pure ?_
    split
    · rename_i c _ _ _ _ _
      cases (c == Value.type "enumerate")
      · wp_walk using wpAny_loadPart' hl, wpAny_pyIter_tuple hL
        exact ⟨_, rfl, h⟩
      · wp_walk using wpAny_loadPart' hl, wpAny_pyIter_tuple hL
        exact ⟨_, rfl, h⟩
    · wp_walk using wpAny_loadPart' hl, wpAny_pyIter_tuple hL
      exact ⟨_, rfl, h⟩
section
variable {prog : Program} {w : World} {A : Around} {E : Value → Shared → Prop} {s : Shared}
theorem call_enumerate_tuple {l : Addr} {items : Array Value} {Q : Value → Shared → Prop} (hL : s.heap.IsTuple l items)
    (h : ∀ h', IsEnum h' (s.heap.objs.size + 1) s.heap.objs.size 0 .none → h'.IsTupleIter s.heap.objs.size l 0 → h'.objs.size = s.heap.objs.size + 2 →
      (∀ b o, s.heap.get? b = some o → h'.get? b = some o) → Q (.ref (s.heap.objs.size + 1)) { s with heap := h' }) :
    wpAny (model prog w) A (call (.type "enumerate") [.ref l]) Q E s := by
  refine callType_new F.called_enumerate (by decide) (F.typeCall_enumerate_1 _) (F.newCall_enumerate_1 _) (fun obj => F.args_object_init_2 obj _) F.entry_enumerate_new
    (meets_enumerate_newT l items) ⟨hL, ?_⟩
  have hz : (s.heap.push { cls := .type "tuple_iterator", data := .fields #[.ref l, .int 0 0] }).objs.size = s.heap.objs.size + 1 := Heap.size_push ..
  show _ ∧ _
  rw [hz]
  have he : IsEnum ((s.heap.push { cls := .type "tuple_iterator", data := .fields #[.ref l, .int 0 0] }).push
      { cls := .type "enumerate", data := .fields #[.none, .bool false, .ref s.heap.objs.size, rawInt 0, .none, .none] }) (s.heap.objs.size + 1) s.heap.objs.size 0 .none := by
    have := Heap.get?_push_size (s.heap.push { cls := .type "tuple_iterator", data := .fields #[.ref l, .int 0 0] })
      (o := { cls := .type "enumerate", data := .fields #[.none, .bool false, .ref s.heap.objs.size, rawInt 0, .none, .none] }) rfl
    rw [hz] at this; exact this
  refine ⟨⟨_, he, rfl⟩, h _ he ⟨_, Heap.get?_push_of_some _ (Heap.get?_push_size _ rfl), rfl, rfl⟩ (by rw [Heap.size_push, hz]) fun b o x => Heap.get?_push_of_some _ (Heap.get?_push_of_some _ x)⟩
theorem wpAny_pyNext_enum_endT {e it a : Addr} {i : Nat} {items : Array Value} {j : Int} {old : Value} {Q : Option Value → Shared → Prop} (hh : A.in1.handled = none)
    (he : IsEnum s.heap e it j old) (hit : s.heap.IsTupleIter it a i) (ht : s.heap.IsTuple a items) (hx : items[i]? = none)
    (hQ : ∀ h', Heap.ExtBut it s.heap h' → Q none { s with heap := h' }) : wpAny (model prog w) A (pyNext (.ref e)) Q E s := by
  have hT : s.TypeIs (.ref e) "enumerate" := ⟨_, he, rfl⟩
  unfold pyNext
  refine wpAny_bind (wpAny_attempt (wpAny_callSpecial?_slot (name := Str.ofString "__next__") hT F.slot_enumerate_next
    (wpAny_call_entry F.slot_enumerate_next hT F.entry_enumerate_next ?_ (F.args_enumerate_next_1 _))))
  show wpAny _ _ (field (.ref e) 2 >>= _) _ _ _
  refine wpAny_bind (wpAny_field he rfl (x := .ref it) rfl ?_)
  refine wpAny_bind (wpAny_nextOf_tuple_end hh hit ht hx fun h' x he' hx' => ?_)
  obtain ⟨o, ho, hc⟩ := hx'
  refine wpAny_bind (wpAny_isInstance (T := "StopIteration") (b := true) ⟨o, ho, hc⟩ isSubtype_stop ?_)
  exact wpAny_pure (hQ _ he')
end
end PySem
namespace KX
open PySem PySem.Spec PyProof.Rows L2
def IteT (K : PySem.W.Frag) (a : Addr) : It :=
  ⟨fun i H => ∃ (xs : List V) (x : V), SqT K H a xs ∧ xs[i]? = some x, fun i H v H' => ∃ T x, v = .ref T ∧ H T = none ∧ H' = upd H T (.tup [.int (i : Nat), x]) ∧ ∀ xs, SqT K H a xs → xs[i]? = some x, fun i H => ∃ xs : List V, SqT K H a xs ∧ xs.length ≤ i⟩
theorem tuple_injK {X : Cx} {pins : List (Addr × Obj)} {σ : L2.St} {H : Hp} {s : Shared} (I : Inv X pins σ H s) {a : Addr} {xs ys : List V} (h1 : SqT X.K H a xs) (h2 : SqT X.K H a ys) : xs = ys := by
  obtain ⟨its, rv, p, hz⟩ := I.tuple h1
  obtain ⟨its', rv', p', hz'⟩ := I.tuple h2
  have p1 : s.heap.IsTuple a its.toArray := p
  have p2 : s.heap.IsTuple a its'.toArray := p'
  obtain ⟨o, e1, _, n1, d1⟩ := p1
  obtain ⟨o', e2, _, n2, d2⟩ := p2
  rw [e1] at e2
  cases e2
  rw [d1] at d2
  injection d2 with d3 _
  have : its = its' := by simpa using congrArg Array.toList d3
  subst this
  exact rv.inj rv'
theorem turn_enumT {P : Program} {w : World} {K : PySem.W.Frag} {elts : List Expr} {kk : Nat} {tpos : Pos} (a e it : Addr) (hai : a ≠ it) :
    Turn P w K (.Tuple elts kk tpos) (IteT K a) [e, it] e (fun i h => (∃ old, IsEnum h e it ((i : Nat) : Int) old) ∧ h.IsTupleIter it a i ∧ e ≠ it ∧ e ≠ a) where
  mem := by simp
  obj := fun i h st b hb => by
    obtain ⟨⟨old, he⟩, ⟨o, ho, hc, hd⟩, _⟩ := st
    have e' : b = e ∨ b = it := by simpa using hb
    rcases e' with z | z
    · rw [z]; exact ⟨_, he, fun v q => nomatch q⟩
    · rw [z]; exact ⟨o, ho, fun v q => by rw [hd] at q; cases q⟩
  keep := fun i h h' st k => let ⟨⟨old, he⟩, hi, hne⟩ := st; ⟨⟨old, k e (by simp) _ he⟩, hi.at fun o q => k it (by simp) o q, hne⟩
  item := by
    intro X hP hw hK hc i pins s σ H E I hf st hg
    subst hP hw hK
    obtain ⟨⟨old, he⟩, hit, hne, hea⟩ := st
    obtain ⟨xs, x, hq, hx⟩ := hg
    obtain ⟨its, rv, p, hz⟩ := I.tuple hq
    obtain ⟨u, hu, ru⟩ := rv.get hx
    have hel : e < s.heap.objs.size := Heap.lt_size he
    have hil : it < s.heap.objs.size := by obtain ⟨_, q, _⟩ := hit; exact Heap.lt_size q
    have p' : s.heap.IsTuple a its.toArray := p
    have hlt : i < its.toArray.size := by
      have := (List.getElem?_eq_some_iff.mp hu).1
      simpa using this
    refine wpAny_pyNext_enum_itemD (Draws.tuple (prog := X.prog) (w := X.w) (A := X.A.in1) (I.ok.hd hc) it a hai its.toArray) he ⟨hit, p'⟩ hlt hne (by simp [hne, hea]) fun v h' tk hP ho hit' hT hsz hk => ?_
    have ev : v = u := by
      have h1 : its.toArray[i]? = some v := hP
      have h2 : its.toArray[i]? = some u := by simpa using hu
      rw [h1] at h2
      exact Option.some.inj h2
    subst ev
    refine ⟨_, rfl, wpAny_letOwnedTupleGo_enum (s := { s with heap := h', toks := tk + 1 }) ho fun h'' he' sb => ?_⟩
    have hT2 : h''.get? s.heap.objs.size = some { cls := .type "tuple", data := .seq #[.int i tk, v] } := (sb.2 _ (Nat.ne_of_gt hel)).trans hT
    have new : ObjOk X.prog X.w (upd H s.heap.objs.size (.tup [.int (i : Nat), x])) h'' s.heap.objs.size (.tup [.int (i : Nat), x]) :=
      ⟨by show 2 ≤ sizeLine; decide, [.int i tk, v], .cons ⟨_, rfl⟩ (.cons ru .nil), ⟨_, hT2, rfl, _, rfl⟩⟩
    have I1 : Inv X pins σ (upd H s.heap.objs.size (.tup [.int (i : Nat), x])) { s with heap := h'', toks := tk + 1 } :=
      I.turnedNew (ch := [e, it]) (fun b ob hb q => (sb.2 b (fun z => hb (by simp [z]))).trans (hk b ob (fun z => hb (by simp [z])) (fun z => hb (by simp [z])) q)) hf (Nat.le_refl _) new
    refine ⟨.ref s.heap.objs.size, _, I1, rfl, ⟨_, x, rfl, I.hok.fresh (Nat.le_refl _), rfl, fun ys hy => by rw [tuple_injK I hy hq]; exact hx⟩, ⟨⟨v, ?_⟩, hit'.1.at fun o q => (sb.2 it (Ne.symm hne)).trans q, hne, hea⟩, fun b hb => ?_⟩
    · have e1 : ((i + 1 : Nat) : Int) = (i : Int) + 1 := by omega
      rw [e1]; exact he'
    · have hb' : b < s.heap.objs.size := by
        have e' : b = e ∨ b = it := by simpa using hb
        rcases e' with z | z
        · rw [z]; exact hel
        · rw [z]; exact hil
      rw [upd_ne (Nat.ne_of_lt hb')]
      exact (hf b hb).1
  done := by
    intro X hP hw hK hc i pins s σ H E I hf st hg
    subst hP hw hK
    obtain ⟨⟨old, he⟩, hit, hne, hea⟩ := st
    obtain ⟨xs, hq, hx⟩ := hg
    obtain ⟨its, rv, p, hz⟩ := I.tuple hq
    obtain ⟨f0, f1, f2, f3, f4, f5⟩ := hf it (by simp)
    have hl := rv.length
    exact wpAny_pyNext_enum_endT (I.ok.hd hc) he hit (show s.heap.IsTuple a its.toArray from p) (by simp; omega) fun h' eb => ⟨rfl, I.turned (t' := s.toks) (fun b o hb q => eb b o hb q) f0 f1 f3 f4 f5⟩
  self := fun A i s Q E st h => let ⟨⟨_, he⟩, _⟩ := st; wpAny_pyIter_enum he h
/-- enumerate of a list or of a tuple -/
structure IEn (K : PySem.W.Frag) (ta : TA) (σ : L2.St) (H : Hp) (R : It → Hp → Prop) : Prop where
  ob : ta σ H fun vs H1 => ∃ a xs, vs = [.ref a] ∧ ((SqL K H1 a xs ∧ R (Ite K a) H1) ∨ (SqT K H1 a xs ∧ R (IteT K a) H1))
def iEnumS (K : PySem.W.Frag) (ta : TA) : TI := fun σ H R => IEn K ta σ H R
theorem pi_enumS {X : Cx} {e : Expr} {ta : TA} {p pos tpos : Pos} {elts : List Expr} {kk : Nat} (hg : Gl X "enumerate") (hm : X.mg "enumerate" = none) (ha : PA X [e] ta) (hs : starEach [e] X.env = [(false, eval e X.env)] := by rfl) :
    PI X (.Tuple elts kk tpos) (.Call (.Name "enumerate" p) [e] [] pos) (iEnumS X.K ta) := by
  refine ⟨fun pins s σ H R I h => ?_⟩
  refine Call_ (ld_blt I hg hm boot_enumerate (PyProof.Rows.callWith_type1 (thn (ha.run pos pins s σ H _ I h.ob) fun us s1 ⟨vs, H1, I1, r1, q1⟩ => ?_) hs rfl))
  obtain ⟨a, xs, ex, q1⟩ := q1
  subst ex
  cases r1 with
  | cons r rr =>
    cases rr
    cases r
    rcases q1 with ⟨hq, q⟩ | ⟨hq, q⟩
    · obtain ⟨its, rv, p', hz⟩ := I1.list hq
      refine call_enumerate_list p'.isList fun h' he hit hsz hk => wpAny_pyIter_enum he ?_
      have I2 : Inv X pins σ H1 { s1 with heap := h' } := I1.kept (t' := s1.toks) hk
      refine ⟨s1.heap.objs.size + 1, [s1.heap.objs.size + 1, s1.heap.objs.size], _, _, H1, rfl, I2, turn_enum a (s1.heap.objs.size + 1) s1.heap.objs.size, ⟨⟨.none, he⟩, hit, Nat.succ_ne_self _⟩, fun b hb => ?_, q⟩
      have e' : b = s1.heap.objs.size + 1 ∨ b = s1.heap.objs.size := by simpa using hb
      have hle : s1.heap.objs.size ≤ b := by
        rcases e' with z | z
        · rw [z]; exact Nat.le_add_right _ _
        · rw [z]; exact Nat.le_refl _
      exact I1.fpOk hle (I1.hok.fresh hle)
    · obtain ⟨its, rv, p', hz⟩ := I1.tuple hq
      have p2 : s1.heap.IsTuple a its.toArray := p'
      have hal : a < s1.heap.objs.size := by obtain ⟨_, e1, _⟩ := id p2; exact Heap.lt_size e1
      refine call_enumerate_tuple p2 fun h' he hit hsz hk => wpAny_pyIter_enum he ?_
      have I2 : Inv X pins σ H1 { s1 with heap := h' } := I1.kept (t' := s1.toks) hk
      refine ⟨s1.heap.objs.size + 1, [s1.heap.objs.size + 1, s1.heap.objs.size], _, _, H1, rfl, I2, turn_enumT a (s1.heap.objs.size + 1) s1.heap.objs.size (Nat.ne_of_lt hal), ⟨⟨.none, he⟩, hit, Nat.succ_ne_self _, (Nat.ne_of_lt (Nat.lt_succ_of_lt hal)).symm⟩, fun b hb => ?_, q⟩
      have e' : b = s1.heap.objs.size + 1 ∨ b = s1.heap.objs.size := by simpa using hb
      have hle : s1.heap.objs.size ≤ b := by
        rcases e' with z | z
        · rw [z]; exact Nat.le_add_right _ _
        · rw [z]; exact Nat.le_refl _
      exact I1.fpOk hle (I1.hok.fresh hle)
theorem walk_enumT {K : PySem.W.Frag} {a : Addr} {xs : List V} : Walk (IteT K a) xs.length (fun H => SqT K H a xs) (YPair (fun i => some (.int (i : Nat))) (fun i => xs[i]?)) := by
  refine ⟨fun i _ hi q => ⟨xs, xs[i], q, by simp [hi]⟩, fun _ q => ⟨xs, q, Nat.le_refl _⟩, fun i H v H' _ q y => ?_⟩
  obtain ⟨T, x, h1, h2, h3, h4⟩ := y
  exact ⟨T, .int (i : Nat), x, h1, h2, h3, rfl, h4 xs q⟩
end KX

set_option Elab.async false
set_option linter.all false
set_option maxRecDepth 100000
set_option maxHeartbeats 4000000
set_option pp.maxSteps 400
namespace L
open PySem L2 KX
abbrev sRg : Stmt := top 44
abbrev nRg : List Str := ["box", "made", "size", "letters", "contents", "firsts", "element", "word", "turn", "told", "names", "many", "k"]
/-- the elements' words -/
structure Gw (n : Nat) (L : Ltt) (S lr : List En) : Prop where
  s : ∀ e, e ∈ S → e.1 = mapW n L e.2 ∧ 1 ≤ e.2.length ∧ e.2.length ≤ S.length
  l : ∀ e, e ∈ lr → e.1 = mapW n L e.2 ∧ e.2.length ≤ S.length
theorem inn_gw {n : Nat} {L : Ltt} (no : NmOk L) {st : En} (hs : st.1 = mapW n L st.2) : ∀ {r : Ltt} {S lg S' lg' : List En}, st.2.length ≤ S.length → (∀ q, q ∈ r → q ∈ L) → Gw n L S lg → inn st r S lg = some (S', lg') → S.length ≤ S'.length ∧ Gw n L S' lg'
  | [], S, lg, S', lg', _, _, h, e => by
    have e := Option.some.inj e
    rw [Prod.mk.injEq] at e
    rw [← e.1, ← e.2]; exact ⟨Nat.le_refl _, h⟩
  | q :: r, S, lg, S', lg', hl, hr, h, e => by
    have hr' : ∀ q, q ∈ r → q ∈ L := fun x hx => hr x (List.mem_cons_of_mem _ hx)
    rw [inn_cons] at e
    split at e
    · exact inn_gw no hs hl hr' h e
    · split at e
      · cases e
      · have em : (new st q).1 = mapW n L (new st q).2 := by
          show cmp st.1 q.2 = mapW n L (st.2 ++ [q.1])
          rw [mapW_snoc, tg_of no (hr q List.mem_cons_self), hs]
        have el : (new st q).2.length = st.2.length + 1 := by show (st.2 ++ [q.1]).length = _; rw [List.length_append]; rfl
        have ln : (S ++ [new st q]).length = S.length + 1 := by rw [List.length_append]; rfl
        have := inn_gw no hs (S := S ++ [new st q]) (lg := lg ++ [new st q]) (by omega) hr' ⟨fun x hx => by
          rcases List.mem_append.mp hx with k | k
          · obtain ⟨a, b, c⟩ := h.s x k
            exact ⟨a, b, by omega⟩
          · rw [List.mem_singleton.mp k]; exact ⟨em, by omega, by omega⟩, fun x hx => by
          rcases List.mem_append.mp hx with k | k
          · obtain ⟨a, c⟩ := h.l x k
            exact ⟨a, by omega⟩
          · rw [List.mem_singleton.mp k]; exact ⟨em, by omega⟩⟩ e
        exact ⟨by omega, this.2⟩
theorem lay_gw {n : Nat} {L : Ltt} (no : NmOk L) : ∀ {lr S lg S' lg' : List En}, (∀ e, e ∈ lr → e.1 = mapW n L e.2 ∧ e.2.length ≤ S.length) → Gw n L S lg → lay L lr S lg = some (S', lg') → Gw n L S' lg'
  | [], S, lg, S', lg', _, h, e => by
    have e := Option.some.inj e
    rw [Prod.mk.injEq] at e
    rw [← e.1, ← e.2]; exact h
  | st :: r, S, lg, S', lg', hl, h, e => by
    rw [lay_cons] at e
    cases hi : inn st L S lg with
    | none => rw [hi] at e; cases e
    | some p =>
      rw [hi] at e
      obtain ⟨a, b⟩ := hl st List.mem_cons_self
      obtain ⟨k1, k2⟩ := inn_gw no a b (fun _ h => h) h (S' := p.1) (lg' := p.2) hi
      exact lay_gw no (fun x hx => by
        obtain ⟨c, d⟩ := hl x (List.mem_cons_of_mem _ hx)
        exact ⟨c, by omega⟩) k2 e
theorem Bf.gw {n : Nat} {L : Ltt} (no : NmOk L) {S lr : List En} {r : Option (List En)} (h : Bf L S lr r) : Gw n L S lr → ∀ R, r = some R → Gw n L R [] := by
  induction h with
  | done S => intro g R e; rw [← Option.some.inj e]; exact ⟨g.s, fun x hx => by cases hx⟩
  | over => intro _ R e; cases e
  | next _ e _ ih =>
    intro g R er
    exact ih (lay_gw no g.l ⟨g.s, fun x hx => by cases hx⟩ e) R er
theorem Res.gw {n : Nat} {L : Ltt} {S : List En} (no : NmOk L) (h : Res n L (some S)) : ∀ e, e ∈ S → e.1 = mapW n L e.2 ∧ 1 ≤ e.2.length ∧ e.2.length ≤ S.length :=
  (Bf.gw no h ⟨fun x hx => (by cases hx), fun x hx => by rw [List.mem_singleton.mp hx]; exact ⟨rfl, Nat.le_refl _⟩⟩ S rfl).s
theorem mapW_in {n : Nat} {L : Ltt} {S : List En} (o : LOk n L) (no : NmOk L) (fn : Fnd n L S) {zs : List Str} (h1 : 1 ≤ zs.length) (hz : ∀ z, z ∈ zs → z ∈ L.map (·.1)) : mapW n L zs ∈ keys S := by
  have lt : ∀ z, z ∈ L.map (·.1) → tg L z ∈ keys S := fun z h => by
    obtain ⟨q, h1, _, h3⟩ := tg_in h
    rw [← h3]; exact fn.lt q h1
  have go : ∀ (zs : List Str) (m : List Nat), (∀ z, z ∈ zs → z ∈ L.map (·.1)) → m ∈ keys S → zs.foldl (fun m z => cmp m (tg L z)) m ∈ keys S := by
    intro zs
    induction zs with
    | nil => intro m _ h; exact h
    | cons z zs ih => intro m hz h; exact ih _ (fun x hx => hz x (List.mem_cons_of_mem _ hx)) (fn.cl.cl _ h _ (lt z (hz z List.mem_cons_self)))
  cases zs with
  | nil => exact absurd h1 (by simp)
  | cons z zs =>
    show zs.foldl (fun m z => cmp m (tg L z)) (cmp (List.range n) (tg L z)) ∈ keys S
    refine go zs _ (fun x hx => hz x (List.mem_cons_of_mem _ hx)) ?_
    obtain ⟨q, h1, _, h3⟩ := tg_in (hz z List.mem_cons_self)
    rw [← h3, cmp_id (o.mp q h1)]
    exact fn.lt q h1
theorem Bx.ne_lst {p w : Addr} {G : Hp} {xs : List V} (b : Bx G p) (h : G w = some (.lst xs)) (n : ∀ i r, xs ≠ V.int i :: r) : w ≠ p := fun z => by
  obtain ⟨b0, b1, b2, e, _⟩ := b
  rw [z, e] at h
  cases h
  exact n _ _ rfl
theorem Bx.ne_o {p w : Addr} {G : Hp} {u : HO} (b : Bx G p) (h : G w = some u) (n : ∀ xs, u ≠ .lst xs) : w ≠ p := fun z => by
  obtain ⟨b0, b1, b2, e, _⟩ := b
  rw [z, e] at h
  cases h
  exact n _ rfl
theorem strs_no (zs : List Str) : ∀ i r, zs.map V.str ≠ V.int i :: r := fun i r h => by cases zs <;> cases h
theorem refs_no (zs : List Addr) : ∀ i r, zs.map V.ref ≠ V.int i :: r := fun i r h => by cases zs <;> cases h
/-- the object stands beside the box -/
theorem TrA.mn {CF : Addr} {H : Hp} {a p : Addr} {n : Nat} {L : Ltt} {S : List En} (b : Bx H p) (h : TrA CF H a n L S) : TrA CF (mn p H) a n L S := by
  obtain ⟨dx, tl, cl, wl, e, ⟨ps, hps, pr⟩, ⟨bs, e1, p1⟩, ws, e2, p2⟩ := h.ob
  have k : ∀ {x : Addr} {u : HO}, H x = some u → (∀ xs, u ≠ .lst xs) → (_root_.L.mn p H) x = some u := fun h n => mn_sx _ _ (b.ne_o h n) h
  have kl : ∀ {x : Addr} {xs : List V}, H x = some (.lst xs) → (∀ i r, xs ≠ V.int i :: r) → (_root_.L.mn p H) x = some (.lst xs) := fun h n => mn_sx _ _ (b.ne_lst h n) h
  obtain ⟨ob, eo, ho⟩ := hps
  exact ⟨dx, tl, cl, wl, k e (fun _ z => nomatch z), ⟨ps, ⟨ob, k eo (fun _ z => nomatch z), ho⟩, L2.Paired.mapP pr fun p q ⟨t, a1, a2⟩ => ⟨t, k a1 (fun _ z => nomatch z), k a2 (fun _ z => nomatch z)⟩⟩,
    ⟨bs, kl e1 (refs_no _), L2.Paired.mapP p1 fun b e z => k z (fun _ z => nomatch z)⟩, ws, kl e2 (refs_no _), L2.Paired.mapP p2 fun b e z => kl z (strs_no _)⟩
def spRg (CF : Addr) : Sp := fun vs H Q _ => ∃ (p m : Addr) (n : Nat) (l : Addr) (L : Ltt) (S : List En), vs = [.ref p, .ref m, .int (n : Int), .ref l] ∧ Bx H p ∧ TrA CF (mn p H) m n L S ∧ LOk n L ∧ NmOk L ∧ Gv (mn p H) l L ∧ Res n L (some S) ∧
  ∀ H', Bx H' p → Sx p H H' → Q (.bl true) H'
section
variable {P : Program} {w : World} {K : PySem.W.Frag} {mg : Str → Option Value} {base : Heap} {f f1 f2 f3 f4 f5 f6 f7 : Addr} {fd d1 d2 d3 d4 d5 d6 d7 : FuncData} {C CF CO : Addr}
theorem scRg : FnScope nRg ["box", "made", "size", "letters"] (defScope sRg) := ⟨rfl, rfl, rfl, by decide +kernel, rfl, by decide +kernel, by decide +kernel⟩
theorem ok_rg (F : Fun K "_law_right" "_law_right" sRg f fd) (M : Mn mg) (U : TfX K CF) (hS : ∃ o, base.get? sysModules = some o)
    (G1 : FnOk P w K mg base CX0 1 f1 d1 ["size", "letters"] spLc) (b1 : Binds K d1 ["size", "letters"] []) (k1 : PySem.W.keepIn K (.ref f1) = true) (m1 : mg "_law_contents" = some (.ref f1))
    (G2 : FnOk P w K mg base CX0 3 f2 d2 ["self", "element"] (spWo CF)) (b2 : Binds K d2 ["self", "element"] []) (h2 : Meth K CF "word_of" f2)
    (G3 : FnOk P w K mg base CX0 8 f3 d3 ["made", "letters", "contents"] (spBr CF)) (b3 : Binds K d3 ["made", "letters", "contents"] []) (k3 : PySem.W.keepIn K (.ref f3) = true) (m3 : mg "_law_between_right" = some (.ref f3))
    (G4 : FnOk P w K mg base CX0 3 f4 d4 ["self", "word"] (spEo K CF)) (b4 : Binds K d4 ["self", "word"] []) (h4 : Meth K CF "element_of" f4)
    (GT : FnOk P w K mg base CX0 3 f4 d4 ["self", "word"] (spEoT K CF))
    (G5 : FnOk P w K mg base CX0 1 f5 d5 ["size", "letters", "word"] (spMp K)) (b5 : Binds K d5 ["size", "letters", "word"] []) (k5 : PySem.W.keepIn K (.ref f5) = true) (m5 : mg "_law_map" = some (.ref f5))
    (G6 : FnOk P w K mg base CX0 1 f6 d6 ["box", "size"] spTake) (b6 : Binds K d6 ["box", "size"] []) (k6 : PySem.W.keepIn K (.ref f6) = true) (m6 : mg "_law_take" = some (.ref f6))
    (G7 : GOk P w K mg base CX0 4 f7 d7 ["made", "size", "letters", "contents"] (spSr CF)) (b7 : Binds K d7 ["made", "size", "letters", "contents"] []) (k7 : PySem.W.keepIn K (.ref f7) = true) (m7 : mg "_law_short_right" = some (.ref f7)) :
    GOk P w K mg base CX0 9 f fd ["box", "made", "size", "letters"] (spRg CF) := by
  refine gok F scRg (fun vs H Q E h => ?_) (fun cdv A outer s H vs Q E hr hA h => ?_)
  · obtain ⟨p, m, n, l, L, S, rfl, _⟩ := h
    rfl
  obtain ⟨p, m, n, l, L, S, rfl, bx, ht, o, no, hG, rs, q⟩ := h
  have hr1 : Room 1 _ := hr.mono (by decide)
  have hr3 : Room 3 _ := hr.mono (by decide)
  have hr4 : Room 4 _ := hr.mono (by decide)
  have hr8 : Room 8 _ := hr
  have hu := hr.units
  have rp := fun {X : Cx} (h1 : X.base = base) (h2 : X.A = (A.deeper (PyProof.Rows.envOfC "_law_right" (defScope sRg) s.heap.objs.size f cdv))) => @call_repr_q X (by rw [h1]; exact hS) (by rw [h2]; exact hA) (by rw [h2]; exact hu)
  refine ⟨_, (pss_cons (ps_asg (pe_call G1 hr1 (by rfl) m1 k1 b1 .nil pass0 (pa_cons (pv 2) (pa_cons (pv 3) pa_nil))) (pg_tup rfl (pgs_cons (pg_name (i := 4) scRg.nd rfl (Or.inl rfl)) (pgs_cons (pg_name (i := 5) scRg.nd rfl (Or.inl rfl)) pgs_nil)))) (pss_cons (ps_for PassesOwn.never rfl (pi_enumS (by rfl) M.enum (pa_cons (pv 5) pa_nil)) (pg_tup rfl (pgs_cons (pg_name (i := 6) scRg.nd rfl (Or.inl rfl)) (pgs_cons (pg_name (i := 7) scRg.nd rfl (Or.inl rfl)) pgs_nil))) (pss_cons (ps_for PassesOwn.never rfl (pi_range1 (by rfl) M.range (pa_cons pe_int pa_nil)) (pg_name (i := 8) scRg.nd rfl (Or.inl rfl)) (pss_cons (ps_set (i := 9) scRg.nd rfl (Or.inl rfl) (pe_meth (pv 1) U.cl h2 G2 hr3 b2 .nil pass0 (pa_cons (pv 6) pa_nil))) (pss_cons (ps_if (pt_cmpR op_ne (pe_callB (rp rfl rfl) (by rfl) M.repr (by decide +kernel) (pa_cons (pv 9) pa_nil)) (pe_callB (rp rfl rfl) (by rfl) M.repr (by decide +kernel) (pa_cons (pv 7) pa_nil)) (nomark _)) (pss_one (ps_ret pe_bl)) pss_nil) (pss_cons (ps_if (pt_mo (pw_and (pt_cmpR op_eq (pe_op op_add (pv 8) (pv 6)) pe_int (nomark _)) (pw_and1 (pt_not (pt_val (pe_call G3 hr8 (by rfl) m3 k3 b3 .nil pass0 (pa_cons (pv 1) (pa_cons (pv 3) (pa_cons (pv 4) pa_nil)))))))).pt) (pss_one (ps_ret pe_bl)) pss_nil) (pss_one (ps_expr (pe_bm PySem.F.plainAttrs_list PySem.F.slot_list_append PySem.F.type_list_append mt_append (pv 9) (pa_cons pe_str pa_nil)))))))) (pss_one (ps_if (pt_cmpR op_ne (pe_callB (rp rfl rfl) (by rfl) M.repr (by decide +kernel) (pa_cons (pe_meth (pv 1) U.cl h4 GT hr3 b4 .nil pass0 (pa_cons (pe_callTy (ctu (K := K) rfl) (by rfl) M.tuple (by decide +kernel) (pa_cons (pv 7) pa_nil)) pa_nil)) pa_nil)) (pe_callB (rp rfl rfl) (by rfl) M.repr (by decide +kernel) (pa_cons (pv 6) pa_nil)) (nomark _)) (pss_one (ps_ret pe_bl)) pss_nil)))) (pss_cons (ps_set (i := 10) scRg.nd rfl (Or.inr rfl) (pe_callTy (call_listD rfl) (by rfl) M.list (by decide +kernel) (pa_cons (pv 3) pa_nil))) (pss_cons (ps_for PassesOwn.never rfl (pi_range1 (by rfl) M.range (pa_cons pe_int pa_nil)) (pg_name (i := 8) scRg.nd rfl (Or.inl rfl)) (pss_cons (ps_set (i := 11) scRg.nd rfl (Or.inl rfl) (pe_ix (ixl (K := K) rfl) (pe_lst (pa_cons pe_int (pa_cons pe_int (pa_cons (pe_op op_add pe_int (pe_call G6 hr1 (by rfl) m6 k6 b6 .nil pass0 (pa_cons (pv 0) (pa_cons pe_int pa_nil)))) pa_nil)))) (pe_call G6 hr1 (by rfl) m6 k6 b6 .nil pass0 (pa_cons (pv 0) (pa_cons pe_int pa_nil))) (fun _ _ => rfl))) (pss_cons (ps_setLc (i := 7) (own := [("k", 12)]) (g := gName 12) (tt := tYes) rfl scRg.nd rfl rfl (sw_true rfl rfl rfl (by decide +kernel)) (pi_range1 (by rfl) M.range (pa_cons (pv 11) pa_nil)) (blkOk_by (N := nRg) (sc := defScope sRg) (by decide +kernel)) (fun _ _ _ _ _ => (pg_name (i := 12) scRg.nd rfl (Or.inl rfl))) (fun _ _ _ _ _ => pts_nil) (fun _ _ _ _ _ => (pe_ix (ixl (K := K) rfl) (pv 10) (pe_call G6 hr1 (by rfl) m6 k6 b6 .nil pass0 (pa_cons (pv 0) (pa_cons (pe_callB (lenl (K := K) rfl) (by rfl) M.len PySem.boot_len (pa_cons (pv 10) pa_nil)) pa_nil))) (fun _ _ => rfl)))) (pss_one (ps_if (pt_cmpR (op_neD hu) (pe_ix (ixl (K := K) rfl) (pv 4) (pe_meth (pv 1) U.cl h4 G4 hr3 b4 .nil pass0 (pa_cons (pv 7) pa_nil)) (fun _ _ => rfl)) (pe_call G5 hr1 (by rfl) m5 k5 b5 .nil pass0 (pa_cons (pv 2) (pa_cons (pv 3) (pa_cons (pv 7) pa_nil)))) (nomark _)) (pss_one (ps_ret pe_bl)) pss_nil))))) (pss_one (ps_ret (pe_g G7 hA hr4 (by rfl) m7 k7 b7 .nil pass0 (pa_cons (pv 1) (pa_cons (pv 2) (pa_cons (pv 3) (pa_cons (pv 4) pa_nil))))))))))), ?_⟩
  let F0 : Hp := mn p H
  have nF0 : F0 p = none := mn_p
  have sF0 : Same F0 H := mn_same
  obtain ⟨kvs, eg, pr⟩ := id hG
  have fn := Res.fnd o rs
  have gw := Res.gw no rs
  have wf := Res.wf rs
  have s1' := fn.ne o
  have s16 := fn.le
  have l4 := o.ge
  have l1 := o.le
  have pk : ∀ {i : Nat} {e : En}, S[i]? = some e → (keys S)[i]? = some e.1 := fun h => by unfold keys; rw [List.getElem?_map, h]; rfl
  obtain ⟨dx, _, _, _, em, _⟩ := id ht.ob
  have htH := ht.to sF0
  have hGH := hG.to sF0
  refine ⟨_, rfl, _, rfl, n, l, L, S, rfl, o, no, hGH, rs, fun t ft wt bs ws G1 s1 hft hwt et eft pA ewt pB => ?_⟩
  refine ⟨t, _, rfl, SqT.of et, rfl, _, _, rfl, _, _, rfl, rfl, ?_⟩
  have lbs : bs.length = S.length := pA.length
  have lws : ws.length = S.length := pB.length
  refine ⟨_, rfl, wt, _, rfl, .inl ⟨SqL.of ewt, ?_⟩⟩
  refine for_it walk_enum (fun i σ G => Same G1 G ∧ ∃ x6 x7 x8 x9 x10 x11 x12, σ = [some (.ref p), some (.ref m), some (.int (n : Int)), some (.ref l), some (.ref ft), some (.ref wt), x6, x7, x8, x9, x10, x11, x12]) ⟨Same.refl _, _, _, _, _, _, _, _, rfl⟩ (fun i σ G _ z => SqL.of (z.1 _ _ ewt)) ?_ ?_
  · rintro i y _ G2 G3 hi ⟨sG, x6, x7, x8, x9, x10, x11, x12, rfl⟩ ⟨T0, y1, y2, rfl, hT, rfl, g1, g2⟩
    cases g1
    dsimp only at g2
    obtain ⟨wi, hwi, rfl⟩ := ref_at g2
    obtain ⟨e, hSi, ewi⟩ := pair_at pB hwi
    have hem := List.mem_of_getElem? hSi
    obtain ⟨e1, e2, e3⟩ := gw e hem
    have ez := wf e hem
    have okw := okWord (zs := e.2) (fun z hz => by
      obtain ⟨q, hq, e⟩ := List.mem_map.mp (ez z hz)
      exact e ▸ o.ss q hq) (by omega)
    have hil : i < S.length := (List.getElem?_eq_some_iff.mp hSi).1
    have okI : OkD 0 100 (.int (i : Int)) := OkD.int (by show (i : Int).natAbs < _; have : (i : Int).natAbs = i := rfl; rw [this]; exact Nat.lt_of_lt_of_le (Nat.lt_of_lt_of_le hil s16) (by decide))
    have sT := sG.trans (Same.new hT (.tup [.int (i : Int), .ref wi]))
    refine ⟨T0, _, rfl, SqT.of upd_same, rfl, _, _, rfl, _, _, rfl, rfl, ?_⟩
    generalize upd G2 T0 (.tup [.int (i : Int), .ref wi]) = G4 at sT ⊢
    refine ⟨_, rfl, by decide, by decide, ?_⟩
    refine for_range (lo := 0) (n := Int.toNat 2) (fun t σ G => Same G1 G ∧ ∃ x8 x9 x10 x11 x12, σ = [some (.ref p), some (.ref m), some (.int (n : Int)), some (.ref l), some (.ref ft), some (.ref wt), some (.int (i : Int)), some (.ref wi), x8, x9, x10, x11, x12]) ⟨sT, _, _, _, _, _, rfl⟩ ?_ ?_
    · rintro t _ G5 htt ⟨sG5, y8, y9, y10, y11, y12, rfl⟩
      have sH5 := s1.trans sG5
      refine ⟨_, rfl, m, _, _, rfl, sH5 _ _ (sF0 _ _ em), rfl, _, rfl, m, i, n, L, S, e, rfl, htH.to sH5, hSi, s16, fun D4 G6 s6 hD4 eD4 => ?_⟩
      have sG6 := sG5.trans s6
      refine ⟨_, rfl, _, .list (e.2.map PyData.str), rfl, .lst eD4 (dq_strs _), okw.shows, Nat.le_trans okw.deep (by decide), okw.len (by decide), ?_⟩
      refine ⟨_, rfl, _, .list (e.2.map PyData.str), rfl, .lst (sG6 _ _ ewi) (dq_strs _), okw.shows, Nat.le_trans okw.deep (by decide), okw.len (by decide), rfl, _, rfl, iteNS rfl ?_⟩
      refine ⟨fun b J => b = false ∧ Same G6 J, ⟨_, rfl, _, rfl, _, _, rfl, rfl, rfl, _, rfl, ite2 (fun c => ?_) (fun c => ⟨rfl, Same.refl _⟩)⟩, ?_⟩
      · have sH6 := s1.trans sG6
        exact ⟨_, rfl, _, rfl, _, rfl, m, n, l, ft, bs, L, S, rfl, htH.to sH6, o, no, hGH.to sH6, fn, sG6 _ _ eft, L2.Paired.mapP pA fun b e z => sG6 _ _ z, fun G7 s7 => ⟨_, rfl, rfl, s7⟩⟩
      rintro _ J ⟨rfl, sJ⟩
      refine iteFf rfl ?_
      have eDJ := sJ _ _ eD4
      refine ⟨_, rfl, .inl ⟨rfl, _, SqL.of eDJ⟩, D4, _, _, rfl, rfl, eDJ, by rw [List.length_map]; exact small1000 (by omega), ?_⟩
      have hD1 : G1 D4 = none := sG5.free hD4
      exact ⟨fun b o e => by rw [upd_ne (ne_of_none e hD1)]; exact sJ _ _ (sG6 _ _ e), _, _, _, _, _, rfl⟩
    · rintro _ G5 ⟨sG5, y8, y9, y10, y11, y12, rfl⟩
      have sH5 := s1.trans sG5
      refine ⟨_, rfl, m, _, _, rfl, sH5 _ _ (sF0 _ _ em), rfl, _, rfl, wi, _, rfl, .inl ⟨SqL.of (sG5 _ _ ewi), fun t ht => ?_⟩⟩
      have s6 := Same.new ht (.tup (e.2.map V.str))
      have hin : mapW n L e.2 ∈ keys S := by rw [← e1]; exact List.mem_map.mpr ⟨e, hem, rfl⟩
      have hidx : (keys S).idxOf (mapW n L e.2) = i := by
        obtain ⟨i1, i2⟩ := idx_get hin
        have i3 := pk hSi
        rw [e1] at i3
        obtain ⟨j1, j2⟩ := List.getElem?_eq_some_iff.mp i2
        obtain ⟨k1, k2⟩ := List.getElem?_eq_some_iff.mp i3
        exact (List.getElem_inj fn.nd).mp (j2.trans k2.symm)
      refine ⟨m, t, n, L, S, e.2, rfl, htH.to (sH5.trans s6), o, no, SqT.of upd_same, e2, by omega, ez, hin, fun G7 s7 => ?_⟩
      rw [hidx]
      refine ⟨_, .int (i : Int), rfl, .int _, okI.shows, Nat.le_trans okI.deep (by decide), okI.len (by decide), ?_⟩
      refine ⟨_, rfl, _, .int (i : Int), rfl, .int _, okI.shows, Nat.le_trans okI.deep (by decide), okI.len (by decide), rfl, _, rfl, iteNS rfl ?_⟩
      exact ⟨sG5.trans (s6.trans s7), _, _, _, _, _, _, _, rfl⟩
  rintro _ G2 ⟨sG2, x6, x7, x8, x9, x10, x11, x12, rfl⟩
  have sH2 := s1.trans sG2
  refine ⟨_, rfl, l, kvs, rfl, .inl (sH2 _ _ (sF0 _ _ eg)), fun D0 hD0 => ?_⟩
  rw [gv_keys pr]
  have s3 := Same.new hD0 (.lst (L.map fun q => V.str q.1))
  have e00 := upd_same (H := G2) (a := D0) (o := .lst (L.map fun q => V.str q.1))
  have sH3 := sH2.trans s3
  have s13 := sG2.trans s3
  generalize upd G2 D0 (.lst (L.map fun q => V.str q.1)) = G3 at e00 sH3 s13 hD0 ⊢
  have b3 := bx.same sH3
  have strs_no' : ∀ i r, (L.map fun q => V.str q.1) ≠ V.int i :: r := fun i r h => by cases L <;> cases h
  let FF : Hp := mn p G3
  have nF : FF p = none := mn_p
  have sF : Same FF G3 := mn_same
  have toF : ∀ {x : Addr} {u : HO}, x ≠ p → G3 x = some u → FF x = some u := fun n e => mn_sx _ _ n e
  have htF : TrA CF FF m n L S := (htH.to sH3).mn b3
  have s0F : Same F0 FF := fun x o e => toF (fun z => by rw [z, nF0] at e; cases e) (sH3 _ _ (sF0 _ _ e))
  have hGF : Gv FF l L := hG.to s0F
  have emF := s0F _ _ em
  have eDF := toF (b3.ne_lst e00 strs_no') e00
  have eftF := toF (b3.ne_lst (s13 _ _ eft) (refs_no _)) (s13 _ _ eft)
  have pAF : Paired (fun b (e : En) => FF b = some (.tup (nv e.1))) bs S := L2.Paired.mapP pA fun b e z => toF (b3.ne_o (s13 _ _ z) (fun _ z => nomatch z)) (s13 _ _ z)
  have sxF : ∀ {J : Hp}, Same FF J → Sx p H J := fun s b o' n e => s _ _ (toF n (sH3 _ _ e))
  generalize FF = F at nF sF htF hGF emF eDF eftF pAF sxF
  clear toF s0F
  refine ⟨_, rfl, by decide, by decide, ?_⟩
  refine for_range (lo := 0) (n := Int.toNat 6) (fun _ σ G => Same F G ∧ Bx G p ∧ ∃ x6 x7 x8 x9 x11 x12, σ = [some (.ref p), some (.ref m), some (.int (n : Int)), some (.ref l), some (.ref ft), some (.ref wt), x6, x7, x8, x9, some (.ref D0), x11, x12]) ⟨sF, b3, _, _, _, _, _, _, rfl⟩ ?_ ?_
  rotate_left
  · rintro _ G ⟨sG, bG, y6, y7, y8, y9, y11, y12, rfl⟩
    exact ⟨_, rfl, _, rfl, _, rfl, _, rfl, m, n, l, ft, bs, L, S, rfl, htF.to sG, o, no, hGF.to sG, rs, sG _ _ eftF, L2.Paired.mapP pAF fun b e z => sG _ _ z, fun J sJ => q J (bG.same sJ) (sxF (sG.trans sJ))⟩
  rintro i _ G hi ⟨sG, bG, y6, y7, y8, y9, y11, y12, rfl⟩
  refine ⟨_, rfl, p, 60, rfl, bG, by decide, by decide, fun r G4 r0 r1 b4 x4 => ⟨_, _, rfl, rfl, szl _ (by simp), fun ml hml => ?_⟩⟩
  have sG4 : Same F G4 := fx sG nF x4
  have b5 := b4.new (o := .lst [.int 1, .int 60, .int (1 + r)]) hml
  refine ⟨_, rfl, p, 3, rfl, b5, by decide, by decide, fun r2 G5 q0 q1 b6 x6 => ?_⟩
  have sG5 : Same F G5 := fx (sG4.trans (Same.new hml _)) nF x6
  have eml := x6 _ _ (b4.ne hml) upd_same
  obtain ⟨_, v, _, hv, _, atv⟩ := pick (xs := [V.int 1, V.int 60, V.int (1 + r)]) (i := r2) q0 q1
  obtain ⟨k, rfl, k1, k60⟩ : ∃ k : Int, v = .int k ∧ 1 ≤ k ∧ k ≤ 60 := by
    simp only [List.mem_cons, List.not_mem_nil, or_false] at hv
    rcases hv with rfl | rfl | rfl
    · exact ⟨_, rfl, by decide, by decide⟩
    · exact ⟨_, rfl, by decide, by decide⟩
    · exact ⟨_, rfl, by omega, by omega⟩
  refine ⟨ml, _, _, _, rfl, rfl, SqL.of eml, atv, ?_⟩
  refine ⟨_, rfl, _, rfl, by omega, by omega, fun D5 hD5 => ?_⟩
  have nD5 : D5 ≠ p := b6.ne hD5
  have fD5 : F D5 = none := sG5.free hD5
  refine lc_range (lo := 0) (n := k.toNat) (fun j J => Same F J ∧ Bx J p ∧ ∃ zs : List Str, J D5 = some (.lst (zs.map V.str)) ∧ zs.length = j ∧ ∀ z, z ∈ zs → z ∈ L.map (·.1)) ⟨sG5.trans (Same.new hD5 _), b6.new hD5, [], upd_same, rfl, fun _ z => (nomatch z)⟩ ?_ ?_
  · rintro j J hj ⟨sJ, bJ, zs, ez, lz, hz⟩
    have eDJ := sJ _ _ eDF
    refine ⟨rfl, _, rfl, _, rfl, _, rfl, D0, _, rfl, .inl (SqL.of eDJ), p, _, rfl, bJ, ?_, ?_, fun r3 J1 t0 t1 bJ1 x7 => ?_⟩
    · rw [List.length_map]; omega
    · rw [List.length_map]; omega
    rw [List.length_map] at t1
    have sJ1 : Same F J1 := fx sJ nF x7
    obtain ⟨_, v, _, hv, _, atv⟩ := pick (xs := L.map fun q => V.str q.1) (i := r3) t0 (by rw [List.length_map]; exact t1)
    obtain ⟨q1, hq1, rfl⟩ := List.mem_map.mp hv
    refine ⟨D0, _, _, _, rfl, rfl, SqL.of (sJ1 _ _ eDF), atv, _, x7 _ _ nD5 ez, by rw [List.length_map, lz]; exact small1000 (by omega), fun b o e => by rw [upd_ne (ne_of_none e fD5)]; exact sJ1 _ _ e, bJ1.at_ne nD5, zs ++ [q1.1], by rw [upd_same, List.map_append]; rfl, by rw [List.length_append, lz]; rfl, fun z hz' => ?_⟩
    rcases List.mem_append.mp hz' with h | h
    · exact hz z h
    · rw [List.mem_singleton.mp h]; exact List.mem_map.mpr ⟨q1, hq1, rfl⟩
  rintro J ⟨sJ, bJ, zs, ez, lz, hz⟩
  have hin := mapW_in o no fn (zs := zs) (by omega) hz
  obtain ⟨i1, i2⟩ := idx_get hin
  obtain ⟨be, hbe, ebe⟩ := pair_to (keys_pair pAF) i2
  refine ⟨_, rfl, _, rfl, m, _, _, rfl, sJ _ _ emF, rfl, _, rfl, m, D5, n, L, S, zs, rfl, htF.to sJ, o, no, SqL.of ez, by omega, by omega, hz, hin, fun J2 s2 => ?_⟩
  have sJ2 := sJ.trans s2
  refine ⟨ft, bs.map V.ref, _, _, rfl, rfl, SqL.of (sJ2 _ _ eftF), at_of (j := (keys S).idxOf (mapW n L zs)) rfl (by rw [List.getElem?_map, hbe]; rfl), ?_⟩
  refine ⟨_, rfl, _, rfl, _, rfl, n, l, D5, L, zs, rfl, o, no, hGF.to sJ2, SqL.of (s2 _ _ ez), hz, fun t J3 s3 ht3 et => ?_⟩
  have sJ3 := sJ2.trans s3
  refine ⟨tD (mapW n L zs), tD (mapW n L zs), dp_tup (sJ3 _ _ ebe), dp_tup et, tD_shaped _, tD_shaped _, ?_⟩
  rw [tD_eqv, decide_eq_true rfl]
  refine ⟨_, rfl, iteFf rfl ?_⟩
  exact ⟨sJ3, bJ.same (s2.trans s3), _, _, _, _, _, _, rfl⟩
end
end L

set_option Elab.async false
set_option linter.all false
set_option maxRecDepth 100000
set_option maxHeartbeats 4000000
set_option pp.maxSteps 400
namespace L
open PySem L2 KX
abbrev sLaw : Stmt := top 45
abbrev nLaw : List Str := ["script", "k", "box", "turn", "size", "letters", "made"]
def spLaw (K : PySem.W.Frag) : Sp := fun vs H Q _ => ∃ (a : Addr) (ns : List Int), vs = [.ref a] ∧ SqL K H a (ns.map V.int) ∧ ns.length ≤ 63 ∧ ∀ H', Q (.bl true) H'
section
variable {P : Program} {w : World} {K : PySem.W.Frag} {mg : Str → Option Value} {base : Heap} {f f1 f2 f3 f4 f5 : Addr} {fd d1 d2 d3 d4 d5 : FuncData} {C CF : Addr}
theorem scLaw : FnScope nLaw ["script"] (defScope sLaw) := ⟨rfl, rfl, rfl, by decide +kernel, rfl, by decide +kernel, by decide +kernel⟩
theorem ok_law (F : Fun K "law" "law" sLaw f fd) (M : Mn mg) (U : TfX K CF) (Y : CTi K CF) (sCi : PySem.W.subIn K (.ref CF) (.type "int") = some false)
    (G1 : FnOk P w K mg base CX0 1 f1 d1 ["script", "k"] (spCell K)) (b1 : Binds K d1 ["script", "k"] []) (k1 : PySem.W.keepIn K (.ref f1) = true) (m1 : mg "_law_cell" = some (.ref f1))
    (G2 : FnOk P w K mg base CX0 1 f2 d2 ["cell"] spBox) (b2 : Binds K d2 ["cell"] []) (k2 : PySem.W.keepIn K (.ref f2) = true) (m2 : mg "_law_box" = some (.ref f2))
    (G3 : FnOk P w K mg base CX0 3 f3 d3 ["box"] spLt) (b3 : Binds K d3 ["box"] []) (k3 : PySem.W.keepIn K (.ref f3) = true) (m3 : mg "_law_letters" = some (.ref f3))
    (G4 : FnOk P w K mg base CX0 7 f4 d4 ["size", "letters"] (spLm CF)) (b4 : Binds K d4 ["size", "letters"] []) (k4 : PySem.W.keepIn K (.ref f4) = true) (m4 : mg "_law_made" = some (.ref f4))
    (G5 : GOk P w K mg base CX0 9 f5 d5 ["box", "made", "size", "letters"] (spRg CF)) (b5 : Binds K d5 ["box", "made", "size", "letters"] []) (k5 : PySem.W.keepIn K (.ref f5) = true) (m5 : mg "_law_right" = some (.ref f5)) :
    GOk P w K mg base CX0 10 f fd ["script"] (spLaw K) := by
  refine gok F scLaw (fun vs H Q E h => ?_) (fun cdv A outer s H vs Q E hr hA h => ?_)
  · obtain ⟨a, ns, rfl, _⟩ := h
    rfl
  obtain ⟨a0, ns, rfl, hN, h63, q⟩ := h
  have hr1 : Room 1 _ := hr.mono (by decide)
  have hr3 : Room 3 _ := hr.mono (by decide)
  have hr7 : Room 7 _ := hr.mono (by decide)
  have hr9 : Room 9 _ := hr
  refine ⟨_, (pss_cons (ps_for PassesOwn.never rfl (pi_range1 (by rfl) M.range (pa_cons (pe_callB (call_max2 rfl) (by rfl) M.max (by decide +kernel) (pa_cons pe_int (pa_cons (pe_callB (call_min2 rfl) (by rfl) M.min (by decide +kernel) (pa_cons pe_int (pa_cons (pe_callB call_len_seq (by rfl) M.len PySem.boot_len (pa_cons (pv 0) pa_nil)) pa_nil))) pa_nil))) pa_nil)) (pg_name (i := 1) scLaw.nd rfl (Or.inl rfl)) (pss_cons (ps_set (i := 2) scLaw.nd rfl (Or.inl rfl) (pe_call G2 hr1 (by rfl) m2 k2 b2 .nil pass0 (pa_cons (pe_call G1 hr1 (by rfl) m1 k1 b1 .nil pass0 (pa_cons (pv 0) (pa_cons (pv 1) pa_nil))) pa_nil))) (pss_one (ps_for PassesOwn.never rfl (pi_range1 (by rfl) M.range (pa_cons pe_int pa_nil)) (pg_name (i := 3) scLaw.nd rfl (Or.inl rfl)) (pss_cons (ps_asg (pe_call G3 hr3 (by rfl) m3 k3 b3 .nil pass0 (pa_cons (pv 2) pa_nil)) (pg_tup rfl (pgs_cons (pg_name (i := 4) scLaw.nd rfl (Or.inl rfl)) (pgs_cons (pg_name (i := 5) scLaw.nd rfl (Or.inl rfl)) pgs_nil)))) (pss_cons (ps_set (i := 6) scLaw.nd rfl (Or.inl rfl) (pe_call G4 hr7 (by rfl) m4 k4 b4 .nil pass0 (pa_cons (pv 4) (pa_cons (pv 5) pa_nil)))) (pss_one (ps_if (pt_mo (pw_and (pt_not (pt_val (pe_callB call_isi (by rfl) M.isin (by decide +kernel) (pa_cons (pv 6) (pa_cons (pe_bltn (v := .ty "int") (by rfl) M.int (by decide +kernel) rfl) pa_nil))))) (pw_and1 (pt_not (pt_val (pe_g G5 hA hr9 (by rfl) m5 k5 b5 .nil pass0 (pa_cons (pv 2) (pa_cons (pv 6) (pa_cons (pv 4) (pa_cons (pv 5) pa_nil))))))))).pt) (pss_one (ps_ret pe_bl)) pss_nil)))))))) (pss_one (ps_ret pe_bl))), ?_⟩
  have len : (ns.map V.int).length = ns.length := List.length_map _
  refine ⟨_, rfl, a0, _, rfl, .inl hN, _, _, rfl, _, _, rfl, _, rfl, ?_⟩
  rw [len]
  generalize hm : (if (if (ns.length : Int) < 8 then (ns.length : Int) else 8) > 2 then (if (ns.length : Int) < 8 then (ns.length : Int) else 8) else 2) = m
  have hm8 : 0 ≤ m ∧ m ≤ 8 := by rw [← hm]; split <;> split <;> omega
  refine ⟨by omega, by omega, ?_⟩
  refine for_range (lo := 0) (n := m.toNat) (fun _ σ J => Same H J ∧ ∃ x1 x2 x3 x4 x5 x6, σ = [some (.ref a0), x1, x2, x3, x4, x5, x6]) ⟨Same.refl H, _, _, _, _, _, _, rfl⟩ ?_ ?_
  rotate_left
  · rintro _ J ⟨sJ, x1, x2, x3, x4, x5, x6, rfl⟩
    exact q J
  rintro k _ J hk ⟨sJ, x1, x2, x3, x4, x5, x6, rfl⟩
  refine ⟨_, rfl, _, rfl, a0, ns, _, rfl, sJ.seq hN, by omega, fun c => ⟨c, rfl, fun p J1 sJ1 hp0 bx1 => ?_⟩⟩
  have np : H p = none := sJ.free hp0
  have sH1 : Same H J1 := sJ.trans sJ1
  refine ⟨_, rfl, by decide, by decide, ?_⟩
  refine for_range (lo := 0) (n := Int.toNat 6) (fun _ σ G => Same H G ∧ Bx G p ∧ ∃ x3 x4 x5 x6, σ = [some (.ref a0), some (.int (0 + (k : Int))), some (.ref p), x3, x4, x5, x6]) ⟨sH1, bx1, _, _, _, _, rfl⟩ ?_ ?_
  rotate_left
  · rintro _ G ⟨sG, bG, y3, y4, y5, y6, rfl⟩
    exact ⟨sG, _, _, _, _, _, _, rfl⟩
  clear x1 x2 x3 x4 x5 x6
  rintro i _ G hi ⟨sG, bG, x3, x4, x5, x6, rfl⟩
  refine ⟨_, rfl, p, rfl, bG, fun t gl n L G1 bG1 xG1 et lo no hGv => ⟨t, _, rfl, SqT.of et, rfl, _, _, rfl, _, _, rfl, rfl, ?_⟩⟩
  have sG1 : Same H G1 := fx sG np xG1
  refine ⟨_, rfl, _, rfl, n, gl, L, rfl, lo, no, hGv.to mn_same, fun S a G3 rs ht s3 ha => ?_, fun G3 rn s3 => ?_⟩
  · have sG3 := sG1.trans s3
    have b3 := bG1.same s3
    have kitI : PySem.W.kitOne K (.ref CF) (.type "int") = some false := by
      unfold PySem.W.kitOne PySem.W.kitCls
      rw [show ((Value.ref CF) == (Value.type "int")) = false from rfl, if_neg Bool.false_ne_true]
      show (if PySem.W.kitMeta "int" = true then PySem.W.subIn K (.ref CF) (.type "int") else none) = some false
      rw [if_pos (by rfl)]; exact sCi
    obtain ⟨dx, tl, cl, wl, ea, _⟩ := id ht.ob
    refine ⟨fun b J => b = false ∧ Same H J ∧ Bx J p, ⟨_, rfl, _, .ty "int", .ref CF, .type "int", false, rfl, .ty _, .base (.ins ea U.cl Y.ha Y.hn Y.htk Y.hm), kitI, false, rfl, iteTt rfl ?_⟩, ?_⟩
    · exact ⟨_, rfl, _, rfl, _, rfl, _, rfl, p, a, n, gl, L, S, rfl, b3, ht.mn b3, lo, no, hGv.to (mn_mono s3), rs, fun J bJ xJ => ⟨_, rfl, rfl, fx sG3 np xJ, bJ⟩⟩
    · rintro _ J4 ⟨rfl, sJ4, bJ4⟩
      exact iteFf rfl ⟨sJ4, bJ4, _, _, _, _, rfl⟩
  · refine ⟨fun b J => b = false ∧ J = G3, ⟨_, rfl, _, .ty "int", .type "int", .type "int", true, rfl, .ty _, .base (.int _), kit_ty (by decide +kernel), true, rfl, iteFf rfl ⟨rfl, rfl⟩⟩, ?_⟩
    rintro _ _ ⟨rfl, rfl⟩
    exact iteFf rfl ⟨sG1.trans s3, bG1.same s3, _, _, _, _, rfl⟩
end
end L

set_option Elab.async false
set_option linter.all false
set_option maxRecDepth 100000
set_option maxHeartbeats 4000000
namespace L
open PySem L2 KX
theorem all_mk {l : PySem.W.OpenLaw} {w : World} {K : PySem.W.Frag} {h : Heap} {mg : Str → Option Value} {fa : Addr} (X : K.In h) (G : h.Ns mainGlobals mg) (hfa : mg "law" = some (.ref fa))
    {f0 : Addr} {od0 an0 : Option Addr} {sl0 : Array (Option Value)} {oc0 kV0 dc0 pm0 cd0 ct0 : Value}
    {f1 : Addr} {od1 an1 : Option Addr} {sl1 : Array (Option Value)} {oc1 kV1 dc1 pm1 cd1 ct1 : Value}
    {f2 : Addr} {od2 an2 : Option Addr} {sl2 : Array (Option Value)} {oc2 kV2 dc2 pm2 cd2 ct2 : Value}
    {f3 : Addr} {od3 an3 : Option Addr} {sl3 : Array (Option Value)} {oc3 kV3 dc3 pm3 cd3 ct3 : Value}
    {f4 : Addr} {od4 an4 : Option Addr} {sl4 : Array (Option Value)} {oc4 kV4 dc4 pm4 cd4 ct4 : Value}
    {f5 : Addr} {od5 an5 : Option Addr} {sl5 : Array (Option Value)} {oc5 kV5 dc5 pm5 cd5 ct5 : Value}
    {f6 : Addr} {od6 an6 : Option Addr} {sl6 : Array (Option Value)} {oc6 kV6 dc6 pm6 cd6 ct6 : Value}
    {f7 : Addr} {od7 an7 : Option Addr} {sl7 : Array (Option Value)} {oc7 kV7 dc7 pm7 cd7 ct7 : Value}
    {f8 : Addr} {od8 an8 : Option Addr} {sl8 : Array (Option Value)} {oc8 kV8 dc8 pm8 cd8 ct8 : Value}
    {f9 : Addr} {od9 an9 : Option Addr} {sl9 : Array (Option Value)} {oc9 kV9 dc9 pm9 cd9 ct9 : Value}
    {f10 : Addr} {od10 an10 : Option Addr} {sl10 : Array (Option Value)} {oc10 kV10 dc10 pm10 cd10 ct10 : Value}
    {f11 : Addr} {od11 an11 : Option Addr} {sl11 : Array (Option Value)} {oc11 kV11 dc11 pm11 cd11 ct11 : Value}
    {f12 : Addr} {od12 an12 : Option Addr} {sl12 : Array (Option Value)} {oc12 kV12 dc12 pm12 cd12 ct12 : Value}
    {f13 : Addr} {od13 an13 : Option Addr} {sl13 : Array (Option Value)} {oc13 kV13 dc13 pm13 cd13 ct13 : Value}
    {f14 : Addr} {od14 an14 : Option Addr} {sl14 : Array (Option Value)} {oc14 kV14 dc14 pm14 cd14 ct14 : Value}
    {f15 : Addr} {od15 an15 : Option Addr} {sl15 : Array (Option Value)} {oc15 kV15 dc15 pm15 cd15 ct15 : Value}
    {f16 : Addr} {od16 an16 : Option Addr} {sl16 : Array (Option Value)} {oc16 kV16 dc16 pm16 cd16 ct16 : Value}
    {f17 : Addr} {od17 an17 : Option Addr} {sl17 : Array (Option Value)} {oc17 kV17 dc17 pm17 cd17 ct17 : Value}
    {f18 : Addr} {od18 an18 : Option Addr} {sl18 : Array (Option Value)} {oc18 kV18 dc18 pm18 cd18 ct18 : Value}
    {f19 : Addr} {od19 an19 : Option Addr} {sl19 : Array (Option Value)} {oc19 kV19 dc19 pm19 cd19 ct19 : Value}
    {f20 : Addr} {od20 an20 : Option Addr} {sl20 : Array (Option Value)} {oc20 kV20 dc20 pm20 cd20 ct20 : Value}
    {f21 : Addr} {od21 an21 : Option Addr} {sl21 : Array (Option Value)} {oc21 kV21 dc21 pm21 cd21 ct21 : Value}
    {f22 : Addr} {od22 an22 : Option Addr} {sl22 : Array (Option Value)} {oc22 kV22 dc22 pm22 cd22 ct22 : Value}
    {f23 : Addr} {od23 an23 : Option Addr} {sl23 : Array (Option Value)} {oc23 kV23 dc23 pm23 cd23 ct23 : Value}
    {f24 : Addr} {od24 an24 : Option Addr} {sl24 : Array (Option Value)} {oc24 kV24 dc24 pm24 cd24 ct24 : Value}
    {f25 : Addr} {od25 an25 : Option Addr} {sl25 : Array (Option Value)} {oc25 kV25 dc25 pm25 cd25 ct25 : Value}
    {f26 : Addr} {od26 an26 : Option Addr} {sl26 : Array (Option Value)} {oc26 kV26 dc26 pm26 cd26 ct26 : Value}
    {f27 : Addr} {od27 an27 : Option Addr} {sl27 : Array (Option Value)} {oc27 kV27 dc27 pm27 cd27 ct27 : Value}
    {f28 : Addr} {od28 an28 : Option Addr} {sl28 : Array (Option Value)} {oc28 kV28 dc28 pm28 cd28 ct28 : Value}
    {f29 : Addr} {od29 an29 : Option Addr} {sl29 : Array (Option Value)} {oc29 kV29 dc29 pm29 cd29 ct29 : Value}
    {f30 : Addr} {od30 an30 : Option Addr} {sl30 : Array (Option Value)} {oc30 kV30 dc30 pm30 cd30 ct30 : Value}
    {f31 : Addr} {od31 an31 : Option Addr} {sl31 : Array (Option Value)} {oc31 kV31 dc31 pm31 cd31 ct31 : Value}
    {f32 : Addr} {od32 an32 : Option Addr} {sl32 : Array (Option Value)} {oc32 kV32 dc32 pm32 cd32 ct32 : Value}
    {f33 : Addr} {od33 an33 : Option Addr} {sl33 : Array (Option Value)} {oc33 kV33 dc33 pm33 cd33 ct33 : Value}
    {f34 : Addr} {od34 an34 : Option Addr} {sl34 : Array (Option Value)} {oc34 kV34 dc34 pm34 cd34 ct34 : Value}
    {f35 : Addr} {od35 an35 : Option Addr} {sl35 : Array (Option Value)} {oc35 kV35 dc35 pm35 cd35 ct35 : Value}
    {C : Addr}
    {CF : Addr}
    {CO : Addr}
    {tk0 : Tok}
    {tk1 : Tok}
    {tk2 : Tok}
    {tk3 : Tok}
    {tk4 : Tok}
    (aC : PySem.W.nsIn K mainGlobals "ProductTable" = some (some (.ref C)))
    (pg : PySem.W.plainGet K C Str.empty = true)
    (hd : PySem.W.hasDictIn K C = true)
    (po : PySem.W.plainOver K C = true)
    (sa : PySem.W.findIn K (.ref C) "__setattr__" = some (some (.builtin "object.__setattr__")))
    (mk : PySem.W.makesIn K C = true)
    (kc : PySem.W.keepIn K (.ref C) = true)
    (nR : PySem.W.findIn K (.ref C) "_rows" = some none)
    (ya : PySem.W.findIn K (.ref C) "__class__" = some (some (.builtin "object.__class__")))
    (yn : PySem.W.specialIn K (.builtin "object.__class__") "__get__" = some (some (.builtin "getset_descriptor.__get__")))
    (yt : PySem.W.takesIn K (.builtin "object.__class__") = some true)
    (ym : PySem.W.mroIn K C (.type "object") = some true)
    (au : PySem.W.nsIn K mainGlobals "Transformations" = some (some (.ref CF)))
    (pgu : PySem.W.plainGet K CF Str.empty = true)
    (hdu : PySem.W.hasDictIn K CF = true)
    (pou : PySem.W.plainOver K CF = true)
    (sau : PySem.W.findIn K (.ref CF) "__setattr__" = some (some (.builtin "object.__setattr__")))
    (mku : PySem.W.makesIn K CF = true)
    (kcu : PySem.W.keepIn K (.ref CF) = true)
    (yau : PySem.W.findIn K (.ref CF) "__class__" = some (some (.builtin "object.__class__")))
    (ymu : PySem.W.mroIn K CF (.type "object") = some true)
    (n1u : PySem.W.findIn K (.ref CF) "_states" = some none)
    (n2u : PySem.W.findIn K (.ref CF) "_letters" = some none)
    (n3u : PySem.W.findIn K (.ref CF) "_contents" = some none)
    (n4u : PySem.W.findIn K (.ref CF) "_words" = some none)
    (aCO : PySem.W.nsIn K mainGlobals "TooMany" = some (some (.ref CO)))
    (clCO : ∃ nm q N bs bm sn sub ab col dd k0 k1 k2 k3 k5, K.lookup CO = some (excClassObj nm q CO N bs bm true sn sub ab col dd k0 k1 k2 k3 k5 "ValueError.__new__") ∧ PySem.HandSPX.refsVE bm = true)
    (saCO : PySem.W.findIn K (.ref CO) "__setattr__" = some (some (.builtin "object.__setattr__")))
    (exCO : PySem.W.subIn K (.ref CO) (.type "BaseException") = some true)
    (tyCO : PySem.W.typeIn K (.ref CO) = some (.type "type"))
    (kCO : PySem.W.keepIn K (.ref CO) = true)
    (gaCO : PySem.W.findIn K (.ref CO) "__getattribute__" = some (some (.builtin "BaseException.__getattribute__")))
    (ggCO : PySem.W.findIn K (.ref CO) "__getattr__" = some none)
    (hdCO : PySem.W.hasDictIn K CO = true)
    (suCO : PySem.W.subIn K (.ref CO) (.ref CO) = some true)
    (nvCO : PySem.W.findIn K (.ref CO) "count" = some none)
    (a0 : PySem.W.nsIn K mainGlobals "is_integer" = some (some (.ref f0)))
    (l0 : K.lookup f0 = some ⟨oc0, od0, .func (PySem.W.fnOf "is_integer" "is_integer" (defArgs sIsInt) (defBody sIsInt) (defScope sIsInt) .none kV0 dc0 pm0 an0 cd0 ct0), sl0⟩)
    (c0 : PySem.W.codeIn K cd0 "is_integer" = true)
    (k0 : PySem.W.keepIn K (.ref f0) = true)
    (a1 : PySem.W.nsIn K mainGlobals "is_list" = some (some (.ref f1)))
    (l1 : K.lookup f1 = some ⟨oc1, od1, .func (PySem.W.fnOf "is_list" "is_list" (defArgs sIsList) (defBody sIsList) (defScope sIsList) .none kV1 dc1 pm1 an1 cd1 ct1), sl1⟩)
    (c1 : PySem.W.codeIn K cd1 "is_list" = true)
    (k1 : PySem.W.keepIn K (.ref f1) = true)
    (a2 : PySem.W.nsIn K mainGlobals "is_number_below" = some (some (.ref f2)))
    (l2 : K.lookup f2 = some ⟨oc2, od2, .func (PySem.W.fnOf "is_number_below" "is_number_below" (defArgs sBelow) (defBody sBelow) (defScope sBelow) .none kV2 dc2 pm2 an2 cd2 ct2), sl2⟩)
    (c2 : PySem.W.codeIn K cd2 "is_number_below" = true)
    (k2 : PySem.W.keepIn K (.ref f2) = true)
    (a3 : PySem.W.nsIn K mainGlobals "is_number_list" = some (some (.ref f3)))
    (l3 : K.lookup f3 = some ⟨oc3, od3, .func (PySem.W.fnOf "is_number_list" "is_number_list" (defArgs sNumList) (defBody sNumList) (defScope sNumList) .none kV3 dc3 pm3 an3 cd3 ct3), sl3⟩)
    (c3 : PySem.W.codeIn K cd3 "is_number_list" = true)
    (k3 : PySem.W.keepIn K (.ref f3) = true)
    (a4 : PySem.W.nsIn K mainGlobals "_are_rows" = some (some (.ref f4)))
    (l4 : K.lookup f4 = some ⟨oc4, od4, .func (PySem.W.fnOf "_are_rows" "_are_rows" (defArgs sAreRows) (defBody sAreRows) (defScope sAreRows) .none kV4 dc4 pm4 an4 cd4 ct4), sl4⟩)
    (c4 : PySem.W.codeIn K cd4 "_are_rows" = true)
    (k4 : PySem.W.keepIn K (.ref f4) = true)
    (a5 : PySem.W.nsIn K mainGlobals "_first_wrong_triple" = some (some (.ref f5)))
    (l5 : K.lookup f5 = some ⟨oc5, od5, .func (PySem.W.fnOf "_first_wrong_triple" "_first_wrong_triple" (defArgs sWrong) (defBody sWrong) (defScope sWrong) .none kV5 dc5 pm5 an5 cd5 ct5), sl5⟩)
    (c5 : PySem.W.codeIn K cd5 "_first_wrong_triple" = true)
    (k5 : PySem.W.keepIn K (.ref f5) = true)
    (a6 : PySem.W.findIn K (.ref C) "__init__" = some (some (.ref f6)))
    (i6 : PySem.W.isFn K (.ref f6) = true)
    (l6 : K.lookup f6 = some ⟨oc6, od6, .func (PySem.W.fnOf "__init__" "ProductTable.__init__" (defArgs sInit) (defBody sInit) (defScope sInit) .none kV6 dc6 pm6 an6 cd6 ct6), sl6⟩)
    (c6 : PySem.W.codeIn K cd6 "ProductTable.__init__" = true)
    (k6 : PySem.W.keepIn K (.ref f6) = true)
    (a7 : PySem.W.findIn K (.ref C) "__len__" = some (some (.ref f7)))
    (i7 : PySem.W.isFn K (.ref f7) = true)
    (l7 : K.lookup f7 = some ⟨oc7, od7, .func (PySem.W.fnOf "__len__" "ProductTable.__len__" (defArgs sLen) (defBody sLen) (defScope sLen) .none kV7 dc7 pm7 an7 cd7 ct7), sl7⟩)
    (c7 : PySem.W.codeIn K cd7 "ProductTable.__len__" = true)
    (k7 : PySem.W.keepIn K (.ref f7) = true)
    (a8 : PySem.W.findIn K (.ref C) "rows" = some (some (.ref f8)))
    (i8 : PySem.W.isFn K (.ref f8) = true)
    (l8 : K.lookup f8 = some ⟨oc8, od8, .func (PySem.W.fnOf "rows" "ProductTable.rows" (defArgs sRowsM) (defBody sRowsM) (defScope sRowsM) .none kV8 dc8 pm8 an8 cd8 ct8), sl8⟩)
    (c8 : PySem.W.codeIn K cd8 "ProductTable.rows" = true)
    (k8 : PySem.W.keepIn K (.ref f8) = true)
    (a9 : PySem.W.nsIn K mainGlobals "_law_cell" = some (some (.ref f9)))
    (l9 : K.lookup f9 = some ⟨oc9, od9, .func (PySem.W.fnOf "_law_cell" "_law_cell" (defArgs sCell) (defBody sCell) (defScope sCell) .none kV9 dc9 pm9 an9 cd9 ct9), sl9⟩)
    (c9 : PySem.W.codeIn K cd9 "_law_cell" = true)
    (k9 : PySem.W.keepIn K (.ref f9) = true)
    (a10 : PySem.W.nsIn K mainGlobals "_law_box" = some (some (.ref f10)))
    (l10 : K.lookup f10 = some ⟨oc10, od10, .func (PySem.W.fnOf "_law_box" "_law_box" (defArgs sBox) (defBody sBox) (defScope sBox) .none kV10 dc10 pm10 an10 cd10 ct10), sl10⟩)
    (c10 : PySem.W.codeIn K cd10 "_law_box" = true)
    (k10 : PySem.W.keepIn K (.ref f10) = true)
    (a11 : PySem.W.nsIn K mainGlobals "_law_take" = some (some (.ref f11)))
    (l11 : K.lookup f11 = some ⟨oc11, od11, .func (PySem.W.fnOf "_law_take" "_law_take" (defArgs sTake) (defBody sTake) (defScope sTake) .none kV11 dc11 pm11 an11 cd11 ct11), sl11⟩)
    (c11 : PySem.W.codeIn K cd11 "_law_take" = true)
    (k11 : PySem.W.keepIn K (.ref f11) = true)
    (a12 : PySem.W.findIn K (.ref CO) "__init__" = some (some (.ref f12)))
    (t12 : PySem.W.typeIn K (.ref f12) = some (.type "function"))
    (l12 : K.lookup f12 = some ⟨oc12, od12, .func (PySem.W.fnOf "__init__" "TooMany.__init__" (defArgs sEiM) (defBody sEiM) (defScope sEiM) .none kV12 dc12 pm12 an12 cd12 ct12), sl12⟩)
    (c12 : PySem.W.codeIn K cd12 "TooMany.__init__" = true)
    (k12 : PySem.W.keepIn K (.ref f12) = true)
    (a13 : PySem.W.nsIn K mainGlobals "is_name" = some (some (.ref f13)))
    (l13 : K.lookup f13 = some ⟨oc13, od13, .func (PySem.W.fnOf "is_name" "is_name" (defArgs sIsName) (defBody sIsName) (defScope sIsName) .none kV13 dc13 pm13 an13 cd13 ct13), sl13⟩)
    (c13 : PySem.W.codeIn K cd13 "is_name" = true)
    (k13 : PySem.W.keepIn K (.ref f13) = true)
    (a14 : PySem.W.nsIn K mainGlobals "_composed" = some (some (.ref f14)))
    (l14 : K.lookup f14 = some ⟨oc14, od14, .func (PySem.W.fnOf "_composed" "_composed" (defArgs sCd) (defBody sCd) (defScope sCd) .none kV14 dc14 pm14 an14 cd14 ct14), sl14⟩)
    (c14 : PySem.W.codeIn K cd14 "_composed" = true)
    (k14 : PySem.W.keepIn K (.ref f14) = true)
    (a15 : PySem.W.nsIn K mainGlobals "_shortest_words" = some (some (.ref f15)))
    (l15 : K.lookup f15 = some ⟨oc15, od15, .func (PySem.W.fnOf "_shortest_words" "_shortest_words" (defArgs sSw) (defBody sSw) (defScope sSw) .none kV15 dc15 pm15 an15 cd15 ct15), sl15⟩)
    (c15 : PySem.W.codeIn K cd15 "_shortest_words" = true)
    (k15 : PySem.W.keepIn K (.ref f15) = true)
    (a16 : PySem.W.nsIn K mainGlobals "_are_letters" = some (some (.ref f16)))
    (l16 : K.lookup f16 = some ⟨oc16, od16, .func (PySem.W.fnOf "_are_letters" "_are_letters" (defArgs sAl) (defBody sAl) (defScope sAl) .none kV16 dc16 pm16 an16 cd16 ct16), sl16⟩)
    (c16 : PySem.W.codeIn K cd16 "_are_letters" = true)
    (k16 : PySem.W.keepIn K (.ref f16) = true)
    (a17 : PySem.W.findIn K (.ref CF) "__init__" = some (some (.ref f17)))
    (i17 : PySem.W.isFn K (.ref f17) = true)
    (l17 : K.lookup f17 = some ⟨oc17, od17, .func (PySem.W.fnOf "__init__" "Transformations.__init__" (defArgs sTi) (defBody sTi) (defScope sTi) .none kV17 dc17 pm17 an17 cd17 ct17), sl17⟩)
    (c17 : PySem.W.codeIn K cd17 "Transformations.__init__" = true)
    (k17 : PySem.W.keepIn K (.ref f17) = true)
    (a18 : PySem.W.findIn K (.ref CF) "__len__" = some (some (.ref f18)))
    (i18 : PySem.W.isFn K (.ref f18) = true)
    (l18 : K.lookup f18 = some ⟨oc18, od18, .func (PySem.W.fnOf "__len__" "Transformations.__len__" (defArgs sTl) (defBody sTl) (defScope sTl) .none kV18 dc18 pm18 an18 cd18 ct18), sl18⟩)
    (c18 : PySem.W.codeIn K cd18 "Transformations.__len__" = true)
    (k18 : PySem.W.keepIn K (.ref f18) = true)
    (a19 : PySem.W.findIn K (.ref CF) "__eq__" = some (some (.ref f19)))
    (i19 : PySem.W.isFn K (.ref f19) = true)
    (l19 : K.lookup f19 = some ⟨oc19, od19, .func (PySem.W.fnOf "__eq__" "Transformations.__eq__" (defArgs sTe) (defBody sTe) (defScope sTe) .none kV19 dc19 pm19 an19 cd19 ct19), sl19⟩)
    (c19 : PySem.W.codeIn K cd19 "Transformations.__eq__" = true)
    (k19 : PySem.W.keepIn K (.ref f19) = true)
    (a20 : PySem.W.findIn K (.ref CF) "contents" = some (some (.ref f20)))
    (i20 : PySem.W.isFn K (.ref f20) = true)
    (l20 : K.lookup f20 = some ⟨oc20, od20, .func (PySem.W.fnOf "contents" "Transformations.contents" (defArgs sCt) (defBody sCt) (defScope sCt) .none kV20 dc20 pm20 an20 cd20 ct20), sl20⟩)
    (c20 : PySem.W.codeIn K cd20 "Transformations.contents" = true)
    (k20 : PySem.W.keepIn K (.ref f20) = true)
    (a21 : PySem.W.findIn K (.ref CF) "table" = some (some (.ref f21)))
    (i21 : PySem.W.isFn K (.ref f21) = true)
    (l21 : K.lookup f21 = some ⟨oc21, od21, .func (PySem.W.fnOf "table" "Transformations.table" (defArgs sTt) (defBody sTt) (defScope sTt) .none kV21 dc21 pm21 an21 cd21 ct21), sl21⟩)
    (c21 : PySem.W.codeIn K cd21 "Transformations.table" = true)
    (k21 : PySem.W.keepIn K (.ref f21) = true)
    (a22 : PySem.W.findIn K (.ref CF) "_map_of" = some (some (.ref f22)))
    (i22 : PySem.W.isFn K (.ref f22) = true)
    (l22 : K.lookup f22 = some ⟨oc22, od22, .func (PySem.W.fnOf "_map_of" "Transformations._map_of" (defArgs sMo) (defBody sMo) (defScope sMo) .none kV22 dc22 pm22 an22 cd22 ct22), sl22⟩)
    (c22 : PySem.W.codeIn K cd22 "Transformations._map_of" = true)
    (k22 : PySem.W.keepIn K (.ref f22) = true)
    (a23 : PySem.W.findIn K (.ref CF) "element_of" = some (some (.ref f23)))
    (i23 : PySem.W.isFn K (.ref f23) = true)
    (l23 : K.lookup f23 = some ⟨oc23, od23, .func (PySem.W.fnOf "element_of" "Transformations.element_of" (defArgs sEo) (defBody sEo) (defScope sEo) .none kV23 dc23 pm23 an23 cd23 ct23), sl23⟩)
    (c23 : PySem.W.codeIn K cd23 "Transformations.element_of" = true)
    (k23 : PySem.W.keepIn K (.ref f23) = true)
    (a24 : PySem.W.findIn K (.ref CF) "word_of" = some (some (.ref f24)))
    (i24 : PySem.W.isFn K (.ref f24) = true)
    (l24 : K.lookup f24 = some ⟨oc24, od24, .func (PySem.W.fnOf "word_of" "Transformations.word_of" (defArgs sWo) (defBody sWo) (defScope sWo) .none kV24 dc24 pm24 an24 cd24 ct24), sl24⟩)
    (c24 : PySem.W.codeIn K cd24 "Transformations.word_of" = true)
    (k24 : PySem.W.keepIn K (.ref f24) = true)
    (a25 : PySem.W.findIn K (.ref CF) "run" = some (some (.ref f25)))
    (i25 : PySem.W.isFn K (.ref f25) = true)
    (l25 : K.lookup f25 = some ⟨oc25, od25, .func (PySem.W.fnOf "run" "Transformations.run" (defArgs sRu) (defBody sRu) (defScope sRu) .none kV25 dc25 pm25 an25 cd25 ct25), sl25⟩)
    (c25 : PySem.W.codeIn K cd25 "Transformations.run" = true)
    (k25 : PySem.W.keepIn K (.ref f25) = true)
    (a26 : PySem.W.nsIn K mainGlobals "_law_letter_names" = some (some (.ref f26)))
    (l26 : K.lookup f26 = some ⟨oc26, od26, .func (PySem.W.fnOf "_law_letter_names" "_law_letter_names" (defArgs sNa) (defBody sNa) (defScope sNa) .none kV26 dc26 pm26 an26 cd26 ct26), sl26⟩)
    (c26 : PySem.W.codeIn K cd26 "_law_letter_names" = true)
    (k26 : PySem.W.keepIn K (.ref f26) = true)
    (a27 : PySem.W.nsIn K mainGlobals "_law_letters" = some (some (.ref f27)))
    (l27 : K.lookup f27 = some ⟨oc27, od27, .func (PySem.W.fnOf "_law_letters" "_law_letters" (defArgs sLt) (defBody sLt) (defScope sLt) .none kV27 dc27 pm27 an27 cd27 ct27), sl27⟩)
    (c27 : PySem.W.codeIn K cd27 "_law_letters" = true)
    (k27 : PySem.W.keepIn K (.ref f27) = true)
    (a28 : PySem.W.findIn K (.ref CF) "letters" = some (some (.ref f28)))
    (i28 : PySem.W.isFn K (.ref f28) = true)
    (l28 : K.lookup f28 = some ⟨oc28, od28, .func (PySem.W.fnOf "letters" "Transformations.letters" (defArgs sLs) (defBody sLs) (defScope sLs) .none kV28 dc28 pm28 an28 cd28 ct28), sl28⟩)
    (c28 : PySem.W.codeIn K cd28 "Transformations.letters" = true)
    (k28 : PySem.W.keepIn K (.ref f28) = true)
    (a29 : PySem.W.nsIn K mainGlobals "_law_made" = some (some (.ref f29)))
    (l29 : K.lookup f29 = some ⟨oc29, od29, .func (PySem.W.fnOf "_law_made" "_law_made" (defArgs sLm) (defBody sLm) (defScope sLm) .none kV29 dc29 pm29 an29 cd29 ct29), sl29⟩)
    (c29 : PySem.W.codeIn K cd29 "_law_made" = true)
    (k29 : PySem.W.keepIn K (.ref f29) = true)
    (a30 : PySem.W.nsIn K mainGlobals "_law_contents" = some (some (.ref f30)))
    (l30 : K.lookup f30 = some ⟨oc30, od30, .func (PySem.W.fnOf "_law_contents" "_law_contents" (defArgs sLc) (defBody sLc) (defScope sLc) .none kV30 dc30 pm30 an30 cd30 ct30), sl30⟩)
    (c30 : PySem.W.codeIn K cd30 "_law_contents" = true)
    (k30 : PySem.W.keepIn K (.ref f30) = true)
    (a31 : PySem.W.nsIn K mainGlobals "_law_map" = some (some (.ref f31)))
    (l31 : K.lookup f31 = some ⟨oc31, od31, .func (PySem.W.fnOf "_law_map" "_law_map" (defArgs sMp) (defBody sMp) (defScope sMp) .none kV31 dc31 pm31 an31 cd31 ct31), sl31⟩)
    (c31 : PySem.W.codeIn K cd31 "_law_map" = true)
    (k31 : PySem.W.keepIn K (.ref f31) = true)
    (a32 : PySem.W.nsIn K mainGlobals "_law_short_right" = some (some (.ref f32)))
    (l32 : K.lookup f32 = some ⟨oc32, od32, .func (PySem.W.fnOf "_law_short_right" "_law_short_right" (defArgs sSr) (defBody sSr) (defScope sSr) .none kV32 dc32 pm32 an32 cd32 ct32), sl32⟩)
    (c32 : PySem.W.codeIn K cd32 "_law_short_right" = true)
    (k32 : PySem.W.keepIn K (.ref f32) = true)
    (a33 : PySem.W.nsIn K mainGlobals "_law_between_right" = some (some (.ref f33)))
    (l33 : K.lookup f33 = some ⟨oc33, od33, .func (PySem.W.fnOf "_law_between_right" "_law_between_right" (defArgs sBr) (defBody sBr) (defScope sBr) .none kV33 dc33 pm33 an33 cd33 ct33), sl33⟩)
    (c33 : PySem.W.codeIn K cd33 "_law_between_right" = true)
    (k33 : PySem.W.keepIn K (.ref f33) = true)
    (a34 : PySem.W.nsIn K mainGlobals "_law_right" = some (some (.ref f34)))
    (l34 : K.lookup f34 = some ⟨oc34, od34, .func (PySem.W.fnOf "_law_right" "_law_right" (defArgs sRg) (defBody sRg) (defScope sRg) .none kV34 dc34 pm34 an34 cd34 ct34), sl34⟩)
    (c34 : PySem.W.codeIn K cd34 "_law_right" = true)
    (k34 : PySem.W.keepIn K (.ref f34) = true)
    (a35 : PySem.W.nsIn K mainGlobals "law" = some (some (.ref f35)))
    (l35 : K.lookup f35 = some ⟨oc35, od35, .func (PySem.W.fnOf "law" "law" (defArgs sLaw) (defBody sLaw) (defScope sLaw) .none kV35 dc35 pm35 an35 cd35 ct35), sl35⟩)
    (c35 : PySem.W.codeIn K cd35 "law" = true)
    (k35 : PySem.W.keepIn K (.ref f35) = true)
    (q0 : PySem.W.nsIn K mainGlobals "LARGEST_TABLE" = some (some (.int 16 tk0)))
    (q1 : PySem.W.nsIn K mainGlobals "MOST_STATES" = some (some (.int 5 tk1)))
    (q2 : PySem.W.nsIn K mainGlobals "MOST_LETTERS" = some (some (.int 4 tk2)))
    (q3 : PySem.W.nsIn K mainGlobals "_LONGEST_WORD" = some (some (.int 60 tk3)))
    (q4 : PySem.W.nsIn K mainGlobals "_MOST_LETTERS" = some (some (.int 8 tk4)))
    (z_max : PySem.W.nsIn K mainGlobals "max" = some none)
    (z_min : PySem.W.nsIn K mainGlobals "min" = some none)
    (z_len : PySem.W.nsIn K mainGlobals "len" = some none)
    (z_range : PySem.W.nsIn K mainGlobals "range" = some none)
    (z_repr : PySem.W.nsIn K mainGlobals "repr" = some none)
    (z_isinstance : PySem.W.nsIn K mainGlobals "isinstance" = some none)
    (z_all : PySem.W.nsIn K mainGlobals "all" = some none)
    (z_enumerate : PySem.W.nsIn K mainGlobals "enumerate" = some none)
    (z_tuple : PySem.W.nsIn K mainGlobals "tuple" = some none)
    (z_dict : PySem.W.nsIn K mainGlobals "dict" = some none)
    (z_str : PySem.W.nsIn K mainGlobals "str" = some none)
    (z_int : PySem.W.nsIn K mainGlobals "int" = some none)
    (z_bool : PySem.W.nsIn K mainGlobals "bool" = some none)
    (z_list : PySem.W.nsIn K mainGlobals "list" = some none)
    (z_sorted : PySem.W.nsIn K mainGlobals "sorted" = some none)
    (tL : PySem.W.typeIn K (.ref f7) = some (.type "function"))
    (sCi : PySem.W.subIn K (.ref CF) (.type "int") = some false)
    (tL2 : PySem.W.typeIn K (.ref f18) = some (.type "function"))
    : ∃ fd : FuncData, (∀ (s : Shared) (v : Value), BindsTo s fd ⟨[v], []⟩ [("script", v)]) ∧ ∀ base : Heap, K.In base → base.Ns mainGlobals mg → (∃ o, base.get? sysModules = some o) → GOk l.prog w K mg base CX0 10 fa fd ["script"] (spLaw K) := by
  have e := hfa.symm.trans (PySem.W.mg_of X G a35)
  cases e
  have F0 := fun_mk (st := sIsInt) l0 c0 k0
  have b0 := F0.binds (ps := ["value"]) fun _ _ _ _ _ _ us hl => match us, hl with | [_], _ => rfl
  have m0 := PySem.W.mg_of X G a0
  have F1 := fun_mk (st := sIsList) l1 c1 k1
  have b1 := F1.binds (ps := ["value", "least", "most"]) fun _ _ _ _ _ _ us hl => match us, hl with | [_, _, _], _ => rfl
  have m1 := PySem.W.mg_of X G a1
  have F2 := fun_mk (st := sBelow) l2 c2 k2
  have b2 := F2.binds (ps := ["value", "limit"]) fun _ _ _ _ _ _ us hl => match us, hl with | [_, _], _ => rfl
  have m2 := PySem.W.mg_of X G a2
  have F3 := fun_mk (st := sNumList) l3 c3 k3
  have b3 := F3.binds (ps := ["value", "least", "most", "limit"]) fun _ _ _ _ _ _ us hl => match us, hl with | [_, _, _, _], _ => rfl
  have m3 := PySem.W.mg_of X G a3
  have F4 := fun_mk (st := sAreRows) l4 c4 k4
  have b4 := F4.binds (ps := ["rows"]) fun _ _ _ _ _ _ us hl => match us, hl with | [_], _ => rfl
  have m4 := PySem.W.mg_of X G a4
  have F5 := fun_mk (st := sWrong) l5 c5 k5
  have b5 := F5.binds (ps := ["rows"]) fun _ _ _ _ _ _ us hl => match us, hl with | [_], _ => rfl
  have m5 := PySem.W.mg_of X G a5
  have F6 := fun_mk (st := sInit) l6 c6 k6
  have b6 := F6.binds (ps := ["self", "rows"]) fun _ _ _ _ _ _ us hl => match us, hl with | [_, _], _ => rfl
  have F7 := fun_mk (st := sLen) l7 c7 k7
  have b7 := F7.binds (ps := ["self"]) fun _ _ _ _ _ _ us hl => match us, hl with | [_], _ => rfl
  have F8 := fun_mk (st := sRowsM) l8 c8 k8
  have b8 := F8.binds (ps := ["self"]) fun _ _ _ _ _ _ us hl => match us, hl with | [_], _ => rfl
  have F9 := fun_mk (st := sCell) l9 c9 k9
  have b9 := F9.binds (ps := ["script", "k"]) fun _ _ _ _ _ _ us hl => match us, hl with | [_, _], _ => rfl
  have m9 := PySem.W.mg_of X G a9
  have F10 := fun_mk (st := sBox) l10 c10 k10
  have b10 := F10.binds (ps := ["cell"]) fun _ _ _ _ _ _ us hl => match us, hl with | [_], _ => rfl
  have m10 := PySem.W.mg_of X G a10
  have F11 := fun_mk (st := sTake) l11 c11 k11
  have b11 := F11.binds (ps := ["box", "size"]) fun _ _ _ _ _ _ us hl => match us, hl with | [_, _], _ => rfl
  have m11 := PySem.W.mg_of X G a11
  have F12 := fun_mk (st := sEiM) l12 c12 k12
  have b12 := F12.binds (ps := ["self", "count"]) fun _ _ _ _ _ _ us hl => match us, hl with | [_, _], _ => rfl
  have F13 := fun_mk (st := sIsName) l13 c13 k13
  have b13 := F13.binds (ps := ["value"]) fun _ _ _ _ _ _ us hl => match us, hl with | [_], _ => rfl
  have m13 := PySem.W.mg_of X G a13
  have F14 := fun_mk (st := sCd) l14 c14 k14
  have b14 := F14.binds (ps := ["first", "second"]) fun _ _ _ _ _ _ us hl => match us, hl with | [_, _], _ => rfl
  have m14 := PySem.W.mg_of X G a14
  have F15 := fun_mk (st := sSw) l15 c15 k15
  have b15 := F15.binds (ps := ["states", "letters"]) fun _ _ _ _ _ _ us hl => match us, hl with | [_, _], _ => rfl
  have m15 := PySem.W.mg_of X G a15
  have F16 := fun_mk (st := sAl) l16 c16 k16
  have b16 := F16.binds (ps := ["states", "letters"]) fun _ _ _ _ _ _ us hl => match us, hl with | [_, _], _ => rfl
  have m16 := PySem.W.mg_of X G a16
  have F17 := fun_mk (st := sTi) l17 c17 k17
  have b17 := F17.binds (ps := ["self", "states", "letters"]) fun _ _ _ _ _ _ us hl => match us, hl with | [_, _, _], _ => rfl
  have F18 := fun_mk (st := sTl) l18 c18 k18
  have b18 := F18.binds (ps := ["self"]) fun _ _ _ _ _ _ us hl => match us, hl with | [_], _ => rfl
  have F19 := fun_mk (st := sTe) l19 c19 k19
  have b19 := F19.binds (ps := ["self", "other"]) fun _ _ _ _ _ _ us hl => match us, hl with | [_, _], _ => rfl
  have F20 := fun_mk (st := sCt) l20 c20 k20
  have b20 := F20.binds (ps := ["self"]) fun _ _ _ _ _ _ us hl => match us, hl with | [_], _ => rfl
  have F21 := fun_mk (st := sTt) l21 c21 k21
  have b21 := F21.binds (ps := ["self"]) fun _ _ _ _ _ _ us hl => match us, hl with | [_], _ => rfl
  have F22 := fun_mk (st := sMo) l22 c22 k22
  have b22 := F22.binds (ps := ["self", "word"]) fun _ _ _ _ _ _ us hl => match us, hl with | [_, _], _ => rfl
  have F23 := fun_mk (st := sEo) l23 c23 k23
  have b23 := F23.binds (ps := ["self", "word"]) fun _ _ _ _ _ _ us hl => match us, hl with | [_, _], _ => rfl
  have F24 := fun_mk (st := sWo) l24 c24 k24
  have b24 := F24.binds (ps := ["self", "element"]) fun _ _ _ _ _ _ us hl => match us, hl with | [_, _], _ => rfl
  have F25 := fun_mk (st := sRu) l25 c25 k25
  have b25 := F25.binds (ps := ["self", "state", "word"]) fun _ _ _ _ _ _ us hl => match us, hl with | [_, _, _], _ => rfl
  have F26 := fun_mk (st := sNa) l26 c26 k26
  have b26 := F26.binds (ps := ["box"]) fun _ _ _ _ _ _ us hl => match us, hl with | [_], _ => rfl
  have m26 := PySem.W.mg_of X G a26
  have F27 := fun_mk (st := sLt) l27 c27 k27
  have b27 := F27.binds (ps := ["box"]) fun _ _ _ _ _ _ us hl => match us, hl with | [_], _ => rfl
  have m27 := PySem.W.mg_of X G a27
  have F28 := fun_mk (st := sLs) l28 c28 k28
  have b28 := F28.binds (ps := ["self"]) fun _ _ _ _ _ _ us hl => match us, hl with | [_], _ => rfl
  have F29 := fun_mk (st := sLm) l29 c29 k29
  have b29 := F29.binds (ps := ["size", "letters"]) fun _ _ _ _ _ _ us hl => match us, hl with | [_, _], _ => rfl
  have m29 := PySem.W.mg_of X G a29
  have F30 := fun_mk (st := sLc) l30 c30 k30
  have b30 := F30.binds (ps := ["size", "letters"]) fun _ _ _ _ _ _ us hl => match us, hl with | [_, _], _ => rfl
  have m30 := PySem.W.mg_of X G a30
  have F31 := fun_mk (st := sMp) l31 c31 k31
  have b31 := F31.binds (ps := ["size", "letters", "word"]) fun _ _ _ _ _ _ us hl => match us, hl with | [_, _, _], _ => rfl
  have m31 := PySem.W.mg_of X G a31
  have F32 := fun_mk (st := sSr) l32 c32 k32
  have b32 := F32.binds (ps := ["made", "size", "letters", "contents"]) fun _ _ _ _ _ _ us hl => match us, hl with | [_, _, _, _], _ => rfl
  have m32 := PySem.W.mg_of X G a32
  have F33 := fun_mk (st := sBr) l33 c33 k33
  have b33 := F33.binds (ps := ["made", "letters", "contents"]) fun _ _ _ _ _ _ us hl => match us, hl with | [_, _, _], _ => rfl
  have m33 := PySem.W.mg_of X G a33
  have F34 := fun_mk (st := sRg) l34 c34 k34
  have b34 := F34.binds (ps := ["box", "made", "size", "letters"]) fun _ _ _ _ _ _ us hl => match us, hl with | [_, _, _, _], _ => rfl
  have m34 := PySem.W.mg_of X G a34
  have F35 := fun_mk (st := sLaw) l35 c35 k35
  have b35 := F35.binds (ps := ["script"]) fun _ _ _ _ _ _ us hl => match us, hl with | [_], _ => rfl
  have m35 := PySem.W.mg_of X G a35
  have M : Mn mg := ⟨PySem.W.mg_none_of X G z_max, PySem.W.mg_none_of X G z_min, PySem.W.mg_none_of X G z_len, PySem.W.mg_none_of X G z_range, PySem.W.mg_none_of X G z_repr, PySem.W.mg_none_of X G z_isinstance, PySem.W.mg_none_of X G z_all, PySem.W.mg_none_of X G z_enumerate, PySem.W.mg_none_of X G z_tuple, PySem.W.mg_none_of X G z_dict, PySem.W.mg_none_of X G z_str, PySem.W.mg_none_of X G z_int, PySem.W.mg_none_of X G z_bool, PySem.W.mg_none_of X G z_list⟩
  refine ⟨PySem.W.fnOf "law" "law" (defArgs sLaw) (defBody sLaw) (defScope sLaw) .none kV35 dc35 pm35 an35 cd35 ct35, fun s v => .of_eq rfl, fun base _ _ hS => ?_⟩
  have T : CTx K mg C := ⟨⟨pg, hd, po, sa⟩, nR, PySem.W.mg_of X G aC⟩
  have Y : CTi K C := ⟨ya, yn, yt, ym⟩
  have EO : ETx K mg "TooMany" "count" CO f12 := ⟨⟨clCO, saCO, exCO, tyCO, kCO⟩, ⟨gaCO, ggCO, exCO, hdCO⟩, a12, t12, nvCO, PySem.W.mg_of X G aCO⟩
  have UF : TfX K CF := ⟨⟨pgu, hdu, pou, sau⟩, n1u, n2u, n3u, n4u⟩
  have YF : CTi K CF := ⟨yau, yn, yt, ymu⟩
  have mCF := PySem.W.mg_of X G au
  have G0 := ok_isint (P := l.prog) (w := w) (base := base) F0 M
  have G1 := ok_islist (P := l.prog) (w := w) (base := base) F1 M
  have G2 := ok_below F2 G0 b0 k0 m0
  have G3 := ok_numlist F3 M G1 b1 k1 m1 G2 b2 k2 m2
  have G4 := ok_arerows F4 M ⟨_, PySem.W.mg_of X G q0⟩ G1 b1 k1 m1 G3 b3 k3 m3
  have G5 := ok_wrong (P := l.prog) (w := w) (base := base) F5 M
  have G6 := ok_init F6 M T G4 b4 k4 m4 G5 b5 k5 m5
  have G7 := ok_len (P := l.prog) (w := w) (base := base) F7 M T
  have G8 := ok_rowsM (P := l.prog) (w := w) (base := base) F8 M T
  have h_rows : Meth K C "rows" f8 := ⟨a8, i8, k8⟩
  have G9 := ok_cell (P := l.prog) (w := w) (base := base) F9 M
  have G10 := ok_box (P := l.prog) (w := w) (base := base) F10 M
  have G11 := ok_take (P := l.prog) (w := w) (base := base) F11 M
  have G12 := ok_eiM (P := l.prog) (w := w) (base := base) (mg := mg) (C := CO) F12
  have G13 := ok_isname (P := l.prog) (w := w) (base := base) F13 M ⟨_, PySem.W.mg_of X G q4⟩
  have G14 := ok_cd (P := l.prog) (w := w) (base := base) F14 M
  have G15 := ok_sw F15 M ⟨_, PySem.W.mg_of X G q0⟩ EO G12 b12 G14 b14 k14 m14
  have G16 := ok_al F16 M ⟨_, PySem.W.mg_of X G q2⟩ G13 b13 k13 m13 G3 b3 k3 m3
  have G17 := ok_ti F17 M UF ⟨_, PySem.W.mg_of X G q1⟩ G0 b0 k0 m0 G16 b16 k16 m16 G15 b15 k15 m15
  have G18 := ok_tl (P := l.prog) (w := w) (base := base) F18 M UF
  have G19 := ok_te (P := l.prog) (w := w) (base := base) F19 M UF YF mCF
  have G20 := ok_ct (P := l.prog) (w := w) (base := base) F20 M UF
  have G21 := ok_tt F21 M T UF ⟨mk, a6, i6, kc⟩ G6 b6 G14 b14 k14 m14
  have G22 := ok_mo F22 M UF ⟨_, PySem.W.mg_of X G q3⟩ G1 b1 k1 m1 G13 b13 k13 m13 G14 b14 k14 m14
  have G23 := ok_eo F23 M UF G22 b22 ⟨a22, i22, k22⟩
  have G24 := ok_wo F24 M UF G2 b2 k2 m2
  have G25 := ok_ru F25 M UF G22 b22 ⟨a22, i22, k22⟩ G2 b2 k2 m2
  have G26 := ok_na F26 M G11 b11 k11 m11
  have G27 := ok_lt F27 M G11 b11 k11 m11 G26 b26 k26 m26
  have G28 := ok_ls (P := l.prog) (w := w) (base := base) F28 M UF
  have G29 := ok_lm F29 EO (exm_mk EO.ox suCO) mCF ⟨mku, a17, i17, kcu⟩ G17 b17
  have G30 := ok_lc (P := l.prog) (w := w) (base := base) F30 M
  have G31 := ok_mp (P := l.prog) (w := w) (base := base) F31 M
  have G32 := ok_sr F32 M (PySem.W.mg_none_of X G z_sorted) UF hS G23 b23 ⟨a23, i23, k23⟩ G31 b31 k31 m31 G24 b24 ⟨a24, i24, k24⟩
  have G33 := ok_br F33 M UF G21 b21 ⟨a21, i21, k21⟩ G20 b20 ⟨a20, i20, k20⟩ G28 b28 ⟨a28, i28, k28⟩ G25 b25 ⟨a25, i25, k25⟩ G19 b19 a19 i19 a7 tL G7 b7 a18 tL2 G18 b18
  have G34 := ok_rg F34 M UF hS G30 b30 k30 m30 G24 b24 ⟨a24, i24, k24⟩ G33 b33 k33 m33 G23 b23 ⟨a23, i23, k23⟩ (ok_eoT F23 M UF (ok_moT F22 M UF ⟨_, PySem.W.mg_of X G q3⟩ G1 b1 k1 m1 G13 b13 k13 m13 G14 b14 k14 m14) b22 ⟨a22, i22, k22⟩) G31 b31 k31 m31 G11 b11 k11 m11 G32 b32 k32 m32
  exact ok_law F35 M UF YF sCi G9 b9 k9 m9 G10 b10 k10 m10 G27 b27 k27 m27 G29 b29 k29 m29 G34 b34 k34 m34
theorem walk {l : PySem.W.OpenLaw} {q : Program} {loose : List Str} {XP : (Str → Option Value) → Heap → Prop} {YP : World → Heap → Prop} {d : DefRec} {K : Params → PySem.W.Frag} (hn : l.most = some 63) (hdf : d.params.defaults = []) (him : PyProof.Rows.importsNone q = true)
    (hY : ∀ (w : World) (h : Heap), YP w h → (K w.params).In h)
    (F : ∀ (w : World) (mg : Str → Option Value) (fa : Addr) (h : Heap), (K w.params).In h → h.Ns mainGlobals mg → mg d.name = some (.ref fa) →
      ∃ fd : FuncData, (∀ (s : Shared) (u : Value), BindsTo s fd ⟨[u], []⟩ [("script", u)]) ∧ ∀ base : Heap, (K w.params).In base → base.Ns mainGlobals mg → (∃ o, base.get? sysModules = some o) → GOk l.prog w (K w.params) mg base CX0 10 fa fd ["script"] (spLaw (K w.params))) :
    PySem.W.WalkO q loose XP YP l.row.toRowW d [] (fun f vs => PySem.call f vs) :=
  walk_g (n := 63) (k := 10) (x := "script") (sp := spLaw) hn (by decide) hdf ⟨rfl, by decide, by decide⟩ him hY F fun _ _ a ns hl _ hS => ⟨a, ns, rfl, hS, hl, fun _ => rfl⟩
end L
open PySem PySem.W PyProof.Rows
set_option maxRecDepth 100000 in
set_option pp.maxSteps 400 in
set_option maxHeartbeats 0 in
theorem PySem.Challenge.cw_producttrees_k13_shortest_words_holds : PySem.Challenge.rw_producttrees_k13_shortest_words.Holds := by
  w_on; o_law; k_head; (case hw => w_witness2)
  k_fill
  refine L.walk (l := PySem.Challenge.rw_producttrees_k13_shortest_words) rfl rfl (by decide +kernel) (fun w h Y => PySem.W.kIn_of Y) ?F
  case F =>
    intro w mg fa h KX G hmg
    refine' L.all_mk KX G hmg ?aC ?pg ?hd ?po ?sa ?mk ?kc ?nR ?ya ?yn ?yt ?ym ?au ?pgu ?hdu ?pou ?sau ?mku ?kcu ?yau ?ymu ?n1u ?n2u ?n3u ?n4u ?aCO ?clCO ?saCO ?exCO ?tyCO ?kCO ?gaCO ?ggCO ?hdCO ?suCO ?nvCO ?a0 ?l0 ?c0 ?k0 ?a1 ?l1 ?c1 ?k1 ?a2 ?l2 ?c2 ?k2 ?a3 ?l3 ?c3 ?k3 ?a4 ?l4 ?c4 ?k4 ?a5 ?l5 ?c5 ?k5 ?a6 ?i6 ?l6 ?c6 ?k6 ?a7 ?i7 ?l7 ?c7 ?k7 ?a8 ?i8 ?l8 ?c8 ?k8 ?a9 ?l9 ?c9 ?k9 ?a10 ?l10 ?c10 ?k10 ?a11 ?l11 ?c11 ?k11 ?a12 ?t12 ?l12 ?c12 ?k12 ?a13 ?l13 ?c13 ?k13 ?a14 ?l14 ?c14 ?k14 ?a15 ?l15 ?c15 ?k15 ?a16 ?l16 ?c16 ?k16 ?a17 ?i17 ?l17 ?c17 ?k17 ?a18 ?i18 ?l18 ?c18 ?k18 ?a19 ?i19 ?l19 ?c19 ?k19 ?a20 ?i20 ?l20 ?c20 ?k20 ?a21 ?i21 ?l21 ?c21 ?k21 ?a22 ?i22 ?l22 ?c22 ?k22 ?a23 ?i23 ?l23 ?c23 ?k23 ?a24 ?i24 ?l24 ?c24 ?k24 ?a25 ?i25 ?l25 ?c25 ?k25 ?a26 ?l26 ?c26 ?k26 ?a27 ?l27 ?c27 ?k27 ?a28 ?i28 ?l28 ?c28 ?k28 ?a29 ?l29 ?c29 ?k29 ?a30 ?l30 ?c30 ?k30 ?a31 ?l31 ?c31 ?k31 ?a32 ?l32 ?c32 ?k32 ?a33 ?l33 ?c33 ?k33 ?a34 ?l34 ?c34 ?k34 ?a35 ?l35 ?c35 ?k35 ?q0 ?q1 ?q2 ?q3 ?q4 ?z_max ?z_min ?z_len ?z_range ?z_repr ?z_isinstance ?z_all ?z_enumerate ?z_tuple ?z_dict ?z_str ?z_int ?z_bool ?z_list ?z_sorted ?tL ?sCi ?tL2
    (case aC => k_is)
    (case pg => k_is)
    (case hd => k_is)
    (case po => k_is)
    (case sa => k_is)
    (case mk => k_is)
    (case kc => k_is)
    (case nR => k_is)
    (case ya => k_is)
    (case yn => k_is)
    (case yt => k_is)
    (case ym => k_is)
    (case au => k_is)
    (case pgu => k_is)
    (case hdu => k_is)
    (case pou => k_is)
    (case sau => k_is)
    (case mku => k_is)
    (case kcu => k_is)
    (case yau => k_is)
    (case ymu => k_is)
    (case n1u => k_is)
    (case n2u => k_is)
    (case n3u => k_is)
    (case n4u => k_is)
    (case aCO => k_is)
    (case clCO => exact ⟨_, _, _, _, _, _, _, _, _, _, _, _, _, _, _, by k_is, by decide +kernel⟩)
    (case saCO => k_is)
    (case exCO => k_is)
    (case tyCO => k_is)
    (case kCO => k_is)
    (case gaCO => k_is)
    (case ggCO => k_is)
    (case hdCO => k_is)
    (case suCO => k_is)
    (case nvCO => k_is)
    (case a0 => k_is)
    (case l0 => k_is)
    (case c0 => k_is)
    (case k0 => k_is)
    (case a1 => k_is)
    (case l1 => k_is)
    (case c1 => k_is)
    (case k1 => k_is)
    (case a2 => k_is)
    (case l2 => k_is)
    (case c2 => k_is)
    (case k2 => k_is)
    (case a3 => k_is)
    (case l3 => k_is)
    (case c3 => k_is)
    (case k3 => k_is)
    (case a4 => k_is)
    (case l4 => k_is)
    (case c4 => k_is)
    (case k4 => k_is)
    (case a5 => k_is)
    (case l5 => k_is)
    (case c5 => k_is)
    (case k5 => k_is)
    (case a6 => k_is)
    (case i6 => k_is)
    (case l6 => k_is)
    (case c6 => k_is)
    (case k6 => k_is)
    (case a7 => k_is)
    (case i7 => k_is)
    (case l7 => k_is)
    (case c7 => k_is)
    (case k7 => k_is)
    (case a8 => k_is)
    (case i8 => k_is)
    (case l8 => k_is)
    (case c8 => k_is)
    (case k8 => k_is)
    (case a9 => k_is)
    (case l9 => k_is)
    (case c9 => k_is)
    (case k9 => k_is)
    (case a10 => k_is)
    (case l10 => k_is)
    (case c10 => k_is)
    (case k10 => k_is)
    (case a11 => k_is)
    (case l11 => k_is)
    (case c11 => k_is)
    (case k11 => k_is)
    (case a12 => k_is)
    (case t12 => k_is)
    (case l12 => k_is)
    (case c12 => k_is)
    (case k12 => k_is)
    (case a13 => k_is)
    (case l13 => k_is)
    (case c13 => k_is)
    (case k13 => k_is)
    (case a14 => k_is)
    (case l14 => k_is)
    (case c14 => k_is)
    (case k14 => k_is)
    (case a15 => k_is)
    (case l15 => k_is)
    (case c15 => k_is)
    (case k15 => k_is)
    (case a16 => k_is)
    (case l16 => k_is)
    (case c16 => k_is)
    (case k16 => k_is)
    (case a17 => k_is)
    (case i17 => k_is)
    (case l17 => k_is)
    (case c17 => k_is)
    (case k17 => k_is)
    (case a18 => k_is)
    (case i18 => k_is)
    (case l18 => k_is)
    (case c18 => k_is)
    (case k18 => k_is)
    (case a19 => k_is)
    (case i19 => k_is)
    (case l19 => k_is)
    (case c19 => k_is)
    (case k19 => k_is)
    (case a20 => k_is)
    (case i20 => k_is)
    (case l20 => k_is)
    (case c20 => k_is)
    (case k20 => k_is)
    (case a21 => k_is)
    (case i21 => k_is)
    (case l21 => k_is)
    (case c21 => k_is)
    (case k21 => k_is)
    (case a22 => k_is)
    (case i22 => k_is)
    (case l22 => k_is)
    (case c22 => k_is)
    (case k22 => k_is)
    (case a23 => k_is)
    (case i23 => k_is)
    (case l23 => k_is)
    (case c23 => k_is)
    (case k23 => k_is)
    (case a24 => k_is)
    (case i24 => k_is)
    (case l24 => k_is)
    (case c24 => k_is)
    (case k24 => k_is)
    (case a25 => k_is)
    (case i25 => k_is)
    (case l25 => k_is)
    (case c25 => k_is)
    (case k25 => k_is)
    (case a26 => k_is)
    (case l26 => k_is)
    (case c26 => k_is)
    (case k26 => k_is)
    (case a27 => k_is)
    (case l27 => k_is)
    (case c27 => k_is)
    (case k27 => k_is)
    (case a28 => k_is)
    (case i28 => k_is)
    (case l28 => k_is)
    (case c28 => k_is)
    (case k28 => k_is)
    (case a29 => k_is)
    (case l29 => k_is)
    (case c29 => k_is)
    (case k29 => k_is)
    (case a30 => k_is)
    (case l30 => k_is)
    (case c30 => k_is)
    (case k30 => k_is)
    (case a31 => k_is)
    (case l31 => k_is)
    (case c31 => k_is)
    (case k31 => k_is)
    (case a32 => k_is)
    (case l32 => k_is)
    (case c32 => k_is)
    (case k32 => k_is)
    (case a33 => k_is)
    (case l33 => k_is)
    (case c33 => k_is)
    (case k33 => k_is)
    (case a34 => k_is)
    (case l34 => k_is)
    (case c34 => k_is)
    (case k34 => k_is)
    (case a35 => k_is)
    (case l35 => k_is)
    (case c35 => k_is)
    (case k35 => k_is)
    (case q0 => k_is)
    (case q1 => k_is)
    (case q2 => k_is)
    (case q3 => k_is)
    (case q4 => k_is)
    (case z_max => k_is)
    (case z_min => k_is)
    (case z_len => k_is)
    (case z_range => k_is)
    (case z_repr => k_is)
    (case z_isinstance => k_is)
    (case z_all => k_is)
    (case z_enumerate => k_is)
    (case z_tuple => k_is)
    (case z_dict => k_is)
    (case z_str => k_is)
    (case z_int => k_is)
    (case z_bool => k_is)
    (case z_list => k_is)
    (case z_sorted => k_is)
    (case tL => k_is)
    (case sCi => k_is)
    (case tL2 => k_is)

