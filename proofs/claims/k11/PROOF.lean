import PyProof.Rows.All
import Wide.All
import OpenK.AllK
import Wide.FinOn
import HandS.ForMost
import HandS.IsInst
import HandS.RaiseMore
import HandS.Defaults
import HandS.Wide
import HandS.Walk
import KE.IntTextLaws
import KE.OsScanText
import HandS.StrMore
import HandS.ForExc
import HandS.ExcInit
import HandS.ExcField
import HandS.ExcOwn
import PyProof.StrOps2
import HandS.Deep
import HandS.Conv
import HandS.OwnEq
import HandS.NamedTupGet
import HandS.Strs
import HandS.SetFor
import HandS.TupAny
import PyProof.InstNe
import PyProof.NeKinds
import HandS.More
import KE.DatumOrd
import PyProof.Rows.RowBridgeK
import KE.KDictPairs
import KE.KDictCopyH
import HandS.Dict
import KE.KDictZip
import HandS.Sort
import HandS.DictComp
import HandS.TupLen
import HandS.MakeKwOnly
import HandS.SetKeys
import HandS.Style
import HandS.Finally
import HandS.Zip
import HandS.ListItems
import PySem.Challenge.RW_producttrees_k11_numbered_transformation
set_option Elab.async false
set_option linter.all false
set_option maxRecDepth 100000
set_option maxHeartbeats 4000000
/-! Own layer: data trees with dicts (Dq), repr of them, defs that know that no repr runs (GOk). -/
namespace KX
open PySem PySem.Spec PyProof.Rows L2
/-- a dict's key as data -/
def kD : Key → PyData
  | .inl i => .int i
  | .inr x => .str x
mutual
/-- the value x stands for the data d in the abstract heap -/
inductive Dq (H : Hp) : V → PyData → Prop
  | non : Dq H .non .none
  | bl (b : Bool) : Dq H (.bl b) (.bool b)
  | int (i : Int) : Dq H (.int i) (.int i)
  | str (x : Str) : Dq H (.str x) (.str x)
  | lst {a : Addr} {xs : List V} {ds : List PyData} : H a = some (.lst xs) → DqAll H xs ds → Dq H (.ref a) (.list ds)
  | tup {a : Addr} {xs : List V} {ds : List PyData} : H a = some (.tup xs) → DqAll H xs ds → Dq H (.ref a) (.tuple ds)
  | dct {a : Addr} {kvs : List (Key × V)} {ds : List (PyData × PyData)} : H a = some (.dK kvs) → DqKv H kvs ds → Dq H (.ref a) (.dict ds)
inductive DqAll (H : Hp) : List V → List PyData → Prop
  | nil : DqAll H [] []
  | cons {v : V} {vs : List V} {d : PyData} {ds : List PyData} : Dq H v d → DqAll H vs ds → DqAll H (v :: vs) (d :: ds)
inductive DqKv (H : Hp) : List (Key × V) → List (PyData × PyData) → Prop
  | nil : DqKv H [] []
  | cons {k : Key} {v : V} {r : List (Key × V)} {d : PyData} {ds : List (PyData × PyData)} : Dq H v d → DqKv H r ds → DqKv H ((k, v) :: r) ((kD k, d) :: ds)
end
def Trk (H : Hp) (as : List Addr) : Prop := ∀ a, a ∈ as → H a ≠ none
theorem Trk.nil {H : Hp} : Trk H [] := fun _ h => nomatch h
theorem Trk.app {H : Hp} {as bs : List Addr} (h1 : Trk H as) (h2 : Trk H bs) : Trk H (as ++ bs) := fun a h => (List.mem_append.mp h).elim (h1 a) (h2 a)
theorem Trk.one {H : Hp} {a : Addr} {o : HO} {as : List Addr} (h : H a = some o) (h2 : Trk H as) : Trk H (a :: as) := fun b hb => by
  rcases List.mem_cons.mp hb with e | hb
  · subst e; rw [h]; simp
  · exact h2 b hb
section
variable {X : Cx} {pins : List (Addr × Obj)} {σ : L2.St} {H : Hp} {s : Shared}
mutual
theorem Dq.reads (I : Inv X pins σ H s) : ∀ (d : PyData) (v : V) (u : Value), Dq H v d → RelV v u → ∃ as, Reads s.heap u d as ∧ Trk H as
  | .none, _, _, h, r => by cases h; cases r; exact ⟨_, Reads.none, Trk.nil⟩
  | .bool b, _, _, h, r => by cases h; cases r; exact ⟨_, Reads.bool b, Trk.nil⟩
  | .int i, _, _, h, r => by cases h; obtain ⟨t, rfl⟩ := r; exact ⟨_, Reads.int i t, Trk.nil⟩
  | .str x, _, _, h, r => by cases h; obtain ⟨t, rfl⟩ := r; exact ⟨_, Reads.str x t, Trk.nil⟩
  | .list ds, _, _, h, r => by
    cases h with
    | @lst a xs _ hs ha =>
      cases r
      obtain ⟨_, its, n, rv, ho⟩ := (show ObjOk X.prog X.w H s.heap a (.lst xs) from I.hok _ _ hs)
      obtain ⟨as, hr, tr⟩ := Dq.readsAll I ds _ its ha rv
      exact ⟨_, Reads.list ho rfl rfl (by simpa using hr), Trk.one hs tr⟩
  | .tuple ds, _, _, h, r => by
    cases h with
    | @tup a xs _ hs ha =>
      cases r
      obtain ⟨_, its, rv, o, ho, hc, n, hd⟩ := (show ObjOk X.prog X.w H s.heap a (.tup xs) from I.hok _ _ hs)
      obtain ⟨as, hr, tr⟩ := Dq.readsAll I ds _ its ha rv
      exact ⟨_, Reads.tuple ho hc hd (by simpa using hr), tr⟩
  | .dict ds, _, _, h, r => by
    cases h with
    | @dct a kvs _ hs ha =>
      cases r
      obtain ⟨_, _, vs, rv, o, es, ep, ho, hx, hd, _, hp, _⟩ := (show ObjOk X.prog X.w H s.heap a (.dK kvs) from I.hok _ _ hs)
      obtain ⟨as, bs, h1, h2, t1, t2⟩ := Dq.readsKv I ds kvs vs es.toList ha rv hp
      exact ⟨_, Reads.dict ho hx.1 hd h1 h2, Trk.app (Trk.one hs t1) t2⟩
theorem Dq.readsAll (I : Inv X pins σ H s) : ∀ (ds : List PyData) (vs : List V) (us : List Value), DqAll H vs ds → Vals vs us → ∃ as, ReadsAll s.heap us ds as ∧ Trk H as
  | [], _, _, h, r => by cases h; cases r; exact ⟨_, ReadsAll.nil, Trk.nil⟩
  | d :: ds, _, _, h, r => by
    cases h with
    | cons h1 h2 =>
      cases r with
      | cons r1 r2 =>
        obtain ⟨as, q1, t1⟩ := Dq.reads I d _ _ h1 r1
        obtain ⟨bs, q2, t2⟩ := Dq.readsAll I ds _ _ h2 r2
        exact ⟨_, ReadsAll.cons q1 q2, Trk.app t1 t2⟩
theorem Dq.readsKv (I : Inv X pins σ H s) : ∀ (ds : List (PyData × PyData)) (kvs : List (Key × V)) (vs : List (Key × Value)) (es : List DictEntry), DqKv H kvs ds → KV kvs vs → Pairs (mixKind X.prog X.w) es vs →
    ∃ as bs, ReadsAll s.heap (es.map (·.key)) (ds.map (·.1)) as ∧ ReadsAll s.heap (es.map (·.val)) (ds.map (·.2)) bs ∧ Trk H as ∧ Trk H bs
  | [], _, _, _, h, r, p => by cases h; cases r; cases p; exact ⟨_, _, ReadsAll.nil, ReadsAll.nil, Trk.nil, Trk.nil⟩
  | (_, d) :: ds, _, _, _, h, r, p => by
    cases h with
    | @cons k v _ _ _ h1 h2 =>
      cases r with
      | cons r1 r2 =>
        cases p with
        | cons p1 p2 p3 =>
          obtain ⟨as, bs, q1, q2, t1, t2⟩ := Dq.readsKv I ds _ _ _ h2 r2 p3
          obtain ⟨e1, rv⟩ := r1
          rw [← e1] at p1
          rw [← p2] at rv
          obtain ⟨cs, q3, t3⟩ := Dq.reads I d _ _ h1 rv
          rcases keyIs_shape (show keyIs k _ = true from p1) with ⟨i, t, rfl, e⟩ | ⟨x, t, rfl, e⟩
          · exact ⟨_, _, ReadsAll.cons (by show Reads s.heap (DictEntry.key _) (.int i) []; rw [e]; exact Reads.int i t) q1, ReadsAll.cons q3 q2, Trk.app Trk.nil t1, Trk.app t3 t2⟩
          · exact ⟨_, _, ReadsAll.cons (by show Reads s.heap (DictEntry.key _) (.str x) []; rw [e]; exact Reads.str x t) q1, ReadsAll.cons q3 q2, Trk.app Trk.nil t1, Trk.app t3 t2⟩
end
end
section
variable {X : Cx}
/-- repr of a value without parts -/
theorem call_repr_b : CallR X (.builtin "repr") (fun xs H Q => ∃ b : Bool, xs = [.bl b] ∧ Q (.str (PyData.bool b).shown) H) := by
  intro pins s σ H xs us Q I r h
  obtain ⟨b, rfl, q⟩ := h
  obtain ⟨u, rfl, rx⟩ := vals1 r
  cases rx
  exact PySem.P.repr_of_bool ⟨.str _, H, I.tok _, ⟨_, rfl⟩, q⟩
/-- repr of data of any depth, where no repr runs further out -/
def rRepr : List V → Hp → VK → Prop := fun xs H Q => ∃ (x : V) (d : PyData), xs = [x] ∧ Dq H x d ∧ d.showable = true ∧ d.depth ≤ 60 ∧ d.shown.length ≤ sizeLine ∧ Q (.str d.shown) H
theorem call_repr_q (hS : ∃ o, X.base.get? sysModules = some o) (hg : X.A.guards = some []) (hu : X.A.units + 64 < cLine) : CallR X (.builtin "repr") rRepr := by
  intro pins s σ H xs us Q I r h
  obtain ⟨x, d, rfl, hd, hs, hdp, hl, q⟩ := h
  obtain ⟨u, rfl, rx⟩ := vals1 r
  obtain ⟨as, hr, tr⟩ := Dq.reads I d x u hd rx
  obtain ⟨o, ho⟩ := hS
  have hsm : sysModules ∉ as := fun hm => tr _ hm (I.bs _ _ ho).2
  cases hr with
  | none => exact PySem.P.repr_of_none ⟨.str _, H, I.tok _, ⟨_, rfl⟩, q⟩
  | bool b => exact PySem.P.repr_of_bool ⟨.str _, H, I.tok _, ⟨_, rfl⟩, q⟩
  | int i t => exact PySem.P.repr_of_int (by simpa [PyData.showable] using hs) ⟨.str _, H, I.tok _, ⟨_, rfl⟩, q⟩
  | str y t => exact PySem.P.repr_of_str ⟨.str _, H, I.tok _, ⟨_, rfl⟩, q⟩ hl
  | list h1 h2 h3 h4 => exact repr_of_reads' (.list h1 h2 h3 h4) hs (fun _ => hsm) hg (by omega) (fun _ _ e => e) (fun h' u tk hk => ⟨.str _, H, I.kept hk, ⟨u, rfl⟩, q⟩) hl
  | tuple h1 h2 h3 h4 => exact repr_of_reads' (.tuple h1 h2 h3 h4) hs (fun _ => hsm) hg (by omega) (fun _ _ e => e) (fun h' u tk hk => ⟨.str _, H, I.kept hk, ⟨u, rfl⟩, q⟩) hl
  | dict h1 h2 h3 h4 h5 => exact repr_of_reads' (.dict h1 h2 h3 h4 h5) hs (fun _ => hsm) hg (by omega) (fun _ _ e => e) (fun h' u tk hk => ⟨.str _, H, I.kept hk, ⟨u, rfl⟩, q⟩) hl
/-- an expression by what is known of its value -/
theorem pe_mo {e : Expr} {t : TE} (he : PE X e t) : PE X e (fun σ H Q => ∃ R : VK, t σ H R ∧ ∀ x H1, R x H1 → Q x H1) :=
  ⟨fun pins s σ H Q I ⟨R, h, k⟩ => thn (he.run pins s σ H R I h) fun u s1 ⟨x, H1, I1, r, q⟩ => ⟨x, H1, I1, r, k x H1 q⟩⟩
/-- a test by what is known of its answer -/
theorem pt_mo {e : Expr} {t : TT} (he : PT X e t) : PT X e (fun σ H Q => ∃ R : Bool → Hp → Prop, t σ H R ∧ ∀ b H1, R b H1 → Q b H1) :=
  ⟨fun pins s σ H Q I ⟨R, h, k⟩ => thn (he.run pins s σ H R I h) fun b s1 ⟨H1, I1, q⟩ => ⟨H1, I1, k b H1 q⟩⟩
/-- a statement that is never come to -/
theorem ps_dead {st : Stmt} : PS X st (fun _ _ _ => False) := ⟨fun _ _ _ _ _ _ h => h.elim⟩
theorem pss_dead {st : List Stmt} : PSs X st (fun _ _ _ => False) := ⟨fun _ _ _ _ _ _ h => h.elim⟩
end
end KX

set_option Elab.async false
set_option linter.all false
set_option maxRecDepth 100000
set_option maxHeartbeats 4000000
/-! Defs that may use that no repr runs further out (GOk), their calls, and the law's entry for them. -/
namespace KX
open PySem PySem.Spec PyProof.Rows L2
/-- as FnOk, of calls in whose surroundings no container's repr runs -/
structure GOk (P : Program) (w : World) (K : PySem.W.Frag) (mg : Str → Option Value) (base : Heap) (CX : CXT) (k : Nat) (f : Addr) (fd : FuncData) (ps : List Str) (sp : Sp) : Prop where
  arity : ∀ vs H Q E, sp vs H Q E → vs.length = ps.length
  go : ∀ (A : Around) (out : List Env) (s : Shared) (H : Hp) (args : Args) (us : List Value) (vs : List V) (Q : VK) (E : XK),
    Room k A → A.guards = some [] → Env0 P w K mg base A out s H → BindsTo s fd args (ps.zip us) → Vals vs us → sp vs H Q E →
    codeAny (model P w) A (.call (.ref f) args) (CR CX out P w H s Q E) s
theorem FnOk.g {P : Program} {w : World} {K : PySem.W.Frag} {mg : Str → Option Value} {base : Heap} {CX : CXT} {k : Nat} {f : Addr} {fd : FuncData} {ps : List Str} {sp : Sp}
    (F : FnOk P w K mg base CX k f fd ps sp) : GOk P w K mg base CX k f fd ps sp := ⟨F.len, fun A out s H args us vs Q E hr _ => F.run A out s H args us vs Q E hr⟩
section
variable {P : Program} {w : World} {K : PySem.W.Frag} {mg : Str → Option Value} {base : Heap}
/-- a def of the text, by its body, where no repr runs further out -/
theorem gok {CX : CXT} {x qual : Str} {st : Stmt} {f : Addr} {fd : FuncData} {N ps : List Str} {k : Nat} {sp : Sp} (F : Fun K x qual st f fd) (S : FnScope N ps (defScope st))
    (ar : ∀ vs H Q E, sp vs H Q E → vs.length = ps.length)
    (body : ∀ (cdv : Value) (A : Around) (out : List Env) (s : Shared) (H : Hp) (vs : List V) (Q : VK) (E : XK),
      Room k (A.deeper (envOfC qual (defScope st) s.heap.objs.size f cdv)) → A.guards = some [] → sp vs H Q E →
      ∃ t, PSs (cxOf CX P w K mg base N qual (defScope st) f cdv A out s H E).nox (defBody st) t ∧ t { nx := fun _ H' => Q .non H', rt := Q } (start N vs) H) :
    GOk P w K mg base CX (k + 1) f fd ps sp := by
  obtain ⟨oc, od, kV, doc, pm, an, cdv, ct, osl, rfl, lk, hcd⟩ := F.ex
  refine ⟨ar, fun A out s H args us vs Q E hr hA e0 hb r hsp => ?_⟩
  -- the library's rule for a def is about every surroundings: it is asked for a promise that carries this one's guards along
  have hl := ar _ _ _ _ hsp
  have kin : K.In s.heap := e0.mod.kin.keeps fun b o e => (e0.bs b o e).1
  have par : ∀ y ∈ ps.zip us, (defScope st).names.lookup y.1 = some .local ∨
      ((defScope st).names.lookup y.1 = some .cell ∧ ((cellsFrom (s.heap.objs.size + 1) (defScope st).names []).lookup y.1).isSome = true) := by
    rintro ⟨n, v⟩ hy
    exact (S.par n (List.of_mem_zip hy).1).imp id fun q => ⟨q, PySem.W.cellsFrom_some _ _ _ (.inl q)⟩
  refine codeAny_call_function hr.depth (kin _ _ lk) rfl S.co S.gen rfl (PySem.W.codeRec_of kin hcd) (hb _ _ _ _ (wpAny_newFunctionEnv_cells S.kind par ?_))
  rintro _ rfl s1 x
  refine ⟨(e0.mod.nolimit.keeps fun b o e => (e0.bs b o e).1).keeps x.toInCall.keep, codeAny_func ?_⟩
  obtain ⟨t, ht, hq⟩ := body cdv A out s H vs Q E (hr.deeper _) hA hsp
  have I := inv_start (P := P) (w := w) (mg := mg) (CX := CX) (E := E) S hr.hd e0 hl r x
  refine wpAny_mono (ht.nox.run [] s1 _ H _ I hq) (fun fl s' hs => ?_) fun _ _ hs => hs
  match fl, hs with
  | .ret u, ⟨v, _, H', J, rv, q⟩ => exact ⟨v, H', J.os, J.bare, J.base, J.hok, rv, q⟩
  | .next, ⟨_, H', J, q⟩ => exact ⟨V.non, H', J.os, J.bare, J.base, J.hok, rfl, q⟩
  | .brk, ⟨_, _, _, q⟩ => exact q.elim
  | .cont, ⟨_, _, _, q⟩ => exact q.elim
end
section
variable {X : Cx} {CX : CXT} {k : Nat} {f : Addr} {fd : FuncData} {ps : List Str} {sp : Sp} {dvs : List V} {ds : List Value} {E : XK} {x : Str} {p pos : Pos} {e : Expr} {es : List Expr} {t : TA}
/-- the call of such a def where no repr runs further out -/
theorem pe_g (F : GOk X.prog X.w X.K X.mg X.base CX k f fd ps sp) (hA : X.A.guards = some []) (hr : Room k X.A) (hg : Gl X x) (hm : X.mg x = some (.ref f)) (hk : PySem.W.keepIn X.K (.ref f) = true)
    (hb : Binds X.K fd ps ds) (hd : Vals dvs ds) (hx : Passes CX X E) (ha : PA X (e :: es) t) (hdb : (x == ("__debug__" : Str)) = false := by decide)
    (he : starEach (e :: es) X.env = (false, eval e X.env) :: starEach es X.env := by rfl) (hpl : (backTo pos (starEach es X.env)).any (·.1) = false := by rfl) :
    PE X (.Call (.Name x p) (e :: es) [] pos) (tCall sp dvs E t) := ⟨fun pins s σ H Q I h => by
  refine wpAny_Call_Name_kw (ld_glob I hg hm (PySem.W.callWith_K (h₀ := X.base) I.ok.mod.kin hk (thn (ha.run pos pins s σ H _ I h) ?_) he hpl) hdb)
  rintro us s1 ⟨vs, H1, I1, r, q⟩
  have r2 : Vals (vs ++ dvs) (us ++ ds) := r.append hd
  have hl : (us ++ ds).length = ps.length := by rw [← r2.length]; exact F.arity _ _ _ _ q
  refine ⟨I1.kIn, wpAny_call (codeAny_mono (F.go X.A X.stack s1 H1 ⟨us, []⟩ (us ++ ds) (vs ++ dvs) Q E hr hA I1.env0 (hb s1 us I1.kIn hl) r2 q) fun r s' hq => ?_)⟩
  match r, hq with
  | .error e, hq => exact hx pins σ H1 s1 e s' I1 hq
  | .ok (.ret u), hq => exact I1.after hq⟩
end
section
variable {X : Cx} {CX : CXT} {k : Nat} {f : Addr} {fd : FuncData} {ps ks : List Str} {sp : Sp} {E : XK} {x : Str} {p pos : Pos} {kws : List Keyword} {tk : TA} {g : List Value → List Value → List Value} {gV : List V → List V → List V}
/-- f(k = v, ..), every argument by its name -/
theorem pe_kw0 (F : FnOk X.prog X.w X.K X.mg X.base CX k f fd ps sp) (hr : Room k X.A) (hg : Gl X x) (hm : X.mg x = some (.ref f)) (hk : PySem.W.keepIn X.K (.ref f) = true) (hb : KBinds X.K fd ps ks g gV) (hx : Passes CX X E)
    (hkw : PK X kws tk) (hall : (backToKw pos (keywordEach kws X.env)).all (·.1.isSome) = true := by rfl) (hks : (backToKw pos (keywordEach kws X.env)).filterMap (·.1) = ks := by rfl) (hdb : (x == ("__debug__" : Str)) = false := by decide)
    (hpl : ((backTo pos (starEach [] X.env)).any (·.1) || (backToKw pos (keywordEach kws X.env)).any (·.1.isNone)) = false := by rfl) :
    PE X (.Call (.Name x p) [] kws pos) (tCallK sp gV E tNil tk) := ⟨fun pins s σ H Q I h => by
  refine wpAny_Call_Name_kw (ld_glob I hg hm (PySem.W.callWith_KW0 (h₀ := X.base) I.ok.mod.kin hk hall (thn (hkw.run pos pins s σ H _ I h) ?_) hpl) hdb)
  rintro ws s2 ⟨zs, H2, I2, rz, q2⟩
  rw [hks]
  exact ⟨I2.kIn, run_fnk (us := []) (vs := []) F hr hb hx I2 .nil rz q2⟩⟩
end
/-- one parameter, by its place or by its name -/
theorem kb1 {K : PySem.W.Frag} {fd : FuncData} {a : Str} (h : ∀ u : Value, bindArgs fd ⟨[u], []⟩ = pure [(a, u)]) (h2 : ∀ u : Value, bindArgs fd ⟨[], [(a, u)]⟩ = pure [(a, u)]) : KBinds K fd [a] [a] (fun us ws => us ++ ws) (fun us ws => us ++ ws) where
  to := fun s us ws _ hl => by
    match us, ws, hl with
    | [], [w], _ => exact .of_eq (h2 w)
    | [u], [], _ => exact .of_eq (h u)
  rel := fun r q => r.append q
/-- what the law's def is called with: base holds sys.modules, and no repr runs -/
theorem law_g {P : Program} {w : World} {K : PySem.W.Frag} {mg mb : Str → Option Value} {k : Nat} {fa a : Addr} {fd : FuncData} {x : Str} {sp : Sp} {s₁ : Shared} {vs : List Value} {ns : List Int}
    (kin : K.In s₁.heap) (hns : s₁.heap.Ns mainGlobals mg) (hb : s₁.heap.Ns builtinsNs mb) (hbb : ∀ x : Str, x ≠ "__name__" → mb x = bootBuiltins x) (hlim : s₁.heap.NoLimit) (hsys : ∃ mm, s₁.heap.Ns sysModules mm) (hg : s₁.gens = #[])
    (ha : s₁.heap.get? a = some { cls := .type "list", data := .seq vs.toArray }) (hi : IntsAre vs ns) (hl : ns.length ≤ sizeLine) (hr : Room k callerA)
    (F : ∀ base : Heap, K.In base → base.Ns mainGlobals mg → (∃ o, base.get? sysModules = some o) → GOk P w K mg base CX0 k fa fd [x] sp) (hbind : ∀ (s : Shared) (u : Value), BindsTo s fd ⟨[u], []⟩ [(x, u)])
    (hsp : ∀ H : Hp, Only H → SqL K H a (ns.map V.int) → sp [.ref a] H (fun v _ => v = .bl true) fun _ _ _ => False) :
    codeAny (model P w) callerA (.call (.ref fa) ⟨[.ref a], []⟩) (fun r s' => r = .ok (.ret (.bool true)) ∧ OldK s₁.heap s'.heap ∧ s'.os = s₁.os ∧ AllBare s'.gens) s₁ := by
  have rv := vals_ints hi
  have nV := hi.length
  let ob : Obj := { cls := .type "list", data := .seq vs.toArray }
  suffices core : ∀ H : Hp, Only H → SqL K H a (ns.map V.int) → HOk P w H s₁.heap → (∀ b, H b ≠ none → b = a ∧ K.lookup a = none) →
      codeAny (model P w) callerA (.call (.ref fa) ⟨[.ref a], []⟩) (fun r s' => r = .ok (.ret (.bool true)) ∧ OldK s₁.heap s'.heap ∧ s'.os = s₁.os ∧ AllBare s'.gens) s₁ by
    cases hk : K.lookup a with
    | some o =>
      have e := kin a o hk
      rw [ha] at e
      cases e
      exact core (fun _ => none) (fun _ => .inl rfl) (.inr ⟨_, vs.toArray, _, hk, rfl, rfl, rfl, by rw [List.size_toArray, nV]; exact hl, by simpa using rv⟩) (fun _ _ z => nomatch z) fun _ z => absurd rfl z
    | none =>
      refine core (fun b => if b = a then some (.frz ob (.lst (ns.map V.int))) else none) (fun b => ?_) (.inl (.inr ⟨ob, if_pos rfl⟩)) (fun b u z => ?_) (fun b z => ?_)
      · by_cases hb : b = a
        · exact .inr ⟨_, _, if_pos hb⟩
        · exact .inl (if_neg hb)
      · by_cases hb : b = a
        · have z' := (if_pos hb).symm.trans z
          cases z'; subst hb
          exact ⟨ha, by rw [List.length_map]; exact hl, vs, _, rv, ha⟩
        · exact nomatch (if_neg hb).symm.trans z
      · by_cases hb : b = a
        · exact ⟨hb, hk⟩
        · exact absurd (if_neg hb) z
  intro H hO hS hok hA
  have keep : ∀ {b : Addr} {o : Obj}, s₁.heap.get? b = some o → H b = none → (hidT s₁.heap H).get? b = some o := fun e n => hidT_get e n
  have free : ∀ {b : Addr} {o : Obj}, s₁.heap.get? b = some o → (∀ es ep, o.data = .dict es ep → H b = none) := fun {b o} e es ep d => by
    refine Classical.byContradiction fun q => ?_
    obtain ⟨e', _⟩ := hA b q
    rw [e', ha] at e; cases e
    exact nomatch d
  have ns2 : ∀ {b : Addr} {m : Str → Option Value}, s₁.heap.Ns b m → (hidT s₁.heap H).Ns b m := fun {b m} ⟨o, es, ep, e, d, r⟩ => ⟨o, es, ep, keep e (free e _ _ d), d, r⟩
  have kb : K.In (hidT s₁.heap H) := fun b o e => keep (kin b o e) <| Classical.byContradiction fun q => by
    obtain ⟨e', n⟩ := hA b q
    rw [e', n] at e; cases e
  have M : Mod K mg (hidT s₁.heap H) := ⟨kb, ns2 hns, ⟨mb, ns2 hb, hbb⟩, hlim.elim fun mc h => ⟨mc, ns2 h.1, h.2⟩⟩
  have e0 : Env0 P w K mg (hidT s₁.heap H) callerA [] s₁ H := ⟨rfl, M, fun b o e => of_hidT e, Nat.le_of_eq (hidT_size _ _), trivial, fun _ hb => (nomatch hb), hok, .of_eq hg⟩
  have sys : ∃ o, (hidT s₁.heap H).get? sysModules = some o := hsys.elim fun mm h => (ns2 h).elim fun o h => h.elim fun _ h => h.elim fun _ h => ⟨o, h.1⟩
  refine codeAny_mono ((F _ kb (ns2 hns) sys).go callerA [] s₁ H ⟨[.ref a], []⟩ [.ref a] [.ref a] _ _ hr rfl e0 (hbind s₁ (.ref a)) (.cons rfl .nil) (hsp H hO hS)) fun r s' h => ?_
  match r, h with
  | .error e, h => exact h.elim
  | .ok (.ret u), ⟨v, H', os, bare, un, hok', r', q⟩ =>
    have q' : v = .bl true := q
    subst q'
    obtain rfl : u = Value.bool true := r'
    refine ⟨rfl, OldK.of_keep fun b o e => ?_, os, bare⟩
    cases q : H b with
    | none => exact un.keep b o e q (fun z => nomatch z) (fun z => nomatch z)
    | some u =>
      rcases hO b with z | ⟨_, xs, z⟩
      · rw [q] at z; cases z
      · obtain ⟨e1, _⟩ := hok b _ z
        obtain ⟨e2, _⟩ := hok' b _ (un.frzs b _ _ z)
        rw [e] at e1; cases e1
        exact e2
/-- the goal that k_head leaves, by the law's promise -/
theorem walk_g {l : PySem.W.OpenLaw} {n k : Nat} {q : Program} {loose : List Str} {XP : (Str → Option Value) → Heap → Prop} {YP : World → Heap → Prop} {d : DefRec} {K : Params → PySem.W.Frag} {sp : PySem.W.Frag → Sp} {x : Str}
    (hn : l.most = some n) (hn2 : n ≤ sizeLine) (hdf : d.params.defaults = []) (hr : Room k callerA) (him : importsNone q = true) (hY : ∀ (w : World) (h : Heap), YP w h → (K w.params).In h)
    (F : ∀ (w : World) (mg : Str → Option Value) (fa : Addr) (h : Heap), (K w.params).In h → h.Ns mainGlobals mg → mg d.name = some (.ref fa) →
      ∃ fd : FuncData, (∀ (s : Shared) (u : Value), BindsTo s fd ⟨[u], []⟩ [(x, u)]) ∧
        ∀ base : Heap, (K w.params).In base → base.Ns mainGlobals mg → (∃ o, base.get? sysModules = some o) → GOk l.prog w (K w.params) mg base CX0 k fa fd [x] (sp (K w.params)))
    (hsp : ∀ (K : PySem.W.Frag) (H : Hp) (a : Addr) (ns : List Int), ns.length ≤ n → Only H → SqL K H a (ns.map V.int) → sp K [.ref a] H (fun v _ => v = .bl true) fun _ _ _ => False) :
    PySem.W.WalkO q loose XP YP l.row.toRowW d [] (fun f vs => PySem.call f vs) := by
  refine Att.attach_call hn hdf fun w s₀ s₁ mg mb fa o pm cd doc a vs ns G Y ho hd hcd hmg hobj hints hlen hg => ?_
  obtain ⟨fd, hb, hF⟩ := F w mg fa _ (hY w _ Y) G.T.g hmg
  obtain ⟨mm, hmm, _⟩ := (G.T.seer him).mods
  exact law_g (hY w _ Y) G.T.g G.T.b G.T.builtins G.T.nolimit ⟨mm, hmm⟩ hg hobj hints (Nat.le_trans hlen hn2) hr hF hb fun H hO hS => hsp _ H a ns hlen hO hS
end KX

set_option Elab.async false
set_option linter.all false
set_option maxRecDepth 100000
set_option maxHeartbeats 4000000
/-! Own layer: short texts, picks by a drawn index. -/
namespace KX
open PySem PySem.Spec PyProof.Rows L2
/-- a short text of codes that repr shows in at most ten signs each -/
def Ss (n : Nat) (z : Str) : Prop := z.length ≤ n ∧ ∀ c, c ∈ z.cps.toList → c < 1114112
theorem Ss.mono {n m : Nat} {z : Str} (h : Ss n z) (l : n ≤ m) : Ss m z := ⟨Nat.le_trans h.1 l, h.2⟩
theorem Ss.app {n m : Nat} {a b : Str} (h : Ss n a) (g : Ss m b) : Ss (n + m) (a ++ b) := by
  refine ⟨by rw [strLen_append]; exact Nat.add_le_add h.1 g.1, fun c hc => ?_⟩
  have e : (a ++ b).cps.toList = a.cps.toList ++ b.cps.toList := Array.toList_append
  rw [e] at hc
  exact (List.mem_append.mp hc).elim (h.2 c) (g.2 c)
theorem Ss.cut {n : Nat} {a : Str} (h : Ss n a) (lo hi : Option Int) : Ss n (cutS a lo hi) := by
  refine ⟨Nat.le_trans (cutS_length a lo hi) h.1, fun c hc => h.2 c ?_⟩
  have hc' : c ∈ (a.cps.toList.drop (HT.sIx a.length 0 lo)).take (HT.sIx a.length a.length hi - HT.sIx a.length 0 lo) := by simpa [cutS] using hc
  exact List.mem_of_mem_drop (List.mem_of_mem_take hc')
theorem Ss.sign {c : Nat} (h : c < 1114112) : Ss 1 ⟨#[c]⟩ := ⟨Nat.le_refl 1, fun d hd => by simp at hd; subst hd; exact h⟩
theorem Ss.nil : Ss 0 (Str.ofString "") := ⟨by decide, by decide⟩
theorem Ss.join {m : Nat} : ∀ {ys : List Str}, (∀ y, y ∈ ys → Ss m y) → Ss (ys.length * m) (Str.join (Str.ofString "") ys)
  | [], _ => by rw [List.length_nil, Nat.zero_mul]; exact Ss.nil
  | [x], h => by rw [List.length_singleton, Nat.one_mul]; exact h x (List.mem_singleton.mpr rfl)
  | x :: z :: r, h => by
    have h1 := h x List.mem_cons_self
    have h2 := Ss.join (ys := z :: r) fun y hy => h y (List.mem_cons_of_mem _ hy)
    have h3 := (h1.app Ss.nil).app h2
    refine Ss.mono (show Ss _ (x ++ Str.ofString "" ++ Str.join (Str.ofString "") (z :: r)) from h3) ?_
    simp only [List.length_cons]
    rw [Nat.succ_mul (r.length + 1) m]
    omega
theorem Ss.joinT {m : Nat} {ys : List Str} (h : ∀ y, y ∈ ys → Ss m y) : Ss (ys.length * m) (Txt.join (Str.ofString "") ys) := by
  rw [show Txt.join (Str.ofString "") ys = Str.join (Str.ofString "") ys from StrLaws.glued_eq_join _ ys]; exact Ss.join h
theorem Ss.sum {m : Nat} : ∀ {ys : List Str}, (∀ y, y ∈ ys → Ss m y) → (ys.map (·.length)).sum ≤ ys.length * m
  | [], _ => by simp
  | x :: r, h => by
    have h1 := (h x List.mem_cons_self).1
    have h2 := Ss.sum (ys := r) fun y hy => h y (List.mem_cons_of_mem _ hy)
    simp only [List.map_cons, List.sum_cons, List.length_cons, Nat.succ_mul]
    omega
/-- an item by an index in bounds -/
theorem pick {α : Type} {xs : List α} {i : Int} (h0 : 0 ≤ i) (h1 : i < (xs.length : Int)) : ∃ (j : Nat) (v : α), xs[j]? = some v ∧ v ∈ xs ∧ i = (j : Int) ∧ atI xs i = some v := by
  have hj : i.toNat < xs.length := by omega
  have e : i = ((i.toNat : Nat) : Int) := by omega
  refine ⟨i.toNat, xs[i.toNat], List.getElem?_eq_getElem hj, List.getElem_mem hj, e, ?_⟩
  have q : atI xs ((i.toNat : Nat) : Int) = some xs[i.toNat] := atI_nat (List.getElem?_eq_getElem hj)
  rw [← e] at q
  exact q
theorem pickI {xs : List Int} {i : Int} (h0 : 0 ≤ i) (h1 : i < (xs.length : Int)) : ∃ m, m ∈ xs ∧ atI (xs.map V.int) i = some (.int m) := by
  obtain ⟨j, v, h2, h3, h4, h5⟩ := pick (xs := xs.map V.int) h0 (by rw [List.length_map]; exact h1)
  obtain ⟨m, hm, rfl⟩ := List.mem_map.mp h3
  exact ⟨m, hm, h5⟩
/-- data that repr shows in few signs -/
structure OkD (n W : Nat) (d : PyData) : Prop where
  short : d.leavesShort 110 = true
  shows : d.showable = true
  deep : d.depth ≤ n
  wt : d.weight ≤ W
theorem OkD.mono {n m W U : Nat} {d : PyData} (h : OkD n W d) (h1 : n ≤ m) (h2 : W ≤ U) : OkD m U d := ⟨h.short, h.shows, Nat.le_trans h.deep h1, Nat.le_trans h.wt h2⟩
theorem OkD.len {n W : Nat} {d : PyData} (h : OkD n W d) (hW : W ≤ 100000) : d.shown.length ≤ sizeLine := by
  have h1 := PyData.shown_le 110 (by decide) d h.short
  have h2 := h.wt
  rw [sizeLine_eq]
  have h3 : (110 + 2) * d.weight ≤ 112 * 100000 := Nat.mul_le_mul_left 112 (by omega)
  omega
theorem OkD.none : OkD 0 0 .none := ⟨rfl, rfl, Nat.le_refl _, Nat.le_refl _⟩
theorem OkD.bool (b : Bool) : OkD 0 0 (.bool b) := ⟨rfl, rfl, Nat.le_refl _, Nat.le_refl _⟩
theorem OkD.str {n : Nat} {z : Str} (h : Ss n z) : OkD 0 n (.str z) := by
  refine ⟨?_, rfl, Nat.le_refl _, h.1⟩
  simp only [PyData.leavesShort, List.all_eq_true, decide_eq_true_eq]
  exact fun c hc => Nat.lt_trans (h.2 c hc) (by decide)
theorem OkD.int {i : Int} (h : i.natAbs < 2 ^ 98) : OkD 0 100 (.int i) := by
  have hl : i.natAbs.log2 < 98 := by
    by_cases z : i.natAbs = 0
    · rw [z]; decide
    · exact (Nat.log2_lt z).mpr h
  refine ⟨?_, ?_, Nat.le_refl _, ?_⟩
  · have q := int_text_length_le (a := i) (k := 98) (by decide) hl
    have e : (PyData.shown (.int i)).length = (toString i).length := PySem.ofString_length _
    simp only [PyData.leavesShort, decide_eq_true_eq]
    omega
  · simp only [PyData.showable, decide_eq_true_eq]; omega
  · simp only [PyData.weight]; split <;> omega
theorem OkD.intB {i : Int} (h : i.natAbs < 2 ^ 104) : OkD 0 106 (.int i) := by
  have hl : i.natAbs.log2 < 104 := by
    by_cases z : i.natAbs = 0
    · rw [z]; decide
    · exact (Nat.log2_lt z).mpr h
  refine ⟨?_, ?_, Nat.le_refl _, ?_⟩
  · have q := int_text_length_le (a := i) (k := 104) (by decide) hl
    have e : (PyData.shown (.int i)).length = (toString i).length := PySem.ofString_length _
    simp only [PyData.leavesShort, decide_eq_true_eq]
    omega
  · simp only [PyData.showable, decide_eq_true_eq]; omega
  · simp only [PyData.weight]; split <;> omega
/-- what is new in H', behind H -/
def nw (H H' : Hp) : Hp := fun b => match H b with
  | none => H' b
  | some _ => none
theorem nw_at {H H' : Hp} {b : Addr} (h : H b = none) : nw H H' b = H' b := by unfold nw; rw [h]
theorem nw_some {H H' : Hp} {b : Addr} {o : HO} (h : nw H H' b = some o) : H b = none ∧ H' b = some o := by
  unfold nw at h
  cases e : H b with
  | none => rw [e] at h; exact ⟨rfl, h⟩
  | some u => rw [e] at h; cases h
theorem nw_same {H H' : Hp} : Same (nw H H') H' := fun b o h => (nw_some h).2
mutual
theorem Dq.same {H G : Hp} (s : Same H G) : ∀ (d : PyData) (v : V), Dq H v d → Dq G v d
  | .none, _, h => by cases h; exact .non
  | .bool b, _, h => by cases h; exact .bl b
  | .int i, _, h => by cases h; exact .int i
  | .str x, _, h => by cases h; exact .str x
  | .list ds, _, h => by cases h with | lst h1 h2 => exact .lst (s _ _ h1) (DqAll.same s ds _ h2)
  | .tuple ds, _, h => by cases h with | tup h1 h2 => exact .tup (s _ _ h1) (DqAll.same s ds _ h2)
  | .dict ds, _, h => by cases h with | dct h1 h2 => exact .dct (s _ _ h1) (DqKv.same s ds _ h2)
theorem DqAll.same {H G : Hp} (s : Same H G) : ∀ (ds : List PyData) (vs : List V), DqAll H vs ds → DqAll G vs ds
  | [], _, h => by cases h; exact .nil
  | d :: ds, _, h => by cases h with | cons h1 h2 => exact .cons (Dq.same s d _ h1) (DqAll.same s ds _ h2)
theorem DqKv.same {H G : Hp} (s : Same H G) : ∀ (ds : List (PyData × PyData)) (kvs : List (Key × V)), DqKv H kvs ds → DqKv G kvs ds
  | [], _, h => by cases h; exact .nil
  | (_, d) :: ds, _, h => by cases h with | cons h1 h2 => exact .cons (Dq.same s d _ h1) (DqKv.same s ds _ h2)
end
/-- the value stands for some data of at most this depth and weight -/
def Dd (n W : Nat) (H : Hp) (v : V) : Prop := ∃ d, Dq H v d ∧ OkD n W d
theorem Dd.same {n W : Nat} {H G : Hp} {v : V} (h : Dd n W H v) (s : Same H G) : Dd n W G v := let ⟨d, a, b⟩ := h; ⟨d, Dq.same s d v a, b⟩
theorem Dd.mono {n m W U : Nat} {H : Hp} {v : V} (h : Dd n W H v) (h1 : n ≤ m) (h2 : W ≤ U) : Dd m U H v := let ⟨d, a, b⟩ := h; ⟨d, a, b.mono h1 h2⟩
theorem Dd.items {n W : Nat} {H : Hp} : ∀ {vs : List V}, (∀ v, v ∈ vs → Dd n W H v) → ∃ ds, DqAll H vs ds ∧ PyData.leavesShortAll 110 ds = true ∧ PyData.showableAll ds = true ∧ PyData.depthAll ds ≤ n ∧ PyData.weightAll ds ≤ vs.length * (W + 1)
  | [], _ => ⟨[], .nil, rfl, rfl, Nat.zero_le _, Nat.zero_le _⟩
  | v :: r, h => by
    obtain ⟨d, h1, h2⟩ := h v List.mem_cons_self
    obtain ⟨ds, g1, g2, g3, g4, g5⟩ := Dd.items (vs := r) fun u hu => h u (List.mem_cons_of_mem _ hu)
    refine ⟨d :: ds, .cons h1 g1, ?_, ?_, ?_, ?_⟩
    · simp only [PyData.leavesShortAll, h2.short, g2, Bool.and_self]
    · simp only [PyData.showableAll, h2.shows, g3, Bool.and_self]
    · have := h2.deep
      simp only [PyData.depthAll]; omega
    · have := h2.wt
      simp only [PyData.weightAll, List.length_cons, Nat.succ_mul]; omega
theorem Dd.lst {n W m : Nat} {H : Hp} {a : Addr} {vs : List V} (h : H a = some (.lst vs)) (l : vs.length ≤ m) (hv : ∀ v, v ∈ vs → Dd n W H v) : Dd (n + 1) (m * (W + 1)) H (.ref a) := by
  obtain ⟨ds, g1, g2, g3, g4, g5⟩ := Dd.items hv
  refine ⟨.list ds, .lst h g1, ⟨by simpa only [PyData.leavesShort] using g2, by simpa only [PyData.showable] using g3, by simp only [PyData.depth]; omega, ?_⟩⟩
  have := Nat.mul_le_mul_right (W + 1) l
  simp only [PyData.weight]; omega
theorem Dd.tup {n W m : Nat} {H : Hp} {a : Addr} {vs : List V} (h : H a = some (.tup vs)) (l : vs.length ≤ m) (hv : ∀ v, v ∈ vs → Dd n W H v) : Dd (n + 1) (m * (W + 1)) H (.ref a) := by
  obtain ⟨ds, g1, g2, g3, g4, g5⟩ := Dd.items hv
  refine ⟨.tuple ds, .tup h g1, ⟨by simpa only [PyData.leavesShort] using g2, by simpa only [PyData.showable] using g3, by simp only [PyData.depth]; omega, ?_⟩⟩
  have := Nat.mul_le_mul_right (W + 1) l
  simp only [PyData.weight]; omega
/-- a key is a short text -/
def KeyS (k : Key) : Prop := ∃ z, k = Sum.inr z ∧ Ss 9 z
theorem Dd.pairs {n W : Nat} {H : Hp} : ∀ {kvs : List (Key × V)}, (∀ kv, kv ∈ kvs → KeyS kv.1 ∧ Dd n W H kv.2) → ∃ ds, DqKv H kvs ds ∧ PyData.leavesShortKv 110 ds = true ∧ PyData.showableKv ds = true ∧ PyData.depthKv ds ≤ n ∧ PyData.weightKv ds ≤ kvs.length * (W + 11)
  | [], _ => ⟨[], .nil, rfl, rfl, Nat.zero_le _, Nat.zero_le _⟩
  | (k, v) :: r, h => by
    obtain ⟨⟨z, e, hz⟩, d, h1, h2⟩ := h (k, v) List.mem_cons_self
    obtain ⟨ds, g1, g2, g3, g4, g5⟩ := Dd.pairs (kvs := r) fun u hu => h u (List.mem_cons_of_mem _ hu)
    have e' : k = Sum.inr z := e
    subst e'
    have hk := OkD.str hz
    refine ⟨(kD (Sum.inr z), d) :: ds, .cons h1 g1, ?_, ?_, ?_, ?_⟩
    · show (PyData.leavesShort 110 (.str z) && d.leavesShort 110 && PyData.leavesShortKv 110 ds) = true
      rw [hk.short, h2.short, g2]; rfl
    · show (PyData.showable (.str z) && d.showable && PyData.showableKv ds) = true
      rw [hk.shows, h2.shows, g3]; rfl
    · have := h2.deep
      show max (max (PyData.depth (.str z)) d.depth) (PyData.depthKv ds) ≤ n
      have e0 : PyData.depth (.str z) = 0 := rfl
      omega
    · have w1 := h2.wt
      have w2 := hk.wt
      show PyData.weight (.str z) + d.weight + 2 + PyData.weightKv ds ≤ _
      simp only [List.length_cons, Nat.succ_mul]; omega
theorem Dd.dct {n W m : Nat} {H : Hp} {a : Addr} {kvs : List (Key × V)} (h : H a = some (.dK kvs)) (l : kvs.length ≤ m) (hv : ∀ kv, kv ∈ kvs → KeyS kv.1 ∧ Dd n W H kv.2) : Dd (n + 1) (m * (W + 11)) H (.ref a) := by
  obtain ⟨ds, g1, g2, g3, g4, g5⟩ := Dd.pairs hv
  refine ⟨.dict ds, .dct h g1, ⟨by simpa only [PyData.leavesShort] using g2, by simpa only [PyData.showable] using g3, by simp only [PyData.depth]; omega, ?_⟩⟩
  have := Nat.mul_le_mul_right (W + 11) l
  simp only [PyData.weight]; omega
theorem putK_all {p : Key × V → Prop} {k : Key} {v : V} (hv : p (k, v)) {kvs : List (Key × V)} (h : ∀ kv, kv ∈ kvs → p kv) : (∀ kv, kv ∈ putK kvs k v → p kv) ∧ (putK kvs k v).length ≤ kvs.length + 1 := by
  unfold putK
  split
  · refine ⟨fun kv hm => ?_, by rw [List.length_map]; omega⟩
    obtain ⟨x, hx, rfl⟩ := List.mem_map.mp hm
    by_cases e : x.1 = k
    · rw [if_pos e, e]; exact hv
    · rw [if_neg e]; exact h x hx
  · refine ⟨fun kv hm => ?_, by rw [List.length_append]; exact Nat.le_refl _⟩
    rcases List.mem_append.mp hm with q | q
    · exact h kv q
    · rw [List.mem_singleton.mp q]; exact hv
theorem mergeK_all {p : Key × V → Prop} : ∀ {more kvs : List (Key × V)}, (∀ kv, kv ∈ more → p kv) → (∀ kv, kv ∈ kvs → p kv) → (∀ kv, kv ∈ mergeK kvs more → p kv) ∧ (mergeK kvs more).length ≤ kvs.length + more.length
  | [], _, _, h => ⟨h, Nat.le_refl _⟩
  | (k, v) :: r, kvs, hm, h => by
    have h1 := putK_all (hm (k, v) List.mem_cons_self) h
    have h2 := mergeK_all (more := r) (kvs := putK kvs k v) (fun kv q => hm kv (List.mem_cons_of_mem _ q)) h1.1
    refine ⟨h2.1, ?_⟩
    have := h1.2
    have := h2.2
    show (mergeK (putK kvs k v) r).length ≤ kvs.length + (r.length + 1)
    omega
theorem KeyS.num {i : Nat} (h : i < 10) : KeyS (Sum.inr (Str.ofString (toString (i : Int)))) := by
  refine ⟨_, rfl, ?_⟩
  have hd : ∀ j : Fin 10, (Str.ofString (toString ((j.val : Nat) : Int))).length ≤ 9 ∧ ∀ c, c ∈ (Str.ofString (toString ((j.val : Nat) : Int))).cps.toList → c < 1114112 := by decide +kernel
  exact hd ⟨i, h⟩
end KX

set_option Elab.async false
set_option linter.all false
set_option maxRecDepth 100000
set_option maxHeartbeats 4000000
/-! Own layer: texts of digits. -/
namespace KX
open PySem
/-- the signs of a text -/
def cs (z : Str) : List Nat := z.cps.toList
theorem cs_len (z : Str) : (cs z).length = z.length := by unfold cs; rw [Array.length_toList]; rfl
theorem str_ext {y z : Str} (h : cs y = cs z) : y = z := by
  obtain ⟨⟨a⟩⟩ := y
  obtain ⟨⟨b⟩⟩ := z
  exact congrArg (fun l => (⟨⟨l⟩⟩ : Str)) h
def dg (c : Nat) : Bool := decide (48 ≤ c) && decide (c ≤ 57)
/-- behind a minus -/
def ab : List Nat → List Nat
  | 45 :: r => r
  | l => l
/-- a decimal number of at most thirty digits -/
def dec (l : List Nat) : Bool := decide (l = [48]) || (decide (ab l ≠ []) && (ab l).all dg && decide ((ab l).head? ≠ some 48) && decide ((ab l).length ≤ 30))
def nval (l : List Nat) : Int := match l with
  | 45 :: r => -((NumText.digitsVal r : Nat) : Int)
  | l => ((NumText.digitsVal l : Nat) : Int)
theorem all_dg {l : List Nat} (h : l.all dg = true) : NumText.AllDigits l := fun c hc => by
  have := List.all_eq_true.mp h c hc
  unfold dg at this
  obtain ⟨h1, h2⟩ := Bool.and_eq_true_iff.mp this
  exact ⟨of_decide_eq_true h1, of_decide_eq_true h2⟩
theorem uni_dg {c : Nat} (h : c < 128) : Unicode.isDigit c = dg c := by
  have e : Txt.isdigit ⟨#[c]⟩ = dg c := PySem.W.os_isdigit h
  have e2 : Txt.isdigit ⟨#[c]⟩ = (Unicode.isDigit c) := by
    show (decide ((⟨#[c]⟩ : Str).length > 0) && (#[c] : Array Nat).all Unicode.isDigit) = _
    simp [Str.length]
  rw [← e2, e]
theorem asc_cs (z : Str) : Txt.isascii z = (cs z).all (fun c => decide (c < 128)) := by
  unfold Txt.isascii cs
  rw [Array.all_toList]
theorem dig_cs {z : Str} (h : Txt.isascii z = true) : Txt.isdigit z = (decide (cs z ≠ []) && (cs z).all dg) := by
  rw [asc_cs] at h
  unfold Txt.isdigit
  have e : z.cps.all Unicode.isDigit = (cs z).all dg := by
    rw [← Array.all_toList]
    show (cs z).all Unicode.isDigit = _
    rw [Bool.eq_iff_iff, List.all_eq_true, List.all_eq_true]
    exact ⟨fun k c hc => by rw [← uni_dg (of_decide_eq_true (List.all_eq_true.mp h c hc))]; exact k c hc, fun k c hc => by rw [uni_dg (of_decide_eq_true (List.all_eq_true.mp h c hc))]; exact k c hc⟩
  rw [e]
  refine congrArg (· && _) ?_
  rw [Bool.eq_iff_iff, decide_eq_true_iff, decide_eq_true_iff, ← cs_len]
  exact ⟨fun k n => by rw [n] at k; exact absurd k (Nat.lt_irrefl 0), fun k => List.length_pos_iff.mpr k⟩
/-- dg signs are below 128 -/
theorem dg_asc {l : List Nat} (h : l.all dg = true) : l.all (fun c => decide (c < 128)) = true := by
  refine List.all_eq_true.mpr fun c hc => ?_
  have := all_dg h c hc
  exact decide_eq_true (by omega)
theorem int_cs {z : Str} (h : dec (cs z) = true) : intText? z = some (nval (cs z)) := by
  unfold dec at h
  rcases Bool.or_eq_true_iff.mp h with h | h
  · have e : cs z = [48] := of_decide_eq_true h
    rw [e]
    have ez : z = ⟨#[48]⟩ := str_ext e
    rw [ez]
    exact PySem.intText_digits (x := ⟨#[48]⟩) (fun c hc => by cases List.mem_singleton.mp hc; decide) (List.cons_ne_nil _ _) (by decide)
  · obtain ⟨h, h4⟩ := Bool.and_eq_true_iff.mp h
    obtain ⟨h, h3⟩ := Bool.and_eq_true_iff.mp h
    obtain ⟨h1, h2⟩ := Bool.and_eq_true_iff.mp h
    have n0 : ab (cs z) ≠ [] := of_decide_eq_true h1
    have l30 : (ab (cs z)).length ≤ 30 := of_decide_eq_true h4
    have ad := all_dg h2
    match hz : cs z with
    | 45 :: r =>
      rw [hz] at n0 l30 ad
      have hl : z.length ≤ 4300 := by rw [← cs_len, hz]; have : r.length ≤ 30 := l30; simp; omega
      exact PySem.intText_neg (x := z) hz ad n0 hl
    | [] => rw [hz] at n0; exact absurd rfl n0
    | c :: r =>
      by_cases hc : c = 45
      · subst hc
        rw [hz] at n0 l30 ad
        have hl : z.length ≤ 4300 := by rw [← cs_len, hz]; have : r.length ≤ 30 := l30; simp; omega
        exact PySem.intText_neg (x := z) hz ad n0 hl
      · have ea : ab (c :: r) = c :: r := by
          unfold ab
          split
          · rename_i q; exact absurd (List.cons.inj q).1 hc
          · rfl
        have ev : nval (c :: r) = ((NumText.digitsVal (c :: r) : Nat) : Int) := by
          unfold nval
          split
          · rename_i q; exact absurd (List.cons.inj q).1 hc
          · rfl
        rw [hz, ea] at n0 l30 ad
        have hl : z.length ≤ 4300 := by rw [← cs_len, hz]; omega
        rw [ev, ← hz]
        exact PySem.intText_digits (x := z) (by show NumText.AllDigits (cs z); rw [hz]; exact ad) (by show cs z ≠ []; rw [hz]; exact n0) hl
/-- text.removeprefix('-') -/
theorem rp_cs (z : Str) : cs (Txt.removeprefix z ⟨#[45]⟩) = ab (cs z) := by
  rw [StrLaws.removeprefix_eq, StrLaws.subAt_eq]
  have l1 : (⟨#[45]⟩ : Str).length = 1 := rfl
  have e1 : (⟨#[45]⟩ : Str).cps.toList = [45] := rfl
  rw [l1, e1]
  have hc : z.cps.toList = cs z := rfl
  have hn := cs_len z
  rw [hc]
  match hz : cs z with
  | [] =>
    rw [if_neg (by rw [Bool.and_eq_true]; rintro ⟨_, q⟩; exact absurd q (by decide))]
    exact hz
  | c :: r =>
    have hl : z.length = r.length + 1 := by rw [← hn, hz]; rfl
    by_cases h : c = 45
    · subst h
      rw [if_pos (by rw [Bool.and_eq_true]; exact ⟨decide_eq_true (by omega), rfl⟩)]
      show ((List.drop 1 (45 :: r)).take (z.length - 1)).toArray.toList = r
      rw [hl]
      show r.take (r.length + 1 - 1) = r
      rw [Nat.add_sub_cancel]
      exact List.take_length
    · rw [if_neg (by
        rw [Bool.and_eq_true]; rintro ⟨_, q⟩
        have q' : ([c] == [45]) = true := q
        exact h (List.cons.inj (eq_of_beq q')).1)]
      have ea : ab (c :: r) = c :: r := by
        unfold ab
        split
        · rename_i q; exact absurd (List.cons.inj q).1 h
        · rfl
      rw [ea]; exact hz
end KX

set_option Elab.async false
set_option linter.all false
set_option maxRecDepth 100000
set_option maxHeartbeats 4000000
/-! Own layer: try with several clauses «except C as n», each of them the only one that takes the error; the clauses behind are never looked at. -/
namespace KX
open PySem PySem.Spec PyProof.Rows L2
abbrev Cla := Value × Nat × (Addr → Value → Option Addr → TS)
/-- behind a suite the clause's name is gone -/
def gone (D : Ends) (i : Nat) : Ends := { nx := fun τ G => D.nx (τ.set i none) G, rt := D.rt, bk := fun τ G => D.bk (τ.set i none) G, ct := fun τ G => D.ct (τ.set i none) G }
def wTo (K : PySem.W.Frag) (D : Ends) : List Cla → WX
  | [] => fun _ _ _ _ => False
  | (c, i, ts) :: r => fun cls d σ H => ∃ b, PySem.W.exmOne K cls c = some b ∧ (b = true → ∀ a, H a = none → ts a cls d (gone D i) (σ.set i (some (.ref a))) H) ∧ (b = false → wTo K D r cls d σ H)
inductive Clauses (X : Cx) : List ExceptHandler → List Cla → Prop
  | rest {hds : List ExceptHandler} : Clauses X hds []
  | cons {x n : Str} {c : Value} {i : Nat} {ts : Addr → Value → Option Addr → TS} {st : Stmt} {more : List Stmt} {np pos' : Pos} {hds : List ExceptHandler} {l : List Cla} (hc : Names X x c) (hi : X.N[i]? = some n) (hl : X.env.kindOf n = some .local)
      (su : ∀ (a : Addr) (oe : Obj) (cls : Value) (d : Option Addr) (pn : List (Addr × Obj)), Zc cls d oe → (∃ vs, oe.data = .fields vs) → PSs (X.suite a ((a, oe) :: pn)) (st :: more) (ts a cls d)) (r : Clauses X hds l) :
      Clauses X (.ExceptHandler (some (.Name x np)) (some n) (st :: more) pos' :: hds) ((c, i, ts) :: l)
section
variable {X : Cx} {body : List Stmt} {h0 : ExceptHandler} {hds : List ExceptHandler} {l : List Cla} {pos : Pos} {tb : WX → TS}
theorem ps_try_to (hs : X.stack = X.env :: X.outer) (hf : X.env.frame = some X.env.locals) (nd : X.N.Nodup) (cl : Clauses X (h0 :: hds) l)
    (hb : ∀ (W : WX) (pn : List (Addr × Obj)) (xe : Value → Shared → Prop), Takes (X.tr pn xe) W → PassesOwn (model X.prog X.w) X.A X.env xe → PSs (X.tr pn xe) body (tb W)) :
    PS X (.Try body (h0 :: hds) [] [] pos) (fun D σ H => tb (wTo X.K D l) D σ H) := ⟨fun pins s σ H D I h => by
  have ok := I.ok
  have fr : X.A.frames = some (X.env :: X.outer) := ok.frames.trans (congrArg some hs)
  let after : Value → Shared → Prop := fun e s1 => wpAny (model X.prog X.w) X.A (noteFrame e X.env) (fun _ s2 =>
    wpAny (model X.prog X.w) X.A (setFlight e none) (fun _ s3 => wpAny (model X.prog X.w) X.A (handleBy e X.env (h0 :: hds)) (SP X pins D) X.xe s3) X.xe s2) X.xe s1
  refine wpAny_Try_except (wpAny_mono ((hb (wTo X.K D l) (X.pn ++ pins) after (fun u s1 z => ?_) PassesOwn.looking).run [] s σ H D (I.toTry _) h) (fun fl s1 z => ?_) fun _ _ z => z)
  · obtain ⟨a, B, s0, pins1, σ1, H1, cls, d, rfl, J0, nb, up, sky, na, os, ag, wish⟩ := z
    have J : Inv X pins σ1 H1 s0 := J0.ofTry ok
    show wpAny (model X.prog X.w) X.A (noteFrame (.ref a) X.env) _ _ _
    refine Sky.land Zc.steady fr hf (by rw [← hs]; exact sky) fun h3 fl3 up3 => ?_
    have J3 : Inv X pins σ1 H1 { s1 with heap := h3 } := J.landed nb fl3.1 (up.trans up3) os ag
    obtain ⟨oe, vs, he, hz, hd⟩ := fl3.there
    have off : a ∉ frs (X.env :: X.outer) := fun m => by
      obtain ⟨_, o1, e1, nf⟩ := fl3.2.2.1.mem m
      exact nf _ ((Option.some.inj (e1.symm.trans he)) ▸ hd)
    have offL : a ≠ X.env.locals := fun e => off (List.mem_filterMap.mpr ⟨X.env, List.mem_cons_self, by rw [hf, e]⟩)
    have offF : a ∉ X.fs := fun m => by
      obtain ⟨en, m1, m2⟩ := List.mem_filterMap.mp m
      exact off (List.mem_filterMap.mpr ⟨en, List.mem_cons_of_mem _ m1, m2⟩)
    have S3 := J3.suite he hd na offL offF
    have ty : PySem.W.Looks (model X.prog X.w) h3 (typeOf (.ref a)) cls := fun A' Q' E' t k q => wpAny_typeOf_ref (k _ _ he) (hz.1 ▸ q)
    clear h
    revert cl wish
    generalize h0 :: hds = all
    intro cl
    induction cl with
    | rest => exact fun z => z.elim
    | @cons x n c i ts st more np pos' hds' l' hc hi hl su r ih =>
      rintro ⟨b, hb1, yes, no⟩
      refine wpAny_handleBy_cons (codeAny_handlers_test ?_) (by intro e; cases e)
      have name : ∀ {Q' : Value → Shared → Prop} {E' : Value → Shared → Prop}, Q' c { s1 with heap := h3 } → wpAny (model X.prog X.w) (X.A.mark (some (.ref a))) (eval (.Name x np) X.env) Q' E' { s1 with heap := h3 } := fun q => by
        obtain ⟨g, db, m | ⟨m, bt, nn⟩⟩ := hc
        · exact ld_glob (X := X.suite a ((a, oe) :: (X.pn ++ pins))) S3 g m q db
        · exact ld_blt (X := X.suite a ((a, oe) :: (X.pn ++ pins))) S3 g m bt q nn db
      refine name ((PySem.W.exm_one J3.kIn ty hb1).here ?_)
      cases b with
      | false => exact ih (no rfl)
      | true =>
        refine codeAny_handlers_suite_as (HandSPX.lands_againZ fl3 fun h4 fl4 up4 => ?_)
        have J4 : Inv X pins σ1 H1 { s1 with heap := h4 } := J.landed nb fl4.1 ((up.trans up3).trans up4) os ag
        obtain ⟨oe4, vs4, he4, hz4, hd4⟩ := fl4.there
        refine store_ok (X := X.suite a ((a, oe4) :: (X.pn ++ pins))) (v := .ref a) (J4.suite he4 hd4 na offL offF) nd hi (.inl hl) rfl (fun s5 S5 => ?_) (.inr hl)
        refine wpAny_mono ((su a oe4 cls d (X.pn ++ pins) hz4 ⟨_, hd4⟩).run [] s5 _ H1 _ S5 (yes rfl a na)) (fun fl s6 z => ?_) fun _ _ z => z.elim
        have leave : ∀ {τ : L2.St} {G : Hp} {R : Shared → Prop}, Inv (X.suite a ((a, oe4) :: (X.pn ++ pins))) [] τ G s6 → (∀ s7, Inv X pins (τ.set i none) G s7 → R s7) →
            wpAny (model X.prog X.w) X.A (do bindName X.env n .none; unbindBehindTheSuite X.env n pos') (fun _ s7 => R s7) X.xe s6 := fun S hq => gone_ok (S.unsuite ok) nd hi hl hq
        match fl, z with
        | .next, ⟨_, _, S, q⟩ => exact leave S fun _ K7 => ⟨_, _, K7, q⟩
        | .brk, ⟨_, _, S, q⟩ => exact leave S fun _ K7 => ⟨_, _, K7, q⟩
        | .cont, ⟨_, _, S, q⟩ => exact leave S fun _ K7 => ⟨_, _, K7, q⟩
        | .ret u, ⟨_, _, _, S, rv, q⟩ => exact leave S fun _ K7 => ⟨_, _, _, K7, rv, q⟩
  · match fl, z with
    | .next, ⟨_, _, K7, q⟩ => exact wpAny_execs_nil ⟨_, _, K7.ofTry ok, q⟩
    | .brk, ⟨_, _, K7, q⟩ => exact ⟨_, _, K7.ofTry ok, q⟩
    | .cont, ⟨_, _, K7, q⟩ => exact ⟨_, _, K7.ofTry ok, q⟩
    | .ret u, ⟨_, _, _, K7, rv, q⟩ => exact ⟨_, _, _, K7.ofTry ok, rv, q⟩⟩
end
end KX

set_option Elab.async false
set_option linter.all false
set_option maxRecDepth 100000
set_option maxHeartbeats 4000000
/-! Own layer: exception classes «class C(..): def __init__(self, f): self.f = f»: made, raised, read in the suite. -/
namespace KX
open PySem PySem.Spec PyProof.Rows L2
/-- __init__ of such a class -/
def spEi (K : PySem.W.Frag) (C : Addr) (f : Str) : Sp := fun vs H Q _ => ∃ (a : Addr) (v : V), vs = [.ref a, v] ∧ H a = some (exo a C none) ∧ OexC K C ∧ PySem.W.findIn K (.ref C) f = some none ∧
  ∀ dx, H dx = none → dx ≠ a → Q .non (upd (upd H dx (exd dx [(f, v)])) a (exo a C (some dx)))
theorem exo_ne {e C d : Addr} (H : Hp) {o : HO} : (upd H e o) d = none → d ≠ e := fun h z => by rw [z, upd_same] at h; cases h
theorem made_heap {H : Hp} {a C dx : Addr} {o1 o2 o3 o4 : HO} (ha : H a = none) (n : dx ≠ a) : upd (del (upd (upd (upd H a o1) dx o2) a o3) a) dx o4 = upd H dx o4 := by
  funext b
  by_cases h1 : b = dx
  · subst h1; rw [upd_same, upd_same]
  · rw [upd_ne h1, upd_ne h1]
    by_cases h2 : b = a
    · subst h2; rw [del_same, ha]
    · rw [del_ne h2, upd_ne h2, upd_ne h1, upd_ne h2]
section
variable {X : Cx}
/-- arguments by what is known of them -/
def tMoA (ta : TA) : TA := fun σ H Q => ∃ R : List V → Hp → Prop, ta σ H R ∧ ∀ vs H1, R vs H1 → Q vs H1
theorem pa_mo {es : List Expr} {ta : TA} (h : PA X es ta) : PA X es (tMoA ta) :=
  ⟨fun pos pins s σ H Q I ⟨R, h1, k⟩ => thn (h.run pos pins s σ H R I h1) fun us s1 ⟨vs, H1, I1, r, q⟩ => ⟨vs, H1, I1, r, k vs H1 q⟩⟩
/-- C(e) -/
def tMkV (C : Addr) (f : Str) (ta : TA) : L2.St → Hp → XK → Prop := fun σ H Q => ∃ R : List V → Hp → Prop, ta σ H R ∧ ∀ vs H1, R vs H1 → ∃ v, vs = [v] ∧ ∀ d, H1 d = none → Q (.ref C) (some d) (upd H1 d (.xd [(f, v)]))
theorem pmk_val {x f ps1 ps2 : Str} {C fI : Addr} {k : Nat} {fd : FuncData} {e : Expr} {ta : TA} {p pos : Pos} (T : OexC X.K C) (iC : PySem.W.findIn X.K (.ref C) "__init__" = some (some (.ref fI))) (tI : PySem.W.typeIn X.K (.ref fI) = some (.type "function"))
    (noF : PySem.W.findIn X.K (.ref C) f = some none) (F1 : FnOk X.prog X.w X.K X.mg X.base CX0 k fI fd [ps1, ps2] (spEi X.K C f)) (hr : Room (k + 1) X.A) (hb : Binds X.K fd [ps1, ps2] []) (hg : Gl X x) (hm : X.mg x = some (.ref C)) (ha : PA X [e] ta)
    (hdb : (x == ("__debug__" : Str)) = false := by decide) (he : starEach [e] X.env = (false, eval e X.env) :: starEach [] X.env := by rfl) (hpl : (backTo pos (starEach [] X.env)).any (·.1) = false := by rfl) :
    PMk X (.Call (.Name x p) [e] [] pos) (tMkV C f ta) := by
  intro pins s σ H Q I h
  obtain ⟨R, h1, kk⟩ := h
  refine pmk_oex T iC tI F1 hr hb .nil (fun _ _ _ _ _ _ _ z => z.elim) hg hm (pa_mo ha) hdb he hpl pins s σ H Q I ⟨R, h1, fun vs H1 r => ?_⟩
  obtain ⟨v, rfl, q⟩ := kk vs H1 r
  refine ⟨(by show 1 ≤ 1000; decide), fun a hn => ⟨a, v, rfl, upd_same, T, noF, fun dx hdx nd => ⟨rfl, dx, [(f, v)], upd_same, by rw [upd_ne nd]; exact upd_same, ?_, ?_⟩⟩⟩
  · rw [upd_ne nd] at hdx; exact hdx
  · rw [made_heap (C := C) hn nd]
    refine q dx ?_
    rw [upd_ne nd] at hdx; exact hdx
end
section
variable {X : Cx} {k : Nat} {f : Addr} {fd : FuncData} {ps ks : List Str} {sp : Sp} {E : L2.St → XK} {x : Str} {p pos : Pos} {e : Expr} {es : List Expr} {kws : List Keyword} {t tk : TA} {g : List Value → List Value → List Value} {gV : List V → List V → List V}
/-- f(e, .., k = v, ..) in a try: what it raises is taken with the slots as they are -/
def tCallKS (sp : Sp) (gV : List V → List V → List V) (E : L2.St → XK) (t tk : TA) : TE := fun σ H Q => t σ H fun vs H1 => tk σ H1 fun zs H2 => sp (gV vs zs) H2 Q (E σ)
theorem pe_callKS (F : FnOk X.prog X.w X.K X.mg X.base (L2.CX X.prog X.w) k f fd ps sp) (hr : Room k X.A) (hg : Gl X x) (hm : X.mg x = some (.ref f)) (hk : PySem.W.keepIn X.K (.ref f) = true) (hb : KBinds X.K fd ps ks g gV) (hx : ∀ σ, PassesAt (L2.CX X.prog X.w) X σ (E σ))
    (ha : PA X (e :: es) t) (hkw : PK X kws tk) (hall : (backToKw pos (keywordEach kws X.env)).all (·.1.isSome) = true := by rfl) (hks : (backToKw pos (keywordEach kws X.env)).filterMap (·.1) = ks := by rfl) (hdb : (x == ("__debug__" : Str)) = false := by decide)
    (he : starEach (e :: es) X.env = (false, eval e X.env) :: starEach es X.env := by rfl) (hpl : ((backTo pos (starEach (e :: es) X.env)).any (·.1) || (backToKw pos (keywordEach kws X.env)).any (·.1.isNone)) = false := by rfl) :
    PE X (.Call (.Name x p) (e :: es) kws pos) (tCallKS sp gV E t tk) := ⟨fun pins s σ H Q I h => by
  refine wpAny_Call_Name_kw (ld_glob I hg hm (PySem.W.callWith_KW (h₀ := X.base) I.ok.mod.kin hk hall (thn (ha.run pos pins s σ H _ I h) ?_) hpl he) hdb)
  rintro us s1 ⟨vs, H1, I1, r, q⟩
  refine thn (hkw.run pos pins s1 σ H1 _ I1 q) ?_
  rintro ws s2 ⟨zs, H2, I2, rz, q2⟩
  rw [hks]
  refine ⟨I2.kIn, ?_⟩
  have r2 := hb.rel r rz
  have hl : (g us ws).length = ps.length := by rw [← r2.length]; exact F.len _ _ _ _ q2
  refine wpAny_call (codeAny_mono (F.run X.A X.stack s2 H2 ⟨us, ks.zip ws⟩ (g us ws) (gV vs zs) Q (E σ) hr I2.env0 (hb.to s2 us ws I2.kIn hl) r2 q2) fun o s' hq => ?_)
  match o, hq with
  | .error u, hq => exact hx σ pins H2 s2 u s' I2 hq
  | .ok (.ret u), hq => exact I2.after hq
  | .ok .next, hq => exact hq.elim
  | .ok .brk, hq => exact hq.elim
  | .ok .cont, hq => exact hq.elim⟩
end
/-- what an exception class's makers and readers need of it -/
structure ETx (K : PySem.W.Frag) (mg : Str → Option Value) (x f : Str) (C fI : Addr) : Prop where
  ox : OexC K C
  xf : XfC K C
  iC : PySem.W.findIn K (.ref C) "__init__" = some (some (.ref fI))
  tI : PySem.W.typeIn K (.ref fI) = some (.type "function")
  noF : PySem.W.findIn K (.ref C) f = some none
  mgC : mg x = some (.ref C)
end KX

set_option Elab.async false
set_option linter.all false
set_option maxRecDepth 100000
set_option maxHeartbeats 4000000
/-! Own layer: a text times a number; a call that raises nothing. -/
namespace KX
open PySem PySem.Spec PyProof.Rows L2
def repS (z : Str) (k : Int) : Str := ⟨(List.replicate k.toNat z.cps).foldl (fun a b => a ++ b) #[]⟩
theorem foldl_app (z : Array Nat) : ∀ (n : Nat) (acc : Array Nat), ((List.replicate n z).foldl (fun a b => a ++ b) acc).toList = acc.toList ++ (List.replicate n z.toList).flatten
  | 0, acc => by simp
  | n + 1, acc => by
    rw [List.replicate_succ, List.foldl_cons, foldl_app z n, Array.toList_append, List.replicate_succ, List.flatten_cons, List.append_assoc]
theorem repS_cs (z : Str) (k : Int) : cs (repS z k) = (List.replicate k.toNat (cs z)).flatten := by
  show ((List.replicate k.toNat z.cps).foldl (fun a b => a ++ b) #[]).toList = _
  rw [foldl_app]; rfl
theorem repS_len (z : Str) (k : Int) : (repS z k).length = k.toNat * z.length := by
  rw [← cs_len, repS_cs, List.length_flatten, List.map_replicate, List.sum_replicate_nat, cs_len]
theorem repS_mem {z : Str} {k : Int} {c : Nat} (h : c ∈ cs (repS z k)) : c ∈ cs z := by
  rw [repS_cs] at h
  obtain ⟨l, h1, h2⟩ := List.mem_flatten.mp h
  rw [(List.mem_replicate.mp h1).2] at h2
  exact h2
section
variable {X : Cx}
theorem op_mulS : OpR X (binaryOp .Mult) (fun x y H Q => ∃ z k, x = .str z ∧ y = .int k ∧ 2 ≤ k ∧ k ≤ 10000 ∧ z.length = 1 ∧ Q (.str (repS z k)) H) := by
  intro pins s σ H x y v u Q I rx ry h
  obtain ⟨z, k, rfl, rfl, h1, h2, h3, q⟩ := h
  obtain ⟨t, rfl⟩ := rx
  obtain ⟨t', rfl⟩ := ry
  have n1 : ¬ k < 1 := by omega
  have n2 : (k == 1 || z.length == 0) = false := by
    rw [h3]
    have : (k == 1) = false := by rw [beq_eq_false_iff_ne]; omega
    rw [this]; rfl
  have hl : (repS z k).length ≤ sizeLine := by rw [repS_len, h3, sizeLine_eq]; omega
  refine P.mul_str ?_ (fun _ _ => ?_) (fun _ _ => ?_) ?_
  · rw [decide_eq_false (by omega), decide_eq_false (by omega)]; rfl
  · rw [h3]
    have : (1 : Int) ≤ (2 ^ 63 - 1) / k := Int.le_ediv_of_mul_le (by omega) (by omega)
    exact fun z => absurd this (Int.not_le.mpr z)
  · have : z.length * k.toNat ≤ sizeLine := by rw [h3, sizeLine_eq]; omega
    unfold Builtin.Str.tooLong
    exact decide_eq_false (by omega)
  · rw [if_neg n1, n2, if_neg Bool.false_ne_true]
    exact ⟨hl, .str (repS z k), H, I.tok _, ⟨_, rfl⟩, q⟩
/-- a def that may raise, called where it raises nothing -/
theorem passF {P : Program} {w : World} : Passes (L2.CX P w) X (fun _ _ _ => False) := fun _ _ _ _ _ _ _ h => by
  obtain ⟨_, _, _, _, _, _, _, _, _, _, _, _, h⟩ := h
  exact h.elim
end
section
variable {X : Cx} {CX : CXT} {k : Nat} {f : Addr} {fd : FuncData} {ps ks : List Str} {sp : Sp} {E : XK} {x : Str} {p pos : Pos} {kws : List Keyword} {tk : TA} {g : List Value → List Value → List Value} {gV : List V → List V → List V}
/-- f(k = v, ..), defaults fill up -/
theorem pe_kwN (F : FnOk X.prog X.w X.K X.mg X.base CX k f fd ps sp) (hr : Room k X.A) (hg : Gl X x) (hm : X.mg x = some (.ref f)) (hk : PySem.W.keepIn X.K (.ref f) = true) (hb : KBn X.K fd ps 0 ks g gV) (hx : Passes CX X E)
    (hkw : PK X kws tk) (hall : (backToKw pos (keywordEach kws X.env)).all (·.1.isSome) = true := by rfl) (hks : (backToKw pos (keywordEach kws X.env)).filterMap (·.1) = ks := by rfl) (hdb : (x == ("__debug__" : Str)) = false := by decide)
    (hpl : ((backTo pos (starEach [] X.env)).any (·.1) || (backToKw pos (keywordEach kws X.env)).any (·.1.isNone)) = false := by rfl) :
    PE X (.Call (.Name x p) [] kws pos) (tCallN 0 ks.length sp gV E tNil tk) := ⟨fun pins s σ H Q I h => by
  refine wpAny_Call_Name_kw (ld_glob I hg hm (PySem.W.callWith_KW0 (h₀ := X.base) I.ok.mod.kin hk hall (thn (hkw.run pos pins s σ H _ I h) ?_) hpl) hdb)
  rintro ws s2 ⟨zs, H2, I2, rz, l1, l2, q2⟩
  rw [hks]
  exact ⟨I2.kIn, run_fnN (us := []) (vs := []) F hr hb hx I2 .nil rz l1 l2 q2⟩⟩
end
section
variable {X : Cx} {k n : Nat} {f : Addr} {fd : FuncData} {ps ks : List Str} {sp : Sp} {E : L2.St → XK} {x : Str} {p pos : Pos} {e : Expr} {es : List Expr} {kws : List Keyword} {t tk : TA} {g : List Value → List Value → List Value} {gV : List V → List V → List V}
/-- f(e, .., k = v, ..) in a try, n places and the keywords ks, the other defaults fill up -/
def tCallNS (n m : Nat) (sp : Sp) (gV : List V → List V → List V) (E : L2.St → XK) (t tk : TA) : TE := fun σ H Q => t σ H fun vs H1 => tk σ H1 fun zs H2 => vs.length = n ∧ zs.length = m ∧ sp (gV vs zs) H2 Q (E σ)
theorem pe_callNS (F : FnOk X.prog X.w X.K X.mg X.base (L2.CX X.prog X.w) k f fd ps sp) (hr : Room k X.A) (hg : Gl X x) (hm : X.mg x = some (.ref f)) (hk : PySem.W.keepIn X.K (.ref f) = true) (hb : KBn X.K fd ps n ks g gV) (hx : ∀ σ, PassesAt (L2.CX X.prog X.w) X σ (E σ))
    (ha : PA X (e :: es) t) (hkw : PK X kws tk) (hall : (backToKw pos (keywordEach kws X.env)).all (·.1.isSome) = true := by rfl) (hks : (backToKw pos (keywordEach kws X.env)).filterMap (·.1) = ks := by rfl) (hdb : (x == ("__debug__" : Str)) = false := by decide)
    (he : starEach (e :: es) X.env = (false, eval e X.env) :: starEach es X.env := by rfl) (hpl : ((backTo pos (starEach (e :: es) X.env)).any (·.1) || (backToKw pos (keywordEach kws X.env)).any (·.1.isNone)) = false := by rfl) :
    PE X (.Call (.Name x p) (e :: es) kws pos) (tCallNS n ks.length sp gV E t tk) := ⟨fun pins s σ H Q I h => by
  refine wpAny_Call_Name_kw (ld_glob I hg hm (PySem.W.callWith_KW (h₀ := X.base) I.ok.mod.kin hk hall (thn (ha.run pos pins s σ H _ I h) ?_) hpl he) hdb)
  rintro us s1 ⟨vs, H1, I1, r, q⟩
  refine thn (hkw.run pos pins s1 σ H1 _ I1 q) ?_
  rintro ws s2 ⟨zs, H2, I2, rz, l1, l2, q2⟩
  rw [hks]
  refine ⟨I2.kIn, ?_⟩
  have r2 := hb.rel r rz
  refine wpAny_call (codeAny_mono (F.run X.A X.stack s2 H2 ⟨us, ks.zip ws⟩ (g us ws) (gV vs zs) Q (E σ) hr I2.env0 (hb.to s2 us ws I2.kIn (r.length.symm.trans l1) (rz.length.symm.trans l2)) r2 q2) fun o s' hq => ?_)
  match o, hq with
  | .error u, hq => exact hx σ pins H2 s2 u s' I2 hq
  | .ok (.ret u), hq => exact I2.after hq
  | .ok .next, hq => exact hq.elim
  | .ok .brk, hq => exact hq.elim
  | .ok .cont, hq => exact hq.elim⟩
end
/-- an except of a class -/
theorem exm_mk2 {K : PySem.W.Frag} {C D : Addr} {v : Bool} (o : OexC K C) (s : PySem.W.subIn K (.ref D) (.ref C) = some v) : PySem.W.exmOne K (.ref D) (.ref C) = some v := by
  obtain ⟨⟨_, _, _, _, _, _, _, _, _, _, _, _, _, _, _, hC, _⟩, _, b, t, _⟩ := o
  have hcl : (PySem.W.clsIn K C).isSome = true := by unfold PySem.W.clsIn; rw [hC]; rfl
  unfold PySem.W.exmOne PySem.W.kitCls
  rw [b]
  show (if (some true == some true) = true then (if ((PySem.W.clsIn K C).isSome && PySem.W.typeIn K (.ref C) == some (.type "type")) = true then PySem.W.subIn K (.ref D) (.ref C) else none) else none) = some v
  rw [hcl, t, s]
  have e : (some (Value.type "type") == some (Value.type "type")) = true := by rfl
  rw [e]; rfl
theorem exm_mk {K : PySem.W.Frag} {C : Addr} (o : OexC K C) (s : PySem.W.subIn K (.ref C) (.ref C) = some true) : PySem.W.exmOne K (.ref C) (.ref C) = some true := exm_mk2 o s
end KX

set_option Elab.async false
set_option linter.all false
set_option maxRecDepth 100000
set_option maxHeartbeats 4000000
/-! Own layer: the tables that the laws draw are associative. Plain lists and numbers. -/
namespace KX
/-- the product of a and b by the rows -/
def mu (tb : List (List Int)) (a b : Nat) : Int := (tb.getD a []).getD b 0
/-- a square of elements -/
structure Sqr (tb : List (List Int)) : Prop where
  le : 1 ≤ tb.length
  ge : tb.length ≤ 16
  row : ∀ r, r ∈ tb → r.length = tb.length
  el : ∀ a b, a < tb.length → b < tb.length → 0 ≤ mu tb a b ∧ mu tb a b < (tb.length : Int)
/-- (a*b)*c is a*(b*c) -/
def rt (tb : List (List Int)) (a b c : Nat) : Prop := mu tb (mu tb a b).toNat c = mu tb a (mu tb b c).toNat
/-- an associative table -/
structure Tb (tb : List (List Int)) : Prop where
  sq : Sqr tb
  as : ∀ a b c, a < tb.length → b < tb.length → c < tb.length → rt tb a b c
/-- the table of a function -/
def tab (n : Nat) (f : Nat → Nat → Nat) : List (List Int) := (List.range n).map fun a => (List.range n).map fun b => ((f a b : Nat) : Int)
theorem tab_len (n : Nat) (f : Nat → Nat → Nat) : (tab n f).length = n := by unfold tab; rw [List.length_map, List.length_range]
theorem tab_row {n : Nat} {f : Nat → Nat → Nat} {a : Nat} (h : a < n) : (tab n f)[a]? = some ((List.range n).map fun b => ((f a b : Nat) : Int)) := by
  unfold tab
  rw [List.getElem?_map, List.getElem?_range h]; rfl
theorem tab_mu {n : Nat} {f : Nat → Nat → Nat} {a b : Nat} (ha : a < n) (hb : b < n) : mu (tab n f) a b = (f a b : Int) := by
  have e : (tab n f).getD a [] = (List.range n).map fun b => ((f a b : Nat) : Int) := by rw [List.getD_eq_getElem?_getD, tab_row ha]; rfl
  unfold mu
  rw [e, List.getD_eq_getElem?_getD, List.getElem?_map, List.getElem?_range hb]; rfl
/-- a function below n that is associative there -/
structure Asf (n : Nat) (f : Nat → Nat → Nat) : Prop where
  lt : ∀ a b, a < n → b < n → f a b < n
  as : ∀ a b c, a < n → b < n → c < n → f (f a b) c = f a (f b c)
theorem tab_tb {n : Nat} {f : Nat → Nat → Nat} (h1 : 1 ≤ n) (h16 : n ≤ 16) (F : Asf n f) : Tb (tab n f) := by
  have L := tab_len n f
  refine ⟨⟨by rw [L]; exact h1, by rw [L]; exact h16, fun r hr => ?_, fun a b ha hb => ?_⟩, fun a b c ha hb hc => ?_⟩
  · rw [L]
    obtain ⟨a, _, rfl⟩ := List.mem_map.mp hr
    rw [List.length_map, List.length_range]
  · rw [L] at *
    rw [tab_mu ha hb]
    have := F.lt a b ha hb
    omega
  · rw [L] at ha hb hc
    unfold rt
    rw [tab_mu ha hb, tab_mu hb hc, Int.toNat_natCast, Int.toNat_natCast, tab_mu (F.lt a b ha hb) hc, tab_mu ha (F.lt b c hb hc), F.as a b c ha hb hc]
/-- every square table is the table of its own function -/
theorem tab_of {tb : List (List Int)} (S : Sqr tb) : tb = tab tb.length fun a b => (mu tb a b).toNat := by
  refine List.ext_getElem? fun a => ?_
  by_cases ha : a < tb.length
  · rw [tab_row ha, List.getElem?_eq_getElem ha]
    refine congrArg some (List.ext_getElem? fun b => ?_)
    have hl := S.row tb[a] (List.getElem_mem ha)
    by_cases hb : b < tb.length
    · have e := S.el a b ha hb
      have em : mu tb a b = tb[a][b] := by
        unfold mu
        rw [List.getD_eq_getElem?_getD, List.getD_eq_getElem?_getD, List.getElem?_eq_getElem ha]
        show (tb[a][b]?).getD 0 = _
        rw [List.getElem?_eq_getElem (by omega)]; rfl
      rw [List.getElem?_map, List.getElem?_range hb, List.getElem?_eq_getElem (by omega)]
      show some tb[a][b] = some (((mu tb a b).toNat : Nat) : Int)
      rw [Int.toNat_of_nonneg e.1, em]
    · rw [List.getElem?_eq_none (by omega), List.getElem?_eq_none (by rw [List.length_map, List.length_range]; omega)]
  · rw [List.getElem?_eq_none (by omega), List.getElem?_eq_none (by rw [tab_len]; omega)]
theorem asf_of {tb : List (List Int)} (T : Tb tb) : Asf tb.length fun a b => (mu tb a b).toNat := by
  have lt : ∀ a b, a < tb.length → b < tb.length → (mu tb a b).toNat < tb.length := fun a b ha hb => by
    have := T.sq.el a b ha hb; omega
  refine ⟨lt, fun a b c ha hb hc => ?_⟩
  have h := T.as a b c ha hb hc
  unfold rt at h
  show (mu tb (mu tb a b).toNat c).toNat = (mu tb a (mu tb b c).toNat).toNat
  rw [h]
/-! ### the drawn tables -/
/-- _law_plain -/
def fpl (kind n a b : Nat) : Nat := match kind with
  | 0 => a
  | 1 => b
  | 2 => min a b
  | 3 => (a + b) % n
  | 4 => min (a + b) (n - 1)
  | _ => if 0 < a then a else b
theorem asf_plain (kind n : Nat) (h : 1 ≤ n) : Asf n (fpl kind n) := by
  match kind with
  | 0 => exact ⟨fun a b ha hb => ha, fun a b c ha hb hc => rfl⟩
  | 1 => exact ⟨fun a b ha hb => hb, fun a b c ha hb hc => rfl⟩
  | 2 => exact ⟨fun a b ha hb => by show min a b < n; omega, fun a b c ha hb hc => by show min (min a b) c = min a (min b c); omega⟩
  | 3 => exact ⟨fun a b ha hb => Nat.mod_lt _ (by omega), fun a b c ha hb hc => by show ((a + b) % n + c) % n = (a + (b + c) % n) % n; rw [Nat.mod_add_mod, Nat.add_mod_mod, Nat.add_assoc]⟩
  | 4 => exact ⟨fun a b ha hb => by show min (a + b) (n - 1) < n; omega, fun a b c ha hb hc => by show min (min (a + b) (n - 1) + c) (n - 1) = min (a + min (b + c) (n - 1)) (n - 1); omega⟩
  | k + 5 =>
    refine ⟨fun a b ha hb => ?_, fun a b c ha hb hc => ?_⟩
    · show (if 0 < a then a else b) < n
      split <;> omega
    · show (if 0 < (if 0 < a then a else b) then (if 0 < a then a else b) else c) = (if 0 < a then a else (if 0 < b then b else c))
      by_cases h1 : 0 < a
      · simp only [if_pos h1]
      · simp only [if_neg h1]
/-- _law_extended -/
def fex (kind n : Nat) (f : Nat → Nat → Nat) (a b : Nat) : Nat := if a < n ∧ b < n then f a b else if kind = 0 then n else if a < n then a else b
theorem asf_extended {kind n : Nat} {f : Nat → Nat → Nat} (F : Asf n f) : Asf (n + 1) (fex kind n f) := by
  have lt := F.lt
  refine ⟨fun a b ha hb => ?_, fun a b c ha hb hc => ?_⟩
  · unfold fex
    split
    · rename_i h; have := lt a b h.1 h.2; omega
    · split
      · omega
      · split <;> omega
  · by_cases h1 : a < n
    · by_cases h2 : b < n
      · have hab := lt a b h1 h2
        by_cases h3 : c < n
        · have hbc := lt b c h2 h3
          unfold fex
          rw [if_pos (show a < n ∧ b < n from ⟨h1, h2⟩), if_pos (show b < n ∧ c < n from ⟨h2, h3⟩), if_pos ⟨hab, h3⟩, if_pos ⟨h1, hbc⟩]
          exact F.as a b c h1 h2 h3
        · have ec : c = n := by omega
          subst ec
          unfold fex
          rw [if_pos (show a < c ∧ b < c from ⟨h1, h2⟩), if_neg (show ¬ (f a b < c ∧ c < c) by omega), if_neg (show ¬ (b < c ∧ c < c) by omega)]
          by_cases k0 : kind = 0
          · rw [if_pos k0, if_pos k0, if_neg (show ¬ (a < c ∧ c < c) by omega), if_pos k0]
          · rw [if_neg k0, if_neg k0, if_pos hab, if_pos h2, if_pos ⟨h1, h2⟩]
      · have eb : b = n := by omega
        subst eb
        by_cases k0 : kind = 0
        · have e1 : ∀ x, fex kind b f x b = b := fun x => by unfold fex; rw [if_neg (by omega), if_pos k0]
          have e2 : ∀ x, fex kind b f b x = b := fun x => by unfold fex; rw [if_neg (by omega), if_pos k0]
          rw [e1, e2, e1]
        · have e1 : fex kind b f a b = a := by unfold fex; rw [if_neg (by omega), if_neg k0, if_pos h1]
          have e2 : fex kind b f b c = c := by unfold fex; rw [if_neg (by omega), if_neg k0, if_neg (by omega)]
          rw [e1, e2]
    · have ea : a = n := by omega
      subst ea
      by_cases k0 : kind = 0
      · have e2 : ∀ x, fex kind a f a x = a := fun x => by unfold fex; rw [if_neg (by omega), if_pos k0]
        rw [e2, e2, e2]
      · have e2 : ∀ x, fex kind a f a x = x := fun x => by unfold fex; rw [if_neg (by omega), if_neg k0, if_neg (by omega)]
        rw [e2, e2]
/-- _law_pairs -/
def fpr (n : Nat) (f g : Nat → Nat → Nat) (a b : Nat) : Nat := f (a / n) (b / n) * n + g (a % n) (b % n)
theorem asf_pairs {m n : Nat} {f g : Nat → Nat → Nat} (hn : 1 ≤ n) (F : Asf m f) (G : Asf n g) : Asf (m * n) (fpr n f g) := by
  have dv : ∀ a, a < m * n → a / n < m := fun a h => (Nat.div_lt_iff_lt_mul (by omega)).mpr h
  have md : ∀ a, a % n < n := fun a => Nat.mod_lt _ (by omega)
  have d1 : ∀ x y, y < n → (x * n + y) / n = x := fun x y h => by rw [Nat.add_comm, Nat.add_mul_div_right _ _ (by omega), Nat.div_eq_of_lt h, Nat.zero_add]
  have d2 : ∀ x y, y < n → (x * n + y) % n = y := fun x y h => by rw [Nat.add_comm, Nat.add_mul_mod_self_right, Nat.mod_eq_of_lt h]
  refine ⟨fun a b ha hb => ?_, fun a b c ha hb hc => ?_⟩
  · have h1 := F.lt _ _ (dv a ha) (dv b hb)
    have h2 := G.lt _ _ (md a) (md b)
    unfold fpr
    have h3 : (f (a / n) (b / n) + 1) * n ≤ m * n := Nat.mul_le_mul_right n h1
    rw [Nat.succ_mul] at h3
    omega
  · unfold fpr
    rw [d1 _ _ (G.lt _ _ (md a) (md b)), d2 _ _ (G.lt _ _ (md a) (md b)), d1 _ _ (G.lt _ _ (md b) (md c)), d2 _ _ (G.lt _ _ (md b) (md c)), F.as _ _ _ (dv a ha) (dv b hb) (dv c hc), G.as _ _ _ (md a) (md b) (md c)]
/-- _law_grid -/
def fgr (s : Nat → Nat) (a b : Nat) : Nat := a / 4 * 4 + (a / 2 + b / 2 + s (a % 2 * 2 + b / 4)) % 2 * 2 + b % 2
theorem asf_grid (s : Nat → Nat) (hs : ∀ i, s i < 2) : Asf 8 (fgr s) := by
  have key : ∀ p q r t : Fin 2, ∀ a b c : Fin 8,
      fgr (fun i => [p.val, q.val, r.val, t.val].getD i 0) a.val b.val < 8 ∧
      fgr (fun i => [p.val, q.val, r.val, t.val].getD i 0) (fgr (fun i => [p.val, q.val, r.val, t.val].getD i 0) a.val b.val) c.val = fgr (fun i => [p.val, q.val, r.val, t.val].getD i 0) a.val (fgr (fun i => [p.val, q.val, r.val, t.val].getD i 0) b.val c.val) := by decide +kernel
  have e : ∀ a b, a < 8 → b < 8 → fgr s a b = fgr (fun i => [s 0, s 1, s 2, s 3].getD i 0) a b := fun a b ha hb => by
    unfold fgr
    have h4 : a % 2 * 2 + b / 4 < 4 := by omega
    have : s (a % 2 * 2 + b / 4) = [s 0, s 1, s 2, s 3].getD (a % 2 * 2 + b / 4) 0 := by
      generalize a % 2 * 2 + b / 4 = i at h4
      match i, h4 with
      | 0, _ => rfl
      | 1, _ => rfl
      | 2, _ => rfl
      | 3, _ => rfl
    rw [this]
  have k := key ⟨s 0, hs 0⟩ ⟨s 1, hs 1⟩ ⟨s 2, hs 2⟩ ⟨s 3, hs 3⟩
  refine ⟨fun a b ha hb => ?_, fun a b c ha hb hc => ?_⟩
  · rw [e a b ha hb]; exact (k ⟨a, ha⟩ ⟨b, hb⟩ ⟨0, by decide⟩).1
  · have hab := (k ⟨a, ha⟩ ⟨b, hb⟩ ⟨0, by decide⟩).1
    have hbc := (k ⟨b, hb⟩ ⟨c, hc⟩ ⟨0, by decide⟩).1
    rw [e a b ha hb, e b c hb hc, e _ c hab hc, e a _ ha hbc]
    exact (k ⟨a, ha⟩ ⟨b, hb⟩ ⟨c, hc⟩).2
/-! ### other numbers of the elements -/
/-- the place of x in the order -/
def plc (o : List Nat) (x : Nat) : Nat := o.idxOf x
def frn (o : List Nat) (f : Nat → Nat → Nat) (i j : Nat) : Nat := plc o (f (o.getD i 0) (o.getD j 0))
theorem asf_renum {n : Nat} {f : Nat → Nat → Nat} {o : List Nat} (F : Asf n f) (hp : o.Perm (List.range n)) : Asf n (frn o f) := by
  have hl : o.length = n := by rw [hp.length_eq, List.length_range]
  have hm : ∀ x, x ∈ o ↔ x < n := fun x => by rw [hp.mem_iff, List.mem_range]
  have at_ : ∀ i, i < n → o.getD i 0 < n := fun i hi => by
    rw [List.getD_eq_getElem?_getD, List.getElem?_eq_getElem (by omega)]
    exact (hm _).mp (List.getElem_mem _)
  have pl : ∀ x, x < n → plc o x < n := fun x hx => by
    have := List.idxOf_lt_length_of_mem ((hm x).mpr hx); unfold plc; omega
  have back : ∀ x, x < n → o.getD (plc o x) 0 = x := fun x hx => by
    have h := List.idxOf_lt_length_of_mem ((hm x).mpr hx)
    unfold plc
    rw [List.getD_eq_getElem?_getD, List.getElem?_eq_getElem h, Option.getD_some]
    exact List.getElem_idxOf h
  refine ⟨fun a b ha hb => pl _ (F.lt _ _ (at_ a ha) (at_ b hb)), fun a b c ha hb hc => ?_⟩
  have h1 := F.lt _ _ (at_ a ha) (at_ b hb)
  have h2 := F.lt _ _ (at_ b hb) (at_ c hc)
  unfold frn
  rw [back _ h1, back _ h2, F.as _ _ _ (at_ a ha) (at_ b hb) (at_ c hc)]
end KX

set_option Elab.async false
set_option linter.all false
set_option maxRecDepth 100000
set_option maxHeartbeats 4000000
namespace L
open PySem L2 KX

def top (i : Nat) : Stmt := PySem.Challenge.pw_producttrees_k11_numbered_transformation.main.body.getD i (.Pass ⟨0, 0, 0, 0⟩)
abbrev sCell : Stmt := top 34
abbrev sBox : Stmt := top 35
abbrev sTake : Stmt := top 36
/-- the names of built-ins are the built-ins' -/
structure Mn (mg : Str → Option Value) : Prop where
  max : mg "max" = none
  min : mg "min" = none
  len : mg "len" = none
  range : mg "range" = none
  repr : mg "repr" = none
  isin : mg "isinstance" = none
  all : mg "all" = none
  enum : mg "enumerate" = none
  tuple : mg "tuple" = none
  dict : mg "dict" = none
  str : mg "str" = none
  int : mg "int" = none
  bool : mg "bool" = none
  list : mg "list" = none
/-- the box of a cell stands at p -/
def Bx (H : Hp) (p : Addr) : Prop := ∃ b0 b1 b2 : Int, H p = some (.lst [.int b0, .int b1, .int b2]) ∧ 0 ≤ b0 ∧ 0 ≤ b1 ∧ b1 < 2147483647 ∧ 0 ≤ b2
/-- all but what stands at p is as it was -/
def Sx (p : Addr) (H H' : Hp) : Prop := ∀ b o, b ≠ p → H b = some o → H' b = some o
def spCell (K : PySem.W.Frag) : Sp := fun vs H Q _ => ∃ (a : Addr) (ns : List Int) (k : Int), vs = [.ref a, .int k] ∧ SqL K H a (ns.map V.int) ∧ 0 ≤ k ∧ ∀ c : Int, Q (.int c) H
def spBox : Sp := fun vs H Q _ => ∃ c : Int, vs = [.int c] ∧ ∀ p H', Same H H' → H p = none → Bx H' p → Q (.ref p) H'
def spTake : Sp := fun vs H Q _ => ∃ (p : Addr) (n : Int), vs = [.ref p, .int n] ∧ Bx H p ∧ 0 < n ∧ n < 316912650057057350374175801344 ∧ ∀ (r : Int) H', 0 ≤ r → r < n → Bx H' p → Sx p H H' → Q (.int r) H'
section
variable {P : Program} {w : World} {K : PySem.W.Frag} {mg : Str → Option Value} {base : Heap} {f : Addr} {fd : FuncData}
theorem scCell : FnScope ["script", "k"] ["script", "k"] (defScope sCell) := ⟨rfl, rfl, rfl, by decide +kernel, rfl, by decide +kernel, by decide +kernel⟩
theorem ok_cell (F : Fun K "_law_cell" "_law_cell" sCell f fd) (M : Mn mg) : FnOk P w K mg base CX0 1 f fd ["script", "k"] (spCell K) := by
  refine F.ok scCell (fun vs H Q E h => ?_) (fun cdv A outer s H vs Q E hr h => ?_)
  · obtain ⟨a, ns, k, rfl, _⟩ := h
    rfl
  obtain ⟨a, ns, k, rfl, hS, hk, q⟩ := h
  refine ⟨_, pss_cons (ps_if (pt_cmpR op_lt (pv 1) (pe_callB call_len_seq (by rfl) M.len PySem.boot_len (pa_cons (pv 0) pa_nil)) (nomark _)) (pss_one (ps_ret (pe_ix ix_list (pv 0) (pv 1) (fun _ _ => rfl)))) pss_nil)
    (pss_one (ps_ret (pe_op op_add (pe_op op_mul pe_int (pv 1)) pe_int))), ?_⟩
  refine ⟨_, rfl, _, rfl, a, _, rfl, .inl hS, _, _, rfl, rfl, _, rfl, ?_⟩
  refine ite2 (fun c => ?_) (fun c => ?_)
  · have c' : k < (((ns.map V.int).length : Nat) : Int) := of_decide_eq_true c
    rw [List.length_map] at c'
    have hlt : k.toNat < ns.length := by omega
    refine ⟨_, rfl, _, rfl, a, _, _, V.int ns[k.toNat], rfl, rfl, hS, at_of (j := k.toNat) (by omega) (by rw [List.getElem?_map, List.getElem?_eq_getElem hlt]; rfl), q _⟩
  · exact ⟨_, rfl, _, _, rfl, rfl, .inl ⟨by decide, by decide⟩, _, _, rfl, rfl, q _⟩
theorem scBox : FnScope ["cell"] ["cell"] (defScope sBox) := ⟨rfl, rfl, rfl, by decide +kernel, rfl, by decide +kernel, by decide +kernel⟩
theorem ok_box (F : Fun K "_law_box" "_law_box" sBox f fd) (M : Mn mg) : FnOk P w K mg base CX0 1 f fd ["cell"] spBox := by
  refine F.ok scBox (fun vs H Q E h => ?_) (fun cdv A outer s H vs Q E hr h => ?_)
  · obtain ⟨c, rfl, _⟩ := h
    rfl
  obtain ⟨c, rfl, q⟩ := h
  refine ⟨_, pss_one (ps_ret (pe_lst (pa_cons (pe_callB (call_max2 rfl) (by rfl) M.max (by decide +kernel) (pa_cons pe_int (pa_cons (pe_op op_sub (pv 0) (pe_op op_pow pe_int pe_int)) pa_nil)))
    (pa_cons (pe_op op_mod (pv 0) pe_int) (pa_cons pe_int pa_nil))))), ?_⟩
  refine ⟨_, rfl, _, _, rfl, rfl, ⟨by decide, by decide, by decide⟩, _, _, rfl, rfl, _, _, rfl, _, rfl, _, _, rfl, rfl, (by show (0 : Int) < 2147483629; decide), (by show 3 ≤ sizeLine; decide), fun p hp => ?_⟩
  refine q p _ (fun b o e => by rw [upd_ne (ne_of_none e hp)]; exact e) hp ⟨_, _, _, upd_same, ?_, Int.emod_nonneg _ (by decide), ?_, Int.le_refl 0⟩
  · split <;> omega
  · have := Int.emod_lt_of_pos c (show (0 : Int) < 2147483629 by decide)
    omega
theorem scTake : FnScope ["box", "size", "digit", "mixed"] ["box", "size"] (defScope sTake) := ⟨rfl, rfl, rfl, by decide +kernel, rfl, by decide +kernel, by decide +kernel⟩
theorem ok_take (F : Fun K "_law_take" "_law_take" sTake f fd) (M : Mn mg) : FnOk P w K mg base CX0 1 f fd ["box", "size"] spTake := by
  refine F.ok scTake (fun vs H Q E h => ?_) (fun cdv A outer s H vs Q E hr h => ?_)
  · obtain ⟨p, n, rfl, _⟩ := h
    rfl
  obtain ⟨p, n, rfl, ⟨b0, b1, b2, hp, z0, z1, z1', z2⟩, n0, n1, q⟩ := h
  refine ⟨_, pss_cons (ps_if (pt_cmpR op_gt (pe_ix ix_list (pv 0) pe_int (fun _ _ => rfl)) pe_int (nomark _))
      (pss_cons (ps_set (i := 2) scTake.nd rfl (Or.inl rfl) (pe_op op_mod (pe_ix ix_list (pv 0) pe_int (fun _ _ => rfl)) (pv 1)))
      (pss_cons (ps_asg (pe_op op_fdivW (pe_ix ix_list (pv 0) pe_int (fun _ _ => rfl)) (pv 1)) (pg_sub (pv 0) pe_int set_list))
      (pss_one (ps_ret (pv 2))))) pss_nil)
    (pss_cons (ps_asg (pe_op op_add (pe_ix ix_list (pv 0) pe_int (fun _ _ => rfl)) pe_int) (pg_sub (pv 0) pe_int set_list))
    (pss_cons (ps_set (i := 3) scTake.nd rfl (Or.inl rfl) (pe_op op_mod (pe_op op_add (pe_op op_add (pe_op op_mul (pe_ix ix_list (pv 0) pe_int (fun _ _ => rfl)) pe_int) (pe_op op_mul pe_int (pe_ix ix_list (pv 0) pe_int (fun _ _ => rfl)))) pe_int) pe_int))
    (pss_cons (ps_asg (pe_op op_mod (pe_op op_add (pe_op op_pow (pv 3) pe_int) (pe_op op_mul pe_int (pe_ix ix_list (pv 0) pe_int (fun _ _ => rfl)))) pe_int) (pg_sub (pv 0) pe_int set_list))
    (pss_one (ps_ret (pe_op op_mod (pe_op op_fdiv (pe_ix ix_list (pv 0) pe_int (fun _ _ => rfl)) pe_int) (pv 1))))))), ?_⟩
  refine ⟨_, rfl, p, _, _, _, rfl, rfl, SqL.of hp, rfl, _, _, rfl, rfl, _, rfl, ?_⟩
  refine ite2 (fun c => ?_) (fun c => ?_)
  · refine ⟨_, rfl, p, _, _, _, rfl, rfl, SqL.of hp, rfl, _, rfl, _, _, rfl, rfl, n0, ?_⟩
    refine ⟨_, rfl, p, _, _, _, rfl, rfl, SqL.of hp, rfl, _, rfl, _, _, rfl, rfl, wide_div (b := 98) n0 (by omega) (by decide) (by decide), _, rfl, p, _, _, 0, rfl, rfl, hp, rfl, ?_⟩
    refine ⟨_, rfl, q _ _ (Int.emod_nonneg _ (by omega)) (Int.emod_lt_of_pos _ n0) ⟨_, _, _, upd_same, Int.ediv_nonneg z0 (by omega), z1, z1', z2⟩ fun b o hb e => by rw [upd_ne hb]; exact e⟩
  · refine ⟨_, rfl, p, _, _, _, rfl, rfl, SqL.of hp, rfl, _, _, rfl, rfl, _, rfl, p, _, _, 2, rfl, rfl, hp, rfl, ?_⟩
    have h1 : ∀ o, (upd H p o) p = some o := fun o => upd_same
    refine ⟨_, rfl, p, _, _, _, rfl, rfl, SqL.of (h1 _), rfl, _, _, rfl, rfl, .inr ⟨by decide, by decide⟩, _, rfl, p, _, _, _, rfl, rfl, SqL.of (h1 _), rfl, _, _, rfl, rfl, .inl ⟨by decide, by decide⟩, _, _, rfl, rfl, _, _, rfl, rfl, _, _, rfl, rfl, (by show (0 : Int) < 2147483647; decide), ?_⟩
    have m0 : ∀ x : Int, 0 ≤ x % 2147483647 := fun x => Int.emod_nonneg _ (by decide)
    have m1 : ∀ x : Int, x % 2147483647 < 2147483647 := fun x => Int.emod_lt_of_pos _ (by decide)
    refine ⟨_, rfl, _, _, rfl, rfl, ⟨by decide, by decide, ?_⟩, _, rfl, p, _, _, _, rfl, rfl, SqL.of (h1 _), rfl, _, _, rfl, rfl, .inl ⟨by decide, by decide⟩, _, _, rfl, rfl, _, _, rfl, rfl, (by show (0 : Int) < 2147483647; decide), _, rfl, p, _, _, 1, rfl, rfl, (h1 _), rfl, ?_⟩
    · have a0 := m0 (b1 * 48271 + 69621 * (b2 + 1) + 71)
      have a1 := m1 (b1 * 48271 + 69621 * (b2 + 1) + 71)
      omega
    · refine ⟨_, rfl, p, _, _, _, rfl, rfl, SqL.of upd_same, rfl, _, _, rfl, rfl, ⟨by decide, by decide⟩, _, rfl, _, _, rfl, rfl, n0, ?_⟩
      refine q _ _ (Int.emod_nonneg _ (by omega)) (Int.emod_lt_of_pos _ n0) ⟨_, _, _, upd_same, z0, m0 _, m1 _, (by omega)⟩ fun b o hb e => by rw [upd_ne hb, upd_ne hb]; exact e
end
theorem Sx.refl {p : Addr} (H : Hp) : Sx p H H := fun _ _ _ e => e
theorem Sx.trans {p : Addr} {H G J : Hp} (a : Sx p H G) (b : Sx p G J) : Sx p H J := fun c o n e => b c o n (a c o n e)
theorem Sx.of {p : Addr} {H G : Hp} (a : Same H G) : Sx p H G := fun c o _ e => a c o e
theorem Sx.new {p q : Addr} {H : Hp} {o : HO} (h : H q = none) : Sx p H (upd H q o) := fun c u _ e => by rw [upd_ne (ne_of_none e h)]; exact e
theorem Bx.new {p q : Addr} {H : Hp} {o : HO} (b : Bx H p) (h : H q = none) : Bx (upd H q o) p := by
  obtain ⟨b0, b1, b2, e, r⟩ := b
  exact ⟨b0, b1, b2, by rw [upd_ne (ne_of_none e h)]; exact e, r⟩
theorem Bx.ne {p q : Addr} {H : Hp} (b : Bx H p) (h : H q = none) : q ≠ p := by
  obtain ⟨b0, b1, b2, e, r⟩ := b
  exact (ne_of_none e h).symm
theorem Bx.at_ne {p q : Addr} {H : Hp} {o : HO} (b : Bx H p) (h : q ≠ p) : Bx (upd H q o) p := by
  obtain ⟨b0, b1, b2, e, r⟩ := b
  exact ⟨b0, b1, b2, by rw [upd_ne h.symm]; exact e, r⟩
theorem Sx.free {p q : Addr} {H G : Hp} (s : Sx p H G) (b : Bx G p) (h : G q = none) : H q = none := by
  cases e : H q with
  | none => rfl
  | some o =>
    have n := b.ne h
    rw [s q o n e] at h
    cases h
theorem Bx.nn {p : Addr} {H : Hp} (b : Bx H p) : H p ≠ none := by
  obtain ⟨b0, b1, b2, e, r⟩ := b
  rw [e]; exact fun z => nomatch z
/-- what was new stays, where only p changes -/
theorem nw_step {p : Addr} {H G J : Hp} (b : Bx H p) (s : Sx p G J) : Same (nw H G) (nw H J) := fun c o h => by
  obtain ⟨h1, h2⟩ := nw_some h
  rw [nw_at h1]
  exact s c o (fun z => b.nn (z ▸ h1)) h2
/-- what is new behind a later heap is new behind an earlier one -/
theorem nw_back {p : Addr} {H G J : Hp} (s : Sx p H G) (b : Bx G p) : Same (nw G J) (nw H J) := fun c o h => by
  obtain ⟨h1, h2⟩ := nw_some h
  rw [nw_at (s.free b h1)]
  exact h2
end L

set_option Elab.async false
set_option linter.all false
set_option maxRecDepth 100000
set_option maxHeartbeats 4000000
namespace L
open PySem L2 KX
abbrev sIsInt : Stmt := top 14
/-- what isinstance tells of a value -/
def Isi (K : PySem.W.Frag) (H : Hp) (v : V) (b1 b2 : Bool) : Prop := ∃ t, TyX K H v t ∧ PySem.W.kitOne K t (.type "int") = some b1 ∧ PySem.W.kitOne K t (.type "bool") = some b2
def spIsInt (K : PySem.W.Frag) : Sp := fun vs H Q _ => ∃ v b1 b2, vs = [v] ∧ Isi K H v b1 b2 ∧ Q (.bl (b1 && !b2)) H
section
variable {P : Program} {w : World} {K : PySem.W.Frag} {mg : Str → Option Value} {base : Heap} {f g gn : Addr} {fd gd gnd : FuncData}
theorem scIsInt : FnScope ["value"] ["value"] (defScope sIsInt) := ⟨rfl, rfl, rfl, by decide +kernel, rfl, by decide +kernel, by decide +kernel⟩
theorem ok_isint (F : Fun K "is_integer" "is_integer" sIsInt f fd) (M : Mn mg) : FnOk P w K mg base CX0 1 f fd ["value"] (spIsInt K) := by
  refine F.ok scIsInt (fun vs H Q E h => ?_) (fun cdv A outer s H vs Q E hr h => ?_)
  · obtain ⟨v, b1, b2, rfl, _⟩ := h
    rfl
  obtain ⟨v, b1, b2, rfl, ⟨t, ty, k1, k2⟩, q⟩ := h
  refine ⟨_, pss_one (ps_ret (pe_and (pe_callB call_isi (by rfl) M.isin (by decide +kernel) (pa_cons (pv 0) (pa_cons (pe_bltn (v := .ty "int") (by rfl) M.int (by decide +kernel) rfl) pa_nil)))
    (pe_one (pe_not (pe_callB call_isi (by rfl) M.isin (by decide +kernel) (pa_cons (pv 0) (pa_cons (pe_bltn (v := .ty "bool") (by rfl) M.bool (by decide +kernel) rfl) pa_nil))))))), ?_⟩
  refine ⟨_, rfl, v, .ty "int", t, .type "int", b1, rfl, .ty _, ty, k1, b1, rfl, ?_⟩
  cases b1 with
  | false => exact iteF q
  | true => exact iteT ⟨_, rfl, v, .ty "bool", t, .type "bool", b2, rfl, .ty _, ty, k2, b2, rfl, q⟩
end

abbrev sIsList : Stmt := top 16
abbrev sBelow : Stmt := top 17
abbrev sNumList : Stmt := top 18
abbrev sAreRows : Stmt := top 23
abbrev sWrong : Stmt := top 24
theorem TyX.same {K : PySem.W.Frag} {H G : Hp} (s : Same H G) {v : V} {t : Value} (h : TyX K H v t) : TyX K G v t := by
  cases h with
  | base b =>
    cases b with
    | non => exact .base .non
    | bl b => exact .base (.bl b)
    | int i => exact .base (.int i)
    | str x => exact .base (.str x)
    | flt x => exact .base (.flt x)
    | lst e => exact .base (.lst (s _ _ e))
    | frz e => exact .base (.frz (s _ _ e))
    | tup e => exact .base (.tup (s _ _ e))
    | dK e => exact .base (.dK (s _ _ e))
    | dT e => exact .base (.dT (s _ _ e))
    | ins e a b c d f => exact .base (.ins (s _ _ e) a b c d f)
  | byt b => exact .byt b
  | set e => exact .set (s _ _ e)
  | kList e c => exact .kList e c
  | kTuple e c => exact .kTuple e c
  | kDict e c => exact .kDict e c
  | fTuple e => exact .fTuple (s _ _ e)
  | fDict e => exact .fDict (s _ _ e)
theorem Isi.same {K : PySem.W.Frag} {H G : Hp} (s : Same H G) {v : V} {a b : Bool} (h : Isi K H v a b) : Isi K G v a b := let ⟨t, h1, h2, h3⟩ := h; ⟨t, TyX.same s h1, h2, h3⟩
theorem Same.tup {K : PySem.W.Frag} {H H' : Hp} {a : Addr} {xs : List V} (e : Same H H') (h : SqT K H a xs) : SqT K H' a xs := by
  rcases h with (h | ⟨o, h⟩) | h
  · exact .inl (.inl (e _ _ h))
  · exact .inl (.inr ⟨o, e _ _ h⟩)
  · exact .inr h
theorem Same.new {H : Hp} {p : Addr} (h : H p = none) (o : HO) : Same H (upd H p o) := fun b u e => by rw [upd_ne (ne_of_none e h)]; exact e
/-- a list or a tuple is to be read at v -/
def Sq (K : PySem.W.Frag) (H : Hp) (v : V) (xs : List V) : Prop := ∃ a, v = .ref a ∧ (SqL K H a xs ∨ SqT K H a xs)
theorem Sq.same {K : PySem.W.Frag} {H G : Hp} {v : V} {xs : List V} (s : Same H G) (h : Sq K H v xs) : Sq K G v xs := let ⟨a, e, h⟩ := h; ⟨a, e, h.imp (fun z => Same.seq s z) (fun z => Same.tup s z)⟩
theorem SqL.ty {K : PySem.W.Frag} {H : Hp} {a : Addr} {xs : List V} (h : SqL K H a xs) : TyX K H (.ref a) (.type "list") := by
  rcases h with (h | ⟨o, h⟩) | ⟨o, its, n, h, c, _⟩
  · exact .base (.lst h)
  · exact .base (.frz h)
  · exact .kList h c
theorem SqT.ty {K : PySem.W.Frag} {H : Hp} {a : Addr} {xs : List V} (h : SqT K H a xs) : TyX K H (.ref a) (.type "tuple") := by
  rcases h with (h | ⟨o, h⟩) | ⟨o, its, n, h, c, _⟩
  · exact .base (.tup h)
  · exact .fTuple h
  · exact .kTuple h c
theorem Sq.ty {K : PySem.W.Frag} {H : Hp} {v : V} {xs : List V} (h : Sq K H v xs) : ∃ t, TyX K H v t ∧ PySem.W.kitAny K t [.type "list", .type "tuple"] = some true := by
  obtain ⟨a, rfl, h | h⟩ := h
  · exact ⟨_, SqL.ty h, kitAny_cons (b := true) (kit_ty (by decide +kernel)) (fun z => nomatch z) fun _ => rfl⟩
  · exact ⟨_, SqT.ty h, kitAny_cons (b := false) (kit_ty (by decide +kernel)) (fun _ => kitAny_cons (b := true) (kit_ty (by decide +kernel)) (fun z => nomatch z) fun _ => rfl) fun z => nomatch z⟩
/-- no list and no tuple -/
def NoSq (K : PySem.W.Frag) (H : Hp) (v : V) : Prop := ∃ t, TyX K H v t ∧ PySem.W.kitAny K t [.type "list", .type "tuple"] = some false
theorem NoSq.same {K : PySem.W.Frag} {H G : Hp} {v : V} (s : Same H G) (h : NoSq K H v) : NoSq K G v := let ⟨t, a, b⟩ := h; ⟨t, TyX.same s a, b⟩
/-- an item: an int, or something that is_integer refuses -/
def Itm (K : PySem.W.Frag) (H : Hp) (v : V) : Prop := (∃ i, v = .int i) ∨ ((∀ i, v ≠ .int i) ∧ ∃ b1 b2, Isi K H v b1 b2 ∧ (b1 && !b2) = false)
theorem Itm.same {K : PySem.W.Frag} {H G : Hp} {v : V} (s : Same H G) (h : Itm K H v) : Itm K G v := h.imp id fun ⟨a, b1, b2, c, d⟩ => ⟨a, b1, b2, c.same s, d⟩
def nb (lim : Int) : V → Bool
  | .int i => decide (0 ≤ i) && decide (i < lim)
  | _ => false
def spIsList (K : PySem.W.Frag) : Sp := fun vs H Q _ => ∃ v lo hi, vs = [v, .int lo, .int hi] ∧
  ((∃ xs, Sq K H v xs ∧ ∀ H', Same H H' → Q (.bl (decide (lo ≤ (xs.length : Int)) && decide ((xs.length : Int) ≤ hi))) H') ∨ (NoSq K H v ∧ ∀ H', Same H H' → Q (.bl false) H'))
def spBelow (K : PySem.W.Frag) : Sp := fun vs H Q _ => ∃ v lim, vs = [v, .int lim] ∧ Itm K H v ∧ Q (.bl (nb lim v)) H
def spNumList (K : PySem.W.Frag) : Sp := fun vs H Q _ => ∃ v lo hi lim, vs = [v, .int lo, .int hi, .int lim] ∧
  ((∃ xs, Sq K H v xs ∧ (∀ x, x ∈ xs → Itm K H x) ∧ xs.length < 1000000 ∧ ∀ H', Same H H' → Q (.bl (decide (lo ≤ (xs.length : Int)) && decide ((xs.length : Int) ≤ hi) && xs.all (nb lim))) H') ∨ (NoSq K H v ∧ ∀ H', Same H H' → Q (.bl false) H'))
section
variable {P : Program} {w : World} {K : PySem.W.Frag} {mg : Str → Option Value} {base : Heap} {f g gn : Addr} {fd gd gnd : FuncData}
theorem scIsList : FnScope ["value", "least", "most"] ["value", "least", "most"] (defScope sIsList) := ⟨rfl, rfl, rfl, by decide +kernel, rfl, by decide +kernel, by decide +kernel⟩
theorem ok_islist (F : Fun K "is_list" "is_list" sIsList f fd) (M : Mn mg) : FnOk P w K mg base CX0 1 f fd ["value", "least", "most"] (spIsList K) := by
  refine F.ok scIsList (fun vs H Q E h => ?_) (fun cdv A outer s H vs Q E hr h => ?_)
  · obtain ⟨v, lo, hi, rfl, _⟩ := h
    rfl
  obtain ⟨v, lo, hi, rfl, h⟩ := h
  refine ⟨_, pss_one (ps_ret (pe_and (pe_callB call_isiT (by rfl) M.isin (by decide +kernel) (pa_cons (pv 0) (pa_cons (pe_tup (pa_cons (pe_bltn (v := .ty "list") (by rfl) M.list (by decide +kernel) rfl)
      (pa_cons (pe_bltn (v := .ty "tuple") (by rfl) M.tuple (by decide +kernel) rfl) pa_nil))) pa_nil)))
    (pe_one (pe_chain op_le op_le (pv 1) (pe_callB call_len_seq (by rfl) M.len PySem.boot_len (pa_cons (pv 0) pa_nil)) (pv 2))))), ?_⟩
  refine ⟨_, rfl, (by show 2 ≤ sizeLine; decide), fun tp htp => ?_⟩
  have ss := Same.new htp (.tup [V.ty "list", V.ty "tuple"])
  rcases h with ⟨xs, hs, q⟩ | ⟨hs, q⟩
  · obtain ⟨t, ty, kt⟩ := (hs.same ss).ty
    refine ⟨v, tp, _, t, _, true, rfl, upd_same, .cons (.ty _) (.cons (.ty _) .nil), ty, kt, true, rfl, iteT ?_⟩
    obtain ⟨a, rfl, hs2⟩ := hs.same ss
    refine ⟨_, rfl, _, rfl, a, xs, rfl, hs2, _, _, rfl, rfl, _, rfl, ?_⟩
    refine ite2 (fun c => ⟨_, rfl, _, _, rfl, rfl, ?_⟩) (fun c => ?_)
    · have q' := q _ ss
      rw [c] at q'
      exact q'
    · have q' := q _ ss
      rw [Bool.eq_false_iff.mpr c] at q'
      exact q'
  · obtain ⟨t, ty, kt⟩ := hs.same ss
    exact ⟨v, tp, _, t, _, false, rfl, upd_same, .cons (.ty _) (.cons (.ty _) .nil), ty, kt, false, rfl, iteF (q _ ss)⟩
theorem scBelow : FnScope ["value", "limit"] ["value", "limit"] (defScope sBelow) := ⟨rfl, rfl, rfl, by decide +kernel, rfl, by decide +kernel, by decide +kernel⟩
theorem ok_below (F : Fun K "is_number_below" "is_number_below" sBelow f fd) (G : FnOk P w K mg base CX0 1 g gd ["value"] (spIsInt K)) (bG : Binds K gd ["value"] []) (kG : PySem.W.keepIn K (.ref g) = true) (mG : mg "is_integer" = some (.ref g)) :
    FnOk P w K mg base CX0 2 f fd ["value", "limit"] (spBelow K) := by
  refine F.ok scBelow (fun vs H Q E h => ?_) (fun cdv A outer s H vs Q E hr h => ?_)
  · obtain ⟨v, lim, rfl, _⟩ := h
    rfl
  obtain ⟨v, lim, rfl, h, q⟩ := h
  refine ⟨_, pss_one (ps_ret (pe_and (pe_call G hr rfl mG kG bG .nil pass0 (pa_cons (pv 0) pa_nil)) (pe_one (pe_chain op_le op_lt pe_int (pv 0) (pv 1))))), ?_⟩
  rcases h with ⟨i, rfl⟩ | ⟨ni, b1, b2, hi, hb⟩
  · refine ⟨_, rfl, _, true, false, rfl, ⟨_, .base (.int i), kit_ty (by decide +kernel), kit_ty (by decide +kernel)⟩, true, rfl, iteT ⟨_, rfl, _, _, rfl, rfl, _, rfl, ?_⟩⟩
    refine ite2 (fun c => ⟨_, rfl, _, _, rfl, rfl, ?_⟩) (fun c => ?_)
    · have e : nb lim (.int i) = decide (i < lim) := by show (decide (0 ≤ i) && decide (i < lim)) = _; rw [c]; rfl
      rw [e] at q
      exact q
    · have e : nb lim (.int i) = false := by show (decide (0 ≤ i) && decide (i < lim)) = _; rw [Bool.eq_false_iff.mpr c]; rfl
      rw [e] at q
      exact q
  · refine ⟨_, rfl, v, b1, b2, rfl, hi, _, rfl, ?_⟩
    rw [hb]
    have e : nb lim v = false := by
      cases v with
      | int i => exact absurd rfl (ni i)
      | _ => rfl
    rw [e] at q
    exact iteF q
theorem scNumList : FnScope ["value", "least", "most", "limit", "item"] ["value", "least", "most", "limit"] (defScope sNumList) := ⟨rfl, rfl, rfl, by decide +kernel, rfl, by decide +kernel, by decide +kernel⟩
theorem ok_numlist (F : Fun K "is_number_list" "is_number_list" sNumList f fd) (M : Mn mg)
    (G : FnOk P w K mg base CX0 1 g gd ["value", "least", "most"] (spIsList K)) (bG : Binds K gd ["value", "least", "most"] []) (kG : PySem.W.keepIn K (.ref g) = true) (mG : mg "is_list" = some (.ref g))
    (N : FnOk P w K mg base CX0 2 gn gnd ["value", "limit"] (spBelow K)) (bN : Binds K gnd ["value", "limit"] []) (kN : PySem.W.keepIn K (.ref gn) = true) (mN : mg "is_number_below" = some (.ref gn)) :
    FnOk P w K mg base CX0 3 f fd ["value", "least", "most", "limit"] (spNumList K) := by
  refine F.ok scNumList (fun vs H Q E h => ?_) (fun cdv A outer s H vs Q E hr h => ?_)
  · obtain ⟨v, lo, hi, lim, rfl, _⟩ := h
    rfl
  obtain ⟨v, lo, hi, lim, rfl, h⟩ := h
  have hr1 : Room 1 _ := hr.mono (by decide)
  rcases h with ⟨xs, hs, ht, hz, q⟩ | ⟨hs, q⟩
  · -- a list or a tuple: the walk over it is one of two
    have key : ∀ (D : Addr) (G : Hp), Same H G → G D = none → ∀ (i : Nat) (J : Hp), (Same H J ∧ J D = some (.lst (((xs.take i).map (nb lim)).map V.bl))) → ∀ x, xs[i]? = some x → Itm K J x ∧
        ∃ acc, J D = some (.lst acc) ∧ acc.length < sizeLine ∧ (Same H (upd J D (.lst (acc ++ [V.bl (nb lim x)]))) ∧ (upd J D (.lst (acc ++ [V.bl (nb lim x)]))) D = some (.lst (((xs.take (i + 1)).map (nb lim)).map V.bl))) := by
      intro D G sG hD i J ⟨sJ, eD⟩ x hx
      have hD0 : H D = none := sG.free hD
      refine ⟨(ht x (List.mem_of_getElem? hx)).same sJ, _, eD, ?_, fun b o e => by rw [upd_ne (ne_of_none e hD0)]; exact sJ b o e, ?_⟩
      · rw [List.length_map, List.length_map, List.length_take, sizeLine_eq]; omega
      · rw [upd_same, List.take_add_one, hx, List.map_append, List.map_append]; rfl
    have fin : ∀ (D : Addr) (J : Hp), (Same H J ∧ J D = some (.lst (((xs.take xs.length).map (nb lim)).map V.bl))) → (decide (lo ≤ (xs.length : Int)) && decide ((xs.length : Int) ≤ hi)) = true → rAll K [.ref D] J Q := by
      intro D J ⟨sJ, eD⟩ hc
      rw [List.take_length] at eD
      refine ⟨D, _, rfl, SqL.of eD, ?_⟩
      have e2 : (xs.map (nb lim)).all id = xs.all (nb lim) := by rw [List.all_map]; rfl
      have q' := q J sJ
      rw [hc] at q'
      rw [e2]
      exact q'
    obtain ⟨a, rfl, hl | hl⟩ := id hs
    · refine ⟨_, pss_one (ps_ret (pe_and (pe_call G hr1 rfl mG kG bG .nil pass0 (pa_cons (pv 0) (pa_cons (pv 1) (pa_cons (pv 2) pa_nil))))
        (pe_one (pe_callB (cr_all rfl) (by rfl) M.all (by decide +kernel) (pa_cons (pe_lc (own := [("item", 4)]) (g := gName 4) (tt := tYes) rfl scNumList.nd (pi_list (pv 0))
          (blkOk_by (N := ["value", "least", "most", "limit", "item"]) (sc := defScope sNumList) (by decide +kernel)) (fun _ _ _ _ _ => pg_name (i := 4) scNumList.nd rfl (Or.inl rfl)) (fun _ _ _ _ _ => pts_nil)
          (fun _ _ _ _ _ => pe_call N hr rfl mN kN bN .nil pass0 (pa_cons (pv 4) (pa_cons (pv 3) pa_nil)))) pa_nil))))), ?_⟩
      refine ⟨_, rfl, _, rfl, _, rfl, _, lo, hi, rfl, .inl ⟨xs, hs, fun G sG => ⟨_, rfl, ite2 (fun c => ?_) (fun c => ?_)⟩⟩⟩
      · refine ⟨_, rfl, a, rfl, ⟨_, sG.seq hl⟩, fun D hD => lc_list (xs := xs) (fun i J => Same H J ∧ J D = some (.lst (((xs.take i).map (nb lim)).map V.bl)))
          ⟨fun b o e => by rw [upd_ne (ne_of_none (sG b o e) hD)]; exact sG b o e, upd_same⟩ (fun i J _ z => z.1.seq hl) (fun i x J hx z => ?_) fun J z => fin D J z c⟩
        obtain ⟨k1, k2⟩ := key D G sG hD i J z x hx
        exact ⟨rfl, _, rfl, _, rfl, x, lim, rfl, k1, k2⟩
      · have q' := q G sG
        rw [Bool.eq_false_iff.mpr c] at q'
        exact q'
    · refine ⟨_, pss_one (ps_ret (pe_and (pe_call G hr1 rfl mG kG bG .nil pass0 (pa_cons (pv 0) (pa_cons (pv 1) (pa_cons (pv 2) pa_nil))))
        (pe_one (pe_callB (cr_all rfl) (by rfl) M.all (by decide +kernel) (pa_cons (pe_lc (own := [("item", 4)]) (g := gName 4) (tt := tYes) rfl scNumList.nd (pi_tup (pv 0))
          (blkOk_by (N := ["value", "least", "most", "limit", "item"]) (sc := defScope sNumList) (by decide +kernel)) (fun _ _ _ _ _ => pg_name (i := 4) scNumList.nd rfl (Or.inl rfl)) (fun _ _ _ _ _ => pts_nil)
          (fun _ _ _ _ _ => pe_call N hr rfl mN kN bN .nil pass0 (pa_cons (pv 4) (pa_cons (pv 3) pa_nil)))) pa_nil))))), ?_⟩
      refine ⟨_, rfl, _, rfl, _, rfl, _, lo, hi, rfl, .inl ⟨xs, hs, fun G sG => ⟨_, rfl, ite2 (fun c => ?_) (fun c => ?_)⟩⟩⟩
      · refine ⟨_, rfl, a, rfl, ⟨_, Same.tup sG hl⟩, fun D hD => lc_tup (xs := xs) (fun i J => Same H J ∧ J D = some (.lst (((xs.take i).map (nb lim)).map V.bl)))
          ⟨fun b o e => by rw [upd_ne (ne_of_none (sG b o e) hD)]; exact sG b o e, upd_same⟩ (fun i J _ z => Same.tup z.1 hl) (fun i x J hx z => ?_) fun J z => fin D J z c⟩
        obtain ⟨k1, k2⟩ := key D G sG hD i J z x hx
        exact ⟨rfl, _, rfl, _, rfl, x, lim, rfl, k1, k2⟩
      · have q' := q G sG
        rw [Bool.eq_false_iff.mpr c] at q'
        exact q'
  · refine ⟨_, pss_one (ps_ret (pe_and (pe_call G hr1 rfl mG kG bG .nil pass0 (pa_cons (pv 0) (pa_cons (pv 1) (pa_cons (pv 2) pa_nil))))
        (pe_one (pe_callB (cr_all rfl) (by rfl) M.all (by decide +kernel) (pa_cons (pe_lc (own := [("item", 4)]) (g := gName 4) (tt := tYes) rfl scNumList.nd (pi_list (pv 0))
          (blkOk_by (N := ["value", "least", "most", "limit", "item"]) (sc := defScope sNumList) (by decide +kernel)) (fun _ _ _ _ _ => pg_name (i := 4) scNumList.nd rfl (Or.inl rfl)) (fun _ _ _ _ _ => pts_nil)
          (fun _ _ _ _ _ => pe_call N hr rfl mN kN bN .nil pass0 (pa_cons (pv 4) (pa_cons (pv 3) pa_nil)))) pa_nil))))), ?_⟩
    exact ⟨_, rfl, _, rfl, _, rfl, v, lo, hi, rfl, .inr ⟨hs, fun G sG => ⟨_, rfl, iteF (q G sG)⟩⟩⟩
end

abbrev sInit : Stmt := inClass (top 21) 0
section
variable {X : Cx}
/-- what a for walks: a list or a tuple -/
def iSq (K : PySem.W.Frag) (tl : TE) : TI := fun σ H R => iList K tl σ H R ∨ iTup K tl σ H R
theorem pi_sq {tg l : Expr} {tl : TE} (h : PE X l tl) : PI X tg l (iSq X.K tl) := ⟨fun pins s σ H R I q => q.elim (fun z => (pi_list h).run pins s σ H R I z) fun z => (pi_tup h).run pins s σ H R I z⟩
theorem isq_of {K : PySem.W.Frag} {i : Nat} {σ : L2.St} {H : Hp} {v : V} {xs : List V} {R : It → Hp → Prop} (e : σ[i]? = some (some v)) (h : Sq K H v xs) (k : ∀ J, Walk J xs.length (Same H) (YAt xs) → R J H) : iSq K (tVar i) σ H R := by
  obtain ⟨a, rfl, h | h⟩ := h
  · exact .inl ⟨_, e, a, rfl, ⟨_, h⟩, k _ (walk_list.mono (fun G s => s.seq h) fun _ _ _ _ _ _ y => y)⟩
  · exact .inr ⟨_, e, a, rfl, ⟨_, h⟩, k _ (walk_tup.mono (fun G s => Same.tup s h) fun _ _ _ _ _ _ y => y)⟩
theorem rix_of {K : PySem.W.Frag} {H : Hp} {v x : V} {xs : List V} {z : Int} {i : Nat} {Q : VK} (h : Sq K H v xs) (ez : z = (i : Int)) (hx : xs[i]? = some x) (q : Q x H) : rIx K v (.int z) H Q := by
  obtain ⟨a, rfl, h | h⟩ := h
  · exact .inl ⟨a, xs, z, x, rfl, rfl, h, at_of ez hx, q⟩
  · exact .inr (.inl ⟨a, xs, z, x, rfl, rfl, h, at_of ez hx, q⟩)
theorem call_len_sq : CallR X (.builtin "len") (fun vs H Q => ∃ v xs, vs = [v] ∧ Sq X.K H v xs ∧ Q (.int xs.length) H) := by
  intro pins s σ H xs us Q I r h
  obtain ⟨v, ys, rfl, ⟨a, rfl, h⟩, q⟩ := h
  exact call_len_seq pins s σ H _ us Q I r ⟨a, ys, rfl, h, q⟩
end
/-- a row: a list or tuple of items, or neither -/
def RowD (K : PySem.W.Frag) (H : Hp) (x : V) : Option (List V) → Prop
  | some xs => Sq K H x xs ∧ (∀ y, y ∈ xs → Itm K H y) ∧ xs.length < 1000000
  | none => NoSq K H x
theorem RowD.same {K : PySem.W.Frag} {H G : Hp} (s : Same H G) {x : V} : ∀ {o : Option (List V)}, RowD K H x o → RowD K G x o
  | some xs, h => ⟨h.1.same s, fun y hy => (h.2.1 y hy).same s, h.2.2⟩
  | none, h => NoSq.same s h
def rb (n : Nat) : Option (List V) → Bool
  | some xs => decide ((n : Int) ≤ (xs.length : Int)) && decide ((xs.length : Int) ≤ (n : Int)) && xs.all (nb (n : Int))
  | none => false
def spAreRows (K : PySem.W.Frag) : Sp := fun vs H Q _ => ∃ v, vs = [v] ∧ ((NoSq K H v ∧ ∀ H', Same H H' → Q (.bl false) H') ∨
  ∃ rs os, Sq K H v rs ∧ Paired (RowD K H) rs os ∧ ∀ H', Same H H' → Q (.bl (decide ((1 : Int) ≤ (rs.length : Int)) && decide ((rs.length : Int) ≤ 16) && os.all (rb rs.length))) H')
theorem pair_at {α β : Type} {F : α → β → Prop} : ∀ {as : List α} {bs : List β} {i : Nat} {a : α}, Paired F as bs → as[i]? = some a → ∃ b, bs[i]? = some b ∧ F a b
  | _, _, _, _, .nil, e => by simp at e
  | _, _, 0, _, .cons h _, e => by simp at e; subst e; exact ⟨_, rfl, h⟩
  | _, _, i + 1, a, .cons _ t, e => by
    obtain ⟨b, h1, h2⟩ := pair_at (i := i) (a := a) t (by simpa using e)
    exact ⟨b, by simpa using h1, h2⟩
section
variable {P : Program} {w : World} {K : PySem.W.Frag} {mg : Str → Option Value} {base : Heap} {f g gn : Addr} {fd gd gnd : FuncData}
theorem scAreRows : FnScope ["rows", "size", "row"] ["rows"] (defScope sAreRows) := ⟨rfl, rfl, rfl, by decide +kernel, rfl, by decide +kernel, by decide +kernel⟩
theorem ok_arerows (F : Fun K "_are_rows" "_are_rows" sAreRows f fd) (M : Mn mg) (mL : ∃ t, mg "LARGEST_TABLE" = some (.int 16 t))
    (G : FnOk P w K mg base CX0 1 g gd ["value", "least", "most"] (spIsList K)) (bG : Binds K gd ["value", "least", "most"] []) (kG : PySem.W.keepIn K (.ref g) = true) (mG : mg "is_list" = some (.ref g))
    (N : FnOk P w K mg base CX0 3 gn gnd ["value", "least", "most", "limit"] (spNumList K)) (bN : Binds K gnd ["value", "least", "most", "limit"] []) (kN : PySem.W.keepIn K (.ref gn) = true) (mN : mg "is_number_list" = some (.ref gn)) :
    FnOk P w K mg base CX0 4 f fd ["rows"] (spAreRows K) := by
  refine F.ok scAreRows (fun vs H Q E h => ?_) (fun cdv A outer s H vs Q E hr h => ?_)
  · obtain ⟨v, rfl, _⟩ := h
    rfl
  obtain ⟨v, rfl, h⟩ := h
  obtain ⟨tok, mL⟩ := mL
  have hr1 : Room 1 _ := hr.mono (by decide)
  refine ⟨_, pss_cons (ps_if (pt_not (pt_val (pe_call G hr1 rfl mG kG bG .nil pass0 (pa_cons (pv 0) (pa_cons pe_int (pa_cons (pe_glob (v := .int 16) (by rfl) mL ⟨_, rfl⟩) pa_nil)))))) (pss_one (ps_ret pe_bl)) pss_nil)
    (pss_cons (ps_set (i := 1) scAreRows.nd rfl (Or.inr rfl) (pe_callB call_len_sq (by rfl) M.len PySem.boot_len (pa_cons (pv 0) pa_nil)))
    (pss_one (ps_ret (pe_callB (cr_all rfl) (by rfl) M.all (by decide +kernel) (pa_cons (pe_lc (own := [("row", 2)]) (g := gName 2) (tt := tYes) rfl scAreRows.nd (pi_sq (pv 0))
      (blkOk_by (N := ["rows", "size", "row"]) (sc := defScope sAreRows) (by decide +kernel)) (fun _ _ _ _ _ => pg_name (i := 2) scAreRows.nd rfl (Or.inl rfl)) (fun _ _ _ _ _ => pts_nil)
      (fun _ _ _ _ _ => pe_call N hr rfl mN kN bN .nil pass0 (pa_cons (pv 2) (pa_cons (pv 1) (pa_cons (pv 1) (pa_cons (pv 1) pa_nil)))))) pa_nil))))), ?_⟩
  rcases h with ⟨hs, q⟩ | ⟨rs, os, hs, pr, q⟩
  · exact ⟨_, rfl, v, 1, 16, rfl, .inr ⟨hs, fun J sJ => ⟨false, rfl, iteT (q J sJ)⟩⟩⟩
  · refine ⟨_, rfl, v, 1, 16, rfl, .inl ⟨rs, hs, fun J sJ => ⟨_, rfl, ?_⟩⟩⟩
    cases hc : (decide ((1 : Int) ≤ (rs.length : Int)) && decide ((rs.length : Int) ≤ 16)) with
    | false =>
      have q' := q J sJ
      rw [hc] at q'
      exact iteT q'
    | true =>
      have hl : rs.length ≤ 16 := by
        have := of_decide_eq_true (Bool.and_eq_true_iff.mp hc).2
        omega
      refine iteF ⟨_, rfl, v, rs, rfl, hs.same sJ, ?_⟩
      refine isq_of (v := v) rfl (hs.same sJ) fun It wk D hD => ?_
      refine lc_it wk (fun i J2 => Same J J2 ∧ J2 D = some (.lst (((os.take i).map (rb rs.length)).map V.bl))) ⟨fun b o e => by rw [upd_ne (ne_of_none e hD)]; exact e, upd_same⟩ (fun _ _ _ z => z.1) ?_ ?_
      · rintro i x Jz J2 hi ⟨s2, eD⟩ ⟨rfl, hx⟩
        obtain ⟨o, ho, hrow⟩ := pair_at pr hx
        have hrow' := hrow.same (sJ.trans s2)
        refine ⟨rfl, _, rfl, _, rfl, _, rfl, _, rfl, x, _, _, _, rfl, ?_⟩
        have fin : ∀ G2, Same J2 G2 → ∃ acc, G2 D = some (.lst acc) ∧ acc.length < sizeLine ∧ (Same J (upd G2 D (.lst (acc ++ [V.bl (rb rs.length o)]))) ∧ (upd G2 D (.lst (acc ++ [V.bl (rb rs.length o)]))) D = some (.lst (((os.take (i + 1)).map (rb rs.length)).map V.bl))) := fun G2 s3 => by
          refine ⟨_, s3 _ _ eD, ?_, fun b o e => by rw [upd_ne (ne_of_none e hD)]; exact s3 _ _ (s2 b o e), ?_⟩
          · rw [List.length_map, List.length_map, List.length_take, sizeLine_eq]; omega
          · rw [upd_same, List.take_add_one, ho, List.map_append, List.map_append]; rfl
        cases o with
        | none => exact .inr ⟨hrow', fun G2 s3 => fin G2 s3⟩
        | some xs => exact .inl ⟨xs, hrow'.1, hrow'.2.1, hrow'.2.2, fun G2 s3 => fin G2 s3⟩
      · rintro J2 ⟨s2, eD⟩
        have tk : os.take rs.length = os := by rw [show rs.length = os.length from pr.length]; exact List.take_length
        rw [tk] at eD
        refine ⟨D, _, rfl, SqL.of eD, ?_⟩
        have e2 : (os.map (rb rs.length)).all id = os.all (rb rs.length) := by rw [List.all_map]; rfl
        have q' := q J2 (sJ.trans s2)
        rw [hc] at q'
        rw [e2]
        exact q'
end
/-- the rows tb are to be read at v -/
def Rws (K : PySem.W.Frag) (H : Hp) (v : V) (tb : List (List Int)) : Prop := ∃ rs, Sq K H v rs ∧ Paired (fun x row => Sq K H x (row.map V.int)) rs tb
theorem Rws.same {K : PySem.W.Frag} {H G : Hp} (s : Same H G) {v : V} {tb : List (List Int)} (h : Rws K H v tb) : Rws K G v tb :=
  let ⟨rs, a, b⟩ := h
  ⟨rs, a.same s, L2.Paired.mapP b fun _ _ z => z.same s⟩
theorem Rws.len {K : PySem.W.Frag} {H : Hp} {v : V} {tb : List (List Int)} {rs : List V} (b : Paired (fun x row => Sq K H x (row.map V.int)) rs tb) : rs.length = tb.length := b.length
/-- rows[i], then its item j -/
theorem Rws.at_ {K : PySem.W.Frag} {H : Hp} {v : V} {tb : List (List Int)} (h : Rws K H v tb) (S : Sqr tb) {i : Nat} (hi : i < tb.length) :
    ∃ rs x, Sq K H v rs ∧ rs[i]? = some x ∧ Sq K H x ((tb.getD i []).map V.int) ∧ ∀ j, j < tb.length → ((tb.getD i []).map V.int)[j]? = some (.int (mu tb i j)) := by
  obtain ⟨rs, a, b⟩ := h
  have hi' : i < rs.length := by rw [b.length]; exact hi
  obtain ⟨row, h1, h2⟩ := pair_at b (List.getElem?_eq_getElem hi')
  have e : tb.getD i [] = row := by rw [List.getD_eq_getElem?_getD, h1]; rfl
  refine ⟨rs, rs[i], a, List.getElem?_eq_getElem hi', by rw [e]; exact h2, fun j hj => ?_⟩
  have hr : row.length = tb.length := S.row row (List.mem_of_getElem? h1)
  unfold mu
  rw [e, List.getElem?_map, List.getElem?_eq_getElem (by omega), List.getD_eq_getElem?_getD, List.getElem?_eq_getElem (by omega)]
  rfl
def lexlt (x y : Nat × Nat × Nat) : Prop := x.1 < y.1 ∨ (x.1 = y.1 ∧ (x.2.1 < y.2.1 ∨ (x.2.1 = y.2.1 ∧ x.2.2 < y.2.2)))
def spWrong (K : PySem.W.Frag) : Sp := fun vs H Q _ => ∃ v tb, vs = [v] ∧ Rws K H v tb ∧ Sqr tb ∧
  ((∀ a b c, a < tb.length → b < tb.length → c < tb.length → rt tb a b c) → Q .non H) ∧
  (∀ a b c, a < tb.length → b < tb.length → c < tb.length → ¬ rt tb a b c →
    (∀ a' b' c', a' < tb.length → b' < tb.length → c' < tb.length → lexlt (a', b', c') (a, b, c) → rt tb a' b' c') → ∀ p, H p = none → Q (.ref p) (upd H p (.tup [.int a, .int b, .int c])))
/-- a product table stands at p -/
structure TbA (K : PySem.W.Frag) (C : Addr) (H : Hp) (p : Addr) (tb : List (List Int)) : Prop where
  ob : ∃ dx t rs, H p = some (.ins C dx [("_rows", .ref t)]) ∧ SqT K H t rs ∧ Paired (fun x row => ∃ r, x = V.ref r ∧ SqT K H r (row.map V.int)) rs tb
def spInit (K : PySem.W.Frag) (C : Addr) : Sp := fun vs H Q _ => ∃ p dx v tb, vs = [.ref p, v] ∧ H p = some (.ins C dx []) ∧ Rws K H v tb ∧ Sqr tb ∧ (∀ a b c, a < tb.length → b < tb.length → c < tb.length → rt tb a b c) ∧
  (∀ a, v = .ref a → a ≠ p) ∧ ∀ H', TbA K C H' p tb → (∀ b o, b ≠ p → H b = some o → H' b = some o) → Q .non H'
section
variable {P : Program} {w : World} {K : PySem.W.Frag} {mg : Str → Option Value} {base : Heap} {f g gn : Addr} {fd gd gnd : FuncData}
theorem scWrong : FnScope ["rows", "size", "a", "b", "c"] ["rows"] (defScope sWrong) := ⟨rfl, rfl, rfl, by decide +kernel, rfl, by decide +kernel, by decide +kernel⟩
theorem ok_wrong (F : Fun K "_first_wrong_triple" "_first_wrong_triple" sWrong f fd) (M : Mn mg) : FnOk P w K mg base CX0 1 f fd ["rows"] (spWrong K) := by
  refine F.ok scWrong (fun vs H Q E h => ?_) (fun cdv A outer s H vs Q E hr h => ?_)
  · obtain ⟨v, tb, rfl, _⟩ := h
    rfl
  obtain ⟨v, tb, rfl, hR, S, q1, q2⟩ := h
  have ix : ∀ {X : Cx}, IxR X (rIx X.K) := fun {X} => ix_seq
  refine ⟨_, pss_cons (ps_set (i := 1) scWrong.nd rfl (Or.inl rfl) (pe_callB call_len_sq (by rfl) M.len PySem.boot_len (pa_cons (pv 0) pa_nil)))
    (pss_cons (ps_for PassesOwn.never rfl (pi_range1 (by rfl) M.range (pa_cons (pv 1) pa_nil)) (pg_name (i := 2) scWrong.nd rfl (Or.inl rfl))
      (pss_one (ps_for PassesOwn.never rfl (pi_range1 (by rfl) M.range (pa_cons (pv 1) pa_nil)) (pg_name (i := 3) scWrong.nd rfl (Or.inl rfl))
        (pss_one (ps_for PassesOwn.never rfl (pi_range1 (by rfl) M.range (pa_cons (pv 1) pa_nil)) (pg_name (i := 4) scWrong.nd rfl (Or.inl rfl))
          (pss_one (ps_if (pt_cmpR op_ne (pe_ix ix_seq (pe_ix ix_seq (pv 0) (pe_ix ix_seq (pe_ix ix_seq (pv 0) (pv 2) (fun _ _ => rfl)) (pv 3) (fun _ _ => rfl)) (fun _ _ => rfl)) (pv 4) (fun _ _ => rfl))
            (pe_ix ix_seq (pe_ix ix_seq (pv 0) (pv 2) (fun _ _ => rfl)) (pe_ix ix_seq (pe_ix ix_seq (pv 0) (pv 3) (fun _ _ => rfl)) (pv 4) (fun _ _ => rfl)) (fun _ _ => rfl)) (nomark _))
            (pss_one (ps_ret (pe_tup (pa_cons (pv 2) (pa_cons (pv 3) (pa_cons (pv 4) pa_nil)))))) pss_nil)))))))
    (pss_one (ps_ret pe_non))), ?_⟩
  have n16 := S.ge
  obtain ⟨rs0, hs0, pr0⟩ := id hR
  have l0 : rs0.length = tb.length := pr0.length
  refine ⟨_, rfl, v, rs0, rfl, hs0, ?_⟩
  rw [l0]
  refine ⟨_, rfl, (tb.length : Int), rfl, by omega, by omega, ?_⟩
  refine for_range (lo := 0) (n := tb.length) (fun a σ J => H = J ∧ (∃ x y z, σ = [some v, some (.int tb.length), x, y, z]) ∧ ∀ a' b c, a' < a → b < tb.length → c < tb.length → rt tb a' b c)
    ⟨rfl, ⟨_, _, _, rfl⟩, fun _ _ _ z => absurd z (Nat.not_lt_zero _)⟩ ?_ ?_
  · rintro a _ _ ha ⟨rfl, ⟨x, y, z, rfl⟩, hA⟩
    refine ⟨_, rfl, (tb.length : Int), rfl, by omega, by omega, ?_⟩
    refine for_range (lo := 0) (n := tb.length) (fun b σ J => H = J ∧ (∃ y z, σ = [some v, some (.int tb.length), some (.int (0 + (a : Int))), y, z]) ∧ ∀ b' c, b' < b → c < tb.length → rt tb a b' c)
      ⟨rfl, ⟨_, _, rfl⟩, fun _ _ z => absurd z (Nat.not_lt_zero _)⟩ ?_ ?_
    · rintro b _ _ hb ⟨rfl, ⟨y, z, rfl⟩, hB⟩
      refine ⟨_, rfl, (tb.length : Int), rfl, by omega, by omega, ?_⟩
      refine for_range (lo := 0) (n := tb.length) (fun c σ J => H = J ∧ (∃ z, σ = [some v, some (.int tb.length), some (.int (0 + (a : Int))), some (.int (0 + (b : Int))), z]) ∧ ∀ c', c' < c → rt tb a b c')
        ⟨rfl, ⟨_, rfl⟩, fun _ z => absurd z (Nat.not_lt_zero _)⟩ ?_ ?_
      · rintro c _ _ hc ⟨rfl, ⟨z, rfl⟩, hC⟩
        obtain ⟨ra, xa, sa, ea, ta, ga⟩ := hR.at_ S ha
        obtain ⟨rb', xb, sb, eb, tb', gb⟩ := hR.at_ S hb
        have e1 := S.el a b ha hb
        have e2 := S.el b c hb hc
        obtain ⟨rm, xm, sm, em, tm, gm⟩ := hR.at_ S (i := (mu tb a b).toNat) (by omega)
        refine ⟨_, rfl, _, rfl, _, rfl, rix_of sa (by omega) ea ⟨_, rfl, rix_of ta (by omega) (ga b hb) (rix_of sm (by omega) em ⟨_, rfl, rix_of tm (by omega) (gm c hc) ?_⟩)⟩⟩
        refine ⟨_, rfl, _, rfl, rix_of sa (by omega) ea ⟨_, rfl, _, rfl, rix_of sb (by omega) eb ⟨_, rfl, rix_of tb' (by omega) (gb c hc) (rix_of ta (i := (mu tb b c).toNat) (by omega) (ga _ (by omega)) ⟨rfl, _, rfl, ?_⟩)⟩⟩⟩
        have ed : ∀ x y : Int, (!decide (V.int x = V.int y)) = true ↔ x ≠ y := fun x y => by
          rw [Bool.not_eq_true', decide_eq_false_iff_not]
          exact ⟨fun h e => h (by rw [e]), fun h e => h (V.int.inj e)⟩
        refine ite2 (fun k => ?_) (fun k => ?_)
        · have nr : ¬ rt tb a b c := (ed _ _).mp k
          refine ⟨_, rfl, _, rfl, _, rfl, (by show 3 ≤ sizeLine; decide), fun p hp => ?_⟩
          have q' := q2 a b c ha hb hc nr (fun a' b' c' h1 h2 h3 hl => by
            rcases hl with hl | ⟨rfl, hl | ⟨rfl, hl⟩⟩
            · exact hA a' b' c' hl h2 h3
            · exact hB b' c' hl h3
            · exact hC c' hl) p hp
          have z0 : ∀ n : Nat, (0 : Int) + (n : Int) = (n : Int) := fun n => Int.zero_add _
          rw [z0, z0, z0]
          exact q'
        · refine ⟨rfl, ⟨_, rfl⟩, fun c' hc' => ?_⟩
          rcases Nat.lt_succ_iff_lt_or_eq.mp hc' with h | rfl
          · exact hC c' h
          · exact Classical.byContradiction fun nr => k ((ed _ _).mpr nr)
      · rintro _ _ ⟨rfl, ⟨z, rfl⟩, hC⟩
        refine ⟨rfl, ⟨_, _, rfl⟩, fun b' c' h1 h2 => ?_⟩
        rcases Nat.lt_succ_iff_lt_or_eq.mp h1 with h | rfl
        · exact hB b' c' h h2
        · exact hC c' h2
    · rintro _ _ ⟨rfl, ⟨y, z, rfl⟩, hB⟩
      refine ⟨rfl, ⟨_, _, _, rfl⟩, fun a' b' c' h1 h2 h3 => ?_⟩
      rcases Nat.lt_succ_iff_lt_or_eq.mp h1 with h | rfl
      · exact hA a' b' c' h h2 h3
      · exact hB b' c' h2 h3
  · rintro _ _ ⟨rfl, ⟨x, y, z, rfl⟩, hA⟩
    exact q1 fun a b c h1 h2 h3 => hA a b c h1 h2 h3
end

section
variable {X : Cx}
/-- x is not True, x an int or a truth value -/
theorem op_notIB : OpR X (compareOp .IsNot) (fun x y H Q => ∃ b : Bool, y = .bl b ∧ ((∃ a : Bool, x = .bl a ∧ Q (.bl (!decide (a = b))) H) ∨ (∃ i, x = .int i ∧ Q (.bl true) H))) := by
  intro pins s σ H x y v u Q I rx ry h
  obtain ⟨b, rfl, h⟩ := h
  cases (show u = Value.bool b from ry)
  rcases h with ⟨a, rfl, q⟩ | ⟨i, rfl, q⟩
  · cases (show v = Value.bool a from rx)
    by_cases e : a = b
    · subst e
      exact wpAny_isNot_self rfl ⟨.bl false, H, I, rfl, by simpa using q⟩
    · exact wpAny_isNot_other rfl (fun z => e (Value.bool.inj z)) ⟨.bl true, H, I, rfl, by simpa [e] using q⟩
  · obtain ⟨t, rfl⟩ := (show ∃ t, v = Value.int i t from rx)
    exact wpAny_isNot_other rfl (fun z => nomatch z) ⟨.bl true, H, I, rfl, q⟩
end
/-- tuple(x), the written part told -/
def rTpl (K : PySem.W.Frag) : List V → Hp → VK → Prop := fun xs H Q => ∃ (p : Addr) (ys : List V), xs = [.ref p] ∧ ((SqL K H p ys ∧ ∀ l, H l = none → Q (.ref l) (upd H l (.tup ys))) ∨ (SqT K H p ys ∧ Q (.ref p) H))
theorem ctuple {X : Cx} {K : PySem.W.Frag} (hK : X.K = K) : CallR X (.type "tuple") (rTpl K) := by
  subst hK
  exact call_tuple_of
/-- what the checks of a class's instances need of the class -/
structure CTx (K : PySem.W.Frag) (mg : Str → Option Value) (C : Addr) : Prop where
  cl : Cls K C
  nR : NoAttr K C "_rows"
  mgC : mg "ProductTable" = some (.ref C)
theorem pair_map {α β γ : Type} {F : α → β → Prop} {G : α → γ → Prop} {g : β → γ} : ∀ {as : List α} {bs : List β}, Paired F as bs → (∀ a b, b ∈ bs → F a b → G a (g b)) → Paired G as (bs.map g)
  | _, _, .nil, _ => .nil
  | _, _, .cons h t, k => .cons (k _ _ List.mem_cons_self h) (pair_map t fun a b m => k a b (List.mem_cons_of_mem _ m))
theorem SqT.upd {K : PySem.W.Frag} {H : Hp} {p r C dx : Addr} {fs : List (Str × V)} {xs : List V} {o : HO} (hp : H p = some (.ins C dx fs)) (h : SqT K H r xs) : SqT K (upd H p o) r xs := by
  rcases h with (h | ⟨ob, h⟩) | h
  · exact .inl (.inl (by rw [upd_ne (ne_of h hp (by intro z; cases z))]; exact h))
  · exact .inl (.inr ⟨ob, by rw [upd_ne (ne_of h hp (by intro z; cases z))]; exact h⟩)
  · exact .inr h
theorem rows_true {tb : List (List Int)} (S : Sqr tb) : (decide ((1 : Int) ≤ (tb.length : Int)) && decide ((tb.length : Int) ≤ 16) && (tb.map fun row => some (row.map V.int)).all (rb tb.length)) = true := by
  have h1 := S.le
  have h2 := S.ge
  rw [decide_eq_true (show (1 : Int) ≤ (tb.length : Int) by omega), decide_eq_true (show (tb.length : Int) ≤ 16 by omega)]
  rw [List.all_map]
  show (tb.all _) = true
  rw [List.all_eq_true]
  intro row hr
  obtain ⟨i, hi, rfl⟩ := List.mem_iff_getElem.mp hr
  have hl := S.row _ hr
  show (decide ((tb.length : Int) ≤ ((tb[i].map V.int).length : Int)) && decide (((tb[i].map V.int).length : Int) ≤ (tb.length : Int)) && (tb[i].map V.int).all (nb (tb.length : Int))) = true
  rw [List.length_map, hl, decide_eq_true (Int.le_refl _), Bool.true_and, Bool.true_and, List.all_map, List.all_eq_true]
  intro m hm
  obtain ⟨j, hj, rfl⟩ := List.mem_iff_getElem.mp hm
  have e := S.el i j hi (by omega)
  have em : mu tb i j = tb[i][j] := by
    unfold mu
    rw [List.getD_eq_getElem?_getD, List.getD_eq_getElem?_getD, List.getElem?_eq_getElem hi]
    show (tb[i][j]?).getD 0 = _
    rw [List.getElem?_eq_getElem hj]; rfl
  rw [em] at e
  show (decide (0 ≤ tb[i][j]) && decide (tb[i][j] < (tb.length : Int))) = true
  rw [decide_eq_true e.1, decide_eq_true e.2]; rfl
theorem rows_rowd {K : PySem.W.Frag} {H : Hp} {tb : List (List Int)} {rs : List V} (S : Sqr tb) (h : Paired (fun x row => Sq K H x (row.map V.int)) rs tb) : Paired (RowD K H) rs (tb.map fun row => some (row.map V.int)) :=
  pair_map h fun x row hm z => ⟨z, fun y hy => by obtain ⟨i, _, rfl⟩ := List.mem_map.mp hy; exact .inl ⟨i, rfl⟩, by
    have h1 := S.row row hm
    have h2 := S.ge
    rw [List.length_map]; omega⟩
section
variable {P : Program} {w : World} {K : PySem.W.Frag} {mg : Str → Option Value} {base : Heap} {f g gn : Addr} {fd gd gnd : FuncData}
theorem scInit : FnScope ["self", "rows", "triple", "row"] ["self", "rows"] (defScope sInit) := ⟨rfl, rfl, rfl, by decide +kernel, rfl, by decide +kernel, by decide +kernel⟩
theorem ok_init {C : Addr} (F : Fun K "__init__" "ProductTable.__init__" sInit f fd) (M : Mn mg) (T : CTx K mg C)
    (G : FnOk P w K mg base CX0 4 g gd ["rows"] (spAreRows K)) (bG : Binds K gd ["rows"] []) (kG : PySem.W.keepIn K (.ref g) = true) (mG : mg "_are_rows" = some (.ref g))
    (N : FnOk P w K mg base CX0 1 gn gnd ["rows"] (spWrong K)) (bN : Binds K gnd ["rows"] []) (kN : PySem.W.keepIn K (.ref gn) = true) (mN : mg "_first_wrong_triple" = some (.ref gn)) :
    FnOk P w K mg base CX0 5 f fd ["self", "rows"] (spInit K C) := by
  refine F.ok scInit (fun vs H Q E h => ?_) (fun cdv A outer s H vs Q E hr h => ?_)
  · obtain ⟨p, dx, v, tb, rfl, _⟩ := h
    rfl
  obtain ⟨p, dx, v, tb, rfl, hp, hR, S, as, _, q⟩ := h
  have hr1 : Room 1 _ := hr.mono (by decide)
  refine ⟨_, pss_cons (ps_if (pt_not (pt_val (pe_call G hr rfl mG kG bG .nil pass0 (pa_cons (pv 1) pa_nil)))) pss_dead pss_nil)
    (pss_cons (ps_set (i := 2) scInit.nd rfl (Or.inl rfl) (pe_call N hr1 rfl mN kN bN .nil pass0 (pa_cons (pv 1) pa_nil)))
    (pss_cons (ps_if (pt_cmp (pc_notN (pv 2))) pss_dead pss_nil)
    (pss_one (ps_fld (pv 0) (pe_callTy call_tuple_of (by rfl) M.tuple (by decide +kernel) (pa_cons (pe_lc (own := [("row", 3)]) (g := gName 3) (tt := tYes) rfl scInit.nd (pi_sq (pv 1))
      (blkOk_by (N := ["self", "rows", "triple", "row"]) (sc := defScope sInit) (by decide +kernel)) (fun _ _ _ _ _ => pg_name (i := 3) scInit.nd rfl (Or.inl rfl)) (fun _ _ _ _ _ => pts_nil)
      (fun _ _ _ _ _ => pe_callTy (T := "tuple") (ctuple (K := K) rfl) (by rfl) M.tuple (by decide +kernel) (pa_cons (pv 3) pa_nil))) pa_nil)) rfl)))), ?_⟩
  obtain ⟨rs, hs, pr⟩ := id hR
  have ln : rs.length = tb.length := pr.length
  refine ⟨_, rfl, v, rfl, .inr ⟨rs, _, hs, rows_rowd S pr, fun J sJ => ⟨_, rfl, ?_⟩⟩⟩
  rw [ln, rows_true S]
  refine iteF ⟨_, rfl, v, tb, rfl, hR.same sJ, S, fun _ => ?_, fun a b c ha hb hc n => absurd (as a b c ha hb hc) n⟩
  refine ⟨_, rfl, _, rfl, iteF ?_⟩
  refine isq_of (v := v) rfl (hs.same sJ) fun It wk D hD => ?_
  rw [ln] at wk
  refine lc_it wk (fun i J2 => Same J J2 ∧ ∃ ts : List Addr, J2 D = some (.lst (ts.map V.ref)) ∧ ts.length = i ∧ Paired (fun r row => SqT K J2 r (row.map V.int)) ts (tb.take i))
    ⟨fun b o e => by rw [upd_ne (ne_of_none e hD)]; exact e, [], upd_same, rfl, .nil⟩ (fun _ _ _ z => z.1) ?_ ?_
  · rintro i x Jz J2 hi ⟨s2, ts, eD, lt, pt⟩ ⟨rfl, hx⟩
    obtain ⟨row, hrow, hsq⟩ := pair_at pr hx
    have tk : tb.take (i + 1) = tb.take i ++ [row] := by rw [List.take_add_one, hrow]; rfl
    have n16 := S.ge
    have app : ∀ {as : List Addr} {bs : List (List Int)} {F : Addr → List Int → Prop} {c : Addr} {kv : List Int}, Paired F as bs → F c kv → Paired F (as ++ [c]) (bs ++ [kv]) := by
      intro as bs F c kv h hc
      induction h with
      | nil => exact .cons hc .nil
      | cons h1 _ ih => exact .cons h1 ih
    have fin : ∀ (r : Addr) (J3 : Hp), Same J2 J3 → SqT K J3 r (row.map V.int) → ∃ acc, J3 D = some (.lst acc) ∧ acc.length < sizeLine ∧ (Same J (upd J3 D (.lst (acc ++ [V.ref r]))) ∧
        ∃ ts' : List Addr, (upd J3 D (.lst (acc ++ [V.ref r]))) D = some (.lst (ts'.map V.ref)) ∧ ts'.length = i + 1 ∧ Paired (fun c row => SqT K (upd J3 D (.lst (acc ++ [V.ref r]))) c (row.map V.int)) ts' (tb.take (i + 1))) := fun r J3 s3 hr3 => by
      have keep : ∀ {c : Addr} {xs : List V} {acc : List V}, SqT K J3 c xs → SqT K (upd J3 D (.lst acc)) c xs := fun {c xs acc} h => by
        have e3 := s3 _ _ eD
        rcases h with (h | ⟨ob, h⟩) | h
        · exact .inl (.inl (by rw [upd_ne (ne_of h e3 (by intro z; cases z))]; exact h))
        · exact .inl (.inr ⟨ob, by rw [upd_ne (ne_of h e3 (by intro z; cases z))]; exact h⟩)
        · exact .inr h
      refine ⟨_, s3 _ _ eD, ?_, fun b o e => by rw [upd_ne (ne_of_none e hD)]; exact s3 _ _ (s2 b o e), ts ++ [r], ?_, by simp [lt], ?_⟩
      · rw [List.length_map, lt, sizeLine_eq]; omega
      · rw [upd_same, List.map_append]; rfl
      · rw [tk]
        exact app (L2.Paired.mapP pt fun c row' h => keep (Same.tup s3 h)) (keep hr3)
    obtain ⟨a, rfl, ha | ha⟩ := hsq.same (sJ.trans s2)
    · exact ⟨rfl, _, rfl, a, _, rfl, .inl ⟨ha, fun l hl => fin l _ (Same.new hl _) (SqT.of upd_same)⟩⟩
    · exact ⟨rfl, _, rfl, a, _, rfl, .inr ⟨ha, fin a J2 (Same.refl _) ha⟩⟩
  · rintro J2 ⟨s2, ts, eD, lt, pt⟩
    rw [List.take_of_length_le (Nat.le_refl _)] at pt
    refine ⟨D, _, rfl, .inl ⟨SqL.of eD, fun t ht => ?_⟩⟩
    have s3 : Same H (upd J2 t (.tup (ts.map V.ref))) := (sJ.trans s2).trans (Same.new ht _)
    refine ⟨_, rfl, p, C, dx, [], rfl, s3 _ _ hp, T.cl, T.nR, (by show 0 < 1000; decide), ?_⟩
    refine q _ ⟨dx, t, ts.map V.ref, upd_same, SqT.upd (s3 _ _ hp) (SqT.of upd_same), ?_⟩ fun b o hb e => by rw [upd_ne hb]; exact s3 _ _ e
    have h1 : Paired (fun r row => SqT K (upd (upd J2 t (.tup (ts.map V.ref))) p (.ins C dx [("_rows", .ref t)])) r (row.map V.int)) ts tb := L2.Paired.mapP pt fun c row h => SqT.upd (s3 _ _ hp) (Same.tup (Same.new ht _) h)
    have h2 : ∀ {as : List Addr} {bs : List (List Int)} {Fn : Addr → List Int → Prop}, Paired Fn as bs → Paired (fun x row => ∃ r, x = V.ref r ∧ Fn r row) (as.map V.ref) bs := by
      intro as bs Fn h
      induction h with
      | nil => exact .nil
      | cons h1 _ ih => exact .cons ⟨_, rfl, h1⟩ ih
    exact h2 h1
end
end L

set_option Elab.async false
set_option linter.all false
set_option maxRecDepth 100000
set_option maxHeartbeats 4000000
namespace L
open PySem L2 KX
/-- a list of lists of ints stands at v -/
def RowsL (G : Hp) (v : V) (tb : List (List Int)) : Prop := ∃ a rs, v = .ref a ∧ G a = some (.lst (rs.map V.ref)) ∧ Paired (fun r row => G r = some (.lst (row.map V.int))) rs tb
theorem RowsL.same {G J : Hp} {v : V} {tb : List (List Int)} (s : Same G J) (h : RowsL G v tb) : RowsL J v tb := let ⟨a, rs, e, h1, h2⟩ := h; ⟨a, rs, e, s _ _ h1, L2.Paired.mapP h2 fun _ _ z => s _ _ z⟩
theorem pair_refs {K : PySem.W.Frag} {G : Hp} {rs : List Addr} {tb : List (List Int)} (h : Paired (fun r row => G r = some (.lst (row.map V.int))) rs tb) : Paired (fun x row => Sq K G x (row.map V.int)) (rs.map V.ref) tb := by
  induction h with
  | nil => exact .nil
  | cons h _ ih => exact .cons ⟨_, rfl, .inl (SqL.of h)⟩ ih
theorem RowsL.rws {K : PySem.W.Frag} {G : Hp} {v : V} {tb : List (List Int)} (h : RowsL G v tb) : Rws K G v tb := let ⟨a, rs, e, h1, h2⟩ := h; ⟨rs.map V.ref, ⟨a, e, .inl (SqL.of h1)⟩, pair_refs h2⟩
theorem pair_app {α β : Type} {F : α → β → Prop} {as : List α} {bs : List β} {a : α} {b : β} (h : Paired F as bs) (k : F a b) : Paired F (as ++ [a]) (bs ++ [b]) := by
  induction h with
  | nil => exact .cons k .nil
  | cons h1 _ ih => exact .cons h1 ih
/-- a list of new rows is being made at fa -/
structure Part (H J : Hp) (fa : Addr) (rows : List (List Int)) : Prop where
  same : Same H J
  new : H fa = none
  at_ : ∃ rs, J fa = some (.lst (rs.map V.ref)) ∧ Paired (fun r row => r ≠ fa ∧ H r = none ∧ J r = some (.lst (row.map V.int))) rs rows
theorem Part.to {H J G : Hp} {fa : Addr} {rows : List (List Int)} (h : Part H J fa rows) (s : Same J G) : Part H G fa rows :=
  let ⟨rs, e, p⟩ := h.at_
  ⟨h.same.trans s, h.new, rs, s _ _ e, L2.Paired.mapP p fun _ _ z => ⟨z.1, z.2.1, s _ _ z.2.2⟩⟩
theorem Part.start {H G : Hp} {fa : Addr} (s : Same H G) (h : G fa = none) : Part H (upd G fa (.lst [])) fa [] := ⟨s.trans (Same.new h _), s.free h, [], upd_same, .nil⟩
theorem Part.add {H J G : Hp} {fa q : Addr} {rows : List (List Int)} {row : List Int} (h : Part H J fa rows) (s : Same J G) (n : J q = none) (e : G q = some (.lst (row.map V.int))) :
    ∃ acc, G fa = some (.lst acc) ∧ acc.length = rows.length ∧ Part H (upd G fa (.lst (acc ++ [V.ref q]))) fa (rows ++ [row]) := by
  obtain ⟨rs, e1, p⟩ := (h.to s).at_
  obtain ⟨rs0, e0, _⟩ := h.at_
  have nq : q ≠ fa := (ne_of_none e0 n).symm
  refine ⟨_, e1, by rw [List.length_map]; exact p.length, fun b o eb => ?_, h.new, rs ++ [q], by rw [upd_same, List.map_append]; rfl, ?_⟩
  · rw [upd_ne (ne_of_none eb h.new)]; exact (h.to s).same _ _ eb
  · refine pair_app (L2.Paired.mapP p fun r row z => ⟨z.1, z.2.1, by rw [upd_ne z.1]; exact z.2.2⟩) ⟨nq, h.same.free n, by rw [upd_ne nq]; exact e⟩
theorem Part.fin {H J : Hp} {fa : Addr} {tb : List (List Int)} (h : Part H J fa tb) : RowsL (nw H J) (.ref fa) tb :=
  let ⟨rs, e, p⟩ := h.at_
  ⟨fa, rs, rfl, by rw [nw_at h.new]; exact e, L2.Paired.mapP p fun _ _ z => by rw [nw_at z.2.1]; exact z.2.2⟩
/-- what a table's row holds ahead of place b -/
def rowTo (f : Nat → Nat → Nat) (a b : Nat) : List Int := (List.range b).map fun b => ((f a b : Nat) : Int)
theorem rowTo_next {f : Nat → Nat → Nat} {a b : Nat} : rowTo f a (b + 1) = rowTo f a b ++ [((f a b : Nat) : Int)] := by unfold rowTo; rw [List.range_succ, List.map_append]; rfl
theorem rowTo_len {f : Nat → Nat → Nat} {a b : Nat} : ((rowTo f a b).map V.int).length = b := by unfold rowTo; rw [List.length_map, List.length_map, List.length_range]
/-- the rows ahead of row a -/
def rowsTo (n : Nat) (f : Nat → Nat → Nat) (a : Nat) : List (List Int) := (List.range a).map fun a => rowTo f a n
theorem rowsTo_next {n : Nat} {f : Nat → Nat → Nat} {a : Nat} : rowsTo n f (a + 1) = rowsTo n f a ++ [rowTo f a n] := by unfold rowsTo; rw [List.range_succ, List.map_append]; rfl
theorem rowsTo_len {n : Nat} {f : Nat → Nat → Nat} {a : Nat} : (rowsTo n f a).length = a := by unfold rowsTo; rw [List.length_map, List.length_range]
theorem rowsTo_all {n : Nat} {f : Nat → Nat → Nat} : rowsTo n f n = tab n f := rfl
theorem z0 (n : Nat) : (0 : Int) + (n : Int) = (n : Int) := Int.zero_add _
def spPlain : Sp := fun vs H Q _ => ∃ kind n : Nat, vs = [.int kind, .int n] ∧ kind < 6 ∧ 1 ≤ n ∧ n ≤ 16 ∧ ∀ v H', RowsL (nw H H') v (tab n (fpl kind n)) → Same H H' → Q v H'
section
variable {P : Program} {w : World} {K : PySem.W.Frag} {mg : Str → Option Value} {base : Heap} {f g gn : Addr} {fd gd gnd : FuncData}
end
end L

set_option Elab.async false
set_option linter.all false
set_option maxRecDepth 100000
set_option maxHeartbeats 4000000
namespace L
open PySem L2 KX
theorem ixl {X : Cx} {K : PySem.W.Frag} (hK : X.K = K) : IxR X (rIxL K) := by subst hK; exact ix_list
theorem lenl {X : Cx} {K : PySem.W.Frag} (hK : X.K = K) : CallR X (.builtin "len") (fun xs H Q => ∃ p ys, xs = [.ref p] ∧ (SqL K H p ys ∨ SqT K H p ys) ∧ Q (.int ys.length) H) := by subst hK; exact call_len_seq
theorem fex_row {kind n a b : Nat} {f : Nat → Nat → Nat} (ha : a < n) (hb : b < n) : fex kind n f a b = f a b := if_pos ⟨ha, hb⟩
theorem rowTo_congr {f g : Nat → Nat → Nat} {a : Nat} : ∀ {b : Nat}, (∀ c, c < b → f a c = g a c) → rowTo f a b = rowTo g a b
  | 0, _ => rfl
  | b + 1, h => by rw [rowTo_next, rowTo_next, rowTo_congr (b := b) fun c hc => h c (by omega), h b (by omega)]
def spExt : Sp := fun vs H Q _ => ∃ (v : V) (kind n : Nat) (f : Nat → Nat → Nat), vs = [v, .int kind] ∧ kind < 2 ∧ 1 ≤ n ∧ n < 16 ∧ RowsL H v (tab n f) ∧ ∀ v' H', RowsL (nw H H') v' (tab (n + 1) (fex kind n f)) → Same H H' → Q v' H'
def spPairs : Sp := fun vs H Q _ => ∃ (v u : V) (m n : Nat) (f g : Nat → Nat → Nat), vs = [v, u] ∧ 1 ≤ m ∧ 1 ≤ n ∧ m * n ≤ 16 ∧ RowsL H v (tab m f) ∧ RowsL H u (tab n g) ∧ ∀ v' H', RowsL (nw H H') v' (tab (m * n) (fpr n f g)) → Same H H' → Q v' H'
def spGrid : Sp := fun vs H Q _ => ∃ p, vs = [.ref p] ∧ Bx H p ∧ ∀ v H' (s : Nat → Nat), (∀ i, s i < 2) → RowsL (nw H H') v (tab 8 (fgr s)) → Bx H' p → Sx p H H' → Q v H'
section
variable {P : Program} {w : World} {K : PySem.W.Frag} {mg : Str → Option Value} {base : Heap} {f g gn : Addr} {fd gd gnd : FuncData}
end
end L

set_option Elab.async false
set_option linter.all false
set_option maxRecDepth 100000
set_option maxHeartbeats 4000000
namespace L
open PySem L2 KX
def wds : List Str := ["a", "b", "aa", "ab", "ba", "bb", ""]
def wd (i : Nat) : Str := wds.getD i ""
def fwd (a b : Nat) : Nat := if a < 2 ∧ b < 2 then 2 + 2 * a + b else 6
theorem asf_words : Asf 7 fwd := by
  refine ⟨fun a b ha hb => by unfold fwd; split <;> omega, fun a b c ha hb hc => ?_⟩
  have e : ∀ x y, ¬ fwd x y < 2 := fun x y => by unfold fwd; split <;> omega
  have l : fwd (fwd a b) c = 6 := if_neg fun z => e a b z.1
  have r : fwd a (fwd b c) = 6 := if_neg fun z => e b c z.2
  rw [l, r]
def bothOf (x y : Str) : Str := if (!decide (V.str x = V.str "")) = true then (if (!decide (V.str y = V.str "")) = true then x ++ y else "") else ""
def keyOf (z : Str) : Str := if decide (((z.length : Nat) : Int) < 3) = true then z else ""
def wOk (a b : Nat) : Bool := (wds[fwd a b]? == some (keyOf (bothOf (wd a) (wd b)))) && decide ((wd a).length + (wd b).length ≤ 4) && decide ((bothOf (wd a) (wd b)).length ≤ 4) &&
  eqV (.str (keyOf (bothOf (wd a) (wd b)))) (.str (keyOf (bothOf (wd a) (wd b)))) && (List.range (fwd a b)).all fun m => !eqV (.str (wd m)) (.str (keyOf (bothOf (wd a) (wd b))))
theorem wOk_all : ((List.range 7).all fun a => (List.range 7).all fun b => wOk a b) = true := by decide +kernel
theorem wd_at {m : Nat} {z : V} (h : (wds.map V.str)[m]? = some z) : z = .str (wd m) := by
  rw [List.getElem?_map] at h
  obtain ⟨x, h1, rfl⟩ := Option.map_eq_some_iff.mp h
  unfold wd
  rw [List.getD_eq_getElem?_getD, h1]; rfl
theorem w_facts {a b : Nat} (ha : a < 7) (hb : b < 7) : (wds.map V.str)[fwd a b]? = some (.str (keyOf (bothOf (wd a) (wd b)))) ∧ (wd a).length + (wd b).length ≤ 4 ∧ (bothOf (wd a) (wd b)).length ≤ 4 ∧
    eqV (.str (keyOf (bothOf (wd a) (wd b)))) (.str (keyOf (bothOf (wd a) (wd b)))) = true ∧ ∀ (m : Nat) (z' : V), m < fwd a b → (wds.map V.str)[m]? = some z' → eqV z' (.str (keyOf (bothOf (wd a) (wd b)))) = false := by
  have h := List.all_eq_true.mp (List.all_eq_true.mp wOk_all a (List.mem_range.mpr ha)) b (List.mem_range.mpr hb)
  unfold wOk at h
  obtain ⟨h, h5⟩ := Bool.and_eq_true_iff.mp h
  obtain ⟨h, h4⟩ := Bool.and_eq_true_iff.mp h
  obtain ⟨h, h3⟩ := Bool.and_eq_true_iff.mp h
  obtain ⟨h1, h2⟩ := Bool.and_eq_true_iff.mp h
  refine ⟨by rw [List.getElem?_map, eq_of_beq h1]; rfl, of_decide_eq_true h2, of_decide_eq_true h3, h4, fun m z' hm hz => ?_⟩
  have e := List.all_eq_true.mp h5 m (List.mem_range.mpr hm)
  rw [wd_at hz]
  exact Bool.not_eq_true' _ |>.mp e
def spWords : Sp := fun vs H Q _ => vs = [] ∧ ∀ v H', RowsL (nw H H') v (tab 7 fwd) → Same H H' → Q v H'
section
variable {P : Program} {w : World} {K : PySem.W.Frag} {mg : Str → Option Value} {base : Heap} {f g gn : Addr} {fd gd gnd : FuncData}
end
end L

set_option Elab.async false
set_option linter.all false
set_option maxRecDepth 100000
set_option maxHeartbeats 4000000
/-! Own layer: tables of maps under composition. Plain lists and numbers. -/
namespace KX
/-- a map of k states -/
def Mp (k : Nat) (m : List Nat) : Prop := m.length = k ∧ ∀ x, x ∈ m → x < k
/-- first x, then y -/
def cmp (x y : List Nat) : List Nat := x.map fun s => y.getD s 0
theorem getD_lt {k : Nat} {m : List Nat} (h : Mp k m) {s : Nat} (hs : s < k) : m.getD s 0 < k := by
  have hl : s < m.length := by rw [h.1]; exact hs
  rw [List.getD_eq_getElem?_getD, List.getElem?_eq_getElem hl]
  exact h.2 _ (List.getElem_mem hl)
theorem cmp_mp {k : Nat} {x y : List Nat} (hx : Mp k x) (hy : Mp k y) : Mp k (cmp x y) := by
  refine ⟨by unfold cmp; rw [List.length_map]; exact hx.1, fun z hz => ?_⟩
  obtain ⟨s, hs, rfl⟩ := List.mem_map.mp hz
  exact getD_lt hy (hx.2 s hs)
theorem cmp_as {k : Nat} {x y z : List Nat} (hx : Mp k x) (hy : Mp k y) : cmp (cmp x y) z = cmp x (cmp y z) := by
  unfold cmp
  rw [List.map_map]
  refine List.map_congr_left fun s hs => ?_
  have hl : s < y.length := by rw [hy.1]; exact hx.2 s hs
  show z.getD (y.getD s 0) 0 = (y.map fun s => z.getD s 0).getD s 0
  rw [List.getD_eq_getElem?_getD (l := y.map _), List.getElem?_map, List.getElem?_eq_getElem hl, List.getD_eq_getElem?_getD (l := y), List.getElem?_eq_getElem hl]; rfl
/-- made of letters -/
inductive Gen (ls : List (List Nat)) : List Nat → Prop
  | base {l : List Nat} : l ∈ ls → Gen ls l
  | step {x l : List Nat} : Gen ls x → l ∈ ls → Gen ls (cmp x l)
theorem Gen.mp {k : Nat} {ls : List (List Nat)} (hl : ∀ l, l ∈ ls → Mp k l) {m : List Nat} (g : Gen ls m) : Mp k m := by
  induction g with
  | base h => exact hl _ h
  | step _ h ih => exact cmp_mp ih (hl _ h)
theorem gen_closed {k : Nat} {ls ms : List (List Nat)} (hl : ∀ l, l ∈ ls → Mp k l) (hg : ∀ x, x ∈ ms → Gen ls x) (hc : ∀ x, x ∈ ms → ∀ l, l ∈ ls → cmp x l ∈ ms) {x y : List Nat} (hx : x ∈ ms) (g : Gen ls y) : cmp x y ∈ ms := by
  induction g with
  | base h => exact hc x hx _ h
  | step g h ih =>
    rw [← cmp_as ((hg x hx).mp hl) (g.mp hl)]
    exact hc _ ih _ h
/-- the place of a map -/
def fmp (ms : List (List Nat)) (a b : Nat) : Nat := ms.idxOf (cmp (ms.getD a []) (ms.getD b []))
theorem getD_mem {ms : List (List Nat)} {a : Nat} (h : a < ms.length) : ms.getD a [] ∈ ms := by
  rw [List.getD_eq_getElem?_getD, List.getElem?_eq_getElem h]
  exact List.getElem_mem h
theorem idx_get {ms : List (List Nat)} {m : List Nat} (h : m ∈ ms) : ms.idxOf m < ms.length ∧ ms[ms.idxOf m]? = some m := by
  have hl : ms.idxOf m < ms.length := List.idxOf_lt_length_iff.mpr h
  exact ⟨hl, by rw [List.getElem?_eq_getElem hl, List.getElem_idxOf hl]⟩
theorem idx_ahead {ms : List (List Nat)} {m : List Nat} : ∀ {j : Nat} {z : List Nat}, j < ms.idxOf m → ms[j]? = some z → z ≠ m := by
  induction ms with
  | nil => intro j z h e; cases e
  | cons a ms ih =>
    intro j z h e hz
    subst hz
    rw [List.idxOf_cons] at h
    by_cases ha : a = z
    · subst ha
      rw [show (a == a) = true from beq_self_eq_true a] at h
      exact absurd h (Nat.not_lt_zero _)
    · rw [show (a == z) = false from beq_eq_false_iff_ne.mpr ha] at h
      cases j with
      | zero => exact ha (Option.some.inj e)
      | succ j =>
        have h' : j + 1 < ms.idxOf z + 1 := h
        exact ih (j := j) (by omega) e rfl
/-- a list of maps closed under composition -/
structure Cl (k : Nat) (ms : List (List Nat)) : Prop where
  mp : ∀ m, m ∈ ms → Mp k m
  cl : ∀ x, x ∈ ms → ∀ y, y ∈ ms → cmp x y ∈ ms
theorem Cl.at_ {k : Nat} {ms : List (List Nat)} (C : Cl k ms) {a b : Nat} (ha : a < ms.length) (hb : b < ms.length) : fmp ms a b < ms.length ∧ ms[fmp ms a b]? = some (cmp (ms.getD a []) (ms.getD b [])) :=
  idx_get (C.cl _ (getD_mem ha) _ (getD_mem hb))
theorem asf_maps {k : Nat} {ms : List (List Nat)} (C : Cl k ms) : Asf ms.length (fmp ms) := by
  refine ⟨fun a b ha hb => (C.at_ ha hb).1, fun a b c ha hb hc => ?_⟩
  have h1 := C.at_ ha hb
  have h2 := C.at_ hb hc
  have e1 : ms.getD (fmp ms a b) [] = cmp (ms.getD a []) (ms.getD b []) := by rw [List.getD_eq_getElem?_getD, h1.2]; rfl
  have e2 : ms.getD (fmp ms b c) [] = cmp (ms.getD b []) (ms.getD c []) := by rw [List.getD_eq_getElem?_getD, h2.2]; rfl
  unfold fmp at *
  rw [e1, e2, cmp_as (C.mp _ (getD_mem ha)) (C.mp _ (getD_mem hb))]
/-- what the search knows: letters ls, found ms, i of them walked -/
structure Srch (k : Nat) (ls ms : List (List Nat)) (i : Nat) : Prop where
  lm : ∀ l, l ∈ ls → Mp k l
  sub : ∀ l, l ∈ ls → l ∈ ms
  gen : ∀ x, x ∈ ms → Gen ls x
  done : ∀ j, j < i → ∀ x, ms[j]? = some x → ∀ l, l ∈ ls → cmp x l ∈ ms
theorem Srch.cl {k : Nat} {ls ms : List (List Nat)} {i : Nat} (S : Srch k ls ms i) (h : ms.length ≤ i) : Cl k ms := by
  refine ⟨fun m hm => (S.gen m hm).mp S.lm, fun x hx y hy => gen_closed S.lm S.gen (fun x hx l hl => ?_) hx (S.gen y hy)⟩
  obtain ⟨j, hj, rfl⟩ := List.mem_iff_getElem.mp hx
  exact S.done j (by omega) _ (List.getElem?_eq_getElem hj) l hl
theorem Srch.more {k : Nat} {ls ms : List (List Nat)} {i : Nat} (S : Srch k ls ms i) {m : List Nat} (g : Gen ls m) (hi : i ≤ ms.length) : Srch k ls (ms ++ [m]) i := by
  refine ⟨S.lm, fun l hl => List.mem_append_left _ (S.sub l hl), fun x hx => ?_, fun j hj x hx l hl => ?_⟩
  · rcases List.mem_append.mp hx with h | h
    · exact S.gen x h
    · rw [List.mem_singleton.mp h]; exact g
  · rw [List.getElem?_append_left (by omega)] at hx
    exact List.mem_append_left _ (S.done j hj x hx l hl)
end KX

set_option Elab.async false
set_option linter.all false
set_option maxRecDepth 100000
set_option maxHeartbeats 4000000
namespace L
open PySem L2 KX
def nv (m : List Nat) : List V := m.map fun x : Nat => V.int ((x : Nat) : Int)
def nD (m : List Nat) : List PyData := m.map fun x : Nat => PyData.int ((x : Nat) : Int)
def tD (m : List Nat) : PyData := .tuple (nD m)
theorem nD_lay : ∀ m : List Nat, PyData.canLayAll0 (nD m) = true
  | [] => by unfold nD; simp [PyData.canLayAll0]
  | x :: m => by
    have h := nD_lay m
    unfold nD at h ⊢
    simp [PyData.canLayAll0, PyData.canLay0, h]
theorem nD_depth : ∀ m : List Nat, PyData.depthAll (nD m) = 0
  | [] => by unfold nD; simp [PyData.depthAll]
  | x :: m => by
    have h := nD_depth m
    unfold nD at h ⊢
    simp [PyData.depthAll, PyData.depth, h]
theorem tD_lay : ∀ ms : List (List Nat), PyData.canLayAll0 (ms.map tD) = true
  | [] => by simp [PyData.canLayAll0]
  | m :: ms => by
    have h := tD_lay ms
    have h2 := nD_lay m
    simp only [List.map_cons, PyData.canLayAll0, tD, PyData.canLay0, h2, Bool.true_and]
    exact h
theorem tD_depth : ∀ ms : List (List Nat), PyData.depthAll (ms.map tD) ≤ 1
  | [] => by simp [PyData.depthAll]
  | m :: ms => by
    have h := tD_depth ms
    have h2 := nD_depth m
    have h3 : (tD m).depth = 1 := by unfold tD; simp only [PyData.depth, h2]
    simp only [List.map_cons, PyData.depthAll, h3]
    omega
theorem tD_shaped (m : List Nat) : SeqAt.shaped (tD m) = true := by
  have h2 : (tD m).depth = 1 := by unfold tD; simp only [PyData.depth, nD_depth m]
  have h1 : (tD m).canLay0 = true := by unfold tD; simp only [PyData.canLay0]; exact nD_lay m
  show ((tD m).canLay0 && decide ((tD m).depth ≤ 64)) = true
  rw [Bool.and_eq_true]
  exact ⟨h1, decide_eq_true (by omega)⟩
theorem tDs_shaped (ms : List (List Nat)) : SeqAt.shaped (.list (ms.map tD)) = true := by
  have h1 := tD_depth ms
  have h2 : PyData.depth (.list (ms.map tD)) ≤ 64 := by
    simp only [PyData.depth]
    omega
  show (PyData.canLay0 (.list (ms.map tD)) && decide (PyData.depth (.list (ms.map tD)) ≤ 64)) = true
  rw [Bool.and_eq_true]
  exact ⟨by simp only [PyData.canLay0]; exact tD_lay ms, decide_eq_true h2⟩
theorem nD_eqv : ∀ a b : List Nat, PyData.eqvAll (nD a) (nD b) = decide (a = b)
  | [], [] => by unfold nD; simp [PyData.eqvAll]
  | [], _ :: _ => by unfold nD; simp [PyData.eqvAll]
  | _ :: _, [] => by unfold nD; simp [PyData.eqvAll]
  | x :: a, y :: b => by
    have h := nD_eqv a b
    unfold nD at h ⊢
    simp only [List.map_cons, PyData.eqvAll, PyData.eqv, h]
    by_cases e : x = y
    · subst e
      rw [show (((x : Int) == (x : Int))) = true from beq_self_eq_true _, Bool.true_and]
      by_cases e2 : a = b
      · subst e2; simp
      · rw [decide_eq_false e2, decide_eq_false fun z => e2 (List.cons.inj z).2]
    · rw [show (((x : Int) == (y : Int))) = false from beq_eq_false_iff_ne.mpr (by omega), Bool.false_and, decide_eq_false fun z => e (List.cons.inj z).1]
theorem tD_eqv (a b : List Nat) : PyData.eqv (tD a) (tD b) = decide (a = b) := by
  unfold tD
  simp only [PyData.eqv]
  exact nD_eqv a b
theorem tD_any (ms : List (List Nat)) (m : List Nat) : ((ms.map tD).any fun z => PyData.eqv z (tD m)) = decide (m ∈ ms) := by
  rw [List.any_map]
  rw [Bool.eq_iff_iff, List.any_eq_true, decide_eq_true_iff]
  constructor
  · rintro ⟨x, hx, e⟩
    have e' : PyData.eqv (tD x) (tD m) = true := e
    rw [tD_eqv] at e'
    exact (of_decide_eq_true e') ▸ hx
  · intro h
    refine ⟨m, h, ?_⟩
    show PyData.eqv (tD m) (tD m) = true
    rw [tD_eqv]; exact decide_eq_true rfl
theorem dp_nv {K : PySem.W.Frag} {G : Hp} : ∀ m : List Nat, DpAll K G (nv m) (nD m)
  | [] => .nil
  | x :: m => .cons (.int _) (dp_nv m)
theorem dp_tup {K : PySem.W.Frag} {G : Hp} {t : Addr} {m : List Nat} (h : G t = some (.tup (nv m))) : Dp K G (.ref t) (tD m) := .tup (SqT.of h) (dp_nv m)
theorem dp_tups {K : PySem.W.Frag} {G : Hp} {ts : List Addr} {ms : List (List Nat)} (h : Paired (fun t m => G t = some (.tup (nv m))) ts ms) : DpAll K G (ts.map V.ref) (ms.map tD) := by
  induction h with
  | nil => exact .nil
  | cons h _ ih => exact .cons (dp_tup h) ih
/-- the maps found so far stand at fa -/
structure Mi (H : Hp) (p fa : Addr) (J : Hp) (ms : List (List Nat)) : Prop where
  bx : Bx J p
  sx : Sx p H J
  nf : H fa = none
  np : fa ≠ p
  fm : ∃ ts, J fa = some (.lst (ts.map V.ref)) ∧ Paired (fun t m => J t = some (.tup (nv m))) ts ms
section
variable {H J G : Hp} {p fa q : Addr} {ms : List (List Nat)} {m : List Nat}
theorem Bx.same (b : Bx H p) (s : Same H J) : Bx J p := let ⟨b0, b1, b2, e, r⟩ := b; ⟨b0, b1, b2, s _ _ e, r⟩
theorem Mi.to (h : Mi H p fa J ms) (s : Same J G) : Mi H p fa G ms :=
  let ⟨ts, e, pr⟩ := h.fm
  ⟨h.bx.same s, h.sx.trans (Sx.of s), h.nf, h.np, ts, s _ _ e, L2.Paired.mapP pr fun _ _ z => s _ _ z⟩
theorem Bx.ne_tup {t : Addr} {xs : List V} (b : Bx H p) (h : H t = some (.tup xs)) : t ≠ p := fun z => by
  obtain ⟨b0, b1, b2, e, r⟩ := b
  rw [z, e] at h
  cases h
theorem Mi.took (h : Mi H p fa J ms) (s : Sx p J G) (b : Bx G p) : Mi H p fa G ms :=
  let ⟨ts, e, pr⟩ := h.fm
  ⟨b, h.sx.trans s, h.nf, h.np, ts, s _ _ h.np e, L2.Paired.mapP pr fun _ _ z => s _ _ (h.bx.ne_tup z) z⟩
theorem Mi.start (b : Bx G p) (s : Sx p H G) (n : G fa = none) : Mi H p fa (upd G fa (.lst [])) [] :=
  ⟨b.new n, s.trans (Sx.new n), s.free b n, b.ne n, [], upd_same, .nil⟩
theorem Mi.add (h : Mi H p fa J ms) (e : J q = some (.tup (nv m))) : ∃ acc, J fa = some (.lst acc) ∧ acc.length = ms.length ∧ Mi H p fa (upd J fa (.lst (acc ++ [V.ref q]))) (ms ++ [m]) := by
  obtain ⟨ts, e1, pr⟩ := h.fm
  refine ⟨_, e1, by rw [List.length_map]; exact pr.length, h.bx.at_ne h.np, fun b o nb eb => by rw [upd_ne (ne_of_none eb h.nf)]; exact h.sx b o nb eb, h.nf, h.np, ts ++ [q], by rw [upd_same, List.map_append]; rfl, ?_⟩
  have nt : ∀ {t : Addr} {xs : List V}, J t = some (.tup xs) → t ≠ fa := fun {t xs} z y => by rw [y, e1] at z; cases z
  exact pair_app (L2.Paired.mapP pr fun t m z => by rw [upd_ne (nt z)]; exact z) (by rw [upd_ne (nt e)]; exact e)
theorem Mi.sq {K : PySem.W.Frag} (h : Mi H p fa J ms) : ∃ xs, SqL K J fa xs ∧ xs.length = ms.length := let ⟨ts, e, pr⟩ := h.fm; ⟨_, SqL.of e, by rw [List.length_map]; exact pr.length⟩
theorem Mi.dp {K : PySem.W.Frag} (h : Mi H p fa J ms) : Dp K J (.ref fa) (.list (ms.map tD)) := let ⟨ts, e, pr⟩ := h.fm; .lst (SqL.of e) (dp_tups pr)
end
end L

set_option Elab.async false
set_option linter.all false
set_option maxRecDepth 100000
set_option maxHeartbeats 4000000
namespace L
open PySem L2 KX
theorem ixt {X : Cx} {K : PySem.W.Frag} (hK : X.K = K) : IxR X (rIxT K) := by subst hK; exact ix_tup
theorem pit {X : Cx} {K : PySem.W.Frag} (hK : X.K = K) {tg l : Expr} {tl : TE} (h : PE X l tl) : PI X tg l (iTup K tl) := by subst hK; exact pi_tup h
theorem pe_idx {X : Cx} {K : PySem.W.Frag} (hK : X.K = K) (hu : X.A.units + 65 < cLine) {o e : Expr} {apos cpos : Pos} {to : TE} {t : TA} (ho : PE X o to) (ha : PA X [e] t)
    (hbase : attributeBase o "index" X.env (eval o X.env) = eval o X.env := by rfl)
    (hfew : ((backTo cpos (starEach [e] X.env)).all (fun x => !x.1) && (backToKw cpos (keywordEach [] X.env)).all (fun x => x.1.isSome)
      && decide (([e] : List Expr).length + ([] : List Keyword).length + (if ([] : List Keyword).isEmpty then 0 else 1) < 30)) = true := by rfl)
    (hline : (apos.endLine == cpos.line) = true := by rfl) (hs : starEach [e] X.env = (false, eval e X.env) :: starEach [] X.env := by rfl) (hplain : (backTo cpos (starEach [] X.env)).any (·.1) = false := by rfl) :
    PE X (.Call (.Attribute o "index" apos) [e] [] cpos) (tBM K "list" (rIndexD K) to t) := by
  subst hK
  exact pe_bm PySem.F.plainAttrs_list PySem.F.slot_list_index PySem.F.type_list_index (mt_indexD hu) ho ha hbase hfew hline hs hplain
theorem hu65 {k : Nat} {A : Around} (r : Room k A) : A.units + 65 < cLine := by have := r.un; omega
def scReached : Scope := { kind := .function, names := [(Str.ofString ".0", .local), (Str.ofString "other", .cell), (Str.ofString "tuple", .globalImplicit), (Str.ofString "one", .cell)], isGenerator := false, isCoroutine := false }
/-- the letters stand at la -/
def Lt (la : Addr) (ts : List Addr) (ms : List (List Nat)) (J : Hp) : Prop := J la = some (.lst (ts.map V.ref)) ∧ Paired (fun t m => J t = some (.tup (nv m))) ts ms
theorem Lt.to {la : Addr} {ts : List Addr} {ms : List (List Nat)} {J G : Hp} (h : Lt la ts ms J) (s : Same J G) : Lt la ts ms G := ⟨s _ _ h.1, L2.Paired.mapP h.2 fun _ _ z => s _ _ z⟩
theorem Lt.upd {la fa : Addr} {ts : List Addr} {ms : List (List Nat)} {J : Hp} {acc xs : List V} (h : Lt la ts ms J) (n : la ≠ fa) (e : J fa = some (.lst acc)) : Lt la ts ms (upd J fa (.lst xs)) :=
  ⟨by rw [upd_ne n]; exact h.1, L2.Paired.mapP h.2 fun t m z => by rw [upd_ne fun y => by rw [y, e] at z; cases z]; exact z⟩
theorem nv_at {m : List Nat} {i : Nat} {v : V} (h : (nv m)[i]? = some v) : ∃ x : Nat, m[i]? = some x ∧ v = .int (x : Int) := by
  unfold nv at h
  rw [List.getElem?_map] at h
  obtain ⟨x, h1, h2⟩ := Option.map_eq_some_iff.mp h
  exact ⟨x, h1, h2.symm⟩
theorem nv_get {k : Nat} {m : List Nat} (h : Mp k m) {s : Nat} (hs : s < k) : (nv m)[s]? = some (.int ((m.getD s 0 : Nat) : Int)) := by
  have hl : s < m.length := by rw [h.1]; exact hs
  unfold nv
  rw [List.getElem?_map, List.getD_eq_getElem?_getD, List.getElem?_eq_getElem hl]; rfl
theorem nv_len (m : List Nat) : (nv m).length = m.length := by unfold nv; rw [List.length_map]
theorem cmp_take {x l : List Nat} {b s : Nat} (h : x[b]? = some s) : (cmp x l).take (b + 1) = (cmp x l).take b ++ [l.getD s 0] := by
  rw [List.take_add_one]
  unfold cmp
  rw [List.getElem?_map, h]; rfl
theorem ref_at {ts : List Addr} {i : Nat} {v : V} (h : (ts.map V.ref)[i]? = some v) : ∃ t, ts[i]? = some t ∧ v = .ref t := by
  rw [List.getElem?_map] at h
  obtain ⟨x, h1, h2⟩ := Option.map_eq_some_iff.mp h
  exact ⟨x, h1, h2.symm⟩
theorem pair_to {α β : Type} {F : α → β → Prop} : ∀ {as : List α} {bs : List β} {i : Nat} {b : β}, Paired F as bs → bs[i]? = some b → ∃ a, as[i]? = some a ∧ F a b
  | _, _, _, _, .nil, e => by simp at e
  | _, _, 0, _, .cons h _, e => by simp at e; subst e; exact ⟨_, rfl, h⟩
  | _, _, i + 1, _, .cons _ t, e => by
    simp at e
    obtain ⟨a, h1, h2⟩ := pair_to t e
    exact ⟨a, by simpa using h1, h2⟩
def spMaps : Sp := fun vs H Q _ => ∃ p, vs = [.ref p] ∧ Bx H p ∧ ∀ v H', (v = .non ∨ ∃ n f, 1 ≤ n ∧ n ≤ 16 ∧ Asf n f ∧ RowsL (nw H H') v (tab n f)) → Bx H' p → Sx p H H' → Q v H'
abbrev nMaps : List Str := ["box", "size", "found", "turn", "one", "letters", "at", "letter", "rows", "reached", "state", "other"]
section
variable {P : Program} {w : World} {K : PySem.W.Frag} {mg : Str → Option Value} {base : Heap} {f g gn : Addr} {fd gd gnd : FuncData}
end
end L

set_option Elab.async false
set_option linter.all false
set_option maxRecDepth 100000
set_option maxHeartbeats 4000000
namespace L
open PySem L2 KX
theorem erase_pm {α : Type} : ∀ {l : List α} {i : Nat} {y : α}, l[i]? = some y → (y :: l.eraseIdx i).Perm l
  | [], _, _, h => by simp at h
  | x :: l, 0, y, h => by simp at h; subst h; exact List.Perm.refl _
  | x :: l, i + 1, y, h => (List.Perm.swap x y _).trans ((erase_pm (l := l) (i := i) (by simpa using h)).cons x)
theorem erase_nv : ∀ {m : List Nat} {i : Nat}, (nv m).eraseIdx i = nv (m.eraseIdx i)
  | [], _ => rfl
  | x :: m, 0 => rfl
  | x :: m, i + 1 => congrArg (V.int ((x : Nat) : Int) :: ·) (erase_nv (m := m) (i := i))
theorem idx_ahead1 {ms : List Nat} {m : Nat} : ∀ {j : Nat} {z : Nat}, j < ms.idxOf m → ms[j]? = some z → z ≠ m := by
  induction ms with
  | nil => intro j z h e; cases e
  | cons a ms ih =>
    intro j z h e hz
    subst hz
    rw [List.idxOf_cons] at h
    by_cases ha : a = z
    · subst ha
      rw [show (a == a) = true from beq_self_eq_true a] at h
      exact absurd h (Nat.not_lt_zero _)
    · rw [show (a == z) = false from beq_eq_false_iff_ne.mpr ha] at h
      cases j with
      | zero => exact ha (Option.some.inj e)
      | succ j =>
        have h' : j + 1 < ms.idxOf z + 1 := h
        exact ih (j := j) (by omega) e rfl
section
variable {X : Cx} {K : PySem.W.Frag}
/-- a statement by what is known behind it -/
theorem ps_cut {st : Stmt} {t : TS} (h : PS X st t) : PS X st (fun D σ H => ∃ R : L2.St → Hp → Prop, t { D with nx := R } σ H ∧ ∀ σ' H', R σ' H' → D.nx σ' H') := by
  refine ⟨fun pins s σ H D I ⟨R, h1, k⟩ => thn (h.run pins s σ H { D with nx := R } I h1) fun f s1 q => ?_⟩
  cases f with
  | next =>
    obtain ⟨σ', H', I', q⟩ := q
    exact ⟨σ', H', I', k _ _ q⟩
  | ret v => exact q
  | brk => exact q
  | cont => exact q
theorem pil (hK : X.K = K) {tg l : Expr} {tl : TE} (h : PE X l tl) : PI X tg l (iList K tl) := by subst hK; exact pi_list h
theorem pe_bK (hK : X.K = K) {o e : Expr} {to : TE} {t : TA} {r : V → List V → Hp → VK → Prop} {name : Str} {apos cpos : Pos} (h : PE X (.Call (.Attribute o name apos) [e] [] cpos) (tBM X.K "list" r to t)) :
    PE X (.Call (.Attribute o name apos) [e] [] cpos) (tBM K "list" r to t) := by subst hK; exact h
theorem mt_idx1 (hK : X.K = K) : MtR X "list.index" (rIndex K) := by subst hK; exact mt_index
end
def scOut : Scope := { kind := .function, names := [(Str.ofString ".0", .local), (Str.ofString "a", .cell), (Str.ofString "order", .cell), (Str.ofString "rows", .cell)], isGenerator := false, isCoroutine := false }
/-- the rows so far: a new table at v -/
structure RwAt (H : Hp) (p : Addr) (J : Hp) (v : V) (n : Nat) (f : Nat → Nat → Nat) : Prop where
  bx : Bx J p
  sx : Sx p H J
  n1 : 1 ≤ n
  n16 : n ≤ 16
  as : Asf n f
  rows : RowsL (nw H J) v (tab n f)
theorem nw_to {H J : Hp} : Same (nw H J) J := fun c o h => (nw_some h).2
theorem RwAt.took {H J G : Hp} {p : Addr} {v : V} {n : Nat} {f : Nat → Nat → Nat} (h : RwAt H p J v n f) (hb : Bx H p) (s : Sx p J G) (b : Bx G p) : RwAt H p G v n f := ⟨b, h.sx.trans s, h.n1, h.n16, h.as, h.rows.same (nw_step hb s)⟩
theorem RwAt.to {H J G : Hp} {p : Addr} {v : V} {n : Nat} {f : Nat → Nat → Nat} (h : RwAt H p J v n f) (hb : Bx H p) (s : Same J G) : RwAt H p G v n f := h.took hb (Sx.of s) (h.bx.same s)
theorem RwAt.of {H J G : Hp} {p : Addr} {v : V} {n : Nat} {f : Nat → Nat → Nat} (b : Bx J p) (sx : Sx p H J) (s : Same J G) (n1 : 1 ≤ n) (n16 : n ≤ 16) (as : Asf n f) (r : RowsL (nw J G) v (tab n f)) : RwAt H p G v n f :=
  ⟨b.same s, sx.trans (Sx.of s), n1, n16, as, r.same (nw_back sx b)⟩
theorem RwAt.ofS {H J G : Hp} {p : Addr} {v : V} {n : Nat} {f : Nat → Nat → Nat} (b : Bx J p) (sx : Sx p H J) (s : Sx p J G) (bG : Bx G p) (n1 : 1 ≤ n) (n16 : n ≤ 16) (as : Asf n f) (r : RowsL (nw J G) v (tab n f)) : RwAt H p G v n f :=
  ⟨bG, sx.trans s, n1, n16, as, r.same (nw_back sx b)⟩
/-- the rows as a list -/
theorem RwAt.lst {K : PySem.W.Frag} {H J : Hp} {p : Addr} {v : V} {n : Nat} {f : Nat → Nat → Nat} (h : RwAt H p J v n f) : ∃ a xs, v = .ref a ∧ SqL K J a xs ∧ xs.length = n :=
  let ⟨a, rs, e, ea, pr⟩ := h.rows
  ⟨a, _, e, SqL.of (nw_to _ _ ea), by rw [List.length_map, pr.length, tab_len]⟩
theorem RwAt.ne {H J : Hp} {p : Addr} {v : V} {n : Nat} {f : Nat → Nat → Nat} (h : RwAt H p J v n f) : v ≠ .non := fun e => by
  obtain ⟨a, rs, e', _⟩ := h.rows
  rw [e'] at e; cases e
theorem rg_nv (n : Nat) : rgV 0 (n : Int) = nv (List.range n) := by
  unfold rgV nv
  rw [Int.sub_zero, Int.toNat_natCast]
  exact List.map_congr_left fun x _ => by rw [Int.zero_add]
def spRows : Sp := fun vs H Q _ => ∃ p, vs = [.ref p] ∧ Bx H p ∧ ∀ v H' n f, RwAt H p H' v n f → Q v H'
abbrev nRows : List Str := ["box", "kind", "rows", "more", "other", "left", "order", "k", "b", "a"]
section
variable {P : Program} {w : World} {K : PySem.W.Frag} {mg : Str → Option Value} {base : Heap} {f g gn : Addr} {fd gd gnd : FuncData} {g1 g2 g3 g4 g5 g6 : Addr} {d1 d2 d3 d4 d5 d6 : FuncData}
end
end L

set_option Elab.async false
set_option linter.all false
set_option maxRecDepth 100000
set_option maxHeartbeats 4000000
/-! Own layer: len of an own instance; a call of a def held as a value. -/
namespace KX
open PySem PySem.Spec PyProof.Rows L2
section
open PySem.W
variable {M : Model} {A : Around} {E : Value → Shared → Prop} {s : Shared} {K : Frag}
/-- a special method of the text -/
theorem cspecF {self : Value} {name : PySem.Str} {f : Addr} {args : List Value} {Q : Option Value → Shared → Prop} (X : K.In s.heap) (sp : Looks M s.heap (specialOf self name) (some (.ref f))) (tf : typeIn K (.ref f) = some (.type "function"))
    (hc : wpAny M A (call (.ref f) (self :: args)) (fun v => Q (some v)) E s) : wpAny M A (callSpecial? self name args) Q E s := by
  simp only [callSpecial?]
  refine wpAny_bind (sp.here ?_)
  refine wpAny_holding (wpAny_bind ((bind_fn X self tf).here ?_))
  exact wpAny_bind (wpAny_mono hc (fun v s' h' => wpAny_pure h') fun _ _ h' => h')
end
section
variable {X : Cx} {CX : CXT} {k : Nat} {C f : Addr} {fd : FuncData} {sp : Sp}
def rLenOwn (C : Addr) (sp : Sp) : List V → Hp → VK → Prop := fun xs H Q => ∃ (p dx : Addr) (fs : List (Str × V)), xs = [.ref p] ∧ H p = some (.ins C dx fs) ∧ sp [.ref p] H (fun v H1 => ∃ n : Nat, v = .int (n : Int) ∧ (n : Int) < 2 ^ 63 ∧ Q (.int n) H1) (fun _ _ _ => False)
theorem call_lenOwn (hm : PySem.W.findIn X.K (.ref C) "__len__" = some (some (.ref f))) (tf : PySem.W.typeIn X.K (.ref f) = some (.type "function")) (F : FnOk X.prog X.w X.K X.mg X.base CX0 k f fd ["self"] sp) (hr : Room (k + 1) X.A) (hb : Binds X.K fd ["self"] []) :
    CallR X (.builtin "len") (rLenOwn C sp) := by
  intro pins s σ H xs us Q I r h
  obtain ⟨p, dx, fs, rfl, hp, q⟩ := h
  obtain ⟨u, rfl, rx⟩ := vals1 r
  cases rx
  obtain ⟨mA, J, _⟩ := ins_get I.hok hp
  obtain ⟨od, J, _⟩ := J.look
  have sp1 : PySem.W.Looks (model X.prog X.w) s.heap (specialOf (.ref p) "__len__") (some (.ref f)) := J.type.andThen (PySem.W.looks_findIn I.kIn hm)
  have hl := F.len _ _ _ _ q
  have r2 : Vals [V.ref p] [Value.ref p] := .cons rfl .nil
  have e0 : Env0 X.prog X.w X.K X.mg X.base X.A.in1 X.stack s H := I.env0.in1
  have run : wpAny (model X.prog X.w) X.A.in1 (call (.ref f) [.ref p]) (fun r s' => ∃ n u, r = .int n u ∧ 0 ≤ n ∧ n < 2 ^ 63 ∧ EP X pins σ Q (.int n s'.toks) { s' with toks := s'.toks + 1 }) X.xe s := by
    refine wpAny_call (codeAny_mono (F.run X.A.in1 X.stack s H ⟨[.ref p], []⟩ [.ref p] [.ref p] _ _ hr.in1 e0 (by
      have := hb s [.ref p] I.kIn rfl
      simpa using this) r2 q) fun o s' hq => ?_)
    match o, hq with
    | .error u, hq => exact hq.elim
    | .ok (.ret u), hq =>
      obtain ⟨v, H1, I1, rv, n, rfl, hn, q'⟩ := I.after hq
      obtain ⟨t, rfl⟩ := rv
      exact ⟨n, t, rfl, by omega, hn, .int n, H1, I1.tok _, ⟨_, rfl⟩, q'⟩
    | .ok .next, hq => exact hq.elim
    | .ok .brk, hq => exact hq.elim
    | .ok .cont, hq => exact hq.elim
  refine Calls.call_function_entry kind_len plain_len entry_len (args_len1 _) ?_
  unfold Builtin.«len»
  refine wpAny_bind (m := oneArg "len" _) (wpAny_pure ?_)
  refine wpAny_bind (m := callSpecial? (.ref p) (PySem.Str.ofString "__len__")) (cspecF I.kIn sp1 tf (wpAny_mono run (fun r s' hr => ?_) fun _ _ y => y))
  obtain ⟨n, u, rfl, h0, h1, hq⟩ := hr
  refine wpAny_bind (wpAny_holding (wpAny_pure ?_))
  refine wpAny_bind (wpAny_letGo ?_)
  show wpAny _ _ (if n < 0 then _ else _) _ _ _
  rw [if_neg (by omega)]
  show wpAny _ _ (if n ≥ 2 ^ 63 then _ else _) _ _ _
  rw [if_neg (by omega)]
  exact wpAny_bind (wpAny_mkInt (wpAny_pure ⟨_, rfl, hq⟩))
end
/-- e(..), e one of some defs -/
structure Hld (P : Program) (w : World) (K : PySem.W.Frag) (mg : Str → Option Value) (base : Heap) (k : Nat) (f : Addr) (sp : Sp) : Prop where
  ex : ∃ (fd : FuncData) (ps : List Str), FnOk P w K mg base CX0 k f fd ps sp ∧ PySem.W.keepIn K (.ref f) = true ∧ Binds K fd ps []
def tCallV (S : Addr → Sp → Prop) (te : TE) (t : TA) : TE := fun σ H Q => te σ H fun x H0 => ∃ f sp, x = .ref f ∧ S f sp ∧ t σ H0 fun vs H1 => sp vs H1 Q (fun _ _ _ => False)
theorem Hld.of {P : Program} {w : World} {K : PySem.W.Frag} {mg : Str → Option Value} {base : Heap} {j k : Nat} {f : Addr} {fd : FuncData} {ps : List Str} {sp : Sp} (F : FnOk P w K mg base CX0 j f fd ps sp) (h : j ≤ k) (hk : PySem.W.keepIn K (.ref f) = true) (hb : Binds K fd ps []) : Hld P w K mg base k f sp :=
  ⟨fd, ps, ⟨F.len, fun A out s H args us vs Q E hr => F.run A out s H args us vs Q E (hr.mono h)⟩, hk, hb⟩
section
variable {X : Cx} {k : Nat} {o e : Expr} {es : List Expr} {t : TA} {te : TE} {pos : Pos}
theorem pe_callV {S : Addr → Sp → Prop} (A : ∀ f sp, S f sp → Hld X.prog X.w X.K X.mg X.base k f sp) (hr : Room k X.A) (ho : PE X o te) (ha : PA X (e :: es) t)
    (ht : eval (.Call o (e :: es) [] pos) X.env = (do callWith pos (← eval o X.env) [] (backTo pos (starEach (e :: es) X.env)) (backToKw pos (keywordEach [] X.env))) := by rfl)
    (hst : starEach (e :: es) X.env = (false, eval e X.env) :: starEach es X.env := by rfl) (hpl : (backTo pos (starEach es X.env)).any (·.1) = false := by rfl) : PE X (.Call o (e :: es) [] pos) (tCallV S te t) := ⟨fun pins s σ H Q I h => by
  rw [ht]
  refine wpAny_bind (thn (ho.run pins s σ H _ I h) fun u s1 ⟨x, H1, I1, rx, f, sp, ex, hS, q⟩ => ?_)
  subst ex
  obtain rfl : u = Value.ref f := rx
  obtain ⟨fd, ps, F, hk, hb⟩ := (A f sp hS).ex
  refine PySem.W.callWith_K (h₀ := X.base) I.ok.mod.kin hk (thn (ha.run pos pins s1 σ H1 _ I1 q) fun us s2 ⟨vs, H2, I2, r, q2⟩ => ⟨I2.kIn, ?_⟩) hst hpl
  have q3 : sp (vs ++ []) H2 Q (fun _ _ _ => False) := by rw [List.append_nil]; exact q2
  exact run_fn (us := us) (vs := vs) F hr hb .nil (fun _ _ _ _ _ _ _ z => z.elim) I2 r q3⟩
end
end KX

set_option Elab.async false
set_option linter.all false
set_option maxRecDepth 100000
set_option maxHeartbeats 4000000
/-! Own layer: set(a list of whole numbers), to be sorted or walked. -/
namespace KX
open PySem PySem.Spec PyProof.Rows L2
/-- an empty set, as it is made -/
abbrev freshSet (w : World) : Obj := { cls := .type "set", dict := none, data := .set #[] 0 (.fresh 0 0 (!w.params.followText "set-order")) }
abbrev listIt (l : Addr) : Obj := { cls := .type "list_iterator", data := .fields #[.ref l, .int 0 0] }
section
variable {P : Program} {w : World} {A : Around} {E : Value → Shared → Prop} {st : Shared}
/-- what stands behind set(l) -/
def SetMade (w : World) (st : Shared) (ns : List Int) (h' : Heap) (c : Nat) : Prop := SetR w h' st.heap.objs.size (fun j => decide (j ∈ ns)) c ∧ c ≤ ns.length ∧ ∀ b o, st.heap.get? b = some o → h'.get? b = some o
theorem set_init_list {l : Addr} {items : Array Value} (ns : List Int) (hh : A.handled = none) (hl : st.heap.IsList l items) (hit : IntsAre items.toList ns) (hb : ns.length + 1 < scanBound) :
    codeAny (model P w) A (.call (.builtin "set.__init__") ⟨[.ref st.heap.objs.size, .ref l], []⟩) (wants (fun r s₂ => r = .none ∧ ∃ h' tk c, s₂ = { st with heap := h', toks := tk } ∧ SetMade w st ns h' c) E) { st with heap := st.heap.push (freshSet w) } := by
  have hz : items.size = ns.length := by
    have := IntsAre.length hit
    rwa [Array.length_toList] at this
  have e0 : (st.heap.push (freshSet w)).get? st.heap.objs.size = some (freshSet w) := Heap.get?_push_size _ rfl
  have ty : Shared.TypeIs { st with heap := st.heap.push (freshSet w) } (.ref st.heap.objs.size) "set" := ⟨_, e0, rfl⟩
  refine codeAny_call_builtin F.called_set.init.plain F.entry_set_init (check_set_init_1 ty ?_)
  obtain ⟨⟨lcls, ldict, ldata, lslots⟩, hol, hcl, nl, hdl⟩ := hl
  simp only at hcl hdl
  subst hcl; subst hdl
  have hol2 : (st.heap.push (freshSet w)).get? l = some { cls := .type "list", dict := ldict, data := .seq items nl, slots := lslots } := Heap.get?_push_of_some _ hol
  have q1 := F.sub_list_set
  have q2 := F.sub_list_frozenset
  have q3 : (Value.type "list" == Value.type "dict") = false := by decide
  have isl : (st.heap.push (freshSet w)).IsList l items := ⟨_, hol2, rfl, nl, rfl⟩
  unfold Builtin.«set.__init__» noKeywords Builtin.Frozenset.updateFrom
  generalize hPI : pyIter = walk
  wp_walk
  subst hPI
  refine wpAny_pyIter_list isl ?_
  refine wpAny_bind (wpAny_runValue ?_)
  have small : l < st.heap.objs.size := Heap.lt_size hol
  have sz1 : (st.heap.push (freshSet w)).objs.size = st.heap.objs.size + 1 := Heap.size_push ..
  have calm3 : A.in1.in1.handled = none := by simp [hh]
  have apart : l ≠ (st.heap.push (freshSet w)).objs.size := by rw [sz1]; exact Nat.ne_of_lt (Nat.lt_succ_of_lt small)
  have off : st.heap.objs.size ∉ [(st.heap.push (freshSet w)).objs.size, l] := by
    rw [sz1]; simp only [List.mem_cons, List.not_mem_nil, or_false, not_or]
    exact ⟨Nat.ne_of_lt (Nat.lt_succ_self _), Nat.ne_of_gt small⟩
  have vals : ∀ (i : Nat) (v : Value), items[i]? = some v → ∃ k t, ns[i]? = some k ∧ v = .int k t := fun i v hv => by
    have hi : i < ns.length := hz ▸ (Array.getElem?_eq_some_iff.mp hv).1
    obtain ⟨t, e⟩ := IntsAre.int_at hit i v (by rw [Array.getElem?_toList]; exact hv)
    rw [List.getD_eq_getElem?_getD, List.getElem?_eq_getElem hi] at e
    exact ⟨ns[i], t, List.getElem?_eq_getElem hi, e⟩
  refine set_update_ints ((Walks.list calm3 _ l apart items).toS) st.heap.objs.size off ns hz hb vals (items.size - 0) 0 _ (by omega) (Nat.zero_le _)
    ⟨⟨_, Heap.get?_push_size _ rfl, rfl, rfl⟩, isl.push _⟩ ?first ?last
  case first =>
    have keep : ((st.heap.push (freshSet w)).push (listIt l)).get? st.heap.objs.size = some (freshSet w) := Heap.get?_push_of_some _ e0
    exact ⟨0, Nat.le_refl 0, setR_new_at keep⟩
  case last =>
    rintro ⟨h', g2, d2, tk, os2⟩ c hm hc hR
    have e1 : g2 = st.gens := hm.gens
    have e2 : d2 = st.drawn := hm.drawn
    have e3 : os2 = st.os := hm.os
    subst e1; subst e2; subst e3
    show wpAny _ _ _ _ _ _
    refine wpAny_pure ?_
    show wpAny _ _ (ret Value.none) _ _ _
    rw [hz] at hc
    refine wpAny_pure ⟨rfl, h', tk, c, rfl, hR, hc, fun b o e => ?_⟩
    have hlt : b < st.heap.objs.size := Heap.lt_size e
    refine hm.heap b o ?_ (Heap.get?_push_of_some _ (Heap.get?_push_of_some _ e))
    simp only [List.mem_cons, List.not_mem_nil, or_false, not_or]
    exact ⟨Nat.ne_of_lt hlt, by rw [sz1]; exact Nat.ne_of_lt (Nat.lt_succ_of_lt hlt)⟩
theorem set_of_list {l : Addr} {items : Array Value} (ns : List Int) {Q : Value → Shared → Prop} (hh : A.handled = none) (hl : st.heap.IsList l items) (hit : IntsAre items.toList ns) (hb : ns.length + 1 < scanBound)
    (h : ∀ h' tk c, SetMade w st ns h' c → Q (.ref st.heap.objs.size) { st with heap := h', toks := tk }) : wpAny (model P w) A (call (.type "set") [.ref l]) Q E st := by
  obtain ⟨c0, tl, hmro⟩ := F.called_set.mro
  have m1 := F.called_set.made
  have m2 := F.called_set.sub
  refine wpAny_call (codeAny_of_tree ?_)
  show wpAny _ _ (callAny (.type "set") _) _ _ _
  refine wpAny_pure ⟨Code.quiet_builtin _ (by decide +kernel), codeAny_builtin F.entry_type_call ?_⟩
  rw [Around.under_plain (weight_type_call_type "set" [.ref l] []) rfl]
  have t1 := F.called_set.notType
  have t2 := F.called_set.canCreate
  have t3 := F.typeCall_set_1 (.ref l)
  repeat (any_goals (first | assumption | wp_step))
  refine codeAny_mono (code_set_led1 (.ref l) (E := E) (Q₁ := fun ob s₁ => ob = .ref st.heap.objs.size ∧ s₁ = { st with heap := st.heap.push (freshSet w) }) ⟨rfl, rfl⟩) fun r s₁ hr => ?_
  match r, hr with
  | .error e, hr => exact hr
  | .ok .next, hr => exact hr.elim
  | .ok .brk, hr => exact hr.elim
  | .ok .cont, hr => exact hr.elim
  | .ok (.ret ob), hr =>
    obtain ⟨rfl, rfl⟩ := hr
    have e0 : (st.heap.push (freshSet w)).get? st.heap.objs.size = some (freshSet w) := Heap.get?_push_size _ rfl
    have ty : Shared.TypeIs { st with heap := st.heap.push (freshSet w) } (.ref st.heap.objs.size) "set" := ⟨_, e0, rfl⟩
    have i1 := F.called_set.init.lookup
    have i2 := F.called_set.init.bind (.ref st.heap.objs.size)
    repeat (any_goals (first | assumption | wp_step))
    refine codeAny_mono (set_init_list (P := P) (w := w) (A := A.in1) (E := E) ns ?_ hl hit hb) fun r₂ s₂ hr₂ => ?_
    · simp [hh]
    match r₂, hr₂ with
    | .error e, hr₂ => exact hr₂
    | .ok .next, hr₂ => exact hr₂.elim
    | .ok .brk, hr₂ => exact hr₂.elim
    | .ok .cont, hr₂ => exact hr₂.elim
    | .ok (.ret rr), hr₂ =>
      obtain ⟨rfl, h', tk, c, rfl, made⟩ := hr₂
      repeat (any_goals (first | assumption | wp_step))
      exact h _ _ _ made
end
section
variable {X : Cx}
/-- set(l), l a list of whole numbers -/
def rSetL (K : PySem.W.Frag) (w : World) : List V → Hp → VK → Prop := fun xs H Q => ∃ (l : Addr) (ns : List Int), xs = [.ref l] ∧ SqL K H l (ns.map V.int) ∧ ns.length ≤ 4000 ∧
  ∀ p c, H p = none → c ≤ ns.length → Q (.ref p) (upd H p (SetO w p (fun j => decide (j ∈ ns)) c))
theorem ct_set (hc : X.calm = true) {K : PySem.W.Frag} (hK : X.K = K) {w : World} (hw : X.w = w) : CallR X (.type "set") (rSetL K w) := by
  subst hK; subst hw
  intro pins s σ H xs us Q I r h
  obtain ⟨l, ns, rfl, hS, hn, q⟩ := h
  obtain ⟨u, rfl, rx⟩ := vals1 r
  cases rx
  obtain ⟨its, rv, pl, hz⟩ := I.list hS
  refine set_of_list ns (I.ok.hd hc) pl.isList (by simpa using ints_of_vals rv) (by unfold scanBound; omega) fun h' tk c ⟨R, hc', k⟩ => ?_
  exact ⟨.ref s.heap.objs.size, _, I.laid (t' := tk) k (Nat.le_refl _) (setO_new R), rfl, q _ c (I.hok.fresh (Nat.le_refl _)) hc'⟩
end
end KX

set_option Elab.async false
set_option linter.all false
set_option maxRecDepth 100000
set_option maxHeartbeats 4000000
namespace L
open PySem L2 KX
abbrev sLen : Stmt := inClass (top 21) 1
abbrev sRowsM : Stmt := inClass (top 21) 3
theorem clist {X : Cx} {K : PySem.W.Frag} (hK : X.K = K) : CallR X (.type "list") (fun xs H Q => ∃ p ys, xs = [.ref p] ∧ (SqL K H p ys ∨ SqT K H p ys) ∧ ∀ l, H l = none → Q (.ref l) (upd H l (.lst ys))) := by subst hK; exact call_list_of
theorem fldK {X : Cx} {K : PySem.W.Frag} (hK : X.K = K) {e : Expr} {f : Str} {ta : TE} {pos : Pos} (he : PE X e ta) (hb : attributeBase e f X.env (eval e X.env) = eval e X.env) : PE X (.Attribute e f pos) (tFld K ta f) := by subst hK; exact pe_fld he hb
/-! ### lists of ints as data -/
def iD (m : List Int) : List PyData := m.map PyData.int
theorem iD_lay : ∀ m : List Int, PyData.canLayAll0 (iD m) = true
  | [] => by unfold iD; simp [PyData.canLayAll0]
  | x :: m => by
    have h := iD_lay m
    unfold iD at h ⊢
    simp [PyData.canLayAll0, PyData.canLay0, h]
theorem iD_depth : ∀ m : List Int, PyData.depthAll (iD m) = 0
  | [] => by unfold iD; simp [PyData.depthAll]
  | x :: m => by
    have h := iD_depth m
    unfold iD at h ⊢
    simp [PyData.depthAll, PyData.depth, h]
theorem iD_shaped (m : List Int) : SeqAt.shaped (.list (iD m)) = true := by
  have h2 : PyData.depth (.list (iD m)) = 1 := by simp only [PyData.depth, iD_depth m]
  have h1 : PyData.canLay0 (.list (iD m)) = true := by simp only [PyData.canLay0]; exact iD_lay m
  show (PyData.canLay0 (.list (iD m)) && decide (PyData.depth (.list (iD m)) ≤ 64)) = true
  rw [Bool.and_eq_true]
  exact ⟨h1, decide_eq_true (by omega)⟩
theorem iD_eqvAll : ∀ a b : List Int, PyData.eqvAll (iD a) (iD b) = decide (a = b)
  | [], [] => by unfold iD; simp [PyData.eqvAll]
  | [], _ :: _ => by unfold iD; simp [PyData.eqvAll]
  | _ :: _, [] => by unfold iD; simp [PyData.eqvAll]
  | x :: a, y :: b => by
    have h := iD_eqvAll a b
    unfold iD at h ⊢
    simp only [List.map_cons, PyData.eqvAll, PyData.eqv, h]
    by_cases e : x = y
    · subst e
      rw [show (x == x) = true from beq_self_eq_true _, Bool.true_and]
      by_cases e2 : a = b
      · subst e2; simp
      · rw [decide_eq_false e2, decide_eq_false fun z => e2 (List.cons.inj z).2]
    · rw [show (x == y) = false from beq_eq_false_iff_ne.mpr e, Bool.false_and, decide_eq_false fun z => e (List.cons.inj z).1]
theorem iD_eqv (a b : List Int) : PyData.eqv (.list (iD a)) (.list (iD b)) = decide (a = b) := by
  simp only [PyData.eqv]; exact iD_eqvAll a b
theorem dp_ints {K : PySem.W.Frag} {G : Hp} : ∀ m : List Int, DpAll K G (m.map V.int) (iD m)
  | [] => .nil
  | x :: m => .cons (.int _) (dp_ints m)
/-- the numbers 0 .. n-1 -/
def nums (n : Nat) : List Int := (List.range n).map fun i : Nat => ((i : Nat) : Int)
theorem rg_nums (n : Nat) : rgV 0 (n : Int) = (nums n).map V.int := by
  unfold rgV nums
  rw [Int.sub_zero, Int.toNat_natCast, List.map_map]
  exact List.map_congr_left fun x _ => by rw [Int.zero_add]; rfl
def spLenM (K : PySem.W.Frag) (C : Addr) : Sp := fun vs H Q _ => ∃ p tb, vs = [.ref p] ∧ TbA K C H p tb ∧ Q (.int tb.length) H
def spRowsM (K : PySem.W.Frag) (C : Addr) : Sp := fun vs H Q _ => ∃ p tb, vs = [.ref p] ∧ TbA K C H p tb ∧ tb.length ≤ 16 ∧ ∀ v H', RowsL (nw H H') v tb → Same H H' → Q v H'
section
variable {P : Program} {w : World} {K : PySem.W.Frag} {mg : Str → Option Value} {base : Heap} {f g gn : Addr} {fd gd gnd : FuncData} {C CE fE : Addr} {dE : FuncData}
theorem scLen : FnScope ["self"] ["self"] (defScope sLen) := ⟨rfl, rfl, rfl, by decide +kernel, rfl, by decide +kernel, by decide +kernel⟩
theorem ok_len (F : Fun K "__len__" "ProductTable.__len__" sLen f fd) (M : Mn mg) (T : CTx K mg C) : FnOk P w K mg base CX0 1 f fd ["self"] (spLenM K C) := by
  refine F.ok scLen (fun vs H Q E h => ?_) (fun cdv A outer s H vs Q E hr h => ?_)
  · obtain ⟨p, tb, rfl, _⟩ := h
    rfl
  obtain ⟨p, tb, rfl, ⟨dx, t, rs, hp, ht, pr⟩, q⟩ := h
  refine ⟨_, pss_one (ps_ret (pe_callB call_len_seq (by rfl) M.len PySem.boot_len (pa_cons (pe_fld (pv 0) rfl) pa_nil))), ?_⟩
  refine ⟨_, rfl, p, C, dx, _, _, rfl, hp, T.cl, T.nR, rfl, t, rs, rfl, .inr ht, ?_⟩
  rw [pr.length]
  exact q
theorem scRowsM : FnScope ["self", "row"] ["self"] (defScope sRowsM) := ⟨rfl, rfl, rfl, by decide +kernel, rfl, by decide +kernel, by decide +kernel⟩
theorem ok_rowsM (F : Fun K "rows" "ProductTable.rows" sRowsM f fd) (M : Mn mg) (T : CTx K mg C) : FnOk P w K mg base CX0 1 f fd ["self"] (spRowsM K C) := by
  refine F.ok scRowsM (fun vs H Q E h => ?_) (fun cdv A outer s H vs Q E hr h => ?_)
  · obtain ⟨p, tb, rfl, _⟩ := h
    rfl
  obtain ⟨p, tb, rfl, ⟨dx, t, rs, hp, ht, pr⟩, n16, q⟩ := h
  refine ⟨_, pss_one (ps_ret (pe_lc (own := [("row", 1)]) (g := gName 1) (tt := tYes) rfl scRowsM.nd (pi_tup (pe_fld (pv 0) rfl))
    (blkOk_by (N := ["self", "row"]) (sc := defScope sRowsM) (by decide +kernel)) (fun _ _ _ _ _ => pg_name (i := 1) scRowsM.nd rfl (Or.inl rfl)) (fun _ _ _ _ _ => pts_nil)
    (fun _ _ _ _ _ => pe_callTy (T := "list") (clist (K := K) rfl) (by rfl) M.list (by decide +kernel) (pa_cons (pv 1) pa_nil)))), ?_⟩
  refine ⟨_, rfl, p, C, dx, _, _, rfl, hp, T.cl, T.nR, rfl, t, rfl, ⟨_, ht⟩, fun D hD => ?_⟩
  refine lc_it (walk_tup (xs := rs)) (fun i J => Part H J D (tb.take i)) (Part.start (Same.refl H) hD) (fun i J _ z => Same.tup z.same ht) ?_ ?_
  · rintro i x J J1 hi pa ⟨rfl, hx⟩
    obtain ⟨row, hrow, r, rfl, hr1⟩ := pair_at pr hx
    refine ⟨rfl, _, rfl, r, _, rfl, .inr (Same.tup pa.same hr1), fun l hl => ?_⟩
    have hi' : i < tb.length := by rw [← pr.length]; exact hi
    obtain ⟨acc, ea, la, p1⟩ := pa.add (q := l) (row := row) (Same.new hl _) hl upd_same
    have tk : tb.take (i + 1) = tb.take i ++ [row] := by rw [List.take_add_one, hrow]; rfl
    refine ⟨acc, ea, by rw [la, List.length_take]; exact small1000 (by omega), ?_⟩
    rw [tk]
    exact p1
  · rintro J pa
    rw [pr.length, List.take_of_length_le (Nat.le_refl _)] at pa
    exact q _ _ pa.fin pa.same
theorem row_at {H : Hp} {rs : List V} {tb : List (List Int)} (pr : Paired (fun x row => ∃ r, x = V.ref r ∧ SqT K H r (row.map V.int)) rs tb) (S : Sqr tb) {a : Nat} (ha : a < tb.length) :
    ∃ r, rs[a]? = some (V.ref r) ∧ SqT K H r ((tb.getD a []).map V.int) ∧ ∀ b, b < tb.length → ((tb.getD a []).map V.int)[b]? = some (.int (mu tb a b)) := by
  have hrs : a < rs.length := by rw [pr.length]; exact ha
  obtain ⟨row, h1, r, e1, hr1⟩ := pair_at pr (List.getElem?_eq_getElem hrs)
  have er : tb.getD a [] = row := by rw [List.getD_eq_getElem?_getD, h1]; rfl
  have hl : row.length = tb.length := S.row row (List.mem_of_getElem? h1)
  refine ⟨r, (List.getElem?_eq_getElem hrs).trans (congrArg some e1), by rw [er]; exact hr1, fun b hb => ?_⟩
  unfold mu
  rw [er, List.getElem?_map, List.getElem?_eq_getElem (by omega), List.getD_eq_getElem?_getD, List.getElem?_eq_getElem (by omega)]; rfl
end
end L

set_option Elab.async false
set_option linter.all false
set_option maxRecDepth 100000
set_option maxHeartbeats 4000000
namespace L
open PySem L2 KX
section
variable {X : Cx} {op op' op3 : CmpOp} {r r' r3 : R2} {a b c d : Expr} {ta tb tc td : TE} {pos : Pos}
/-- a op1 b op2 c op3 d -/
def tChain3 (r r' r3 : R2) (ta tb tc td : TE) : TE := fun σ H Q => ta σ H fun x H1 => tb σ H1 fun y H2 => r x y H2 fun z H3 => ∃ k, z = .bl k ∧
  (if k = true then tc σ H3 fun u H4 => r' y u H4 fun z' H5 => ∃ k', z' = .bl k' ∧ (if k' = true then td σ H5 fun v H6 => r3 u v H6 Q else Q (.bl false) H5) else Q (.bl false) H3)
theorem pe_chain3 (ho : OpR X (compareOp op) r) (ho' : OpR X (compareOp op') r') (ho3 : OpR X (compareOp op3) r3) (ha : PE X a ta) (hb : PE X b tb) (hc : PE X c tc) (hd : PE X d td)
    (hm : PySem.lastMarks [op, op', op3] [b, c, d] = false := by with_unfolding_all rfl) : PE X (.Compare a [op, op', op3] [b, c, d] pos) (tChain3 r r' r3 ta tb tc td) := by
  refine ⟨fun pins s σ H Q I h => ?_⟩
  refine PyProof.Rows.Compare_chain (thn (ha.run pins s σ H _ I h) fun v s1 ⟨x, H1, I1, r1, q1⟩ => PyProof.Rows.chain_link (thn (hb.run pins s1 σ H1 _ I1 q1) fun u s2 ⟨y, H2, I2, r2, q2⟩ =>
    thn (ho pins s2 σ H2 x y v u _ I2 r1 r2 q2) fun e s3 ⟨z, H3, I3, rz, k, ek, q3⟩ => ?_)) hm
  subst ek
  cases rz
  refine PySem.wpAny_truthy_bool ?_
  cases k with
  | false => exact PyProof.Rows.ite_ff ⟨.bl false, H3, I3, rfl, q3⟩
  | true =>
    refine PyProof.Rows.ite_tt (PyProof.Rows.chain_link (thn (hc.run pins s3 σ H3 _ I3 q3) fun u' s4 ⟨w', H4, I4, r4, q4⟩ => thn (ho' pins s4 σ H4 y w' u u' _ I4 r2 r4 q4) fun e2 s5 ⟨z2, H5, I5, rz2, k2, ek2, q5⟩ => ?_))
    subst ek2
    cases rz2
    refine PySem.wpAny_truthy_bool ?_
    cases k2 with
    | false => exact PyProof.Rows.ite_ff ⟨.bl false, H5, I5, rfl, q5⟩
    | true => exact PyProof.Rows.ite_tt (PyProof.Rows.chain_last (thn (hd.run pins s5 σ H5 _ I5 q5) fun v' s6 ⟨x6, H6, I6, r6, q6⟩ => ho3 pins s6 σ H6 w' x6 u' v' Q I6 r4 r6 q6))
/-- a slice of a list or of a tuple -/
def rSlSq (K : PySem.W.Frag) : V → Option Int → Option Int → Hp → VK → Prop := fun x lo hi H Q => (∃ p xs, x = .ref p ∧ SqL K H p xs ∧ ∀ l H', Same H H' → SqL K H' l (cutV xs lo hi) → Q (.ref l) H') ∨
  ∃ p xs, x = .ref p ∧ SqT K H p xs ∧ ∀ l H', Same H H' → SqT K H' l (cutV xs lo hi) → Q (.ref l) H'
theorem sl_sq : SlR X (rSlSq X.K) := by
  intro pins s σ H x v vl vu lo hi sl Q I rx hs pl pu h
  rcases h with ⟨p, xs, rfl, h, q⟩ | ⟨p, xs, rfl, h, q⟩
  · exact sl_list pins s σ H _ v vl vu lo hi sl Q I rx hs pl pu ⟨p, xs, rfl, h, fun y hy => q _ _ (Same.new hy _) (SqL.of upd_same)⟩
  · refine sl_tupA pins s σ H _ v vl vu lo hi sl Q I rx hs pl pu ⟨p, xs, rfl, h, fun z => q _ _ (Same.refl H) ?_, fun _ y hy => q _ _ (Same.new hy _) (SqT.of upd_same)⟩
    have e : cutV xs lo hi = xs := by
      unfold cutV
      rw [z.1, z.2, Nat.sub_zero, List.drop_zero, List.take_length]
    rw [e]; exact h
/-- .. whichever it is -/
theorem rSlSq.of {K : PySem.W.Frag} {H : Hp} {x : V} {xs : List V} {lo hi : Option Int} {Q : VK} (h : Sq K H x xs) (q : ∀ y H', Same H H' → Sq K H' y (cutV xs lo hi) → Q y H') : rSlSq K x lo hi H Q := by
  obtain ⟨p, rfl, h | h⟩ := h
  · exact .inl ⟨p, xs, rfl, h, fun l H' s k => q _ H' s ⟨l, rfl, .inl k⟩⟩
  · exact .inr ⟨p, xs, rfl, h, fun l H' s k => q _ H' s ⟨l, rfl, .inr k⟩⟩
end
/-- no table -/
def NotT (K : PySem.W.Frag) (C : Addr) (H : Hp) (v : V) : Prop := ∃ t, TyX K H v t ∧ PySem.W.kitOne K t (.ref C) = some false
theorem NotT.same {K : PySem.W.Frag} {C : Addr} {H G : Hp} {v : V} (s : Same H G) (h : NotT K C H v) : NotT K C G v := let ⟨t, a, b⟩ := h; ⟨t, TyX.same s a, b⟩
structure CTi (K : PySem.W.Frag) (C : Addr) : Prop where
  ha : PySem.W.findIn K (.ref C) "__class__" = some (some (.builtin "object.__class__"))
  hn : PySem.W.specialIn K (.builtin "object.__class__") "__get__" = some (some (.builtin "getset_descriptor.__get__"))
  htk : PySem.W.takesIn K (.builtin "object.__class__") = some true
  hm : PySem.W.mroIn K C (.type "object") = some true
theorem kit_self (K : PySem.W.Frag) (C : Addr) : PySem.W.kitOne K (.ref C) (.ref C) = some true := by
  unfold PySem.W.kitOne
  rw [show ((Value.ref C) == (Value.ref C)) = true from beq_self_eq_true _, if_pos rfl]
theorem TbA.to {K : PySem.W.Frag} {C : Addr} {H J : Hp} {p : Addr} {tb : List (List Int)} (s : Same H J) (h : TbA K C H p tb) : TbA K C J p tb :=
  let ⟨dx, t, rs, hp, ht, pr⟩ := h.ob
  ⟨dx, t, rs, s _ _ hp, Same.tup s ht, L2.Paired.mapP pr fun _ _ ⟨r, e, hr⟩ => ⟨r, e, Same.tup s hr⟩⟩
theorem TbA.ty {K : PySem.W.Frag} {mg : Str → Option Value} {C : Addr} {H : Hp} {p : Addr} {tb : List (List Int)} (T : CTx K mg C) (Y : CTi K C) (h : TbA K C H p tb) : TyX K H (.ref p) (.ref C) :=
  let ⟨_, _, _, hp, _, _⟩ := h.ob
  .base (.ins hp T.cl Y.ha Y.hn Y.htk Y.hm)
def okS (n : Nat) : Option (List V) → Bool
  | some xs => decide ((1 : Int) ≤ (xs.length : Int)) && decide ((xs.length : Int) ≤ 2000) && xs.all (nb (n : Int))
  | none => false
/-- the bounds of a range -/
def rgB (n : Int) (x y : V) : Bool := match x, y with
  | .int a, .int b => decide (0 ≤ a) && decide (a < b) && decide (b ≤ n)
  | _, _ => false
/-- the product of some elements -/
def fld (tb : List (List Int)) : List Nat → Nat
  | [] => 0
  | w :: r => r.foldl (fun acc x => (mu tb acc x).toNat) w
theorem fld_lt {tb : List (List Int)} (S : Sqr tb) : ∀ {ws : List Nat}, (∀ x, x ∈ ws → x < tb.length) → ws ≠ [] → fld tb ws < tb.length
  | [], _, h => absurd rfl h
  | w :: r, h, _ => by
    have go : ∀ (r : List Nat) (a : Nat), a < tb.length → (∀ x, x ∈ r → x < tb.length) → r.foldl (fun acc x => (mu tb acc x).toNat) a < tb.length := fun r => by
      induction r with
      | nil => exact fun a ha _ => ha
      | cons y r ih =>
        intro a ha hr
        have hy := hr y List.mem_cons_self
        have e := S.el a y ha hy
        exact ih _ (show (mu tb a y).toNat < tb.length by omega) fun x hx => hr x (List.mem_cons_of_mem _ hx)
    exact go r w (h w List.mem_cons_self) fun x hx => h x (List.mem_cons_of_mem _ hx)
def spChkTX (K : PySem.W.Frag) (C CT : Addr) : Sp := fun vs H Q E => ∃ v, vs = [v] ∧ ((∃ p tb, v = .ref p ∧ TbA K C H p tb ∧ Q .non H) ∨ (NotT K C H v ∧ ∀ d, H d = none → E (.ref CT) (some d) (upd H d (.xd [("value", v)]))))
def spChkS (K : PySem.W.Frag) (C CS : Addr) : Sp := fun vs H Q E => ∃ p v tb o, vs = [.ref p, v] ∧ TbA K C H p tb ∧ tb.length ≤ 16 ∧ RowD K H v o ∧ (okS tb.length o = true → ∀ H', Same H H' → Q .non H') ∧
  (okS tb.length o = false → ∀ H' d, Same H H' → H' d = none → E (.ref CS) (some d) (upd H' d (.xd [("value", v)])))
def spIsRg (K : PySem.W.Frag) : Sp := fun vs H Q _ => ∃ x y n, vs = [x, y, .int n] ∧ Itm K H x ∧ Itm K H y ∧ Q (.bl (rgB n x y)) H
def spMultd (K : PySem.W.Frag) : Sp := fun vs H Q _ => ∃ (v u : V) (tb : List (List Int)) (ws : List Nat), vs = [v, u] ∧ RowsL H v tb ∧ Sqr tb ∧ Sq K H u (nv ws) ∧ ws ≠ [] ∧ (∀ x, x ∈ ws → x < tb.length) ∧ ∀ H', Same H H' → Q (.int (fld tb ws : Nat)) H'
section
variable {P : Program} {w : World} {K : PySem.W.Frag} {mg : Str → Option Value} {base : Heap} {f g gn fl g1 g2 g3 fE : Addr} {fd gd gnd dl d1 d2 d3 dE : FuncData} {C CT CS CR : Addr}
end
end L

set_option Elab.async false
set_option linter.all false
set_option maxRecDepth 100000
set_option maxHeartbeats 4000000
namespace L
open PySem L2 KX
/-- two parts of a heap -/
def un (F G : Hp) : Hp := fun b => match F b with
  | some o => some o
  | none => G b
theorem un_l {F G : Hp} : Same F (un F G) := fun b o e => by unfold un; rw [e]
theorem un_n {F G : Hp} {b : Addr} (h : F b = none) : un F G b = G b := by unfold un; rw [h]
theorem un_to {F G J : Hp} (s1 : Same F J) (s2 : Same G J) : Same (un F G) J := fun b o e => by
  cases h : F b with
  | some o' =>
    have : un F G b = some o' := un_l _ _ h
    rw [this] at e
    cases e
    exact s1 _ _ h
  | none => rw [un_n h] at e; exact s2 _ _ e
/-- what is known of a part of the heap, when some more is new -/
theorem ext {F J J1 : Hp} (s : Same F J) (s1 : Same F J1) : ∃ F', Same F F' ∧ Same (nw J J1) F' ∧ Same F' J1 ∧ ∀ b, F b = none → J b ≠ none → F' b = none :=
  ⟨un F (nw J J1), un_l, fun b o e => by
    have h := nw_some e
    have hf : F b = none := by
      cases hf : F b with
      | none => rfl
      | some u => rw [s _ _ hf] at h; exact nomatch h.1
    rw [un_n hf]; exact e, un_to s1 nw_same, fun b h1 h2 => by
    rw [un_n h1]
    unfold nw
    cases hj : J b with
    | none => exact absurd hj h2
    | some u => rfl⟩
theorem fx {F J J' : Hp} {p : Addr} (s : Same F J) (n : F p = none) (x : Sx p J J') : Same F J' := fun b o e => x b o (ne_of_none e n) (s b o e)
theorem fu {F J : Hp} {t : Addr} {o : HO} (s : Same F J) (n : F t = none) : Same F (upd J t o) := fun b u e => by rw [upd_ne (ne_of_none e n)]; exact s b u e
theorem TbA.sx {K : PySem.W.Frag} {C : Addr} {H J : Hp} {p x : Addr} {tb : List (List Int)} (s : Sx p H J) (b : Bx H p) (h : TbA K C H x tb) : TbA K C J x tb := by
  obtain ⟨b0, b1, b2, eb, _⟩ := b
  have up : ∀ {r : Addr} {xs : List V}, SqT K H r xs → SqT K J r xs := fun {r xs} h => by
    rcases h with (h | ⟨o, h⟩) | h
    · exact .inl (.inl (s _ _ (fun z => by rw [z, eb] at h; cases h) h))
    · exact .inl (.inr ⟨o, s _ _ (fun z => by rw [z, eb] at h; cases h) h⟩)
    · exact .inr h
  obtain ⟨dx, t, rs, hp, ht, pr⟩ := h.ob
  exact ⟨dx, t, rs, s _ _ (fun z => by rw [z, eb] at hp; cases hp) hp, up ht, L2.Paired.mapP pr fun _ _ ⟨r, e, hr⟩ => ⟨r, e, up hr⟩⟩
/-- the heap but the box -/
def mn (p : Addr) (J : Hp) : Hp := fun b => if b = p then none else J b
theorem mn_same {p : Addr} {J : Hp} : Same (mn p J) J := fun b o e => by
  unfold mn at e
  by_cases h : b = p
  · rw [if_pos h] at e; cases e
  · rw [if_neg h] at e; exact e
theorem mn_p {p : Addr} {J : Hp} : mn p J p = none := if_pos rfl
theorem mn_sx {p : Addr} {J : Hp} : Sx p J (mn p J) := fun b o n e => by unfold mn; rw [if_neg n]; exact e
theorem mn_nw {p : Addr} {H J : Hp} (h : H p ≠ none) : Same (nw H J) (mn p J) := fun b o e => by
  have q := nw_some e
  exact mn_sx _ _ (fun z => h (z ▸ q.1)) q.2
end L

set_option Elab.async false
set_option linter.all false
set_option maxRecDepth 100000
set_option maxHeartbeats 4000000
set_option pp.maxSteps 400
namespace L
open PySem L2 KX
abbrev sChkE : Stmt := top 22
abbrev sPrd : Stmt := inClass (top 21) 4
abbrev sEiT : Stmt := inClass (top 4) 0
abbrev sEiM : Stmt := inClass (top 10) 0
def spChkE (K : PySem.W.Frag) (C : Addr) : Sp := fun vs H Q _ => ∃ (p : Addr) (a : Nat) (tb : List (List Int)), vs = [.ref p, .int (a : Int)] ∧ TbA K C H p tb ∧ a < tb.length ∧ tb.length ≤ 16 ∧ Q .non H
def spPrd (K : PySem.W.Frag) (C : Addr) : Sp := fun vs H Q _ => ∃ (p : Addr) (a b : Nat) (tb : List (List Int)), vs = [.ref p, .int (a : Int), .int (b : Int)] ∧ TbA K C H p tb ∧ Sqr tb ∧ a < tb.length ∧ b < tb.length ∧ Q (.int (mu tb a b)) H
theorem mu_nat {tb : List (List Int)} (S : Sqr tb) {a b : Nat} (ha : a < tb.length) (hb : b < tb.length) : mu tb a b = (((mu tb a b).toNat : Nat) : Int) ∧ (mu tb a b).toNat < tb.length := by
  have := S.el a b ha hb
  omega
theorem row_g {tb : List (List Int)} (S : Sqr tb) {a b : Nat} (ha : a < tb.length) (hb : b < tb.length) : ((tb.getD a []).map V.int)[b]? = some (.int (mu tb a b)) := by
  have e : tb.getD a [] = tb[a] := by rw [List.getD_eq_getElem?_getD, List.getElem?_eq_getElem ha]; rfl
  have l := S.row _ (List.getElem_mem ha)
  unfold mu
  rw [e, List.getElem?_map, List.getD_eq_getElem?_getD (l := tb[a]), List.getElem?_eq_getElem (by omega)]; rfl
/-- a row by its place -/
theorem rw_at {G : Hp} {v : V} {ms : List (List Int)} {a : Nat} (h : RowsL G v ms) (ha : a < ms.length) : ∃ (l : Addr) (rs : List Addr) (r : Addr), v = .ref l ∧ G l = some (.lst (rs.map V.ref)) ∧ (rs.map V.ref)[a]? = some (.ref r) ∧ G r = some (.lst ((ms.getD a []).map V.int)) := by
  obtain ⟨l, rs, rfl, e, pr⟩ := h
  have hl : rs.length = ms.length := pr.length
  have h1 : rs[a]? = some rs[a] := List.getElem?_eq_getElem (by omega)
  obtain ⟨row, hrow, er⟩ := pair_at pr h1
  refine ⟨l, rs, rs[a], rfl, e, by rw [List.getElem?_map, h1]; rfl, ?_⟩
  rw [List.getD_eq_getElem?_getD, hrow]; exact er
/-- rows as a list -/
theorem RowsL.sq {G : Hp} {v : V} {tb : List (List Int)} (h : RowsL G v tb) : ∃ a xs, v = .ref a ∧ G a = some (.lst xs) ∧ xs.length = tb.length := by
  obtain ⟨a, rs, e, h1, pr⟩ := h
  exact ⟨a, _, e, h1, by rw [List.length_map]; exact pr.length⟩
section
variable {P : Program} {w : World} {K : PySem.W.Frag} {mg : Str → Option Value} {base : Heap} {f g gn fl g1 g2 g3 fE : Addr} {fd gd gnd dl d1 d2 d3 dE : FuncData} {C CT CS CR : Addr}
theorem scChkE : FnScope ["table", "element"] ["table", "element"] (defScope sChkE) := ⟨rfl, rfl, rfl, by decide +kernel, rfl, by decide +kernel, by decide +kernel⟩
theorem ok_chkE (F : Fun K "check_element" "check_element" sChkE f fd) (M : Mn mg) (G : FnOk P w K mg base CX0 2 g gd ["value", "limit"] (spBelow K)) (bG : Binds K gd ["value", "limit"] []) (kG : PySem.W.keepIn K (.ref g) = true) (mG : mg "is_number_below" = some (.ref g))
    (GL : FnOk P w K mg base CX0 1 fl dl ["self"] (spLenM K C)) (bL : Binds K dl ["self"] []) (hL : PySem.W.findIn K (.ref C) "__len__" = some (some (.ref fl))) (tL : PySem.W.typeIn K (.ref fl) = some (.type "function")) : FnOk P w K mg base CX0 3 f fd ["table", "element"] (spChkE K C) := by
  refine F.ok scChkE (fun vs H Q E h => ?_) (fun cdv A outer s H vs Q E hr h => ?_)
  · obtain ⟨p, a, tb, rfl, _⟩ := h
    rfl
  obtain ⟨p, a, tb, rfl, ht, ha, n16, q⟩ := h
  refine ⟨_, pss_one (ps_if (pt_not (pt_val (pe_call G hr (by rfl) mG kG bG .nil pass0 (pa_cons (pv 1) (pa_cons (pe_callB (call_lenOwn hL tL GL hr bL) (by rfl) M.len PySem.boot_len (pa_cons (pv 0) pa_nil)) pa_nil))))) pss_dead pss_nil), ?_⟩
  obtain ⟨dx, t, rs, hp, _, _⟩ := ht.ob
  refine ⟨_, rfl, _, rfl, p, dx, _, rfl, hp, p, tb, rfl, ht, tb.length, rfl, by omega, _, _, rfl, .inl ⟨_, rfl⟩, _, rfl, ?_⟩
  have e : nb (tb.length : Int) (.int (a : Int)) = true := by
    show (decide ((0 : Int) ≤ (a : Int)) && decide ((a : Int) < (tb.length : Int))) = true
    rw [decide_eq_true (by omega), decide_eq_true (by omega)]; rfl
  rw [e]
  exact iteF q
theorem scPrd : FnScope ["self", "first", "second"] ["self", "first", "second"] (defScope sPrd) := ⟨rfl, rfl, rfl, by decide +kernel, rfl, by decide +kernel, by decide +kernel⟩
theorem ok_prd (F : Fun K "product" "ProductTable.product" sPrd f fd) (T : CTx K mg C)
    (G2 : FnOk P w K mg base CX0 3 g2 d2 ["table", "element"] (spChkE K C)) (b2 : Binds K d2 ["table", "element"] []) (k2 : PySem.W.keepIn K (.ref g2) = true) (m2 : mg "check_element" = some (.ref g2)) :
    FnOk P w K mg base CX0 4 f fd ["self", "first", "second"] (spPrd K C) := by
  refine F.ok scPrd (fun vs H Q E h => ?_) (fun cdv A outer s H vs Q E hr h => ?_)
  · obtain ⟨p, a, b, tb, rfl, _⟩ := h
    rfl
  obtain ⟨p, a, b, tb, rfl, ht0, S, ha, hb, q⟩ := h
  refine ⟨_, pss_cons (ps_expr (pe_call G2 hr (by rfl) m2 k2 b2 .nil pass0 (pa_cons (pv 0) (pa_cons (pv 1) pa_nil))))
    (pss_cons (ps_expr (pe_call G2 hr (by rfl) m2 k2 b2 .nil pass0 (pa_cons (pv 0) (pa_cons (pv 2) pa_nil))))
    (pss_one (ps_ret (pe_ix ix_tup (pe_ix ix_tup (pe_fld (pv 0) rfl) (pv 1) (fun _ _ => rfl)) (pv 2) (fun _ _ => rfl))))), ?_⟩
  obtain ⟨dx, t, rs, hp, ht, pr⟩ := ht0.ob
  obtain ⟨r, h1, h2, h3⟩ := row_at pr S ha
  refine ⟨_, rfl, _, rfl, p, a, tb, rfl, ht0, ha, S.ge, _, rfl, _, rfl, p, b, tb, rfl, ht0, hb, S.ge, ?_⟩
  refine ⟨_, rfl, p, C, dx, _, _, rfl, hp, T.cl, T.nR, rfl, _, rfl, t, rs, _, _, rfl, rfl, ht, at_of (j := a) rfl h1, _, rfl, r, _, _, _, rfl, rfl, h2, at_of (j := b) rfl (h3 b hb), ?_⟩
  exact q
theorem scEiT : FnScope ["self", "value"] ["self", "value"] (defScope sEiT) := ⟨rfl, rfl, rfl, by decide +kernel, rfl, by decide +kernel, by decide +kernel⟩
theorem ok_eiT (F : Fun K "__init__" "InvalidTable.__init__" sEiT f fd) : FnOk P w K mg base CX0 1 f fd ["self", "value"] (spEi K C "value") := by
  refine F.ok scEiT (fun vs H Q E h => ?_) (fun cdv A outer s H vs Q E hr h => ?_)
  · obtain ⟨a, v, rfl, _⟩ := h
    rfl
  obtain ⟨a, v, rfl, ha, T, no, q⟩ := h
  exact ⟨_, pss_one (ps_ost (pv 0) (pv 1)), ⟨_, rfl, _, rfl, a, C, rfl, T, no, .inl ⟨ha, fun dx h1 h2 => q dx h1 h2⟩⟩⟩
theorem scEiM : FnScope ["self", "count"] ["self", "count"] (defScope sEiM) := ⟨rfl, rfl, rfl, by decide +kernel, rfl, by decide +kernel, by decide +kernel⟩
theorem ok_eiM (F : Fun K "__init__" "TooMany.__init__" sEiM f fd) : FnOk P w K mg base CX0 1 f fd ["self", "count"] (spEi K C "count") := by
  refine F.ok scEiM (fun vs H Q E h => ?_) (fun cdv A outer s H vs Q E hr h => ?_)
  · obtain ⟨a, v, rfl, _⟩ := h
    rfl
  obtain ⟨a, v, rfl, ha, T, no, q⟩ := h
  exact ⟨_, pss_one (ps_ost (pv 0) (pv 1)), ⟨_, rfl, _, rfl, a, C, rfl, T, no, .inl ⟨ha, fun dx h1 h2 => q dx h1 h2⟩⟩⟩
end
end L

set_option Elab.async false
set_option linter.all false
set_option maxRecDepth 100000
set_option maxHeartbeats 4000000
/-! Own layer: lists and tuples of data that repr shows in few signs. -/
namespace KX
open PySem PySem.Spec PyProof.Rows L2
theorem okAll {n W : Nat} : ∀ {ds : List PyData}, (∀ d, d ∈ ds → OkD n W d) → PyData.leavesShortAll 110 ds = true ∧ PyData.showableAll ds = true ∧ PyData.depthAll ds ≤ n ∧ PyData.weightAll ds ≤ ds.length * (W + 1)
  | [], _ => ⟨rfl, rfl, Nat.zero_le _, Nat.zero_le _⟩
  | d :: ds, h => by
    have hd := h d List.mem_cons_self
    obtain ⟨g2, g3, g4, g5⟩ := okAll (ds := ds) fun x hx => h x (List.mem_cons_of_mem _ hx)
    refine ⟨?_, ?_, ?_, ?_⟩
    · simp only [PyData.leavesShortAll, hd.short, g2, Bool.and_self]
    · simp only [PyData.showableAll, hd.shows, g3, Bool.and_self]
    · have := hd.deep
      simp only [PyData.depthAll]; omega
    · have := hd.wt
      simp only [PyData.weightAll, List.length_cons, Nat.succ_mul]; omega
theorem okLi {n W m : Nat} {ds : List PyData} (h : ∀ d, d ∈ ds → OkD n W d) (l : ds.length ≤ m) : OkD (n + 1) (m * (W + 1)) (.list ds) := by
  obtain ⟨g2, g3, g4, g5⟩ := okAll h
  have := Nat.mul_le_mul_right (W + 1) l
  exact ⟨by simpa only [PyData.leavesShort] using g2, by simpa only [PyData.showable] using g3, by simp only [PyData.depth]; omega, by simp only [PyData.weight]; omega⟩
theorem okTu {n W m : Nat} {ds : List PyData} (h : ∀ d, d ∈ ds → OkD n W d) (l : ds.length ≤ m) : OkD (n + 1) (m * (W + 1)) (.tuple ds) := by
  obtain ⟨g2, g3, g4, g5⟩ := okAll h
  have := Nat.mul_le_mul_right (W + 1) l
  exact ⟨by simpa only [PyData.leavesShort] using g2, by simpa only [PyData.showable] using g3, by simp only [PyData.depth]; omega, by simp only [PyData.weight]; omega⟩
/-- two items of unlike weights -/
theorem okL2 {n W : Nat} {a b : PyData} (h : OkD n W a) (k : OkD n W b) : OkD (n + 1) (2 * (W + 1)) (.list [a, b]) := okLi (fun d hd => by
  rcases List.mem_cons.mp hd with e | e
  · rw [e]; exact h
  · rw [List.mem_singleton.mp e]; exact k) (Nat.le_refl 2)
theorem okT2 {n W : Nat} {a b : PyData} (h : OkD n W a) (k : OkD n W b) : OkD (n + 1) (2 * (W + 1)) (.tuple [a, b]) := okTu (fun d hd => by
  rcases List.mem_cons.mp hd with e | e
  · rw [e]; exact h
  · rw [List.mem_singleton.mp e]; exact k) (Nat.le_refl 2)
end KX

set_option Elab.async false
set_option linter.all false
set_option maxRecDepth 100000
set_option maxHeartbeats 4000000
set_option pp.maxSteps 400
namespace L
open PySem L2 KX
/-- a class that is no builtin type's ancestor -/
structure CNb (K : PySem.W.Frag) (C : Addr) : Prop where
  ma : PySem.W.makesIn K C = true
  tt : PySem.W.typeIn K (.ref C) = some (.type "type")
theorem CNb.cl {K : PySem.W.Frag} {C : Addr} (h : CNb K C) : (PySem.W.clsIn K C).isSome = true := by
  have h := h.ma
  unfold PySem.W.makesIn at h
  unfold PySem.W.clsIn
  split at h
  · rename_i e
    rw [e]; rfl
  · exact nomatch h
theorem CNb.no {K : PySem.W.Frag} {C : Addr} (h : CNb K C) {T : String} (e : (fastBuiltinMro T).map (·.contains (.ref C)) = some false) : PySem.W.kitOne K (.type T) (.ref C) = some false := by
  unfold PySem.W.kitOne
  rw [show ((Value.type T) == (Value.ref C)) = false from rfl, if_neg Bool.false_ne_true]
  show (if ((PySem.W.clsIn K C).isSome && PySem.W.typeIn K (.ref C) == some (.type "type")) = true then PySem.W.subIn K (.type T) (.ref C) else none) = some false
  rw [h.cl, h.tt]
  have e2 : (some (Value.type "type") == some (Value.type "type")) = true := by rfl
  rw [e2]
  exact e
theorem notT_of {K : PySem.W.Frag} {C : Addr} (N : CNb K C) {H : Hp} {v : V} {d : PyData} (h : Dq H v d) : NotT K C H v := by
  cases h with
  | non => exact ⟨_, .base .non, N.no (by rfl)⟩
  | bl b => exact ⟨_, .base (.bl b), N.no (by rfl)⟩
  | int i => exact ⟨_, .base (.int i), N.no (by rfl)⟩
  | str x => exact ⟨_, .base (.str x), N.no (by rfl)⟩
  | lst e _ => exact ⟨_, .base (.lst e), N.no (by rfl)⟩
  | tup e _ => exact ⟨_, .base (.tup e), N.no (by rfl)⟩
  | dct e _ => exact ⟨_, .base (.dK e), N.no (by rfl)⟩
/-- a value that is no table, as data -/
def BV (K : PySem.W.Frag) (C : Addr) (H : Hp) (v : V) : Prop := NotT K C H v ∧ ∃ d, Dq H v d ∧ OkD 3 8000 d
theorem BV.same {K : PySem.W.Frag} {C : Addr} {H G : Hp} {v : V} (s : Same H G) (h : BV K C H v) : BV K C G v := ⟨h.1.same s, let ⟨d, a, b⟩ := h.2; ⟨d, Dq.same s _ _ a, b⟩⟩
theorem BV.of {K : PySem.W.Frag} {C : Addr} (N : CNb K C) {H : Hp} {v : V} {d : PyData} (h : Dq H v d) (ok : OkD 3 8000 d) : BV K C H v := ⟨notT_of N h, d, h, ok⟩
/-! rows as data -/
def rD (tb : List (List Int)) : List PyData := tb.map fun r => .list (iD r)
theorem rD_lay : ∀ tb : List (List Int), PyData.canLayAll0 (rD tb) = true
  | [] => by unfold rD; simp [PyData.canLayAll0]
  | r :: tb => by
    have h := rD_lay tb
    have h2 : PyData.canLay0 (.list (iD r)) = true := by simp only [PyData.canLay0]; exact iD_lay r
    show (PyData.canLay0 (.list (iD r)) && PyData.canLayAll0 (rD tb)) = true
    rw [h, h2]; rfl
theorem rD_depth : ∀ tb : List (List Int), PyData.depthAll (rD tb) ≤ 1
  | [] => by unfold rD; simp [PyData.depthAll]
  | r :: tb => by
    have h := rD_depth tb
    have h2 : PyData.depth (.list (iD r)) = 1 := by simp only [PyData.depth, iD_depth r]
    show max (PyData.depth (.list (iD r))) (PyData.depthAll (rD tb)) ≤ 1
    omega
theorem rD_shaped (tb : List (List Int)) : SeqAt.shaped (.list (rD tb)) = true := by
  have h2 : PyData.depth (.list (rD tb)) ≤ 2 := by simp only [PyData.depth]; have := rD_depth tb; omega
  have h1 : PyData.canLay0 (.list (rD tb)) = true := by simp only [PyData.canLay0]; exact rD_lay tb
  show (PyData.canLay0 (.list (rD tb)) && decide (PyData.depth (.list (rD tb)) ≤ 64)) = true
  rw [Bool.and_eq_true]
  exact ⟨h1, decide_eq_true (by omega)⟩
theorem rD_dp {K : PySem.W.Frag} {G : Hp} {rs : List Addr} {tb : List (List Int)} (h : Paired (fun r row => G r = some (.lst (row.map V.int))) rs tb) : DpAll K G (rs.map V.ref) (rD tb) := by
  induction h with
  | nil => exact .nil
  | cons h _ ih => exact .cons (.lst (SqL.of h) (dp_ints _)) ih
theorem RowsL.dp {K : PySem.W.Frag} {G : Hp} {v : V} {tb : List (List Int)} (h : RowsL G v tb) : Dp K G v (.list (rD tb)) := by
  obtain ⟨a, rs, rfl, e, pr⟩ := h
  exact .lst (SqL.of e) (rD_dp pr)
theorem rD_refl_all : ∀ tb : List (List Int), PyData.eqvAll (rD tb) (rD tb) = true
  | [] => by unfold rD; simp [PyData.eqvAll]
  | r :: tb => by
    have h := rD_refl_all tb
    have h2 := iD_eqv r r
    rw [decide_eq_true rfl] at h2
    show PyData.eqvAll (.list (iD r) :: rD tb) (.list (iD r) :: rD tb) = true
    simp only [PyData.eqvAll, h, h2, Bool.and_self]
theorem rD_refl (tb : List (List Int)) : PyData.eqv (.list (rD tb)) (.list (rD tb)) = true := by simp only [PyData.eqv]; exact rD_refl_all tb
theorem szl (n : Nat) (h : n ≤ 5000) : n ≤ sizeLine := Nat.le_trans h (by rw [sizeLine_eq]; omega)
/-- a table made of the rows at v -/
theorem init_at {K : PySem.W.Frag} {C : Addr} {H : Hp} {v : V} {tb : List (List Int)} {x dx : Addr} {Q : Hp → Prop} {E : XK} (R : RowsL H v tb) (T : Tb tb) (hx : H x = none) (hdx : H dx = none) (nex : dx ≠ x) (q : ∀ J, Same H J → TbA K C J x tb → Q J) :
    spInit K C (.ref x :: ([v] ++ [])) (upd (upd H dx (.own x)) x (.ins C dx [])) (fun u H2 => u = .non ∧ Q H2) E := by
  have sn : Same H (upd (upd H dx (.own x)) x (.ins C dx [])) := fun b o e => by rw [upd_ne (ne_of_none e hx), upd_ne (ne_of_none e hdx)]; exact e
  have nD : ∀ b, v = .ref b → b ≠ x := fun b e => by
    obtain ⟨_, _, e', ed, _⟩ := id R
    rw [e'] at e
    cases e
    exact ne_of_none ed hx
  exact ⟨x, dx, v, tb, rfl, upd_same, (R.same sn).rws, T.sq, T.as, nD, fun J tx kx => ⟨rfl, q J (fun b o e => kx b o (ne_of_none e hx) (sn b o e)) tx⟩⟩
theorem iteTt {c : Bool} {A B : Prop} (e : c = true) (h : A) : if c = true then A else B := by rw [if_pos e]; exact h
theorem iteFf {c : Bool} {A B : Prop} (e : c = false) (h : B) : if c = true then A else B := by rw [if_neg (by rw [e]; exact Bool.false_ne_true)]; exact h
end L

set_option Elab.async false
set_option linter.all false
set_option maxRecDepth 100000
set_option maxHeartbeats 4000000
/-! Own layer: == and != of two instances of one class of the text, != of lists whose items are the same. -/
namespace KX
open PySem PySem.Spec PyProof.Rows L2
section
open PySem.W PySem.SeqAt
variable {prog : Program} {w : World} {A : Around} {E : Value → Shared → Prop} {s : Shared} {K : Frag} {x y C L f : Addr} {h₀ : Heap} {m : Str → Option Value} {ox : Obj} {od : Option Obj}
theorem ifBound_objNe {M : Model} {args : List Value} {Q : Option Value → Shared → Prop} (X : K.In s.heap) (I : InstAt s.heap x ox C od) (hs : findIn K (.ref C) "__ne__" = some (some (.builtin "object.__ne__")))
    (h : wpAny M A (call (.builtin "object.__ne__") (.ref x :: args)) (fun v => Q (some v)) E s) : wpAny M A (callSpecialIfBound? (.ref x) "__ne__" args) Q E s := by
  simp only [callSpecialIfBound?, bindSpecialIfBound?]
  refine wpAny_holding (wpAny_bind (wpAny_bind (wpAny_bind (I.type.here ((looks_findIn X hs).here ?_)))))
  refine wpAny_bind (wpAny_askSetting (wpAny_ite ?_))
  have fin : wpAny M A (call (.builtin "object.__ne__") ([.ref x] ++ args) >>= fun v => pure (some v)) Q E s := wpAny_bind (wpAny_mono h (fun v s' h' => wpAny_pure h') fun _ _ h' => h')
  split
  · exact wpAny_bind (wpAny_of_eq (F.cmp_object.ne.bind _) (wpAny_pure (by exact fin)))
  · exact wpAny_tryCatch (wpAny_bind (wpAny_of_eq (F.cmp_object.ne.bind _) (wpAny_pure (by exact fin))))
theorem entry_ne {Q : Fin → Shared → Prop} (hu : A.units < cLine) (X : K.In s.heap) (I : InstAt s.heap x ox C od) (hs : findIn K (.ref C) "__eq__" = some (some (.ref f))) (hf : isFn K (.ref f) = true)
    (hc : wpAny (model prog w) A (call (.ref f) [.ref x, .ref y]) (fun v s' => ∃ b, v = .bool b ∧ Q (.done (.ret (.bool (!b)))) s') E s) :
    wpAny (model prog w) A (Builtin.«object.__ne__» ⟨[.ref x, .ref y], []⟩) Q E s := by
  unfold Builtin.«object.__ne__»
  repeat (first
    | with_reducible refine wpAny_cRoomFor hu ?_
    | (refine wpAny_bind (m := callSpecialIfBound? (.ref x) (Str.ofString "__eq__") [.ref y])
        (ifBound_K X I hs hf (wpAny_mono hc (fun r s' hr => by
          obtain ⟨b, rfl, hq⟩ := hr
          repeat (first | exact hq | exact wpAny_pure hq | exact wpAny_truthy_bool hq | (refine wpAny_bind (m := truthy (.bool _)) (wpAny_truthy_bool ?_)) | wp_step)) fun _ _ e => e)))
    | wp_step)
theorem call_objNe {Q : Value → Shared → Prop} (hu : A.in1.units < cLine) (X : K.In s.heap) (I : InstAt s.heap x ox C od) (hm : mroIn K C (.type "object") = some true) (hs : findIn K (.ref C) "__eq__" = some (some (.ref f))) (hf : isFn K (.ref f) = true)
    (hc : wpAny (model prog w) A.in1 (call (.ref f) [.ref x, .ref y]) (fun v s' => ∃ b, v = .bool b ∧ Q (.bool (!b)) s') E s) : wpAny (model prog w) A (call (.builtin "object.__ne__") [.ref x, .ref y]) Q E s := by
  refine wpAny_call (codeAny_call_builtin F.cmp_object.ne.plain F.cmpEntry_ne (check_slot F.cmpKind_ne F.cmpSplit_ne (I.type.andThen (looks_mroIn X hm)) (F.cmpArgs_ne _ _) (entry_ne hu X I hs hf (wpAny_mono hc (fun v s' hv => ?_) fun _ _ e => e))))
  obtain ⟨b, rfl, hq⟩ := hv
  first | exact ⟨b, rfl, hq⟩ | exact ⟨b, rfl, _, rfl, hq⟩
theorem ne_own {Q : Value → Shared → Prop} (hu : A.in1.units < cLine) (hu0 : A.units < cLine) (X : K.In s.heap) (I : InstAt s.heap x ox C od) (hy : Looks (model prog w) s.heap (typeOf (.ref y)) (.ref C)) (hm : mroIn K C (.type "object") = some true)
    (hne : findIn K (.ref C) "__ne__" = some (some (.builtin "object.__ne__"))) (hs : findIn K (.ref C) "__eq__" = some (some (.ref f))) (hf : isFn K (.ref f) = true)
    (hc : wpAny (model prog w) A.in1 (call (.ref f) [.ref x, .ref y]) (fun v s' => ∃ b, v = .bool b ∧ Q (.bool (!b)) s') E s) : wpAny (model prog w) A (richCompare .NotEq (.ref x) (.ref y)) Q E s := by
  have one : wpAny (model prog w) A (tryCompare (.ref x) "__ne__" (.ref y)) (fun r s' => ∃ v, r = some v ∧ Q v s') E s := by
    unfold tryCompare
    refine wpAny_bind (ifBound_objNe X I hne (call_objNe hu X I hm hs hf (wpAny_mono hc (fun v s' hv => ?_) fun _ _ e => e)))
    obtain ⟨b, rfl, hq⟩ := hv
    exact ⟨b, rfl, wpAny_pure ⟨_, rfl, hq⟩⟩
  unfold richCompare
  simp only [oneThing_ref]
  rw [cmpInfo_NotEq]
  dsimp only
  refine wpAny_holding (wpAny_bind (wpAny_cRoomFor hu0 ?_))
  refine wpAny_bind (I.type.here (wpAny_bind (hy.here ?_)))
  rw [show (Value.ref C != Value.ref C) = false from by simp]
  simp only [Bool.false_eq_true, if_false]
  refine wpAny_bind (wpAny_pure ?_)
  simp only [Bool.false_eq_true, if_false]
  refine wpAny_bind (wpAny_mono one (fun r s' z => ?_) fun _ _ e => e)
  obtain ⟨v, rfl, hq⟩ := z
  exact wpAny_pure hq
end
section
variable {X : Cx} {k : Nat} {C f : Addr} {fd : FuncData} {ps : List Str} {sp : Sp}
/-- x == y, x != y of two instances: what the text's own == promises -/
def rEqO (C : Addr) (sp : Sp) : R2 := fun x y H Q => ∃ a b dx dy fs gs, x = .ref a ∧ y = .ref b ∧ H a = some (.ins C dx fs) ∧ H b = some (.ins C dy gs) ∧ sp [.ref a, .ref b] H (fun v H1 => ∃ c, v = .bl c ∧ Q (.bl c) H1) (fun _ _ _ => False)
def rNeO (C : Addr) (sp : Sp) : R2 := fun x y H Q => ∃ a b dx dy fs gs, x = .ref a ∧ y = .ref b ∧ H a = some (.ins C dx fs) ∧ H b = some (.ins C dy gs) ∧ sp [.ref a, .ref b] H (fun v H1 => ∃ c, v = .bl c ∧ Q (.bl (!c)) H1) (fun _ _ _ => False)
theorem op_eqO (F : FnOk X.prog X.w X.K X.mg X.base CX0 k f fd ps sp) (hr : Room k X.A) (hs : PySem.W.findIn X.K (.ref C) "__eq__" = some (some (.ref f))) (hf : PySem.W.isFn X.K (.ref f) = true) (hb : Binds X.K fd ps []) : OpR X (compareOp .Eq) (rEqO C sp) := by
  intro pins s σ H x y v u Q I rx ry h
  obtain ⟨a, b, dx, dy, fs, gs, rfl, rfl, ha, hb', q⟩ := h
  cases rx
  cases ry
  obtain ⟨mA, J, _⟩ := ins_get I.hok ha
  obtain ⟨mB, J', _⟩ := ins_get I.hok hb'
  obtain ⟨od, J, _⟩ := J.look
  obtain ⟨od', J', _⟩ := J'.look
  obtain ⟨m, hF⟩ := I.fr
  have hl := F.len _ _ _ _ q
  have r2 : Vals [V.ref a, V.ref b] [Value.ref a, Value.ref b] := .cons rfl (.cons rfl .nil)
  show wpAny (model X.prog X.w) X.A (richCompare .Eq (.ref a) (.ref b)) (EP X pins σ Q) X.xe s
  refine PySem.W.cmp_K (op := .Eq) (tb := .ref C) hr.units0 hF I.ok.mod.kin J J'.type (by simp [PySem.W.notFirst]) hs hf ?_
  refine wpAny_call (codeAny_mono (F.run X.A X.stack s H ⟨[.ref a, .ref b], []⟩ [.ref a, .ref b] [.ref a, .ref b] _ _ hr I.env0 (by
    have := hb s [.ref a, .ref b] I.kIn (by simpa using hl)
    simpa using this) r2 q) fun o s' hq => ?_)
  match o, hq with
  | .error u, hq => exact hq.elim
  | .ok (.ret u), hq =>
    obtain ⟨v, H1, I1, rv, c, rfl, q'⟩ := I.after hq
    obtain rfl : u = Value.bool c := rv
    exact ⟨.bl c, H1, I1, rfl, q'⟩
  | .ok .next, hq => exact hq.elim
  | .ok .brk, hq => exact hq.elim
  | .ok .cont, hq => exact hq.elim
theorem op_neO (F : FnOk X.prog X.w X.K X.mg X.base CX0 k f fd ps sp) (hr : Room (k + 1) X.A) (hm : PySem.W.mroIn X.K C (.type "object") = some true) (hne : PySem.W.findIn X.K (.ref C) "__ne__" = some (some (.builtin "object.__ne__")))
    (hs : PySem.W.findIn X.K (.ref C) "__eq__" = some (some (.ref f))) (hf : PySem.W.isFn X.K (.ref f) = true) (hb : Binds X.K fd ps []) : OpR X (compareOp .NotEq) (rNeO C sp) := by
  intro pins s σ H x y v u Q I rx ry h
  obtain ⟨a, b, dx, dy, fs, gs, rfl, rfl, ha, hb', q⟩ := h
  cases rx
  cases ry
  obtain ⟨mA, J, _⟩ := ins_get I.hok ha
  obtain ⟨mB, J', _⟩ := ins_get I.hok hb'
  obtain ⟨od, J, _⟩ := J.look
  obtain ⟨od', J', _⟩ := J'.look
  have hl := F.len _ _ _ _ q
  have r2 : Vals [V.ref a, V.ref b] [Value.ref a, Value.ref b] := .cons rfl (.cons rfl .nil)
  show wpAny (model X.prog X.w) X.A (richCompare .NotEq (.ref a) (.ref b)) (EP X pins σ Q) X.xe s
  refine ne_own hr.in1.units0 hr.units0 I.kIn J J'.type hm hne hs hf ?_
  refine wpAny_call (codeAny_mono (F.run X.A.in1 X.stack s H ⟨[.ref a, .ref b], []⟩ [.ref a, .ref b] [.ref a, .ref b] _ _ hr.in1 I.env0.in1 (by
    have := hb s [.ref a, .ref b] I.kIn (by simpa using hl)
    simpa using this) r2 q) fun o s' hq => ?_)
  match o, hq with
  | .error u, hq => exact hq.elim
  | .ok (.ret u), hq =>
    obtain ⟨v, H1, I1, rv, c, rfl, q'⟩ := I.after hq
    obtain rfl : u = Value.bool c := rv
    exact ⟨c, rfl, .bl (!c), H1, I1, rfl, q'⟩
  | .ok .next, hq => exact hq.elim
  | .ok .brk, hq => exact hq.elim
  | .ok .cont, hq => exact hq.elim
/-- a value that is equal to itself at sight -/
def sameV : V → Bool
  | .non | .bl _ | .int _ | .str _ | .ref _ => true
  | _ => false
/-- xs != ys of two lists with the very same items -/
def rNeS (K : PySem.W.Frag) : R2 := fun x y H Q => ∃ a b xs, x = .ref a ∧ y = .ref b ∧ SqL K H a xs ∧ SqL K H b xs ∧ xs.all sameV = true ∧ Q (.bl false) H
theorem op_neS (hu : X.A.units + 64 < cLine) : OpR X (compareOp .NotEq) (rNeS X.K) := by
  intro pins s σ H x y v u Q I rx ry h
  obtain ⟨a, b, xs, rfl, rfl, ha, hb, hx, q⟩ := h
  cases rx
  cases ry
  obtain ⟨its, rv, ⟨⟨cls, dd, data, sl⟩, n, ho, hc, hd, hdat⟩, hz⟩ := I.list ha
  obtain ⟨its2, rv2, ⟨⟨cls2, dd2, data2, sl2⟩, n2, ho2, hc2, hd2, hdat2⟩, hz2⟩ := I.list hb
  simp only at hc hd hdat hc2 hd2 hdat2
  subst hc hdat hc2 hdat2
  show wpAny (model X.prog X.w) X.A (richCompare .NotEq (.ref a) (.ref b)) (EP X pins σ Q) X.xe s
  have hsz : its.toArray.size = its2.toArray.size := by rw [List.size_toArray, List.size_toArray, ← rv.length, ← rv2.length]
  refine wpAny_richCompare_same_room (op := .NotEq) ⟨_, ho, rfl⟩ ⟨_, ho2, rfl⟩ F.slot_list_ne (GQ.call_here F.slot_list_ne ⟨_, ho, rfl⟩ F.entry_list_ne (F.args_list_ne_2 _ _) ?_) (by omega)
  refine PySem.SeqAt.list_neAt a b its.toArray its2.toArray n n2 dd dd2 sl sl2 hsz (fun _ => true) X.prog X.w X.A _ s ⟨ho, ho2, fun j h1 h2 => ?_, ?_⟩
  · have k1 : j < its.length := by simpa using h1
    have k2 : j < its2.length := by simpa using h2
    have kx : j < xs.length := by rw [rv.length]; exact k1
    obtain ⟨u1, e1, r1⟩ := rv.get (List.getElem?_eq_getElem kx)
    obtain ⟨u2, e2, r2⟩ := rv2.get (List.getElem?_eq_getElem kx)
    have g1 : its.toArray[j] = u1 := by
      rw [List.getElem?_eq_getElem k1] at e1
      simpa using Option.some.inj e1
    have g2 : its2.toArray[j] = u2 := by
      rw [List.getElem?_eq_getElem k2] at e2
      simpa using Option.some.inj e2
    rw [g1, g2]
    have hxj := List.all_eq_true.mp hx _ (List.getElem_mem kx)
    generalize xs[j] = z at r1 r2 hxj
    have flat : flatV z = true → eqV z z = true → SeqAt.EqAt X.A.in1 s u1 u2 true := fun f e => by
      have := eqAt_V (A := X.A.in1) (s := s) r1 r2 f f
      rw [e] at this
      exact this
    cases z with
    | non => exact flat rfl rfl
    | bl b => exact flat rfl (by cases b <;> rfl)
    | int i => exact flat rfl (beq_self_eq_true _)
    | str x => exact flat rfl (beq_self_eq_true _)
    | ref p =>
      cases r1
      cases r2
      exact SeqAt.EqAt.same (A := X.A.in1) (s := s) (.ref p)
    | _ => cases hxj
  · have e : (!(List.range its.toArray.size).all fun _ => true) = false := by
      rw [List.all_eq_true.mpr fun _ _ => rfl]; rfl
    rw [e]
    exact ⟨(fun z => nomatch z), .bl false, H, I, rfl, q⟩
end
section
variable {X : Cx} {CX : CXT} {k : Nat} {f C : Addr} {fd : FuncData} {ps : List Str} {sp : Sp} {E : L2.St → XK} {m : Str} {pos apos : Pos} {e o : Expr} {es : List Expr} {ta : TE} {t : TA}
/-- o.m(e, ..) in a try: what it raises is taken with the slots as they are -/
def tMethS (C : Addr) (m : Str) (sp : Sp) (E : L2.St → XK) (ta : TE) (t : TA) : TE := fun σ H Q => ta σ H fun x H1 => ∃ (a dx : Addr) (fs : List (Str × V)), x = .ref a ∧ H1 a = some (.ins C dx fs) ∧ fs.lookup m = none ∧ t σ H1 fun vs H2 => sp (.ref a :: vs) H2 Q (E σ)
theorem pe_methS {pl : Sem Bool} (he : PE X o ta) (c : Cls X.K C) (hm : Meth X.K C m f) (F : FnOk X.prog X.w X.K X.mg X.base CX k f fd ps sp) (hr : Room k X.A) (hb : Binds X.K fd ps []) (hx : ∀ σ, PassesAt CX X σ (E σ)) (ha : PA X (e :: es) t)
    (hst : starEach (e :: es) X.env = (false, eval e X.env) :: starEach es X.env := by rfl) (hpl : (backTo pos (starEach es X.env)).any (·.1) = false := by rfl)
    (ht : eval (.Call (.Attribute o m apos) (e :: es) [] pos) X.env = (do
      let ov ← eval o X.env
      standAt apos.atName
      let (f, first) ← holding [ov] (getMethod ov m pl)
      callWith pos f first (backTo pos (starEach (e :: es) X.env)) (backToKw pos (keywordEach [] X.env))) := by rfl) :
    PE X (.Call (.Attribute o m apos) (e :: es) [] pos) (tMethS C m sp E ta t) := by
  refine ⟨fun pins s σ H Q I h => ?_⟩
  refine PySem.W.methodCall_KW (pl := pl) (thn (he.run pins s σ H _ I h) fun u s1 ⟨x, H1, I1, rx, a, dx, fs, ex, ea, l, q⟩ => ?_) ht
  subst ex
  obtain rfl : u = Value.ref a := rx
  refine getmeth_ok I1 ea c hm l ?_
  refine PySem.W.callWith_K (first := [.ref a]) (h₀ := X.base) I.ok.mod.kin hm.kp (thn (ha.run pos pins s1 σ H1 _ I1 q) fun us s2 ⟨vs, H2, I2, r, q2⟩ => ⟨I2.kIn, ?_⟩) hst hpl
  exact run_fnS (us := .ref a :: us) (vs := .ref a :: vs) F hr hb (hx σ) I2 (.cons rfl r) q2
end
section
variable {X : Cx}
theorem flat_intsT (ns : List Int) : (ns.map V.int).all flatV = true := by
  rw [List.all_map]
  exact List.all_eq_true.mpr fun _ _ => rfl
/-- t.index(i), t a tuple of whole numbers: the first place -/
def rIndexT (K : PySem.W.Frag) : V → List V → Hp → VK → Prop := fun x xs H Q => ∃ (p : Addr) (ns : List Int) (i : Int) (j : Nat), x = .ref p ∧ xs = [.int i] ∧ SqT K H p (ns.map V.int) ∧ ns[j]? = some i ∧ (∀ m, m < j → ns[m]? ≠ some i) ∧ Q (.int (j : Nat)) H
theorem mt_tidx {K : PySem.W.Frag} (hK : X.K = K) : MtR X "tuple.index" (rIndexT K) := by
  subst hK
  intro pins s σ H x xs v us Q I rx rs h
  obtain ⟨p, ys, z, j, rfl, rfl, hq, hy, hno, q⟩ := h
  cases rx
  obtain ⟨u, rfl, t, rfl⟩ := vals1 rs
  obtain ⟨its, r, pl, hz⟩ := I.tuple hq
  obtain ⟨⟨cls, dd, dt, sl⟩, ho, hc, n, hd⟩ := pl
  simp only at hc hd
  subst hc
  subst hd
  have hl : its.toArray.size = ys.length := by rw [List.size_toArray, ← r.length, List.length_map]
  have hj : j < its.toArray.size := by rw [hl]; exact (List.getElem?_eq_some_iff.mp hy).1
  have at' : ∀ (m : Nat) (hm : m < its.toArray.size), ∃ y t', ys[m]? = some y ∧ its.toArray[m] = Value.int y t' := fun m hm => by
    have hm' : m < ys.length := by rw [← hl]; exact hm
    obtain ⟨w, hw, t', hw'⟩ := r.get (i := m) (x := .int ys[m]) (by simp [hm'])
    refine ⟨ys[m], t', List.getElem?_eq_getElem hm', ?_⟩
    have e := (List.getElem?_eq_some_iff.mp hw).2
    rw [← hw', ← e]
    simp
  refine call_meets PySem.F.slot_tuple_index ⟨_, ho, rfl⟩ PySem.F.entry_tuple_index (PySem.F.args_tuple_index_2 _ _) (TI.tuple_indexAt p its.toArray n dd sl (.int z t) (eqU (.int z)) j hj ?_ ?_)
    ⟨ho, fun w hw => mem_eqAt (x := .int z) ⟨t, rfl⟩ rfl r (flat_intsT ys) w (by simpa using hw), ⟨.int (j : Nat), H, I.tok _, ⟨_, rfl⟩, q⟩⟩
  · obtain ⟨y, t', h1, h2⟩ := at' j hj
    rw [hy] at h1
    cases h1
    rw [h2]
    show (z == z) = true
    exact beq_self_eq_true z
  · intro m hm hmj
    obtain ⟨y, t', h1, h2⟩ := at' m hm
    rw [h2]
    show (y == z) = false
    exact beq_eq_false_iff_ne.mpr fun e => hno m hmj (e ▸ h1)
end
/-! ### a tuple whose object is known: it has no attributes of its own -/
def TupF (H : Hp) (a : Addr) (xs : List V) : Prop := ∃ ob : Obj, H a = some (.frz ob (.tup xs)) ∧ ob.dict = none
theorem TupF.sq {K : PySem.W.Frag} {H : Hp} {a : Addr} {xs : List V} (h : TupF H a xs) : SqT K H a xs := let ⟨ob, e, _⟩ := h; .inl (.inr ⟨ob, e⟩)
theorem TupF.ext {H J : Hp} {a : Addr} {xs : List V} (s : ∀ b o, H b = some o → J b = some o) (h : TupF H a xs) : TupF J a xs := let ⟨ob, e, n⟩ := h; ⟨ob, s _ _ e, n⟩
section
variable {X : Cx} {o e : Expr} {es : List Expr} {to : TE} {t : TA} {name : Str} {apos cpos : Pos} {id : String} {r : V → List V → Hp → VK → Prop}
theorem call_tuple_F {K : PySem.W.Frag} (hK : X.K = K) : CallR X (.type "tuple") (fun xs H Q => ∃ p ys, xs = [.ref p] ∧ SqL K H p ys ∧ ∀ (l : Addr) (ob : Obj), H l = none → ob.dict = none → Q (.ref l) (upd H l (.frz ob (.tup ys)))) := by
  subst hK
  intro pins s σ H xs us Q I r h
  obtain ⟨p, ys, rfl, hq, q⟩ := h
  obtain ⟨u, rfl, rx⟩ := vals1 r
  cases rx
  obtain ⟨its, r', pl, hz⟩ := I.list hq
  have hlen := r'.length
  refine call_tuple_list pl.isList (fun h' kp => ?_) (by simp only [List.size_toArray] <;> omega)
  have I1 : Inv X pins σ H { s with heap := h' } := I.kept (t' := s.toks) kp
  have I2 : Inv X pins σ (upd H h'.objs.size (.frz { cls := .type "tuple", data := .seq its.toArray } (.tup ys))) { s with heap := h'.push { cls := .type "tuple", data := .seq its.toArray } } :=
    I1.laid (t' := s.toks) (fun b o e => Heap.get?_push_of_some _ e) (Nat.le_refl _) (show ObjOk X.prog X.w _ _ _ (.frz _ (.tup ys)) from ⟨Heap.get?_push_size _ rfl, hz, its, r', IsTup.new _ _⟩)
  exact ⟨.ref h'.objs.size, _, I2, rfl, q _ _ (I1.hok.fresh (Nat.le_refl _)) rfl⟩
def tBT (r : V → List V → Hp → VK → Prop) (to : TE) (t : TA) : TE := fun σ H Q => to σ H fun x H1 => (∃ p xs, x = .ref p ∧ TupF H1 p xs) ∧ t σ H1 fun vs H2 => r x vs H2 Q
theorem pe_bmT (pa : PlainAttrs "tuple") (slot : Slot "tuple" name id) (hty : typeOf (.builtin id) = pure (.type "method_descriptor")) (hm : MtR X id r) (ho : PE X o to) (ha : PA X (e :: es) t)
    (hbase : attributeBase o name X.env (eval o X.env) = eval o X.env := by rfl)
    (hfew : ((backTo cpos (starEach (e :: es) X.env)).all (fun x => !x.1) && (backToKw cpos (keywordEach [] X.env)).all (fun x => x.1.isSome)
      && decide ((e :: es).length + ([] : List Keyword).length + (if ([] : List Keyword).isEmpty then 0 else 1) < 30)) = true := by rfl)
    (hline : (apos.endLine == cpos.line) = true := by rfl) (hs : starEach (e :: es) X.env = (false, eval e X.env) :: starEach es X.env := by rfl) (hplain : (backTo cpos (starEach es X.env)).any (·.1) = false := by rfl) :
    PE X (.Call (.Attribute o name apos) (e :: es) [] cpos) (tBT r to t) := by
  refine ⟨fun pins s σ H Q I h => ?_⟩
  refine wpAny_Call_method_late hbase hfew hline rfl (thn (ho.run pins s σ H _ I h) fun v s1 ⟨x, H1, I1, r1, ⟨p, xs, ex, ob, hF, hd⟩, q1⟩ => ?_)
  subst ex
  cases r1
  obtain ⟨e1, _, its, _, o', e2, hc, _⟩ := (show ObjOk X.prog X.w H1 s1.heap p (.frz ob (.tup xs)) from I1.hok p _ hF)
  rw [e1] at e2
  cases e2
  refine ⟨"tuple", id, pa, slot, hty, ⟨ob, e1, hc⟩, fun a ea => ?_, ?_⟩
  · cases ea
    exact ⟨ob, e1, hd⟩
  have hA := ha.run cpos pins s1 σ H1 _ I1 q1
  rw [hs] at hA ⊢
  refine Calls.callWith_builtin (by show (false || (backTo cpos (starEach es X.env)).any (·.1)) = false; rw [hplain] <;> rfl) (Calls.evalArgs_plain ?_)
  exact thn hA fun us s2 ⟨vs, H2, I2, r2, q2⟩ => hm pins s2 σ H2 (.ref p) vs _ us Q I2 rfl r2 q2
end
end KX

set_option Elab.async false
set_option linter.all false
set_option maxRecDepth 100000
set_option maxHeartbeats 4000000
/-! Own layer: min of a list of pairs (int, list of ints): an item with the least first part. -/
namespace KX
open PySem PySem.Spec PyProof.Rows L2
/-- v is the pair of p's number and a list of p's numbers -/
def PairAt (H : Hp) (v : V) (p : Int × List Int) : Prop := ∃ t m, v = .ref t ∧ H t = some (.tup [.int p.1, .ref m]) ∧ H m = some (.lst (p.2.map V.int))
theorem PairAt.dq {H : Hp} {v : V} {p : Int × List Int} (h : PairAt H v p) : Dq H v (PySem.W.Datum.toD p) := by
  obtain ⟨t, m, rfl, e1, e2⟩ := h
  have go : ∀ l : List Int, DqAll H (l.map V.int) (l.map PySem.W.Datum.toD) := fun l => by
    induction l with
    | nil => exact .nil
    | cons x l ih => exact .cons (.int x) ih
  exact .tup e1 (.cons (.int _) (.cons (.lst e2 (go _)) .nil))
theorem pairs_dq {H : Hp} {vs : List V} {ps : List (Int × List Int)} (h : Paired (PairAt H) vs ps) : DqAll H vs (ps.map PySem.W.Datum.toD) := by
  induction h with
  | nil => exact .nil
  | cons h _ ih => exact .cons h.dq ih
theorem lt_fst {p q : Int × List Int} (h : PySem.W.DatumOrd.lt p q = true) : p.1 ≤ q.1 := by
  have h : (if p.1 = q.1 then PySem.W.DatumOrd.lt p.2 q.2 else decide (p.1 < q.1)) = true := h
  split at h
  · rename_i e; rw [e]; exact Int.le_refl _
  · exact Int.le_of_lt (of_decide_eq_true h)
theorem nlt_fst {p q : Int × List Int} (h : ¬ PySem.W.DatumOrd.lt p q = true) : q.1 ≤ p.1 := by
  have h : ¬ (if p.1 = q.1 then PySem.W.DatumOrd.lt p.2 q.2 else decide (p.1 < q.1)) = true := h
  split at h
  · rename_i e; rw [e]; exact Int.le_refl _
  · have : ¬ p.1 < q.1 := fun z => h (decide_eq_true z)
    omega
theorem minOf_fst : ∀ (xs : List (Int × List Int)) (x : Int × List Int), (PySem.W.minOf x xs).1 ≤ x.1 ∧ ∀ q, q ∈ xs → (PySem.W.minOf x xs).1 ≤ q.1
  | [], x => ⟨Int.le_refl _, fun _ z => nomatch z⟩
  | y :: xs, x => by
    have e : PySem.W.minOf x (y :: xs) = PySem.W.minOf (if PySem.W.DatumOrd.lt y x = true then y else x) xs := rfl
    rw [e]
    obtain ⟨h1, h2⟩ := minOf_fst xs (if PySem.W.DatumOrd.lt y x = true then y else x)
    by_cases c : PySem.W.DatumOrd.lt y x = true
    · rw [if_pos c] at h1 h2 ⊢
      refine ⟨Int.le_trans h1 (lt_fst c), fun q hq => ?_⟩
      rcases List.mem_cons.mp hq with rfl | hq
      · exact h1
      · exact h2 q hq
    · rw [if_neg c] at h1 h2 ⊢
      refine ⟨h1, fun q hq => ?_⟩
      rcases List.mem_cons.mp hq with rfl | hq
      · exact Int.le_trans h1 (nlt_fst c)
      · exact h2 q hq
theorem minOf_mem : ∀ (xs : List (Int × List Int)) (x : Int × List Int), PySem.W.minOf x xs ∈ x :: xs
  | [], x => List.mem_cons_self
  | y :: xs, x => by
    have e : PySem.W.minOf x (y :: xs) = PySem.W.minOf (if PySem.W.DatumOrd.lt y x = true then y else x) xs := rfl
    rw [e]
    by_cases c : PySem.W.DatumOrd.lt y x = true
    · rw [if_pos c]
      exact List.mem_cons_of_mem _ (minOf_mem xs y)
    · rw [if_neg c]
      rcases List.mem_cons.mp (minOf_mem xs x) with h | h
      · rw [h]; exact List.mem_cons_self
      · exact List.mem_cons_of_mem _ (List.mem_cons_of_mem _ h)
theorem paired_get {α β : Type} {R : α → β → Prop} : ∀ {as : List α} {bs : List β} {i : Nat} {a : α}, Paired R as bs → as[i]? = some a → ∃ b, bs[i]? = some b ∧ R a b
  | _, _, _, _, .nil, e => by simp at e
  | _, _, 0, _, .cons h _, e => by simp at e; subst e; exact ⟨_, rfl, h⟩
  | _, _, i + 1, a, .cons _ t, e => by
    obtain ⟨b, h1, h2⟩ := paired_get (i := i) (a := a) t (by simpa using e)
    exact ⟨b, by simpa using h1, h2⟩
section
variable {X : Cx}
/-- min(xs), xs a list of pairs (int, list of ints) -/
def rMinP (K : PySem.W.Frag) : List V → Hp → VK → Prop := fun xs H Q => ∃ (l : Addr) (vs : List V) (ps : List (Int × List Int)), xs = [.ref l] ∧ SqL K H l vs ∧ Paired (PairAt H) vs ps ∧ vs ≠ [] ∧
  ∀ (j : Nat) (v : V) (p : Int × List Int), vs[j]? = some v → ps[j]? = some p → (∀ q, q ∈ ps → p.1 ≤ q.1) → Q v H
theorem call_minP {K : PySem.W.Frag} (hK : X.K = K) (hc : X.calm = true) (hu : X.A.units + 64 < cLine) : CallR X (.builtin "min") (rMinP K) := by
  subst hK
  intro pins s σ H xs us Q I r h
  obtain ⟨l, vs, ps, rfl, hs, hp, ne, q⟩ := h
  obtain ⟨its, rv, hl, _⟩ := I.list hs
  rw [Vals.ref1 r]
  match ps, vs, hp, ne with
  | [], _, .nil, ne => exact absurd rfl ne
  | p :: ps, vs, hp, _ =>
    obtain ⟨as, hr, _⟩ := Dq.readsAll I _ _ _ (pairs_dq hp) rv
    refine PySem.W.min_list_datum (x := p) (xs := ps) (I.ok.hd hc) hl.isList ⟨as, by simpa using hr⟩ (by show X.A.units + 1 + _ < _; simp only [PySem.W.Datum.depth]; omega) fun i u h' tk hi hm hk => ?_
    have hi' : its[i]? = some u := by simpa using hi
    have hlen := rv.length
    have il : i < its.length := (List.getElem?_eq_some_iff.mp hi').1
    obtain ⟨u', e', r'⟩ := rv.get (List.getElem?_eq_getElem (show i < vs.length by omega))
    rw [hi'] at e'
    cases e'
    obtain ⟨pi, hpi, hat⟩ := paired_get hp (List.getElem?_eq_getElem (show i < vs.length by omega))
    refine ⟨vs[i], H, I.kept hk, r', q i _ pi (List.getElem?_eq_getElem _) hpi fun z hz => ?_⟩
    obtain ⟨bs, rd⟩ := hm
    obtain ⟨cs, rd', _⟩ := Dq.reads I _ _ _ hat.dq r'
    obtain ⟨e, _⟩ := PyProof.Rows.reads_det (fun b o e _ => hk b o e) rd' rd
    have e1 : PySem.W.minOf p ps = pi := by
      have : decide (PySem.W.minOf p ps = pi) = true := by rw [← PySem.W.Datum.eqv, e]; exact PySem.SeqAt.eqv_refl_plain _ (PySem.W.Datum.plain _)
      exact of_decide_eq_true this
    rw [← e1]
    rcases List.mem_cons.mp hz with rfl | hz
    · exact (minOf_fst ps _).1
    · exact (minOf_fst ps _).2 z hz
end
end KX

set_option Elab.async false
set_option linter.all false
set_option maxRecDepth 100000
set_option maxHeartbeats 4000000
/-! Own layer: dict(xs) of a list of pairs whose first parts are tuples of numbers and texts. -/
namespace KX
open PySem PySem.Spec PyProof.Rows L2
section
variable {X : Cx}
/-- T is the pair of a key's tuple and a value -/
def PT (K : PySem.W.Frag) (H : Hp) (T : Addr) (kv : List Key × V) : Prop := ∃ b, SqT K H T [.ref b, kv.2] ∧ H b = some (.tup (kv.1.map kV))
theorem pairs_ofT {pins : List (Addr × Obj)} {σ : L2.St} {H : Hp} {s : Shared} (I : Inv X pins σ H s) : ∀ {Ts : List Addr} {kvs : List (List Key × V)}, Paired (PT X.K H) Ts kvs →
    ∃ prs : List (List Key × Addr × Value), KT H kvs prs ∧ prs.length = Ts.length ∧ ∀ (j : Nat) (q : List Key × Addr × Value), prs[j]? = some q → ∃ T, Ts[j]? = some T ∧ s.heap.IsTuple T #[.ref q.2.1, q.2.2]
  | _, _, .nil => ⟨[], .nil, rfl, fun j q e => by simp at e⟩
  | _, _, .cons (a := T) (b := kv) h t => by
    obtain ⟨prs, r, hl, hp⟩ := pairs_ofT I t
    obtain ⟨b, hT, hb⟩ := h
    obtain ⟨its, rv, ht, _⟩ := I.tuple hT
    obtain ⟨u, y, ei, ru, ry⟩ := vals2 rv
    subst ei
    obtain rfl : u = .ref b := ru
    refine ⟨(kv.1, b, y) :: prs, .cons ⟨rfl, hb, ry⟩ r, by rw [List.length_cons, List.length_cons, hl], fun j q e => ?_⟩
    cases j with
    | zero =>
      have e' : (kv.1, b, y) = q := Option.some.inj e
      subst e'
      exact ⟨T, rfl, ht⟩
    | succ j =>
      obtain ⟨T', e1, e2⟩ := hp j q (by simpa using e)
      exact ⟨T', by simpa using e1, e2⟩
theorem call_dictPT {K : PySem.W.Frag} (hK : X.K = K) (hcalm : X.calm = true) (hu : X.A.units + 64 < cLine) : CallR X (.type "dict") (fun xs H Q => ∃ (a : Addr) (Ts : List Addr) (kvs : List (List Key × V)), xs = [.ref a] ∧ SqL K H a (Ts.map V.ref) ∧ Paired (PT K H) Ts kvs ∧ (kvs.map (·.1)).Nodup ∧
    ∀ p, H p = none → Q (.ref p) (upd H p (.dT kvs))) := by
  subst hK
  intro pins s σ H xs us Q I r q
  obtain ⟨a, Ts, kvs, ex, hq, hp, hnd, q⟩ := q
  subst ex
  obtain ⟨u, eu, rx⟩ := vals1 r
  subst eu
  cases rx
  obtain ⟨its, rv, pl, hz⟩ := I.list hq
  have ei := refs_at rv
  subst ei
  rw [List.length_map] at hz
  obtain ⟨prs, rel, hl, hpr⟩ := pairs_ofT I hp
  obtain ⟨o, n, ho, hc, hd, hdat⟩ := pl
  have hkl : kvs.length = prs.length := rel.length
  have hfst : prs.map (·.1) = kvs.map (·.1) := by
    have : ∀ {l : List (List Key × V)} {m : List (List Key × Addr × Value)}, KT H l m → m.map (·.1) = l.map (·.1) := fun h => by
      induction h with
      | nil => rfl
      | cons h _ ih => rw [List.map_cons, List.map_cons, ih, h.1]
    exact this rel
  have gd : ∀ j T, Ts[j]? = some T → Ts.getD j 0 = T := fun j T e => by rw [List.getD_eq_getElem?_getD, e]; rfl
  refine call_dict_pairsH (knd := tupleKind (mixKind X.prog X.w)) (ps := prs) (PairArg.list a (Ts.map Value.ref).toArray (fun j => Ts.getD j 0) (prs.map fun z => (Value.ref z.2.1, z.2.2))) (I.ok.hd hcalm) (tupleKind_room_in1 (by show X.A.units + 1 + 1 < cLine; omega)) ⟨⟨o, n, ho, hc, hd, hdat⟩, ?_, fun j k v e => ?_⟩ ⟨by rw [List.length_map], fun i key v e => ?_⟩ (fun h' hk x hx => ?_) (by rw [List.length_map]; omega) fun h' tk hd' hk => ?_
  · simp [hl]
  · rw [List.getElem?_map] at e
    obtain ⟨z, hz', e⟩ := Option.map_eq_some_iff.mp e
    cases e
    obtain ⟨T, hT, ht⟩ := hpr j z hz'
    show (List.map Value.ref Ts).toArray[j]? = some (Value.ref (Ts.getD j 0)) ∧ PySem.PairAt s.heap (Ts.getD j 0) (Value.ref z.snd.fst) z.snd.snd
    rw [gd j T hT]
    exact ⟨by simp [hT], .inl ht⟩
  · have e : (prs.map fun z => (Value.ref z.2.1, z.2.2))[i]? = some (key, v) := e
    rw [List.getElem?_map] at e
    obtain ⟨z, hz', e⟩ := Option.map_eq_some_iff.mp e
    cases e
    exact ⟨z.1, z.2.1, hz', rfl⟩
  · have all : ∀ {l : List (List Key × V)} {m : List (List Key × Addr × Value)}, KT H l m → ∀ x ∈ m, (tupleKind (mixKind X.prog X.w)).is s.heap x.1 x.2.1 := by
      intro l m q
      induction q with
      | nil => intro x hx; exact nomatch hx
      | cons hq t ih =>
        intro x hx
        rcases List.mem_cons.mp hx with e | hx
        · subst e
          exact key_of I.hok (by rw [← hq.1]; exact hq.2.1)
        · exact ih x hx
    obtain ⟨ob, its, n', h1, h2⟩ := all rel x hx
    exact ⟨ob, its, n', hk _ _ (Nat.ne_of_lt (Heap.lt_size h1)) (by simp) h1, h2⟩
  · rw [storedAllH_nil_of_nodup prs (by rw [hfst]; exact hnd)] at hd'
    have hm : (s.heap.objs.size == sysModules) = false := beq_eq_false_iff_ne.mpr (Nat.ne_of_gt I.big)
    have k0 : ∀ b u, s.heap.get? b = some u → h'.get? b = some u := fun b u e => hk b u (by simp) e
    obtain ⟨o1, es, ep, g1, g2, g3, g4, _, g6⟩ := hd'
    have hnone := I.hok.fresh (Nat.le_refl s.heap.objs.size)
    exact ⟨.ref s.heap.objs.size, upd H s.heap.objs.size (.dT kvs), I.laid (t' := tk) k0 (Nat.le_refl _) (show ObjOk X.prog X.w _ _ _ (.dT kvs) from ⟨by omega, hm, prs, rel.keeps fun b ys e => by rw [upd_ne (ne_of_none e hnone)]; exact e, o1, es, ep, g1, g2, g3, g4, g6⟩), rfl, q _ hnone⟩
end
end KX

set_option Elab.async false
set_option linter.all false
set_option maxRecDepth 100000
set_option maxHeartbeats 4000000
/-! Own layer: list(enumerate(l)), l a list. -/
namespace KX
open PySem PySem.Spec PyProof.Rows L2
theorem enum_no_len : typeLookup (.type "enumerate") "__len__" = pure none := am_miss_of_fast (by decide +kernel)
theorem enum_no_hint : typeLookup (.type "enumerate") "__length_hint__" = pure none := am_miss_of_fast (by decide +kernel)
/-- the walk stands at i -/
def EnS (e it : Addr) (i : Nat) (h : Heap) : Prop := (∃ old, IsEnum h e it i old) ∨ ∃ T old f oT, IsEnumHeld h e it i old T f ∧ h.get? T = some oT ∧ T ≠ e ∧ T ≠ it
/-- the pairs so far, one behind the other -/
def PrS (items : Array Value) (N i : Nat) (h : Heap) : Prop := ∀ j x, j < i → items[j]? = some x → ∃ t, h.get? (N + j) = some { cls := .type "tuple", data := .seq #[.int j t, x] }
def refsTo (N i : Nat) : List Value := (List.range i).map fun j => Value.ref (N + j)
theorem nA0 {n j i : Nat} (h : i < n) : n + j ≠ i := by omega
theorem nA1 {S j n : Nat} (hj : j < n) : ¬ S + 1 + j = S ∧ (S + 1 ≤ S + 1 + j ∧ S + 1 + j < S + 1 + n) ∧ S + 1 + j - (S + 1) = j := by omega
theorem nA2 {b n m : Nat} (h : n + 1 ≤ b ∧ b < n + 1 + m) : b - (n + 1) < m ∧ n + 1 + (b - (n + 1)) = b := by omega
theorem refsTo_next (N i : Nat) : refsTo N (i + 1) = refsTo N i ++ [.ref (N + i)] := by unfold refsTo; rw [List.range_succ, List.map_append]; rfl
theorem refsTo_len (N i : Nat) : (refsTo N i).length = i := by unfold refsTo; rw [List.length_map, List.length_range]
section
variable {prog : Program} {w : World} {A : Around} {R : Result → Shared → Prop} {e it l S : Addr} {items : Array Value} {N : Nat} {res : Value}
theorem enum_loop (hh : A.in1.handled = none) (hz : items.size ≤ sizeLine) (hei : e ≠ it) (hle : l ≠ e) (hli : l ≠ it) (hSe : S ≠ e) (hSi : S ≠ it) (hSl : S ≠ l) (bS : S < N) (be : e < N) (bi : it < N) :
    ∀ (k i : Nat) (s : Shared) (acc : Array Value) (c : Nat), acc.toList = refsTo N i → items.size - i = k → i ≤ items.size → s.heap.objs.size = N + i → EnS e it i s.heap → s.heap.IsListIter it l i → s.heap.IsList l items →
      s.heap.get? S = some { cls := .type "list", dict := none, data := .seq acc c, slots := #[] } → PrS items N i s.heap →
      (∀ h' tk (acc' : Array Value) c', acc'.toList = refsTo N items.size → (∀ b o, b ≠ e → b ≠ it → b ≠ S → s.heap.get? b = some o → h'.get? b = some o) → h'.get? S = some { cls := .type "list", dict := none, data := .seq acc' c', slots := #[] } →
        PrS items N items.size h' → R (.ok (.ret res)) { s with heap := h', toks := tk }) →
      codeAny (model prog w) A (.builtin "list.extend.loop" ⟨[.ref S, .ref e, res], []⟩) R s := by
  intro k
  induction k with
  | zero =>
    intro i s acc c hacc hk hi hN hst hit hl hS hP hR
    have hin : i = items.size := by omega
    subst hin
    refine codeAny_builtin F.entry_extend_loop ?_
    rw [Around.under_plainId F.plain_extend_loop _]
    show wpAny _ A.in1 (pyNext (.ref e) >>= _) _ _ s
    have fin : ∀ h', Heap.ExtBut it s.heap h' → R (.ok (.ret res)) { s with heap := h' } := fun h' x => by
      refine hR h' s.toks acc c hacc (fun b o _ n _ q => x b o n q) (x S _ hSi hS) fun j y hj hy => ?_
      obtain ⟨t, q⟩ := hP j y hj hy
      exact ⟨t, x _ _ (nA0 bi) q⟩
    refine wpAny_bind ?_
    rcases hst with ⟨old, he⟩ | ⟨T, old, f, oT, he, hT, _, _⟩
    · exact wpAny_pyNext_enum_end hh he hit hl (Array.getElem?_eq_none (Nat.le_refl _)) fun h' hx => wpAny_pure (fin h' hx)
    · exact wpAny_pyNext_enum_end_held hh he hit hl (Array.getElem?_eq_none (Nat.le_refl _)) fun h' hx => wpAny_pure (fin h' hx)
  | succ k ih =>
    intro i s acc c hacc hk hi hN hst hit hl hS hP hR
    have hlt : i < items.size := by omega
    refine codeAny_builtin F.entry_extend_loop ?_
    rw [Around.under_plainId F.plain_extend_loop _]
    show wpAny _ A.in1 (pyNext (.ref e) >>= _) _ _ s
    have hx : items[i]? = some items[i] := Array.getElem?_eq_getElem hlt
    have go : ∀ h', EnS e it (i + 1) h' → h'.IsListIter it l (i + 1) → h'.get? s.heap.objs.size = some { cls := .type "tuple", data := .seq #[.int i s.toks, items[i]] } → h'.objs.size = s.heap.objs.size + 1 →
        (∀ b o, b ≠ e → b ≠ it → s.heap.get? b = some o → h'.get? b = some o) →
        wpAny (model prog w) A.in1 (updateSeq S (·.push (.ref s.heap.objs.size)) >>= fun _ => again (.builtin "list.extend.loop" ⟨[.ref S, .ref e, res], []⟩))
          (fun fin s' => match fin with | .done f => R (.ok f) s' | .again c' => c'.quiet = true ∧ codeAny (model prog w) A c' R s') (fun e s' => R (.error e) s') { s with heap := h', toks := s.toks + 1 } := by
      intro h' st' it' hT hsz hk'
      have hS' := hk' S _ hSe hSi hS
      have sz : acc.size = i := by rw [← Array.length_toList, hacc, refsTo_len]
      refine wpAny_bind ?_
      have nN : N + i ≠ S := nA0 bS
      have oth : ∀ b, b ≠ S → (h'.update S (Obj.mapSeq (·.push (.ref s.heap.objs.size)))).get? b = h'.get? b := fun b hb => Heap.get?_update_other _ _ (fun z => hb z.symm)
      refine wpAny_updateSeq hS' rfl (wpAny_pure ⟨plainId_quiet F.plain_extend_loop _, ih (i + 1) _ (acc.push (.ref s.heap.objs.size)) _ (by rw [Array.toList_push, hacc, refsTo_next, hN]) (by omega) hlt ?_ ?_ ?_ ?_ (Heap.get?_update_self _ hS' rfl) ?_ fun h2 tk acc2 c' ha2 hk2 hS2 hP2 => ?_⟩) (by rw [sz]; omega) (by show (acc.push _).size ≤ _; rw [Array.size_push, sz]; omega)
      · show (h'.update S _).objs.size = _
        rw [Heap.size_update, hsz]; omega
      · rcases st' with ⟨old, q⟩ | ⟨T, old, f, oT, q, hT', n1, n2⟩
        · exact .inl ⟨old, (oth e (Ne.symm hSe)).trans q⟩
        · refine .inr ⟨T, old, f, ?_⟩
          by_cases z : T = S
          · rw [z]
            exact ⟨_, (oth e (Ne.symm hSe)).trans (z ▸ q), Heap.get?_update_self _ hS' rfl, z ▸ n1, z ▸ n2⟩
          · exact ⟨oT, (oth e (Ne.symm hSe)).trans q, (oth T z).trans hT', n1, n2⟩
      · obtain ⟨o, q, r⟩ := it'
        exact ⟨o, (oth it (Ne.symm hSi)).trans q, r⟩
      · obtain ⟨o, q, r⟩ := hl
        exact ⟨o, (oth l (Ne.symm hSl)).trans (hk' l o hle hli q), r⟩
      · intro j y hj hy
        by_cases z : j = i
        · subst z
          rw [hx] at hy
          cases hy
          exact ⟨s.toks, (oth _ (nA0 bS)).trans (by rw [← hN]; exact hT)⟩
        · obtain ⟨t, q⟩ := hP j y (by omega) hy
          exact ⟨t, (oth _ (nA0 bS)).trans (hk' _ _ (nA0 be) (nA0 bi) q)⟩
      · exact hR h2 tk acc2 c' ha2 (fun b o n1 n2 n3 q => hk2 b o n1 n2 n3 ((oth b n3).trans (hk' b o n1 n2 q))) hS2 hP2
    refine wpAny_bind ?_
    rcases hst with ⟨old, he⟩ | ⟨T, old, f, oT, he, hT, n1, n2⟩
    · refine wpAny_pyNext_enum_item he hit hl hx hei fun h' ho hit' hT hsz hk' => ?_
      exact go h' (.inr ⟨s.heap.objs.size, items[i], false, _, ho, hT, by rw [hN]; exact nA0 be, by rw [hN]; exact nA0 bi⟩) hit' hT hsz hk'
    · refine wpAny_pyNext_enum_item_held he hT n1 n2 hit hl hx hei fun h' ho hit' hT' hsz hk' => ?_
      exact go h' (.inr ⟨T, old, true, oT, ho, hk' T oT n1 n2 hT, n1, n2⟩) hit' hT' hsz hk'
end
section
variable {prog : Program} {w : World} {A : Around} {E : Value → Shared → Prop} {R : Result → Shared → Prop} {s : Shared} {e it l S : Addr} {items : Array Value}
theorem extend_enum (hh : A.in1.handled = none) (hz : items.size ≤ sizeLine) (hei : e ≠ it) (hle : l ≠ e) (hli : l ≠ it) (hSe : S ≠ e) (hSi : S ≠ it) (hSl : S ≠ l) (he : IsEnum s.heap e it 0 .none) (hit : s.heap.IsListIter it l 0) (hl : s.heap.IsList l items)
    (res : Value) (c₀ : Nat) (hS : s.heap.get? S = some { cls := .type "list", data := .seq #[] c₀ })
    (hR : ∀ h' tk (acc' : Array Value) c', acc'.toList = refsTo s.heap.objs.size items.size → (∀ b o, b ≠ e → b ≠ it → b ≠ S → s.heap.get? b = some o → h'.get? b = some o) → h'.get? S = some { cls := .type "list", dict := none, data := .seq acc' c', slots := #[] } →
        PrS items s.heap.objs.size items.size h' → R (.ok (.ret res)) { s with heap := h', toks := tk }) :
    wpAny (model prog w) A.in1 (Builtin.List.listExtendWith (.ref S) (.ref e) res)
      (fun fin s' => match fin with | .done f => R (.ok f) s' | .again c' => c'.quiet = true ∧ codeAny (model prog w) A c' R s') (fun e s' => R (.error e) s') s := by
  have hT : s.TypeIs (.ref e) "enumerate" := ⟨_, he, rfl⟩
  unfold Builtin.List.listExtendWith
  refine wpAny_bind (wpAny_typeOf hT ?_)
  have h1 : Builtin.List.listSameRef (.ref S) (.ref e) = false := by simp [Builtin.List.listSameRef, hSe]
  have h2 : (Value.type "enumerate" == Value.type "list") = false := by decide
  have h3 : (Value.type "enumerate" == Value.type "tuple") = false := by decide
  simp only [h1, h2, h3, Bool.or_false, Bool.false_eq_true, if_false]
  refine wpAny_bind (wpAny_pyIter_enum he ?_)
  refine wpAny_bind (wpAny_holding ?_)
  unfold Builtin.List.listLengthHint
  refine wpAny_bind (wpAny_specialOf hT enum_no_len ?_)
  show wpAny _ A.in1 (specialOf (Value.ref e) (Str.ofString "__length_hint__") >>= _) _ _ _
  refine wpAny_bind (wpAny_specialOf hT enum_no_hint ?_)
  refine wpAny_pure ?_
  show wpAny _ A.in1 (rule "list.extend.makes-room" >>= fun _ => Builtin.List.listTouch (.ref S) >>= fun _ =>
    again (.builtin "list.extend.loop" ⟨[.ref S, .ref e, res], []⟩)) _ _ _
  refine wpAny_bind (wpAny_rule ?_)
  refine wpAny_bind ?_
  show wpAny _ A.in1 (updateSeq S (·.push .none) >>= fun _ => updateSeq S (·.pop)) _ _ _
  refine wpAny_bind (wpAny_updateSeq hS rfl ?_)
  have hS₂ := Heap.get?_update_self (Obj.mapSeq (·.push Value.none)) hS rfl
  refine wpAny_updateSeq (hz := by seq_fits) hS₂ rfl ?_
  have hS₃ := Heap.get?_update_self (Obj.mapSeq (·.pop)) hS₂ rfl
  have oth : ∀ b o, b ≠ S → s.heap.get? b = some o → ((s.heap.update S (Obj.mapSeq (·.push Value.none))).update S (Obj.mapSeq (·.pop))).get? b = some o :=
    fun b o hb e => (Heap.get?_update_other _ _ (Ne.symm hb)).trans ((Heap.get?_update_other _ _ (Ne.symm hb)).trans e)
  have sz : ((s.heap.update S (Obj.mapSeq (·.push Value.none))).update S (Obj.mapSeq (·.pop))).objs.size = s.heap.objs.size := by rw [Heap.size_update, Heap.size_update]
  have li := Heap.lt_size hS
  have le := Heap.lt_size he
  have lt : it < s.heap.objs.size := by obtain ⟨_, q, _⟩ := hit; exact Heap.lt_size q
  refine wpAny_pure ⟨plainId_quiet F.plain_extend_loop _, enum_loop (N := s.heap.objs.size) hh hz hei hle hli hSe hSi hSl li le lt items.size 0 _ #[] _ rfl (by omega) (Nat.zero_le _) (by show Array.size _ = _; rw [sz]; rfl) (.inl ⟨.none, oth e _ (Ne.symm hSe) he⟩)
    (by obtain ⟨o, q, r⟩ := hit; exact ⟨o, oth it _ (Ne.symm hSi) q, r⟩) (by obtain ⟨o, q, r⟩ := hl; exact ⟨o, oth l _ (Ne.symm hSl) q, r⟩) hS₃ (fun j x hj => absurd hj (Nat.not_lt_zero _)) fun h' tk acc' c' ha hk hS' hP => ?_⟩
  exact hR h' tk acc' c' (by rw [ha]) (fun b o n1 n2 n3 q => hk b o n1 n2 n3 (oth b o n3 q)) hS' hP
theorem list_init_enum (hh : A.in1.handled = none) (hz : items.size ≤ sizeLine) (hei : e ≠ it) (hle : l ≠ e) (hli : l ≠ it) (hSe : S ≠ e) (hSi : S ≠ it) (hSl : S ≠ l) (he : IsEnum s.heap e it 0 .none) (hit : s.heap.IsListIter it l 0) (hl : s.heap.IsList l items)
    (hS : s.heap.get? S = some { cls := .type "list", data := .seq #[] })
    (hR : ∀ h' tk (acc' : Array Value) c', acc'.toList = refsTo s.heap.objs.size items.size → (∀ b o, b ≠ e → b ≠ it → b ≠ S → s.heap.get? b = some o → h'.get? b = some o) → h'.get? S = some { cls := .type "list", dict := none, data := .seq acc' c', slots := #[] } →
        PrS items s.heap.objs.size items.size h' → R (.ok (.ret .none)) { s with heap := h', toks := tk }) :
    wpAny (model prog w) A.in1 (Builtin.«list.__init__» ⟨[.ref S, .ref e], []⟩)
      (fun fin s' => match fin with | .done f => R (.ok f) s' | .again c' => c'.quiet = true ∧ codeAny (model prog w) A c' R s') (fun e s' => R (.error e) s') s := by
  show wpAny _ A.in1 (do let old ← Builtin.List.listItems (.ref S); Builtin.List.listUpdate (.ref S) (fun _ => #[]); letGo old.toList.reverse; Builtin.List.listExtendWith (.ref S) (.ref e) .none) _ _ s
  refine wpAny_bind ?_
  unfold Builtin.List.listItems
  refine wpAny_bind (wpAny_seqItems hS rfl (wpAny_pure ?_))
  show wpAny _ A.in1 (updateSeq S (fun _ => #[]) >>= fun _ => letGo (#[] : Array Value).toList.reverse >>= fun _ => Builtin.List.listExtendWith (.ref S) (.ref e) .none) _ _ s
  refine wpAny_bind (wpAny_updateSeq hS rfl ?_)
  have hS₂ := Heap.get?_update_self (Obj.mapSeq (fun _ => (#[] : Array Value))) hS rfl
  have oth : ∀ b o, b ≠ S → s.heap.get? b = some o → (s.heap.update S (Obj.mapSeq (fun _ => (#[] : Array Value)))).get? b = some o :=
    fun b o hb e => (Heap.get?_update_other _ _ (Ne.symm hb)).trans e
  have sz : (s.heap.update S (Obj.mapSeq (fun _ => (#[] : Array Value)))).objs.size = s.heap.objs.size := Heap.size_update ..
  refine wpAny_bind (wpAny_letGo ?_)
  refine extend_enum hh hz hei hle hli hSe hSi hSl (oth e _ (Ne.symm hSe) he) (by obtain ⟨o, q, r⟩ := hit; exact ⟨o, oth it _ (Ne.symm hSi) q, r⟩) (by obtain ⟨o, q, r⟩ := hl; exact ⟨o, oth l _ (Ne.symm hSl) q, r⟩) .none _ hS₂ fun h' tk acc' c' ha hk hS' hP => ?_
  have sz' : ({ s with heap := s.heap.update S (Obj.mapSeq (fun _ => (#[] : Array Value))) } : Shared).heap.objs.size = s.heap.objs.size := sz
  rw [sz'] at ha hP
  exact hR h' tk acc' c' ha (fun b o n1 n2 n3 q => hk b o n1 n2 n3 (oth b o n3 q)) hS' hP
theorem call_list_enum {Q : Value → Shared → Prop} (hh : A.handled = none) (hz : items.size ≤ sizeLine) (hei : e ≠ it) (hle : l ≠ e) (hli : l ≠ it) (he : IsEnum s.heap e it 0 .none) (hit : s.heap.IsListIter it l 0) (hl : s.heap.IsList l items)
    (hQ : ∀ h' tk (acc' : Array Value) c', acc'.toList = refsTo (s.heap.objs.size + 1) items.size → (∀ b o, b ≠ e → b ≠ it → s.heap.get? b = some o → h'.get? b = some o) → h'.get? s.heap.objs.size = some { cls := .type "list", dict := none, data := .seq acc' c', slots := #[] } →
        PrS items (s.heap.objs.size + 1) items.size h' → Q (.ref s.heap.objs.size) { s with heap := h', toks := tk }) :
    wpAny (model prog w) A (call (.type "list") [.ref e]) Q E s := by
  refine callType_codes (Q₁ := fun obj s₁ => obj = .ref s.heap.objs.size ∧ s₁ = { s with heap := s.heap.push { cls := .type "list", data := .seq #[] } }) F.called_list (F.typeCall_list_1 _) F.entry_list_init
    (code_list_new _ ⟨rfl, rfl⟩) fun obj s₁ h₁ => ?_
  obtain ⟨rfl, rfl⟩ := h₁
  have hS : (s.heap.push { cls := .type "list", data := .seq #[] }).get? s.heap.objs.size = some { cls := .type "list", data := .seq #[] } := Heap.get?_push_size _ rfl
  have le := Heap.lt_size he
  have li : it < s.heap.objs.size := by obtain ⟨_, q, _⟩ := hit; exact Heap.lt_size q
  have ll : l < s.heap.objs.size := by obtain ⟨_, q, _⟩ := hl; exact Heap.lt_size q
  have pz : (s.heap.push { cls := .type "list", data := .seq #[] }).objs.size = s.heap.objs.size + 1 := Heap.size_push ..
  refine ⟨⟨_, hS, rfl⟩, F.args_list_init_2 _ _, list_init_enum (A := A.in1) (by simp [hh]) hz hei hle hli (Nat.ne_of_gt le) (Nat.ne_of_gt li) (Nat.ne_of_gt ll) (Heap.get?_push_of_some _ he)
    (by obtain ⟨o, q, r⟩ := hit; exact ⟨o, Heap.get?_push_of_some _ q, r⟩) (by obtain ⟨o, q, r⟩ := hl; exact ⟨o, Heap.get?_push_of_some _ q, r⟩) hS fun h' tk acc' c' ha hk hS' hP => ?_⟩
  have pz' : ({ s with heap := s.heap.push { cls := .type "list", data := .seq #[] } } : Shared).heap.objs.size = s.heap.objs.size + 1 := pz
  rw [pz'] at ha hP
  exact ⟨rfl, hQ h' tk acc' c' ha (fun b o n1 n2 q => hk b o n1 n2 (Nat.ne_of_lt (Heap.lt_size q)) (Heap.get?_push_of_some _ q)) hS' hP⟩
end
/-- list(enumerate(l)) -/
def tListEnum (K : PySem.W.Frag) (ta : TA) : TE := fun σ H Q => ta σ H fun vs H1 => ∃ (a : Addr) (xs : List V), vs = [.ref a] ∧ SqL K H1 a xs ∧ ∀ (p : Addr) (ts : List Addr) (H2 : Hp), ts.length = xs.length → H1 p = none → Same H1 H2 → H2 p = some (.lst (ts.map V.ref)) →
  (∀ j x, xs[j]? = some x → ∃ T, ts[j]? = some T ∧ H1 T = none ∧ T ≠ p ∧ H2 T = some (.tup [.int (j : Nat), x])) → Q (.ref p) H2
/-- the heap with the list at S, the pairs behind it -/
def enH (H : Hp) (S : Addr) (xs : List V) : Hp := fun b => if b = S then some (.lst ((List.range xs.length).map fun j => V.ref (S + 1 + j))) else if S + 1 ≤ b ∧ b < S + 1 + xs.length then some (.tup [.int ((b - (S + 1) : Nat) : Int), xs.getD (b - (S + 1)) .non]) else H b
theorem enH_S {H : Hp} {S : Addr} {xs : List V} : enH H S xs S = some (.lst ((List.range xs.length).map fun j => V.ref (S + 1 + j))) := if_pos rfl
theorem enH_T {H : Hp} {S : Addr} {xs : List V} {j : Nat} {x : V} (h : xs[j]? = some x) : enH H S xs (S + 1 + j) = some (.tup [.int (j : Nat), x]) := by
  have hj := (List.getElem?_eq_some_iff.mp h).1
  unfold enH
  have z := nA1 (S := S) hj
  rw [if_neg z.1, if_pos z.2.1]
  rw [z.2.2, List.getD_eq_getElem?_getD, h]; rfl
theorem enH_old {H : Hp} {S b : Addr} {xs : List V} (h : b < S) : enH H S xs b = H b := by
  unfold enH
  rw [if_neg (Nat.ne_of_lt h), if_neg (fun z => absurd z.1 (Nat.not_le_of_lt (Nat.lt_succ_of_lt h)))]
theorem vals_refs (N n : Nat) : Vals ((List.range n).map fun j => V.ref (N + j)) (refsTo N n) := by
  unfold refsTo
  induction (List.range n) with
  | nil => exact .nil
  | cons x r ih => exact .cons rfl ih
theorem vals_get : ∀ {xs : List V} {us : List Value} {j : Nat} {x : V}, Vals xs us → xs[j]? = some x → ∃ u, us[j]? = some u ∧ RelV x u
  | _, _, _, _, .nil, h => by simp at h
  | _, _, 0, _, .cons r _, h => by simp at h; subst h; exact ⟨_, rfl, r⟩
  | _, _, j + 1, _, .cons _ t, h => by
    obtain ⟨u, h1, h2⟩ := vals_get (j := j) t (by simpa using h)
    exact ⟨u, by simpa using h1, h2⟩
section
variable {X : Cx}
theorem pe_listEnum {K : PySem.W.Frag} (hK : X.K = K) {e : Expr} {ta : TA} {p p2 pos pos2 : Pos} (hc : X.calm = true) (hg : Gl X "list") (hm : X.mg "list" = none) (hg2 : Gl X "enumerate") (hm2 : X.mg "enumerate" = none) (ha : PA X [e] ta)
    (hs : starEach [e] X.env = [(false, eval e X.env)] := by rfl)
    (na : starEach [.Call (.Name "enumerate" p2) [e] [] pos2] X.env = (false, eval (.Call (.Name "enumerate" p2) [e] [] pos2) X.env) :: starEach [] X.env := by rfl) :
    PE X (.Call (.Name "list" p) [.Call (.Name "enumerate" p2) [e] [] pos2] [] pos) (tListEnum K ta) := by
  subst hK
  refine ⟨fun pins s σ H Q I h => ?_⟩
  refine Call_ (ld_blt I hg hm boot_list (PyProof.Rows.callWith_type1 (args_cons (Call_ (ld_blt I hg2 hm2 boot_enumerate (PyProof.Rows.callWith_type1 (thn (ha.run pos2 pins s σ H _ I h) fun us s1 ⟨vs, H1, I1, r1, q1⟩ => ?_) hs rfl))) na) na))
  obtain ⟨a, xs, ex, hq, q⟩ := q1
  subst ex
  cases r1 with
  | cons r rr =>
    cases rr
    cases r
    obtain ⟨its, rv, p', hz⟩ := I1.list hq
    refine call_enumerate_list p'.isList fun h' he hit hsz hk => args_nil ?_
    have hz' : its.toArray.size ≤ sizeLine := by rw [List.size_toArray, ← rv.length]; exact hz
    have ll : a < s1.heap.objs.size := by obtain ⟨_, q, _⟩ := p'.isList; exact Heap.lt_size q
    have nle : a ≠ s1.heap.objs.size + 1 := Nat.ne_of_lt (Nat.lt_succ_of_lt ll)
    refine call_list_enum (s := { s1 with heap := h' }) (I1.ok.hd hc) hz' (Nat.succ_ne_self _) nle (Nat.ne_of_lt ll) he hit (by obtain ⟨o, q, r⟩ := p'.isList; exact ⟨o, hk _ _ q, r⟩) fun h2 tk acc2 c' ha2 hk2 hS hP => ?_
    have hN : h'.objs.size = s1.heap.objs.size + 2 := hsz
    have zn : its.toArray.size = xs.length := by rw [List.size_toArray, ← rv.length]
    rw [zn] at ha2 hP
    have ea : acc2 = (refsTo (h'.objs.size + 1) xs.length).toArray := by rw [← ha2]
    rw [ea] at hS
    have keep : ∀ b o, s1.heap.get? b = some o → h2.get? b = some o := fun b o e => by
      have := Heap.lt_size e
      exact hk2 b o (Nat.ne_of_lt (Nat.lt_succ_of_lt this)) (Nat.ne_of_lt this) (hk b o e)
    have old : ∀ b o, H1 b = some o → enH H1 h'.objs.size xs b = some o := fun b o e => by
      rw [enH_old (Nat.lt_of_lt_of_le (I1.hok b o e).lt (by rw [hN]; exact Nat.le_add_right _ _))]; exact e
    have new : ∀ b, s1.heap.objs.size ≤ b → H1 b = none := fun b hb => I1.hok.fresh hb
    have ok : HOk X.prog X.w (enH H1 h'.objs.size xs) h2 := fun b u e => by
      by_cases hb : b < h'.objs.size
      · rw [enH_old hb] at e
        exact (I1.hok b u e).stay (fun c v _ q => keep c v q) (fun c q => old c _ q) (fun c ys q => old c _ q)
      · by_cases hS' : b = h'.objs.size
        · rw [hS', enH_S] at e
          cases e
          rw [hS']
          exact ⟨by rw [List.length_map, List.length_range]; exact hz, _, _, vals_refs _ _, hS⟩
        · unfold enH at e
          rw [if_neg hS'] at e
          by_cases hr : h'.objs.size + 1 ≤ b ∧ b < h'.objs.size + 1 + xs.length
          · rw [if_pos hr] at e
            cases e
            have hj : b - (h'.objs.size + 1) < xs.length := (nA2 hr).1
            have hx : xs[b - (h'.objs.size + 1)]? = some (xs.getD (b - (h'.objs.size + 1)) .non) := by rw [List.getD_eq_getElem?_getD, List.getElem?_eq_getElem hj]; rfl
            obtain ⟨v, hv, rl⟩ := vals_get rv hx
            obtain ⟨t, ht⟩ := hP (b - (h'.objs.size + 1)) v hj (by rw [List.getElem?_toArray]; exact hv)
            have eb : h'.objs.size + 1 + (b - (h'.objs.size + 1)) = b := (nA2 hr).2
            rw [show ({ s1 with heap := h' } : Shared).heap.objs.size + 1 + (b - (h'.objs.size + 1)) = b from eb] at ht
            exact ⟨by show 2 ≤ sizeLine; decide, [.int ((b - (h'.objs.size + 1) : Nat) : Int) t, v], .cons ⟨_, rfl⟩ (.cons rl .nil), ⟨_, ht, rfl, _, rfl⟩⟩
          · rw [if_neg hr] at e
            exact absurd (I1.hok b u e).lt (Nat.not_lt_of_le (Nat.le_trans (by rw [hN]; exact Nat.le_add_right _ _) (Nat.le_of_not_lt hb)))
    have un : Un X.fs [] H1 (enH H1 h'.objs.size xs) s1.heap h2 :=
      ⟨fun b o q _ _ _ => keep b o q, fun b o q _ _ _ => ⟨o.slots, keep b o q⟩, fun b o q n _ => by rw [enH_old (Nat.lt_of_lt_of_le (Heap.lt_size q) (by rw [hN]; exact Nat.le_add_right _ _))]; exact n,
        fun b o q _ => ⟨o, keep b o q⟩, fun b ys q => old b _ q, fun b o u q => old b _ q, fun b ps q => ⟨#[], by rw [old b _ q]; simp⟩⟩
    refine ⟨.ref h'.objs.size, enH H1 h'.objs.size xs, I1.un (t' := tk) un ok, rfl, ?_⟩
    refine q h'.objs.size ((List.range xs.length).map fun j => h'.objs.size + 1 + j) _ (by rw [List.length_map, List.length_range]) (new _ (by omega)) old (by rw [enH_S, List.map_map]; rfl) fun j x hx => ?_
    have hj := (List.getElem?_eq_some_iff.mp hx).1
    exact ⟨h'.objs.size + 1 + j, by rw [List.getElem?_map, List.getElem?_range hj]; rfl, new _ (by omega), by show ¬ (h'.objs.size + 1 + j : Nat) = _; omega, enH_T hx⟩
end
end KX

set_option Elab.async false
set_option linter.all false
set_option maxRecDepth 100000
set_option maxHeartbeats 4000000
/-! Own layer: list(d.values()); a method called with keywords alone; dict(t) of a tuple of pairs. -/
namespace KX
open PySem PySem.Spec PyProof.Rows L2
section
variable {X : Cx} {o : Expr} {td : TE} {p pos apos mpos : Pos}
/-- list(d.values()) -/
def tListVals (td : TE) : TE := fun σ H Q => td σ H fun x H1 => ∃ a, x = V.ref a ∧
  ((∃ kvs : List (Key × V), H1 a = some (.dK kvs) ∧ ∀ l, H1 l = none → Q (.ref l) (upd H1 l (.lst (kvs.map (·.2))))) ∨
   (∃ kvs : List (List Key × V), H1 a = some (.dT kvs) ∧ ∀ l, H1 l = none → Q (.ref l) (upd H1 l (.lst (kvs.map (·.2))))))
theorem vals_at {xs : List V} {us : List Value} (hl : xs.length = us.length) (h : ∀ (j : Nat) x u, xs[j]? = some x → us[j]? = some u → RelV x u) : Vals xs us := by
  induction xs generalizing us with
  | nil =>
    cases us with
    | nil => exact .nil
    | cons => cases hl
  | cons x xs ih =>
    cases us with
    | nil => cases hl
    | cons u us => exact .cons (h 0 x u rfl rfl) (ih (by simpa using hl) fun j x u h1 h2 => h (j + 1) x u (by simpa using h1) (by simpa using h2))
theorem pe_listVals (hc : X.calm = true) (hg : Gl X "list") (hm : X.mg "list" = none) (hd : PE X o td) (hbase : attributeBase o "values" X.env (eval o X.env) = eval o X.env := by rfl) (hline : (apos.endLine == mpos.line) = true := by rfl)
    (na : starEach [Expr.Call (.Attribute o "values" apos) [] [] mpos] X.env = (false, eval (Expr.Call (.Attribute o "values" apos) [] [] mpos) X.env) :: starEach [] X.env := by rfl) :
    PE X (.Call (.Name "list" p) [.Call (.Attribute o "values" apos) [] [] mpos] [] pos) (tListVals td) := by
  refine ⟨fun pins s σ H Q I h => ?_⟩
  refine Call_ (ld_blt I hg hm boot_list (PyProof.Rows.callWith_type1 (args_cons (wpAny_Call_method0_late hbase hline (thn (hd.run pins s σ H _ I h) fun v s1 ⟨x, H1, I1, r1, a, ex, q⟩ => ?_)) na) na))
  subst ex
  obtain rfl : v = Value.ref a := r1
  have k1 : ∀ b u, s1.heap.get? b = some u → (s1.heap.push { cls := .type "dict_values", data := .fields #[.ref a] }).get? b = some u := fun b u e => Heap.get?_push_of_some _ e
  have vw : (s1.heap.push { cls := .type "dict_values", data := .fields #[.ref a] }).IsValuesView s1.heap.objs.size a := ⟨_, Heap.get?_push_size _ rfl, rfl, rfl⟩
  have laid : ∀ {h' : Heap} {tk : Nat} {xs : List V} {acc : Array Value} {c : Nat}, (∀ b u, (s1.heap.push { cls := .type "dict_values", data := .fields #[.ref a] }).get? b = some u → h'.get? b = some u) →
      h'.get? (s1.heap.push { cls := .type "dict_values", data := .fields #[.ref a] }).objs.size = some { cls := .type "list", dict := none, data := .seq acc c, slots := #[] } → xs.length ≤ sizeLine → Vals xs acc.toList →
      (∀ l, H1 l = none → Q (.ref l) (upd H1 l (.lst xs))) → EP X pins σ Q (.ref (s1.heap.push { cls := .type "dict_values", data := .fields #[.ref a] }).objs.size) { s1 with heap := h', toks := tk } := fun {h' tk xs acc c} kp hS hz hv q => by
    have hsz : (s1.heap.push { cls := .type "dict_values", data := .fields #[.ref a] }).objs.size = s1.heap.objs.size + 1 := Heap.size_push _ _
    refine ⟨.ref (s1.heap.push { cls := .type "dict_values", data := .fields #[.ref a] }).objs.size, _, I1.laid (t' := tk) (o := .lst xs) (fun b u e => kp b u (k1 b u e)) (by rw [hsz]; exact Nat.le_succ _) ?_, rfl, q _ (I1.hok.fresh (by rw [hsz]; exact Nat.le_succ _))⟩
    exact ⟨hz, acc.toList, c, hv, by rw [Array.toArray_toList]; exact hS⟩
  rcases q with ⟨kvs, ha, q⟩ | ⟨kvs, ha, q⟩
  · obtain ⟨hz, hsys, vs, rel, dof⟩ := dk_of I1.hok ha
    obtain ⟨ep, dat⟩ := dof.dictAt
    have dat' := dat
    obtain ⟨ob, es, ho, ex, hdat, hko, hpr, hnd⟩ := dat'
    refine ⟨"dict", "dict.values", F.plainAttrs_dict, F.slot_dict_values, F.type_dict_values, ⟨ob, ho, ex.1⟩, fun b e => ?_, Calls.callWith_builtin rfl (PySem.evalArgs_none ?_)⟩
    · cases e
      exact ⟨ob, ho, ex.2.1⟩
    refine call_meetsIn F.slot_dict_values ⟨ob, ho, ex.1⟩ F.entry_dict_values (F.args_dict_values_1 _) (meets_dict_values (mixKind X.prog X.w) a hsys) ⟨⟨vs, dof⟩, ?_⟩
    have dat1 : (s1.heap.push { cls := .type "dict_values", data := .fields #[.ref a] }).DictAt (mixKind X.prog X.w) a vs ep := dat.keep k1
    have hl : kvs.length = vs.length := KV.length rel
    refine args_nil (PySem.W.kdl_call (PySem.W.kdl_values (knd := mixKind X.prog X.w) (kvs := vs) (ep := ep)) (I1.ok.hd hc) ⟨vw, dat1⟩ (by rw [← hl]; exact hz) fun h' tk acc' c' hkeep hS hacc => ?_)
    refine laid hkeep hS (by rw [List.length_map]; exact hz) (vals_at (by have q1 : acc'.toList.length = acc'.size := Array.length_toList; rw [q1, hacc.1, ← hl]; exact List.length_map _) fun j x u h1 h2 => ?_) q
    obtain ⟨k, hk⟩ := hacc.2 j u (by rw [← Array.getElem?_toList]; exact h2)
    obtain ⟨x', h3, h4⟩ := KV.at' rel hk
    rw [List.getElem?_map, h3] at h1
    cases h1
    exact h4
  · obtain ⟨z, hs, ks, pr, o', es, ep, ho, hx, hdt, he, hn⟩ := (show ObjOk X.prog X.w H1 s1.heap a (.dT kvs) from I1.hok a _ ha)
    have l1 : es.size = ks.length := size_of_entries he
    have l2 : kvs.length = ks.length := Paired.length pr
    refine ⟨"dict", "dict.values", F.plainAttrs_dict, F.slot_dict_values, F.type_dict_values, ⟨o', ho, hx.1⟩, fun b e => ?_, Calls.callWith_builtin rfl (PySem.evalArgs_none ?_)⟩
    · cases e
      exact ⟨o', ho, hx.2.1⟩
    have raw : s1.heap.DictRaw a es ep := ⟨o', ho, hx, hdt⟩
    refine call_meetsIn F.slot_dict_values ⟨o', ho, hx.1⟩ F.entry_dict_values (F.args_dict_values_1 _) (meets_dict_values_raw a hs) ⟨⟨es, ep, raw⟩, ?_⟩
    have raw1 : (s1.heap.push { cls := .type "dict_values", data := .fields #[.ref a] }).DictRaw a es ep := ⟨o', k1 _ _ ho, hx, hdt⟩
    refine args_nil (PySem.W.kdl_call KdlSrc.rawValues (I1.ok.hd hc) ⟨vw, raw1⟩ (by omega) fun h' tk acc' c' hkeep hS hacc => ?_)
    refine laid hkeep hS (by rw [List.length_map]; omega) (vals_at (by have q1 : acc'.toList.length = acc'.size := Array.length_toList; rw [q1, hacc.1, l1, ← l2]; exact List.length_map _) fun j x u h1 h2 => ?_) q
    obtain ⟨hj, hv⟩ := hacc.2 j u (by rw [← Array.getElem?_toList]; exact h2)
    have e1 := entry_at he j
    rw [Array.getElem?_eq_getElem hj] at e1
    cases hb : ks[j]? with
    | none => rw [hb] at e1; cases e1
    | some b =>
      rw [hb] at e1
      have e2 := Option.some.inj e1
      rw [List.getElem?_map] at h1
      obtain ⟨kv, hkv, rfl⟩ := Option.map_eq_some_iff.mp h1
      obtain ⟨b', hb', hr⟩ := paired_get pr hkv
      rw [hb] at hb'
      cases hb'
      rw [hv, e2]
      exact hr.2.2
end
section
variable {X : Cx} {CX : CXT} {o : Expr} {ta : TE} {tk : TA} {m : Str} {f C : Addr} {fd : FuncData} {k : Nat} {ps ks : List Str} {sp : Sp} {g : List Value → List Value → List Value} {gV : List V → List V → List V} {E : XK} {kws : List Keyword} {pos apos : Pos}
/-- o.m(k = v, ..) -/
def tMethK (C : Addr) (m : Str) (sp : Sp) (gV : List V → List V → List V) (E : XK) (ta : TE) (tk : TA) : TE := fun σ H Q => ta σ H fun x H1 => ∃ a dx fs, x = .ref a ∧ H1 a = some (.ins C dx fs) ∧ fs.lookup m = none ∧ tk σ H1 fun zs H2 => sp (gV [.ref a] zs) H2 Q E
theorem pe_methK0 {pl : Sem Bool} (he : PE X o ta) (c : Cls X.K C) (hm : Meth X.K C m f) (F : FnOk X.prog X.w X.K X.mg X.base CX k f fd ps sp) (hr : Room k X.A) (hb : KBinds X.K fd ps ks g gV) (hx : Passes CX X E) (hkw : PK X kws tk)
    (hall : (backToKw pos (keywordEach kws X.env)).all (·.1.isSome) = true := by rfl) (hks : (backToKw pos (keywordEach kws X.env)).filterMap (·.1) = ks := by rfl)
    (hpl : ((backTo pos (starEach [] X.env)).any (·.1) || (backToKw pos (keywordEach kws X.env)).any (·.1.isNone)) = false := by rfl)
    (ht : eval (.Call (.Attribute o m apos) [] kws pos) X.env = (do
      let ov ← eval o X.env
      standAt apos.atName
      let (f, first) ← holding [ov] (getMethod ov m pl)
      callWith pos f first (backTo pos (starEach [] X.env)) (backToKw pos (keywordEach kws X.env))) := by rfl) :
    PE X (.Call (.Attribute o m apos) [] kws pos) (tMethK C m sp gV E ta tk) := by
  refine ⟨fun pins s σ H Q I h => ?_⟩
  refine PySem.W.methodCall_KW (pl := pl) (thn (he.run pins s σ H _ I h) fun u s1 ⟨x, H1, I1, rx, a, dx, fs, ex, ea, l, q⟩ => ?_) ht
  subst ex
  obtain rfl : u = Value.ref a := rx
  refine getmeth_ok I1 ea c hm l ?_
  refine PySem.W.callWith_KW0 (first := [.ref a]) (h₀ := X.base) I.ok.mod.kin hm.kp hall (thn (hkw.run pos pins s1 σ H1 _ I1 q) fun ws s2 ⟨zs, H2, I2, rz, q2⟩ => ⟨I2.kIn, ?_⟩) hpl
  rw [hks]
  exact run_fnk (us := [.ref a]) (vs := [.ref a]) F hr hb hx I2 (.cons rfl .nil) rz q2
end
/-! a text not at all, or once -/
section
variable {X : Cx}
theorem op_mulZ : OpR X (binaryOp .Mult) (fun x y H Q => ∃ (z : Str) (n : Int), x = V.str z ∧ y = V.int n ∧ ((n = 0 ∧ Q (.str Str.empty) H) ∨ (n = 1 ∧ Q (.str z) H))) := by
  intro pins s σ H x y v u Q I rx ry h
  obtain ⟨z, n, rfl, rfl, h⟩ := h
  obtain ⟨t, rfl⟩ := rx
  obtain ⟨t', rfl⟩ := ry
  rcases h with ⟨rfl, q⟩ | ⟨rfl, q⟩
  · exact PySem.P.mul_str_none (by decide) (by decide) ⟨.str Str.empty, H, I.tok _, ⟨_, rfl⟩, q⟩
  · refine PySem.P.mul_str (by decide) (fun _ e => absurd e (by simp)) (fun _ e => absurd e (by simp)) ?_
    rw [if_neg (by decide), if_pos (by simp)]
    exact ⟨.str z, H, I, ⟨_, rfl⟩, q⟩
/-- the pairs at ps, raw -/
theorem pairs_raw {pins : List (Addr × Obj)} {σ : L2.St} {H : Hp} {s : Shared} (I : Inv X pins σ H s) : ∀ {ps : List Addr} {kvs : List (Key × V)}, Paired (fun p kv => SqT X.K H p [kV kv.1, kv.2]) ps kvs →
    ∃ prs : List (Key × Value × Value), KV kvs (prs.map fun z => (z.1, z.2.2)) ∧ prs.length = ps.length ∧ ∀ (j : Nat) (q : Key × Value × Value), prs[j]? = some q → ∃ b, ps[j]? = some b ∧ s.heap.IsTuple b #[q.2.1, q.2.2] ∧ keyIs q.1 q.2.1 = true
  | _, _, .nil => ⟨[], .nil, rfl, fun j q e => by simp at e⟩
  | _, _, .cons (a := p) (b := kv) h t => by
    obtain ⟨prs, r, hl, hp⟩ := pairs_raw I t
    obtain ⟨its, rv, ht, _⟩ := I.tuple h
    obtain ⟨u, y, ei, ru, ry⟩ := vals2 rv
    subst ei
    refine ⟨(kv.1, u, y) :: prs, .cons ⟨rfl, ry⟩ r, by rw [List.length_cons, List.length_cons, hl], fun j q e => ?_⟩
    cases j with
    | zero =>
      have e' : (kv.1, u, y) = q := Option.some.inj e
      subst e'
      exact ⟨p, rfl, ht, kV_is (P := X.prog) (w := X.w) ru⟩
    | succ j =>
      obtain ⟨b, e1, e2⟩ := hp j q (by simpa using e)
      exact ⟨b, by simpa using e1, e2⟩
/-- dict(t), t a tuple of pairs -/
theorem call_dictF {K : PySem.W.Frag} (hK : X.K = K) (hcalm : X.calm = true) : CallR X (.type "dict") (fun xs H Q => ∃ (a : Addr) (ps : List Addr) (kvs : List (Key × V)), xs = [.ref a] ∧ TupF H a (ps.map V.ref) ∧ Paired (fun p kv => SqT K H p [kV kv.1, kv.2]) ps kvs ∧
    ∀ p, H p = none → Q (.ref p) (upd H p (.dK (mergeK [] kvs)))) := by
  subst hK
  intro pins s σ H xs us Q I r q
  obtain ⟨a, ps, kvs, ex, hq, hp, q⟩ := q
  subst ex
  obtain ⟨u, eu, rx⟩ := vals1 r
  subst eu
  cases rx
  obtain ⟨ob, eH, ed⟩ := hq
  obtain ⟨ho, hz, its, rv, o1, ho1, hc1, n1, hd1⟩ := (show ObjOk X.prog X.w H s.heap a (.frz ob (.tup (ps.map V.ref))) from I.hok a _ eH)
  have ei := refs_at rv
  subst ei
  rw [List.length_map] at hz
  have eo : o1 = ob := by rw [ho] at ho1; exact (Option.some.inj ho1).symm
  subst eo
  obtain ⟨prs, rel, hl, hpr⟩ := pairs_raw I hp
  have gd : ∀ j T, ps[j]? = some T → ps.getD j 0 = T := fun j T e => by rw [List.getD_eq_getElem?_getD, e]; rfl
  refine PySem.call_dict_pairs (knd := mixKind X.prog X.w) (kvs := prs.map fun z => (z.1, z.2.2)) (PairArg.tuple a (ps.map Value.ref).toArray (fun j => ps.getD j 0) (prs.map fun z => (z.2.1, z.2.2))) (I.ok.hd hcalm) ⟨⟨o1, n1, ho, hc1, ed, hd1⟩, ?_, fun j k v e => ?_⟩ ⟨?_, fun i key v e => ?_⟩ ?_ fun h' tk hd' k => ?_
  · simp [hl]
  · rw [List.getElem?_map] at e
    obtain ⟨z, hz', e⟩ := Option.map_eq_some_iff.mp e
    cases e
    obtain ⟨T, hT, ht, _⟩ := hpr j z hz'
    show (List.map Value.ref ps).toArray[j]? = some (Value.ref (ps.getD j 0)) ∧ PySem.PairAt s.heap (ps.getD j 0) z.2.1 z.2.2
    rw [gd j T hT]
    exact ⟨by simp [hT], .inl ht⟩
  · simp
  · have e : (prs.map fun z => (z.2.1, z.2.2))[i]? = some (key, v) := e
    rw [List.getElem?_map] at e
    obtain ⟨z, hz', e⟩ := Option.map_eq_some_iff.mp e
    cases e
    obtain ⟨_, _, _, hk⟩ := hpr i z hz'
    exact ⟨z.1, by rw [List.getElem?_map, hz']; rfl, hk⟩
  · simp only [List.length_map]; omega
  · have hm : (s.heap.objs.size == sysModules) = false := beq_eq_false_iff_ne.mpr (Nat.ne_of_gt I.big)
    have hlen : (mergeK [] kvs).length ≤ sizeLine := by
      refine Nat.le_trans (length_mergeK kvs []) ?_
      have : kvs.length = (prs.map fun z => (z.1, z.2.2)).length := rel.length
      rw [List.length_map] at this
      rw [List.length_nil, Nat.zero_add, this, hl]
      exact hz
    exact ⟨.ref s.heap.objs.size, upd H s.heap.objs.size (.dK (mergeK [] kvs)), I.laid (t' := tk) (fun b o e => k b o (fun z => nomatch z) e) (Nat.le_refl _) (show ObjOk X.prog X.w _ _ _ (.dK (mergeK [] kvs)) from ⟨hlen, hm, merged [] (prs.map fun z => (z.1, z.2.2)), KV.merge rel .nil, hd'⟩), rfl, q _ (I.hok.fresh (Nat.le_refl _))⟩
end
section
variable {X : Cx}
/-- d != {} -/
theorem op_ne_dict0 (hu : X.A.units < cLine) : OpR X (compareOp .NotEq) (fun x y H Q => ∃ (a b : Addr) (ks : List (Key × V)), x = V.ref a ∧ y = V.ref b ∧ H a = some (.dK ks) ∧ H b = some (.dK []) ∧ Q (.bl (!ks.isEmpty)) H) := by
  intro pins s σ H x y v u Q I rx ry h
  obtain ⟨a, b, ks, rfl, rfl, ea, eb, q⟩ := h
  cases ks with
  | nil => exact op_ne_dictA hu pins s σ H _ _ v u Q I rx ry ⟨a, b, [], [], rfl, rfl, ea, eb, rfl, fun _ z => (nomatch z), q⟩
  | cons k ks =>
    obtain rfl : v = Value.ref a := rx
    obtain rfl : u = Value.ref b := ry
    obtain ⟨_, ya, va, ra, da⟩ := (show ObjOk X.prog X.w H s.heap a (.dK (k :: ks)) from I.hok a _ ea)
    obtain ⟨_, yb, vb, rb, db⟩ := (show ObjOk X.prog X.w H s.heap b (.dK []) from I.hok b _ eb)
    have l1 : va.length = ks.length + 1 := ra.length.symm
    have l2 : vb.length = 0 := rb.length.symm
    exact PySem.W.keq_ne (knd := mixKind X.prog X.w) (r := true) ya yb da db hu (fun e => by omega) (fin_bl I q (by simp [l1, l2]))
end
end KX

set_option Elab.async false
set_option linter.all false
set_option maxRecDepth 100000
set_option maxHeartbeats 4000000
/-! The search for the shortest words. -/
namespace L
open PySem L2 KX
abbrev En := List Nat × List Str
abbrev Ltt := List (Str × List Nat)
def keyL (m : List Nat) : List Key := m.map fun x : Nat => (Sum.inl (x : Int) : Key)
theorem keyL_inj : ∀ {a b : List Nat}, keyL a = keyL b → a = b
  | [], [], _ => rfl
  | [], _ :: _, h => by cases h
  | _ :: _, [], h => by cases h
  | x :: a, y :: b, h => by
    have h : (Sum.inl (x : Int) : Key) :: keyL a = Sum.inl (y : Int) :: keyL b := h
    injection h with h1 h2
    have := Sum.inl.inj h1
    rw [keyL_inj h2, show x = y by omega]
theorem keyL_kV (m : List Nat) : (keyL m).map kV = nv m := by unfold keyL nv; rw [List.map_map]; rfl
def keys (S : List En) : List (List Nat) := S.map (·.1)
def ltt (L : Ltt) : List (List Nat) := L.map (·.2)
def new (st : En) (q : Str × List Nat) : En := (cmp st.1 q.2, st.2 ++ [q.1])
def inn (st : En) : Ltt → List En → List En → Option (List En × List En)
  | [], S, lg => some (S, lg)
  | q :: r, S, lg => if cmp st.1 q.2 ∈ keys S then inn st r S lg else if S.length = 16 then none else inn st r (S ++ [new st q]) (lg ++ [new st q])
def lay (L : Ltt) : List En → List En → List En → Option (List En × List En)
  | [], S, lg => some (S, lg)
  | st :: r, S, lg => match inn st L S lg with
    | none => none
    | some p => lay L r p.1 p.2
inductive Bf (L : Ltt) : List En → List En → Option (List En) → Prop
  | done (S : List En) : Bf L S [] (some S)
  | over {S lr : List En} : lr ≠ [] → lay L lr S [] = none → Bf L S lr none
  | next {S lr S' lg : List En} {r : Option (List En)} : lr ≠ [] → lay L lr S [] = some (S', lg) → Bf L S' lg r → Bf L S lr r
theorem Bf.det {L : Ltt} {S lr : List En} {r : Option (List En)} (h : Bf L S lr r) : ∀ {r' : Option (List En)}, Bf L S lr r' → r = r' := by
  induction h with
  | done S =>
    intro r' h'
    cases h' with
    | done => rfl
    | over n _ => exact absurd rfl n
    | next n _ _ => exact absurd rfl n
  | over n e =>
    intro r' h'
    cases h' with
    | done => exact absurd rfl n
    | over _ _ => rfl
    | next _ e' _ => rw [e] at e'; cases e'
  | next n e b ih =>
    intro r' h'
    cases h' with
    | done => exact absurd rfl n
    | over _ e' => rw [e] at e'; cases e'
    | next _ e' b' =>
      rw [e] at e'
      cases e'
      exact ih b'
/-- what a step keeps -/
structure Stp (n : Nat) (ls : List (List Nat)) (S lg S' lg' : List En) : Prop where
  pre : ∃ d : List En, S' = S ++ d ∧ lg' = lg ++ d
  nd : (keys S).Nodup → (keys S').Nodup
  le : S.length ≤ 16 → S'.length ≤ 16
  gen : (∀ m, m ∈ keys S → Gen ls m) → ∀ m, m ∈ keys S' → Gen ls m
theorem Stp.refl {n : Nat} {ls : List (List Nat)} (S lg : List En) : Stp n ls S lg S lg := ⟨⟨[], by simp, by simp⟩, id, id, fun h => h⟩
theorem Stp.trans {n : Nat} {ls : List (List Nat)} {S lg S' lg' S2 lg2 : List En} (a : Stp n ls S lg S' lg') (b : Stp n ls S' lg' S2 lg2) : Stp n ls S lg S2 lg2 := by
  obtain ⟨d, e1, e2⟩ := a.pre
  obtain ⟨d', e3, e4⟩ := b.pre
  exact ⟨⟨d ++ d', by rw [e3, e1, List.append_assoc], by rw [e4, e2, List.append_assoc]⟩, fun h => b.nd (a.nd h), fun h => b.le (a.le h), fun h => b.gen (a.gen h)⟩
theorem Stp.sub {n : Nat} {ls : List (List Nat)} {S lg S' lg' : List En} (a : Stp n ls S lg S' lg') {m : List Nat} (h : m ∈ keys S) : m ∈ keys S' := by
  obtain ⟨d, e1, _⟩ := a.pre
  rw [e1]
  unfold keys at *
  rw [List.map_append]
  exact List.mem_append_left _ h
theorem keys_snoc (S : List En) (e : En) : keys (S ++ [e]) = keys S ++ [e.1] := by unfold keys; rw [List.map_append]; rfl
theorem inn_ok {n : Nat} {st : En} {ls : List (List Nat)} : ∀ {L : Ltt} {S lg S' lg' : List En}, (∀ q, q ∈ L → Gen ls (cmp st.1 q.2)) → inn st L S lg = some (S', lg') → Stp n ls S lg S' lg' ∧ ∀ q, q ∈ L → cmp st.1 q.2 ∈ keys S'
  | [], S, lg, S', lg', _, h => by
    have h : some (S, lg) = some (S', lg') := h
    cases h
    exact ⟨Stp.refl _ _, fun _ z => nomatch z⟩
  | q :: r, S, lg, S', lg', hg, h => by
    unfold inn at h
    by_cases c : cmp st.1 q.2 ∈ keys S
    · rw [if_pos c] at h
      obtain ⟨s, f⟩ := inn_ok (n := n) (fun q' hq => hg q' (List.mem_cons_of_mem _ hq)) h
      refine ⟨s, fun q' hq => ?_⟩
      rcases List.mem_cons.mp hq with rfl | hq
      · exact s.sub c
      · exact f q' hq
    · rw [if_neg c] at h
      by_cases c2 : S.length = 16
      · rw [if_pos c2] at h; cases h
      rw [if_neg c2] at h
      obtain ⟨s, f⟩ := inn_ok (n := n) (fun q' hq => hg q' (List.mem_cons_of_mem _ hq)) h
      have s1 : Stp n ls S lg (S ++ [new st q]) (lg ++ [new st q]) := by
        refine ⟨⟨_, rfl, rfl⟩, fun nd => ?_, fun l => by rw [List.length_append]; show S.length + 1 ≤ 16; omega, fun g m hm => ?_⟩
        · rw [keys_snoc]
          refine List.nodup_append.mpr ⟨nd, by simp, fun a ha b hb e => ?_⟩
          rw [List.mem_singleton] at hb
          exact c (by rw [show cmp st.1 q.2 = a from (e.trans hb).symm]; exact ha)
        · rw [keys_snoc] at hm
          rcases List.mem_append.mp hm with h | h
          · exact g m h
          · rw [List.mem_singleton.mp h]; exact hg q List.mem_cons_self
      refine ⟨s1.trans s, fun q' hq => ?_⟩
      rcases List.mem_cons.mp hq with rfl | hq
      · exact s.sub (by rw [keys_snoc]; exact List.mem_append_right _ (List.mem_singleton.mpr rfl))
      · exact f q' hq
theorem lay_ok {n : Nat} {ls : List (List Nat)} {L : Ltt} : ∀ {lr S lg S' lg' : List En}, (∀ e, e ∈ lr → ∀ q, q ∈ L → Gen ls (cmp e.1 q.2)) → lay L lr S lg = some (S', lg') → Stp n ls S lg S' lg' ∧ ∀ e, e ∈ lr → ∀ q, q ∈ L → cmp e.1 q.2 ∈ keys S'
  | [], S, lg, S', lg', _, h => by
    have h : some (S, lg) = some (S', lg') := h
    cases h
    exact ⟨Stp.refl _ _, fun _ z => nomatch z⟩
  | st :: r, S, lg, S', lg', hg, h => by
    unfold lay at h
    cases hi : inn st L S lg with
    | none => rw [hi] at h; cases h
    | some p =>
      rw [hi] at h
      obtain ⟨s1, f1⟩ := inn_ok (n := n) (hg st List.mem_cons_self) hi
      obtain ⟨s2, f2⟩ := lay_ok (n := n) (fun e he => hg e (List.mem_cons_of_mem _ he)) h
      refine ⟨s1.trans s2, fun e he q hq => ?_⟩
      rcases List.mem_cons.mp he with rfl | he
      · exact s2.sub (f1 q hq)
      · exact f2 e he q hq
/-- the letters of n states -/
structure LOk (n : Nat) (L : Ltt) : Prop where
  le : 1 ≤ L.length
  ge : L.length ≤ 4
  n1 : 1 ≤ n
  n5 : n ≤ 5
  mp : ∀ q, q ∈ L → Mp n q.2
  ss : ∀ q, q ∈ L → Ss 8 q.1
/-- where the search stands -/
structure Sea (n : Nat) (L : Ltt) (S lr : List En) : Prop where
  nd : (keys S).Nodup
  le : S.length ≤ 16
  gen : ∀ m, m ∈ keys S → Gen (ltt L) m
  lg : ∀ e, e ∈ lr → ∀ q, q ∈ L → Gen (ltt L) (cmp e.1 q.2)
  cl : ∀ m, m ∈ keys S → m ∈ keys lr ∨ ∀ q, q ∈ L → cmp m q.2 ∈ keys S
  st : (∀ q, q ∈ L → q.2 ∈ keys S) ∨ ∃ e, e ∈ lr ∧ ∀ q, q ∈ L → cmp e.1 q.2 = q.2
theorem Sea.next {n : Nat} {L : Ltt} {S lr S' lg : List En} (h : Sea n L S lr) (e : lay L lr S [] = some (S', lg)) : Sea n L S' lg := by
  obtain ⟨s, f⟩ := lay_ok (n := n) h.lg e
  obtain ⟨d, e1, e2⟩ := s.pre
  rw [List.nil_append] at e2
  subst e2
  have inl : ∀ m, m ∈ keys S' → m ∈ keys S ∨ m ∈ keys lg := fun m hm => by
    rw [e1] at hm
    unfold keys at *
    rw [List.map_append] at hm
    exact List.mem_append.mp hm
  have gS := s.gen h.gen
  refine ⟨s.nd h.nd, s.le h.le, gS, fun e he q hq => ?_, fun m hm => ?_, .inl fun q hq => ?_⟩
  · refine .step (gS e.1 ?_) (List.mem_map.mpr ⟨q, hq, rfl⟩)
    rw [e1]
    unfold keys
    rw [List.map_append]
    exact List.mem_append_right _ (List.mem_map.mpr ⟨e, he, rfl⟩)
  · rcases inl m hm with hS | hl
    · refine .inr fun q hq => ?_
      rcases h.cl m hS with hr | hc
      · obtain ⟨e, he, rfl⟩ := List.mem_map.mp hr
        exact f e he q hq
      · exact s.sub (hc q hq)
    · exact .inl hl
  · rcases h.st with k | ⟨e, he, k⟩
    · exact s.sub (k q hq)
    · rw [← k q hq]; exact f e he q hq
theorem cmp_id {n : Nat} {m : List Nat} (h : Mp n m) : cmp (List.range n) m = m := by
  unfold cmp
  apply List.ext_getElem
  · rw [List.length_map, List.length_range, h.1]
  · intro i h1 h2
    rw [List.getElem_map, List.getElem_range, List.getD_eq_getElem?_getD, List.getElem?_eq_getElem h2]; rfl
theorem sea0 {n : Nat} {L : Ltt} (o : LOk n L) : Sea n L [] [(List.range n, [])] := by
  have k : ∀ q, q ∈ L → cmp (List.range n) q.2 = q.2 := fun q hq => cmp_id (o.mp q hq)
  refine ⟨List.nodup_nil, Nat.zero_le _, fun _ z => (nomatch z), fun e he q hq => ?_, fun _ z => (nomatch z), .inr ⟨_, List.mem_singleton.mpr rfl, k⟩⟩
  rw [List.mem_singleton.mp he]
  show Gen (ltt L) (cmp (List.range n) q.2)
  rw [k q hq]
  exact .base (List.mem_map.mpr ⟨q, hq, rfl⟩)
/-- the elements found -/
structure Fnd (n : Nat) (L : Ltt) (S : List En) : Prop where
  nd : (keys S).Nodup
  le : S.length ≤ 16
  cl : Cl n (keys S)
  lt : ∀ q, q ∈ L → q.2 ∈ keys S
theorem Sea.fin {n : Nat} {L : Ltt} {S : List En} (o : LOk n L) (h : Sea n L S []) : Fnd n L S := by
  have lm : ∀ l, l ∈ ltt L → Mp n l := fun l hl => by
    obtain ⟨q, hq, rfl⟩ := List.mem_map.mp hl
    exact o.mp q hq
  refine ⟨h.nd, h.le, ⟨fun m hm => (h.gen m hm).mp lm, fun x hx y hy => gen_closed lm h.gen (fun x hx l hl => ?_) hx (h.gen y hy)⟩, fun q hq => ?_⟩
  · obtain ⟨q, hq, rfl⟩ := List.mem_map.mp hl
    rcases h.cl x hx with k | k
    · cases k
    · exact k q hq
  · rcases h.st with k | ⟨_, k, _⟩
    · exact k q hq
    · cases k
theorem Bf.fnd {n : Nat} {L : Ltt} (o : LOk n L) {S lr : List En} {r : Option (List En)} (h : Bf L S lr r) : Sea n L S lr → ∀ S', r = some S' → Fnd n L S' := by
  induction h with
  | done S =>
    intro s S' e
    cases e
    exact s.fin o
  | over _ _ => intro _ _ e; cases e
  | next _ e _ ih => exact fun s => ih (s.next e)
/-- what the search gives -/
def Res (n : Nat) (L : Ltt) (r : Option (List En)) : Prop := Bf L [] [(List.range n, [])] r
theorem Res.fnd {n : Nat} {L : Ltt} (o : LOk n L) {S : List En} (h : Res n L (some S)) : Fnd n L S := Bf.fnd o h (sea0 o) S rfl
theorem Fnd.ne {n : Nat} {L : Ltt} {S : List En} (o : LOk n L) (f : Fnd n L S) : 1 ≤ S.length := by
  cases L with
  | nil => have := o.le; simp at this
  | cons q L =>
    obtain ⟨e, he, _⟩ := List.mem_map.mp (f.lt q List.mem_cons_self)
    exact List.length_pos_of_mem he
end L

set_option Elab.async false
set_option linter.all false
set_option maxRecDepth 100000
set_option maxHeartbeats 4000000
set_option pp.maxSteps 400
namespace L
open PySem L2 KX
abbrev sIsName : Stmt := top 15
abbrev sCd : Stmt := top 31
abbrev sSw : Stmt := top 32
abbrev nSw : List Str := ["states", "letters", "words", "layer", "longer", "start", "word", "name", "targets", "reached"]
/-- the sign c lies from a to z, as both functions compare it -/
def sg (c : Nat) : Bool := if (!decide ((⟨#[c]⟩ : Str).cps.toList < (Str.ofString "a").cps.toList)) = true then !decide ((Str.ofString "z").cps.toList < (⟨#[c]⟩ : Str).cps.toList) else false
def nm (z : Str) : Bool := decide (1 ≤ z.length) && decide (z.length ≤ 8) && z.cps.toList.all sg
/-- a text, or no text -/
def Ist (K : PySem.W.Frag) (H : Hp) (v : V) (r : Bool) : Prop := (∃ z, v = .str z ∧ Ss 4000 z ∧ r = nm z) ∨ (r = false ∧ ∃ t, TyX K H v t ∧ PySem.W.kitOne K t (.type "str") = some false)
def spIsName (K : PySem.W.Frag) : Sp := fun vs H Q _ => ∃ v r, vs = [v] ∧ Ist K H v r ∧ ∀ H', Same H H' → Q (.bl r) H'
theorem inn_cons (st : En) (q : Str × List Nat) (r : Ltt) (S lg : List En) : inn st (q :: r) S lg = if cmp st.1 q.2 ∈ keys S then inn st r S lg else if S.length = 16 then none else inn st r (S ++ [new st q]) (lg ++ [new st q]) := rfl
theorem lay_cons (L : Ltt) (st : En) (r S lg : List En) : lay L (st :: r) S lg = match inn st L S lg with
    | none => none
    | some p => lay L r p.1 p.2 := rfl
def spCd (K : PySem.W.Frag) : Sp := fun vs H Q _ => ∃ (a b : Addr) (k : Nat) (x y : List Nat), vs = [.ref a, .ref b] ∧ SqT K H a (nv x) ∧ SqT K H b (nv y) ∧ Mp k x ∧ Mp k y ∧ k ≤ 5 ∧ ∀ p H', Same H H' → H p = none → H' p = some (.tup (nv (cmp x y))) → Q (.ref p) H'
/-- the letters of an object -/
def Ltr (H : Hp) (l : Addr) (L : Ltt) : Prop := ∃ ps : List Addr, TupF H l (ps.map V.ref) ∧ Paired (fun p (q : Str × List Nat) => ∃ t, H p = some (.tup [.str q.1, .ref t]) ∧ H t = some (.tup (nv q.2))) ps L
theorem Ltr.to {H H' : Hp} {l : Addr} {L : Ltt} (h : Ltr H l L) (s : Same H H') : Ltr H' l L := by
  obtain ⟨ps, e, pr⟩ := h
  exact ⟨ps, e.ext s, L2.Paired.mapP pr fun p q ⟨t, a, b⟩ => ⟨t, s _ _ a, s _ _ b⟩⟩
/-- the words of a dict -/
def Wd (H : Hp) (D : Addr) (S : List En) : Prop := ∃ kvs : List (List Key × V), H D = some (.dT kvs) ∧ Paired (fun (kv : List Key × V) (e : En) => kv.1 = keyL e.1 ∧ ∃ a, kv.2 = .ref a ∧ H a = some (.lst (e.2.map V.str))) kvs S
def ItE (H : Hp) (t : Addr) (e : En) : Prop := ∃ m wd, H t = some (.tup [.ref m, .ref wd]) ∧ H m = some (.tup (nv e.1)) ∧ H wd = some (.lst (e.2.map V.str))
theorem ItE.to {H H' : Hp} {t : Addr} {e : En} (h : ItE H t e) (s : ∀ b o, H b = some o → (∀ k, o ≠ .dT k) → H' b = some o) : ItE H' t e := by
  obtain ⟨m, wd, a, b, c⟩ := h
  exact ⟨m, wd, s _ _ a (fun k z => nomatch z), s _ _ b (fun k z => nomatch z), s _ _ c (fun k z => nomatch z)⟩
def Lay (H : Hp) (l : Addr) (lr : List En) : Prop := ∃ ts : List Addr, H l = some (.lst (ts.map V.ref)) ∧ Paired (ItE H) ts lr
theorem Lay.to {H H' : Hp} {l : Addr} {lr : List En} (h : Lay H l lr) (s : ∀ b o, H b = some o → (∀ k, o ≠ .dT k) → H' b = some o) : Lay H' l lr := by
  obtain ⟨ts, e, pr⟩ := h
  exact ⟨ts, s _ _ e (fun k z => nomatch z), L2.Paired.mapP pr fun t e h => h.to s⟩
theorem Wd.to {H H' : Hp} {D : Addr} {S : List En} (h : Wd H D S) (s : Same H H') : Wd H' D S := by
  obtain ⟨kvs, e, pr⟩ := h
  exact ⟨kvs, s _ _ e, L2.Paired.mapP pr fun kv e ⟨a, x, b, c⟩ => ⟨a, x, b, s _ _ c⟩⟩
theorem Wd.key {H : Hp} {S : List En} {kvs : List (List Key × V)} (pr : Paired (fun (kv : List Key × V) (e : En) => kv.1 = keyL e.1 ∧ ∃ a, kv.2 = .ref a ∧ H a = some (.lst (e.2.map V.str))) kvs S) (x : List Nat) : (valV kvs (keyL x)).isSome = decide (x ∈ keys S) := by
  induction pr with
  | nil => rfl
  | @cons kv e kvs S h _ ih =>
    have hk : keys (e :: S) = e.1 :: keys S := rfl
    rw [hk]
    by_cases c : x = e.1
    · subst c
      have : valV (kv :: kvs) (keyL e.1) = some kv.2 := by
        unfold valV
        simp [h.1]
      rw [this]; simp
    · have : valV (kv :: kvs) (keyL x) = valV kvs (keyL x) := by
        unfold valV
        have n : ¬ kv.1 = keyL x := fun z => c (keyL_inj (h.1 ▸ z)).symm
        simp [n]
      rw [this, ih]
      simp [c]
def spSw (CO : Addr) : Sp := fun vs H Q E => ∃ (n : Nat) (l : Addr) (L : Ltt), vs = [.int (n : Int), .ref l] ∧ LOk n L ∧ Ltr H l L ∧
  (∀ S D H', Res n L (some S) → Wd H' D S → Same H H' → H D = none → Q (.ref D) H') ∧ (∀ H' d, Res n L none → Same H H' → H' d = none → E (.ref CO) (some d) (upd H' d (.xd [("count", .int 17)])))
def muSw (σ : L2.St) (J : Hp) : Nat := (match σ.getD 2 none with
  | some (.ref a) => match J a with
    | some (.dT kvs) => (17 - kvs.length) * 2
    | _ => 0
  | _ => 0) + match σ.getD 3 none with
  | some (.ref a) => match J a with
    | some (.lst xs) => min 1 xs.length
    | _ => 0
  | _ => 0
theorem muSw_of {σ : L2.St} {J : Hp} {a b : Addr} {kvs : List (List Key × V)} {xs : List V} (h : σ.getD 2 none = some (.ref a)) (e : J a = some (.dT kvs)) (h2 : σ.getD 3 none = some (.ref b)) (e2 : J b = some (.lst xs)) : muSw σ J = (17 - kvs.length) * 2 + min 1 xs.length := by
  unfold muSw
  rw [h, h2]
  dsimp only
  rw [e, e2]
section
variable {P : Program} {w : World} {K : PySem.W.Frag} {mg : Str → Option Value} {base : Heap} {f f1 fE : Addr} {fd d1 dE : FuncData} {C CO : Addr}
theorem scIsName : FnScope ["value", "letter"] ["value"] (defScope sIsName) := ⟨rfl, rfl, rfl, by decide +kernel, rfl, by decide +kernel, by decide +kernel⟩
theorem ok_isname (F : Fun K "is_name" "is_name" sIsName f fd) (M : Mn mg) (mL : ∃ t, mg "_MOST_LETTERS" = some (.int 8 t)) : FnOk P w K mg base CX0 1 f fd ["value"] (spIsName K) := by
  refine F.ok scIsName (fun vs H Q E h => ?_) (fun cdv A outer s H vs Q E hr h => ?_)
  · obtain ⟨v, r, rfl, _⟩ := h
    rfl
  obtain ⟨v, r, rfl, hv, q⟩ := h
  obtain ⟨tok, mL⟩ := mL
  refine ⟨_, pss_cons (ps_if (pw_or (pt_not (pt_val (pe_callB call_isi (by rfl) M.isin (by decide +kernel) (pa_cons (pv 0) (pa_cons (pe_bltn (v := .ty "str") (by rfl) M.str (by decide +kernel) rfl) pa_nil)))))
      (pw_or1 (pt_not (pt_chain op_le op_le pe_int (pe_callB call_len_str (by rfl) M.len PySem.boot_len (pa_cons (pv 0) pa_nil)) (pe_glob (v := .int 8) (by rfl) mL ⟨_, rfl⟩))))).pt (pss_one (ps_ret pe_bl)) pss_nil)
    (pss_one (ps_ret (pe_callB (cr_all rfl) (by rfl) M.all (by decide +kernel) (pa_cons (pe_lc (own := [("letter", 1)]) (g := gName 1) (tt := tYes) rfl scIsName.nd (pi_str (pv 0))
      (blkOk_by (N := ["value", "letter"]) (sc := defScope sIsName) (by decide +kernel)) (fun _ _ _ _ _ => pg_name (i := 1) scIsName.nd rfl (Or.inl rfl)) (fun _ _ _ _ _ => pts_nil)
      (fun _ _ _ _ _ => pe_chain op_le_str op_le_str pe_str (pv 1) pe_str)) pa_nil)))), ?_⟩
  rcases hv with ⟨z, rfl, hz, rfl⟩ | ⟨rfl, t, ty, kt⟩
  · have hzs : z.length ≤ sizeLine := Nat.le_trans hz.1 (by decide)
    refine ⟨_, rfl, _, .ty "str", .type "str", .type "str", true, rfl, .ty _, .base (.str z), kit_ty (by decide +kernel), true, rfl, iteF ?_⟩
    refine ⟨_, rfl, z, rfl, hzs, _, _, rfl, rfl, _, rfl, ?_⟩
    refine ite2 (fun c1 => ⟨_, _, rfl, rfl, _, rfl, ite2 (fun c2 => ?_) (fun c2 => ?_)⟩) (fun c1 => ⟨_, rfl, iteT ?_⟩)
    · have e : nm z = false := by
        have c2' : ¬ (z.length : Int) ≤ 8 := of_decide_eq_false (by simpa using c2)
        unfold nm
        rw [decide_eq_false (show ¬ z.length ≤ 8 by omega)]
        simp
      rw [e] at q
      exact q H (Same.refl H)
    · have c2' : (z.length : Int) ≤ 8 := of_decide_eq_true (by simpa using c2)
      have c1' : (1 : Int) ≤ (z.length : Int) := of_decide_eq_true c1
      have e : nm z = z.cps.toList.all sg := by
        unfold nm
        rw [decide_eq_true (show 1 ≤ z.length by omega), decide_eq_true (show z.length ≤ 8 by omega)]
        rfl
      rw [e] at q
      refine ⟨_, rfl, z, rfl, fun D hD => ?_⟩
      refine lc_it (walk_str (z := z)) (fun i J => Same H J ∧ J D = some (.lst (((z.cps.toList.take i).map sg).map V.bl))) ⟨fun b o e => by rw [upd_ne (ne_of_none e hD)]; exact e, upd_same⟩ (fun _ _ _ _ => trivial) ?_ ?_
      · rintro i x Jz J hi ⟨sJ, eD⟩ ⟨rfl, c, hc, rfl⟩
        have hc' : z.cps.toList[i]? = some c := by simpa using hc
        have tk : z.cps.toList.take (i + 1) = z.cps.toList.take i ++ [c] := by
          rw [List.take_add_one, hc']; rfl
        have fin : ∀ b, b = sg c → ∃ acc, J D = some (.lst acc) ∧ acc.length < sizeLine ∧ Same H (upd J D (.lst (acc ++ [V.bl b]))) ∧ (upd J D (.lst (acc ++ [V.bl b]))) D = some (.lst (((z.cps.toList.take (i + 1)).map sg).map V.bl)) := fun b hb => by
          refine ⟨_, eD, ?_, fun b o e => by rw [upd_ne (ne_of_none e hD)]; exact sJ b o e, ?_⟩
          · rw [List.length_map, List.length_map, List.length_take]
            have : z.cps.toList.length = z.length := Array.length_toList
            exact small1000 (by omega)
          · rw [upd_same, tk, List.map_append, List.map_append, hb]; rfl
        refine ⟨rfl, _, rfl, _, _, rfl, rfl, _, rfl, ?_⟩
        refine ite2 (fun c1 => ⟨_, _, rfl, rfl, ?_⟩) (fun c1 => ?_)
        · exact fin _ (by unfold sg; rw [if_pos c1])
        · exact fin _ (by unfold sg; rw [if_neg c1])
      · rintro J ⟨sJ, eD⟩
        have hl : z.cps.toList.take z.cps.size = z.cps.toList := List.take_of_length_le (by rw [Array.length_toList]; exact Nat.le_refl _)
        rw [hl] at eD
        refine ⟨D, _, rfl, SqL.of eD, ?_⟩
        have e2 : (z.cps.toList.map sg).all id = z.cps.toList.all sg := by rw [List.all_map]; rfl
        rw [e2]
        exact q J sJ
    · have c1' : ¬ (1 : Int) ≤ (z.length : Int) := of_decide_eq_false (Bool.eq_false_iff.mpr c1)
      have e : nm z = false := by
        unfold nm
        rw [decide_eq_false (show ¬ 1 ≤ z.length by omega)]
        rfl
      rw [e] at q
      exact q H (Same.refl H)
  · refine ⟨_, rfl, v, .ty "str", t, .type "str", false, rfl, .ty _, ty, kt, false, rfl, iteT ?_⟩
    exact iteT (q H (Same.refl H))

theorem scCd : FnScope ["first", "second", "state"] ["first", "second"] (defScope sCd) := ⟨rfl, rfl, rfl, by decide +kernel, rfl, by decide +kernel, by decide +kernel⟩
theorem ok_cd (F : Fun K "_composed" "_composed" sCd f fd) (M : Mn mg) : FnOk P w K mg base CX0 1 f fd ["first", "second"] (spCd K) := by
  refine F.ok scCd (fun vs H Q E h => ?_) (fun cdv A outer s H vs Q E hr h => ?_)
  · obtain ⟨a, b, k, x, y, rfl, _⟩ := h
    rfl
  obtain ⟨a, b, k, x, y, rfl, ha, hb, hx, hy, k5, q⟩ := h
  refine ⟨_, pss_one (ps_ret (pe_callTy call_tuple_of (by rfl) M.tuple (by decide +kernel) (pa_cons (pe_lc (own := [("state", 2)]) (g := gName 2) (tt := tYes) rfl scCd.nd (pi_tup (pv 0))
    (blkOk_by (N := ["first", "second", "state"]) (sc := defScope sCd) (by decide +kernel)) (fun _ _ _ _ _ => pg_name (i := 2) scCd.nd rfl (Or.inl rfl)) (fun _ _ _ _ _ => pts_nil) (fun _ _ _ _ _ => pe_ix (ixt (K := K) rfl) (pv 1) (pv 2) (fun _ _ => rfl))) pa_nil))), ?_⟩
  refine ⟨_, rfl, a, rfl, ⟨_, ha⟩, fun D hD => ?_⟩
  refine lc_it (walk_tup (xs := nv x)) (fun i G => Same H G ∧ G D = some (.lst (nv ((cmp x y).take i)))) ⟨Same.new hD _, upd_same⟩ (fun i G _ z => Same.tup z.1 ha) ?_ ?_
  · rintro i v G G' hi ⟨sG, eD⟩ ⟨rfl, hv⟩
    obtain ⟨st, hst, rfl⟩ := nv_at hv
    have hs := hx.2 st (List.mem_of_getElem? hst)
    refine ⟨rfl, _, rfl, _, rfl, b, _, _, _, rfl, rfl, Same.tup sG hb, at_of (j := st) rfl (nv_get hy hs), _, eD, ?_, fun c o e => by rw [upd_ne (ne_of_none e hD)]; exact sG _ _ e, ?_⟩
    · rw [nv_len, List.length_take]
      have := (cmp_mp hx hy).1
      exact small1000 (by omega)
    · rw [upd_same, cmp_take hst]
      unfold nv
      rw [List.map_append]; rfl
  rintro G ⟨sG, eD⟩
  have lc : (cmp x y).length = x.length := by unfold cmp; rw [List.length_map]
  rw [nv_len, ← lc, List.take_length] at eD
  exact ⟨D, _, rfl, .inl ⟨SqL.of eD, fun l hl => q l _ (sG.trans (Same.new hl _)) (sG.free hl) upd_same⟩⟩
theorem scSw : FnScope nSw ["states", "letters"] (defScope sSw) := ⟨rfl, rfl, rfl, by decide +kernel, rfl, by decide +kernel, by decide +kernel⟩
theorem ok_sw (F : Fun K "_shortest_words" "_shortest_words" sSw f fd) (M : Mn mg) (mL : ∃ t, mg "LARGEST_TABLE" = some (.int 16 t))
    (TE : ETx K mg "TooMany" "count" CO fE) (FE : FnOk P w K mg base CX0 1 fE dE ["self", "count"] (spEi K CO "count")) (bE : Binds K dE ["self", "count"] [])
    (G1 : FnOk P w K mg base CX0 1 f1 d1 ["first", "second"] (spCd K)) (b1 : Binds K d1 ["first", "second"] []) (k1 : PySem.W.keepIn K (.ref f1) = true) (m1 : mg "_composed" = some (.ref f1)) :
    FnOk P w K mg base (L2.CX P w) 3 f fd ["states", "letters"] (spSw CO) := by
  obtain ⟨tok, mL⟩ := mL
  refine F.okX scSw (fun vs H Q E h => ?_) (fun cdv A outer s H vs Q E hr h => ?_)
  · obtain ⟨n, l, L, rfl, _⟩ := h
    rfl
  obtain ⟨n, l, L, rfl, lo, hl, q, qE⟩ := h
  have hr1 : Room 1 _ := hr.mono (by decide)
  have hu := hr.units
  have hu1 : (A.deeper (PyProof.Rows.envOfC "_shortest_words" (defScope sSw) s.heap.objs.size f cdv)).units + 1 < cLine := by omega
  refine ⟨_, (pss_cons (ps_set (i := 2) scSw.nd rfl (Or.inl rfl) pe_dnewT) (pss_cons (ps_set (i := 3) scSw.nd rfl (Or.inl rfl) (pe_lst (pa_cons (pe_tup (pa_cons (pe_tupRg rfl (by rfl) M.tuple (prg_1 (by rfl) M.range (pv 0))) (pa_cons (pe_lst pa_nil) pa_nil))) pa_nil))) (pss_cons (ps_while (passes_of rfl) (pt_mo (pt_truth (pv 3) (fun _ => rfl))) (pss_cons (ps_set (i := 4) scSw.nd rfl (Or.inl rfl) (pe_lst pa_nil)) (pss_cons (ps_for (passes_of rfl) rfl (pi_list (pv 3)) (pg_tup rfl (pgs_cons (pg_name (i := 5) scSw.nd rfl (Or.inl rfl)) (pgs_cons (pg_name (i := 6) scSw.nd rfl (Or.inl rfl)) pgs_nil))) (pss_one (ps_for (passes_of rfl) rfl (pi_tup (pv 1)) (pg_tup rfl (pgs_cons (pg_name (i := 7) scSw.nd rfl (Or.inl rfl)) (pgs_cons (pg_name (i := 8) scSw.nd rfl (Or.inl rfl)) pgs_nil))) (pss_cons (ps_set (i := 9) scSw.nd rfl (Or.inl rfl) (pe_call G1 hr1 (by rfl) m1 k1 b1 .nil pass0 (pa_cons (pv 5) (pa_cons (pv 8) pa_nil)))) (pss_cons (ps_if (pt_cmp (pc_din (by exact hu1) (pv 9) (pv 2))) (pss_one ps_continue) pss_nil) (pss_cons (ps_if (pt_cmpR op_eq (pe_callB call_len_dT (by rfl) M.len PySem.boot_len (pa_cons (pv 2) pa_nil)) (pe_glob (v := .int 16) (by rfl) mL ⟨_, rfl⟩) (nomark _)) (pss_one (ps_raise rfl (takes_of rfl rfl rfl rfl) (pmk_val TE.ox TE.iC TE.tI TE.noF FE hr bE (by rfl) TE.mgC (pa_cons (pe_op op_add (pe_glob (v := .int 16) (by rfl) mL ⟨_, rfl⟩) pe_int) pa_nil)))) pss_nil) (pss_cons (ps_dput (by exact hu1) (pv 2) (pv 9) (pe_op op_cat (pv 6) (pe_lst (pa_cons (pv 7) pa_nil))) rfl) (pss_one (ps_expr (pe_bm PySem.F.plainAttrs_list PySem.F.slot_list_append PySem.F.type_list_append mt_append (pv 4) (pa_cons (pe_tup (pa_cons (pv 9) (pa_cons (pe_op op_cat (pv 6) (pe_lst (pa_cons (pv 7) pa_nil))) pa_nil))) pa_nil))))))))))) (pss_one (ps_set (i := 3) scSw.nd rfl (Or.inl rfl) (pv 4)))))) (pss_one (ps_ret (pv 2)))))), ?_⟩
  obtain ⟨ps, hps, prl⟩ := id hl
  have Mn0 : Mp n (List.range n) := ⟨List.length_range, fun x hx => List.mem_range.mp hx⟩
  have n5 := lo.n5
  refine fun D hD => ?_
  have s1 := Same.new hD (.dT [])
  have eD0 := upd_same (H := H) (a := D) (o := .dT [])
  generalize upd H D (.dT []) = H1 at s1 eD0 ⊢
  refine ⟨_, rfl, _, rfl, RgOk.of_le (by decide) (by omega) (by decide) (by omega), fun m0 hm0 => ⟨szl _ (by simp), fun w0 hw0 => ⟨szl _ (by simp), fun T0 hT0 => ⟨szl _ (by simp), fun la hla => ?_⟩⟩⟩⟩
  rw [rg_nv] at hw0 hT0 hla ⊢
  have u2 := Same.new hm0 (.tup (nv (List.range n)))
  have u3 := Same.new hw0 (.lst [])
  have u4 := Same.new hT0 (.tup [.ref m0, .ref w0])
  have u5 := Same.new hla (.lst [.ref T0])
  have sH5 := s1.trans (((u2.trans u3).trans u4).trans u5)
  have eD5 := u5 _ _ (u4 _ _ (u3 _ _ (u2 _ _ eD0)))
  have it0 : ItE (upd (upd (upd (upd H1 m0 (.tup (nv (List.range n)))) w0 (.lst [])) T0 (.tup [.ref m0, .ref w0])) la (.lst [.ref T0])) T0 (List.range n, []) :=
    ⟨m0, w0, u5 _ _ upd_same, u5 _ _ (u4 _ _ (u3 _ _ upd_same)), u5 _ _ (u4 _ _ upd_same)⟩
  have ela := upd_same (H := (upd (upd (upd H1 m0 (.tup (nv (List.range n)))) w0 (.lst [])) T0 (.tup [.ref m0, .ref w0]))) (a := la) (o := .lst [.ref T0])
  generalize (upd (upd (upd (upd H1 m0 (.tup (nv (List.range n)))) w0 (.lst [])) T0 (.tup [.ref m0, .ref w0])) la (.lst [.ref T0])) = H5 at sH5 eD5 it0 ela ⊢
  dsimp only [gName, tSeq]
  change tWhile _ _ _ [some (.int (n : Int)), some (.ref l), some (.ref D), some (.ref la), none, none, none, none, none, none] _
  refine while_by (fun σ J => ∃ S lr la x4 x5 x6 x7 x8 x9, σ = [some (.int (n : Int)), some (.ref l), some (.ref D), some (.ref la), x4, x5, x6, x7, x8, x9] ∧ Same H J ∧ Wd J D S ∧ Lay J la lr ∧ Sea n L S lr ∧ (∀ e, e ∈ lr → Mp n e.1 ∧ e.2.length ≤ S.length) ∧ ∀ r, Bf L S lr r → Res n L r) muSw
    ⟨[], [(List.range n, [])], la, _, _, _, _, _, _, rfl, sH5, ⟨[], eD5, .nil⟩, ⟨[T0], ela, .cons it0 .nil⟩, sea0 lo, fun e he => by rw [List.mem_singleton.mp he]; exact ⟨Mn0, Nat.le_refl _⟩, fun r h => h⟩ ?_ ?_
  rotate_left
  · rintro σ H Q Q' k ⟨R, h, r⟩
    exact ⟨R, h, fun x H1 z => k _ _ (r x H1 z)⟩
  rintro _ J ⟨S, lr, la, x4, x5, x6, x7, x8, x9, rfl, sJ, hW, hLy, sea, mpl, bf⟩
  obtain ⟨ts, eLa, prT⟩ := id hLy
  have lts : ts.length = lr.length := prT.length
  have emp : (!(ts.map V.ref).isEmpty) = !lr.isEmpty := by
    cases ts <;> cases lr <;> first | rfl | cases lts
  refine ⟨fun b G1 => J = G1 ∧ b = !lr.isEmpty, ⟨_, rfl, _, .inl ⟨_, SqL.of eLa, rfl⟩, rfl, emp⟩, ?_⟩
  rintro _ _ ⟨rfl, rfl⟩
  by_cases hlr : lr = []
  · subst hlr
    exact iteF ⟨_, rfl, q S D J (bf _ (.done S)) hW sJ hD⟩
  refine iteTt (by cases lr with
    | nil => exact absurd rfl hlr
    | cons => rfl) ?_
  refine ⟨szl _ (by simp), fun lg hlg => ?_⟩
  have mnU : ∀ {A : Hp} {o : HO}, mn lg (upd A lg o) = mn lg A := fun {A o} => by
    funext b
    unfold mn
    by_cases z : b = lg
    · rw [if_pos z, if_pos z]
    · rw [if_neg z, if_neg z, upd_ne z]
  have mnM : ∀ {A B : Hp}, Same A B → Same (mn lg A) (mn lg B) := fun {A B} s b o e => by
    have nb : b ≠ lg := fun z => by rw [z, mn_p] at e; cases e
    exact mn_sx _ _ nb (s _ _ (mn_same _ _ e))
  have sJm : Same J (mn lg J) := fun b o e => mn_sx _ _ (ne_of_none e hlg) e
  refine ⟨_, rfl, la, rfl, ⟨_, SqL.of (by rw [upd_ne (ne_of_none eLa hlg)]; exact eLa)⟩, ?_⟩
  refine for_it (walk_list (xs := ts.map V.ref)) (fun i σ G => ∃ S' lg' ts' x5 x6 x7 x8 x9, σ = [some (.int (n : Int)), some (.ref l), some (.ref D), some (.ref la), some (.ref lg), x5, x6, x7, x8, x9] ∧ Same H (mn lg G) ∧ mn lg G la = some (.lst (ts.map V.ref)) ∧ Paired (ItE (mn lg G)) ts lr ∧ Wd (mn lg G) D S' ∧
      G lg = some (.lst (ts'.map V.ref)) ∧ Paired (ItE (mn lg G)) ts' lg' ∧ lay L (lr.drop i) S' lg' = lay L lr S [] ∧ S'.length ≤ 16 ∧ lg'.length + S.length = S'.length ∧ ∀ e, e ∈ lg' → Mp n e.1 ∧ e.2.length ≤ S'.length)
    ⟨S, [], [], _, _, _, _, _, rfl, by rw [mnU]; exact sJ.trans sJm, by rw [mnU]; exact sJm _ _ eLa, by rw [mnU]; exact L2.Paired.mapP prT fun t e h => h.to fun b o z _ => sJm _ _ z, by rw [mnU]; exact hW.to sJm, upd_same, .nil, rfl, sea.le, by simp, fun _ z => (nomatch z)⟩
    (fun i σ G _ z => by
      obtain ⟨S', lg', ts', x5, x6, x7, x8, x9, _, _, e, _⟩ := z
      exact SqL.of (mn_same _ _ e)) ?_ ?_
  · rintro i y _ G G' hi ⟨S', lg', ts', x5, x6, x7, x8, x9, rfl, sF, eLa', prT', hW', eLo, prL, hlay, l16, ll, mpg⟩ ⟨rfl, hy⟩
    obtain ⟨T, hT, rfl⟩ := ref_at hy
    obtain ⟨st, hst, m, wd, e1, e2, e3⟩ := pair_at prT' hT
    have hil : i < lr.length := (List.getElem?_eq_some_iff.mp hst).1
    have hst' : lr.drop i = st :: lr.drop (i + 1) := by
      rw [List.drop_eq_getElem_cons hil]
      rw [List.getElem?_eq_getElem hil] at hst
      rw [Option.some.inj hst]
    obtain ⟨mst, wst⟩ := mpl st (List.mem_of_getElem? hst)
    refine ⟨T, _, rfl, SqT.of (mn_same _ _ e1), rfl, _, _, rfl, _, _, rfl, rfl, ?_⟩
    refine ⟨_, rfl, l, rfl, ⟨_, (hps.ext (sF.trans mn_same)).sq⟩, ?_⟩
    refine for_it (walk_tup (xs := ps.map V.ref)) (fun j σ G2 => ∃ S2 lg2 ts2 x7 x8 x9, σ = [some (.int (n : Int)), some (.ref l), some (.ref D), some (.ref la), some (.ref lg), some (.ref m), some (.ref wd), x7, x8, x9] ∧ (∀ b o, mn lg G' b = some o → (∀ k, o ≠ .dT k) → mn lg G2 b = some o) ∧ Same H (mn lg G2) ∧ Wd (mn lg G2) D S2 ∧
        G2 lg = some (.lst (ts2.map V.ref)) ∧ Paired (ItE (mn lg G2)) ts2 lg2 ∧ inn st (L.drop j) S2 lg2 = inn st L S' lg' ∧ S2.length ≤ 16 ∧ lg2.length + S.length = S2.length ∧ ∀ e, e ∈ lg2 → Mp n e.1 ∧ e.2.length ≤ S2.length)
      ⟨S', lg', ts', _, _, _, rfl, fun b o e _ => e, sF, hW', eLo, prL, rfl, l16, ll, mpg⟩ (fun j σ G2 _ z => by
        obtain ⟨S2, lg2, ts2, x7, x8, x9, _, _, sF2, _⟩ := z
        exact (hps.ext (sF2.trans mn_same)).sq) ?_ ?_
    · rintro j y _ G2 G3 hj ⟨S2, lg2, ts2, x7, x8, x9, rfl, nd2, sF2, hW2, eLo2, prL2, hin, l16', ll2, mpg2⟩ ⟨rfl, hy⟩
      obtain ⟨p, hp, rfl⟩ := ref_at hy
      obtain ⟨q1, hq1, t, ep, et⟩ := pair_at prl hp
      have hjl : j < L.length := (List.getElem?_eq_some_iff.mp hq1).1
      have hq1' : L.drop j = q1 :: L.drop (j + 1) := by
        rw [List.drop_eq_getElem_cons hjl]
        rw [List.getElem?_eq_getElem hjl] at hq1
        rw [Option.some.inj hq1]
      have hqm := List.mem_of_getElem? hq1
      have mq := lo.mp q1 hqm
      have sF2' := sF2.trans (mn_same (p := lg) (J := G3))
      refine ⟨p, _, rfl, SqT.of (sF2' _ _ ep), rfl, _, _, rfl, _, _, rfl, rfl, ?_⟩
      refine ⟨_, rfl, _, rfl, m, t, n, st.1, q1.2, rfl, SqT.of (mn_same _ _ (nd2 _ _ e2 fun k z => nomatch z)), SqT.of (sF2' _ _ et), mst, mq, n5, fun rx J3 s3 hrx erx => ?_⟩
      have sm3 := mnM s3
      have hW3 := hW2.to sm3
      obtain ⟨kvs, eD3, prD⟩ := id hW3
      have lkv : kvs.length = S2.length := prD.length
      have eD3' := mn_same _ _ eD3
      have nlg : rx ≠ lg := (ne_of_none eLo2 hrx).symm
      have eLo3 := s3 _ _ eLo2
      refine ⟨_, rfl, _, rfl, D, _, rfl, DGet.t (k := keyL (cmp st.1 q1.2)) eD3' (by rw [keyL_kV]; exact erx), ?_⟩
      rw [Wd.key prD]
      rw [hq1', inn_cons] at hin
      have st3 : (∀ b o, mn lg G' b = some o → (∀ k, o ≠ .dT k) → mn lg J3 b = some o) := fun b o e k => sm3 _ _ (nd2 b o e k)
      refine ⟨_, rfl, ?_⟩
      refine ite2 (fun c => ?_) (fun c => ?_)
      · have c' : cmp st.1 q1.2 ∈ keys S2 := of_decide_eq_true c
        rw [if_pos c'] at hin
        exact ⟨S2, lg2, ts2, _, _, _, rfl, st3, sF2.trans sm3, hW3, eLo3, L2.Paired.mapP prL2 fun t e h => h.to fun b o z _ => sm3 _ _ z, hin, l16', ll2, mpg2⟩
      have c' : cmp st.1 q1.2 ∉ keys S2 := fun z => c (decide_eq_true z)
      rw [if_neg c'] at hin
      refine ⟨_, rfl, D, kvs, rfl, eD3', rfl, _, rfl, ?_⟩
      refine ite2 (fun c2 => ?_) (fun c2 => ?_)
      · have c2' : S2.length = 16 := by
          have c3 : V.int ((kvs.length : Nat) : Int) = V.int 16 := of_decide_eq_true c2
          injection c3 with z
          omega
        rw [if_pos c2'] at hin
        have hl0 : lay L lr S [] = none := by
          rw [← hlay, hst', lay_cons, ← hin]
        exact ⟨fun vs H1 => vs = [.int 17] ∧ H1 = J3, ⟨_, _, rfl, rfl, rfl, rfl⟩, by rintro _ _ ⟨rfl, rfl⟩; exact ⟨.int 17, rfl, fun d hd => qE _ d (bf _ (.over hlr hl0)) ((sF2.trans sm3).trans mn_same) hd⟩⟩
      have c2' : ¬ S2.length = 16 := fun z => c2 (decide_eq_true (by rw [lkv, z]; rfl))
      rw [if_neg c2'] at hin
      have ewd := s3 _ _ (mn_same _ _ (nd2 _ _ e3 fun k z => nomatch z))
      have wlen : (st.2.map V.str).length + [V.str q1.1].length ≤ sizeLine := szl _ (by rw [List.length_map]; simp; omega)
      have emap : st.2.map V.str ++ [V.str q1.1] = (st.2 ++ [q1.1]).map V.str := by rw [List.map_append]; rfl
      refine ⟨_, rfl, _, rfl, szl _ (by simp), fun l1 hl1 => ⟨wd, l1, _, _, rfl, rfl, Same.new hl1 _ _ _ ewd, upd_same, wlen, fun w2 hw2 => ?_⟩⟩
      rw [emap]
      have s4 := (Same.new hl1 (.lst [.str q1.1])).trans (Same.new hw2 (.lst ((st.2 ++ [q1.1]).map V.str)))
      have ew2 := upd_same (H := upd J3 l1 (.lst [.str q1.1])) (a := w2) (o := .lst ((st.2 ++ [q1.1]).map V.str))
      have nw2 : w2 ≠ lg := fun z => by rw [z, Same.new hl1 _ _ _ eLo3] at hw2; cases hw2
      generalize upd (upd J3 l1 (.lst [.str q1.1])) w2 (.lst ((st.2 ++ [q1.1]).map V.str)) = J5 at s4 ew2 ⊢
      have eD5 := s4 _ _ eD3'
      have erx5 := s4 _ _ erx
      have vn : valV kvs (keyL (cmp st.1 q1.2)) = none := by
        have := Wd.key prD (cmp st.1 q1.2)
        rw [decide_eq_false c'] at this
        cases hv : valV kvs (keyL (cmp st.1 q1.2)) with
        | none => rfl
        | some v => rw [hv] at this; cases this
      refine ⟨_, rfl, _, rfl, D, _, rfl, DPut.t (k := keyL (cmp st.1 q1.2)) eD5 (by rw [keyL_kV]; exact erx5) (by rw [lkv, sizeLine_eq]; omega), ?_⟩
      rw [putK_new _ vn]
      have n6 : ∀ b o, J5 b = some o → (∀ k, o ≠ .dT k) → (upd J5 D (.dT (kvs ++ [(keyL (cmp st.1 q1.2), .ref w2)]))) b = some o := fun b o e k => by
        rw [upd_ne (fun z => k kvs (by rw [z, eD5] at e; exact (Option.some.inj e).symm))]; exact e
      have sH6 : Same H (upd J5 D (.dT (kvs ++ [(keyL (cmp st.1 q1.2), .ref w2)]))) := fun b o e => by
        rw [upd_ne (ne_of_none e hD)]; exact s4 _ _ (mn_same _ _ (sm3 _ _ (sF2 _ _ e)))
      have eD6 := upd_same (H := J5) (a := D) (o := .dT (kvs ++ [(keyL (cmp st.1 q1.2), .ref w2)]))
      generalize upd J5 D (.dT (kvs ++ [(keyL (cmp st.1 q1.2), .ref w2)])) = J6 at n6 sH6 eD6 ⊢
      have eLo6 := n6 _ _ (s4 _ _ eLo3) fun k z => nomatch z
      have ewd6 := n6 _ _ (s4 _ _ ewd) fun k z => nomatch z
      refine ⟨_, rfl, .inl ⟨rfl, _, SqL.of eLo6⟩, _, rfl, _, rfl, _, rfl, szl _ (by simp), fun l3 hl3 => ⟨wd, l3, _, _, rfl, rfl, Same.new hl3 _ _ _ ewd6, upd_same, wlen, fun w3 hw3 => ⟨szl _ (by simp), fun T2 hT2 => ?_⟩⟩⟩
      rw [emap] at hT2 ⊢
      have s7 := ((Same.new hl3 (.lst [.str q1.1])).trans (Same.new hw3 (.lst ((st.2 ++ [q1.1]).map V.str)))).trans (Same.new hT2 (.tup [.ref rx, .ref w3]))
      have ew3 := Same.new hT2 (.tup [.ref rx, .ref w3]) _ _ (upd_same (H := upd J6 l3 (.lst [.str q1.1])) (a := w3) (o := .lst ((st.2 ++ [q1.1]).map V.str)))
      have eT2 := upd_same (H := upd (upd J6 l3 (.lst [.str q1.1])) w3 (.lst ((st.2 ++ [q1.1]).map V.str))) (a := T2) (o := .tup [.ref rx, .ref w3])
      have nw3 : w3 ≠ lg := fun z => by rw [z, Same.new hl3 _ _ _ eLo6] at hw3; cases hw3
      have nT2 : T2 ≠ lg := (ne_of_none (((Same.new hl3 (.lst [.str q1.1])).trans (Same.new hw3 (.lst ((st.2 ++ [q1.1]).map V.str)))) _ _ eLo6) hT2).symm
      generalize upd (upd (upd J6 l3 (.lst [.str q1.1])) w3 (.lst ((st.2 ++ [q1.1]).map V.str))) T2 (.tup [.ref rx, .ref w3]) = J9 at s7 ew3 eT2 ⊢
      have eLo9 := s7 _ _ eLo6
      have lts2 : ts2.length = lg2.length := prL2.length
      refine ⟨lg, _, _, rfl, rfl, eLo9, by rw [List.length_map]; exact small1000 (by omega), ?_⟩
      have up : ∀ b o, mn lg J3 b = some o → (∀ k, o ≠ .dT k) → mn lg J9 b = some o := fun b o e k => by
        have nb : b ≠ lg := fun z => by rw [z, mn_p] at e; cases e
        exact mn_sx _ _ nb (s7 _ _ (n6 _ _ (s4 _ _ (mn_same _ _ e)) k))
      have nDl : D ≠ lg := fun z => by rw [z, mn_p] at eD3; cases eD3
      refine ⟨S2 ++ [new st q1], lg2 ++ [new st q1], ts2 ++ [T2], _, _, _, rfl, ?_, ?_, ?_, ?_, ?_, hin, ?_, ?_, ?_⟩
      all_goals try rw [mnU]
      · exact fun b o e k => up _ _ (st3 b o e k) k
      · exact fun b o e => mn_sx _ _ (ne_of_none (sJ _ _ e) hlg) (s7 _ _ (sH6 _ _ e))
      · refine ⟨_, mn_sx _ _ nDl (s7 _ _ eD6), pair_app (L2.Paired.mapP prD fun kv e ⟨h1, a, h2, h3⟩ => ⟨h1, a, h2, up _ _ h3 fun k z => nomatch z⟩) ⟨rfl, w2, rfl, ?_⟩⟩
        exact mn_sx _ _ nw2 (s7 _ _ (n6 _ _ ew2 fun k z => nomatch z))
      · rw [upd_same, List.map_append]; rfl
      · refine pair_app (L2.Paired.mapP prL2 fun t e h => h.to fun b o z k => up _ _ (sm3 _ _ z) k) ⟨rx, w3, mn_sx _ _ nT2 eT2, mn_sx _ _ nlg (s7 _ _ (n6 _ _ erx5 fun k z => nomatch z)), mn_sx _ _ nw3 ew3⟩
      · rw [List.length_append]; show S2.length + 1 ≤ 16; omega
      · rw [List.length_append, List.length_append]; simp; omega
      · intro e he
        rw [List.length_append]
        rcases List.mem_append.mp he with h | h
        · obtain ⟨a1, a2⟩ := mpg2 e h
          exact ⟨a1, by simp; omega⟩
        · rw [List.mem_singleton.mp h]
          refine ⟨cmp_mp mst mq, ?_⟩
          show (st.2 ++ [q1.1]).length ≤ _
          rw [List.length_append]; simp; omega
    · rintro _ G2 ⟨S2, lg2, ts2, x7, x8, x9, rfl, nd2, sF2, hW2, eLo2, prL2, hin, l16', ll2, mpg2⟩
      have lps : ps.length = L.length := prl.length
      rw [List.length_map, lps, List.drop_length] at hin
      have hin' : some (S2, lg2) = inn st L S' lg' := hin
      refine ⟨S2, lg2, ts2, _, _, _, _, _, rfl, sF2, nd2 _ _ eLa' (fun k z => nomatch z), L2.Paired.mapP prT' fun t e h => h.to nd2, hW2, eLo2, prL2, ?_, l16', ll2, mpg2⟩
      have e0 : lay L (st :: lr.drop (i + 1)) S' lg' = lay L (lr.drop (i + 1)) S2 lg2 := by
        rw [lay_cons, ← hin']
      rw [← e0, ← hst']
      exact hlay
  · rintro _ G ⟨S', lg', ts', x5, x6, x7, x8, x9, rfl, sF, eLa', prT', hW', eLo, prL, hlay, l16, ll, mpg⟩
    rw [List.length_map, lts, List.drop_length] at hlay
    have hlay' : lay L lr S [] = some (S', lg') := hlay.symm
    refine ⟨_, rfl, ⟨S', lg', lg, _, _, _, _, _, _, rfl, sF.trans mn_same, hW'.to mn_same, ⟨ts', eLo, L2.Paired.mapP prL fun t e h => h.to fun b o z _ => mn_same _ _ z⟩, sea.next hlay', mpg, fun r h => bf r (.next hlr hlay' h)⟩, ?_⟩
    obtain ⟨kvs, eD, prD⟩ := id hW
    obtain ⟨kvs', eD', prD'⟩ := id hW'
    have k1 : kvs.length = S.length := prD.length
    have k2 : kvs'.length = S'.length := prD'.length
    have k3 : ts'.length = lg'.length := prL.length
    have k4 := sea.le
    have k5 : 1 ≤ lr.length := List.length_pos_iff.mpr hlr
    rw [muSw_of (a := D) (b := lg) rfl (mn_same _ _ eD') rfl eLo, muSw_of (a := D) (b := la) rfl eD rfl eLa, k1, k2, List.length_map, List.length_map, lts, k3]
    omega
end
end L

set_option Elab.async false
set_option linter.all false
set_option maxRecDepth 100000
set_option maxHeartbeats 4000000
set_option pp.maxSteps 400
namespace L
open PySem L2 KX
abbrev sAl : Stmt := top 30
abbrev sTi : Stmt := inClass (top 29) 0
abbrev nAl : List Str := ["states", "letters", "name"]
abbrev nTi : List Str := ["self", "states", "letters", "words", "name", "targets"]
theorem ctu {X : Cx} {K : PySem.W.Frag} (hK : X.K = K) : CallR X (.type "tuple") (fun xs H Q => ∃ p ys, xs = [.ref p] ∧ ((SqL K H p ys ∧ ∀ l, H l = none → Q (.ref l) (upd H l (.tup ys))) ∨ (SqT K H p ys ∧ Q (.ref p) H))) := by subst hK; exact call_tuple_of
structure TfX (K : PySem.W.Frag) (CF : Addr) : Prop where
  cl : Cls K CF
  n1 : NoAttr K CF "_states"
  n2 : NoAttr K CF "_letters"
  n3 : NoAttr K CF "_contents"
  n4 : NoAttr K CF "_words"
structure NmOk (L : Ltt) : Prop where
  nd : (L.map (·.1)).Nodup
  nm : ∀ q, q ∈ L → nm q.1 = true
/-- the letters that are passed -/
def GvP (H : Hp) (kvs : List (Key × V)) (L : Ltt) : Prop := Paired (fun (kv : Key × V) (q : Str × List Nat) => kv.1 = Sum.inr q.1 ∧ ∃ a, kv.2 = .ref a ∧ H a = some (.lst (nv q.2))) kvs L
def Gv (H : Hp) (l : Addr) (L : Ltt) : Prop := ∃ kvs, H l = some (.dK kvs) ∧ GvP H kvs L
theorem Gv.to {H H' : Hp} {l : Addr} {L : Ltt} (h : Gv H l L) (s : Same H H') : Gv H' l L := by
  obtain ⟨kvs, e, pr⟩ := h
  exact ⟨kvs, s _ _ e, L2.Paired.mapP pr fun kv q ⟨a, b, c, d⟩ => ⟨a, b, c, s _ _ d⟩⟩
/-- letters whose targets are lists or tuples -/
def GtP (H : Hp) (kvs : List (Key × V)) (L : Ltt) : Prop := Paired (fun (kv : Key × V) (q : Str × List Nat) => kv.1 = Sum.inr q.1 ∧ ∃ a, kv.2 = .ref a ∧ (H a = some (.lst (nv q.2)) ∨ H a = some (.tup (nv q.2)))) kvs L
def Gt (H : Hp) (l : Addr) (L : Ltt) : Prop := ∃ kvs, H l = some (.dK kvs) ∧ GtP H kvs L
theorem Gt.to {H H' : Hp} {l : Addr} {L : Ltt} (h : Gt H l L) (s : Same H H') : Gt H' l L := by
  obtain ⟨kvs, e, pr⟩ := h
  exact ⟨kvs, s _ _ e, L2.Paired.mapP pr fun kv q ⟨a, b, c, d⟩ => ⟨a, b, c, d.imp (s _ _) (s _ _)⟩⟩
theorem Gv.t {H : Hp} {l : Addr} {L : Ltt} (h : Gv H l L) : Gt H l L := by
  obtain ⟨kvs, e, pr⟩ := h
  exact ⟨kvs, e, L2.Paired.mapP pr fun kv q ⟨a, b, c, d⟩ => ⟨a, b, c, .inl d⟩⟩
theorem GtP.keys {H : Hp} {kvs : List (Key × V)} {L : Ltt} (h : GtP H kvs L) : kvs.map (·.1) = L.map fun q => (Sum.inr q.1 : Key) := by
  unfold GtP at h
  induction h with
  | nil => rfl
  | cons h _ ih => rw [List.map_cons, List.map_cons, ih, h.1]
theorem GtP.nd {H : Hp} {kvs : List (Key × V)} {L : Ltt} (h : GtP H kvs L) (n : NmOk L) : (kvs.map (·.1)).Nodup := by
  rw [h.keys]
  exact List.pairwise_map.mpr ((List.pairwise_map.mp n.nd).imp fun ne e => ne (Sum.inr.inj e))
theorem lt_ne {H : Hp} {b a : Addr} {m : List Nat} {o : HO} (h : H b = some (.lst (nv m)) ∨ H b = some (.tup (nv m))) (ha : H a = some o) (n1 : ∀ xs, o ≠ .lst xs) (n2 : ∀ xs, o ≠ .tup xs) : b ≠ a := fun z => by
  rw [z, ha] at h
  rcases h with h | h
  · exact n1 _ (Option.some.inj h)
  · exact n2 _ (Option.some.inj h)
theorem GvP.keys {H : Hp} {kvs : List (Key × V)} {L : Ltt} (h : GvP H kvs L) : kvs.map (·.1) = L.map fun q => (Sum.inr q.1 : Key) := by
  unfold GvP at h
  induction h with
  | nil => rfl
  | cons h _ ih => rw [List.map_cons, List.map_cons, ih, h.1]
theorem GvP.nd {H : Hp} {kvs : List (Key × V)} {L : Ltt} (h : GvP H kvs L) (n : NmOk L) : (kvs.map (·.1)).Nodup := by
  rw [h.keys]
  exact List.pairwise_map.mpr ((List.pairwise_map.mp n.nd).imp fun ne e => ne (Sum.inr.inj e))
structure TrA (CF : Addr) (H : Hp) (a : Addr) (n : Nat) (L : Ltt) (S : List En) : Prop where
  ob : ∃ dx tl cl wl, H a = some (.ins CF dx [("_states", .int (n : Int)), ("_letters", .ref tl), ("_contents", .ref cl), ("_words", .ref wl)]) ∧ Ltr H tl L ∧
    (∃ bs : List Addr, H cl = some (.lst (bs.map V.ref)) ∧ Paired (fun b (e : En) => H b = some (.tup (nv e.1))) bs S) ∧ ∃ ws : List Addr, H wl = some (.lst (ws.map V.ref)) ∧ Paired (fun b (e : En) => H b = some (.lst (e.2.map V.str))) ws S
theorem TrA.to {CF : Addr} {H H' : Hp} {a : Addr} {n : Nat} {L : Ltt} {S : List En} (h : TrA CF H a n L S) (s : Same H H') : TrA CF H' a n L S := by
  obtain ⟨dx, tl, cl, wl, e, hl, ⟨bs, e1, p1⟩, ws, e2, p2⟩ := h.ob
  exact ⟨dx, tl, cl, wl, s _ _ e, hl.to s, ⟨bs, s _ _ e1, L2.Paired.mapP p1 fun b e h => s _ _ h⟩, ws, s _ _ e2, L2.Paired.mapP p2 fun b e h => s _ _ h⟩
theorem pair_join {α β γ : Type} {R : α → β → Prop} {Q : α → γ → Prop} : ∀ {as : List α} {bs : List β} {cs : List γ}, Paired R as bs → Paired Q as cs → Paired (fun b c => ∃ a, R a b ∧ Q a c) bs cs
  | _, _, _, .nil, .nil => .nil
  | _, _, _, .cons h t, .cons h' t' => .cons ⟨_, h, h'⟩ (pair_join t t')
theorem wd_refs {H : Hp} {kvs : List (List Key × V)} {S : List En} (h : Paired (fun (kv : List Key × V) (e : En) => kv.1 = keyL e.1 ∧ ∃ a, kv.2 = .ref a ∧ H a = some (.lst (e.2.map V.str))) kvs S) : ∃ ws : List Addr, kvs.map (·.2) = ws.map V.ref ∧ Paired (fun b (e : En) => H b = some (.lst (e.2.map V.str))) ws S := by
  induction h with
  | nil => exact ⟨[], rfl, .nil⟩
  | cons h _ ih =>
    obtain ⟨ws, e1, e2⟩ := ih
    obtain ⟨_, a, h2, h3⟩ := h
    exact ⟨a :: ws, by rw [List.map_cons, List.map_cons, e1, h2], .cons h3 e2⟩
def spAl : Sp := fun vs H Q _ => ∃ (n : Nat) (l : Addr) (L : Ltt), vs = [.int (n : Int), .ref l] ∧ LOk n L ∧ NmOk L ∧ Gt H l L ∧ ∀ H', Same H H' → Q (.bl true) H'
def spTi (CF CO : Addr) : Sp := fun vs H Q E => ∃ (a dx : Addr) (n : Nat) (l : Addr) (L : Ltt), vs = [.ref a, .int (n : Int), .ref l] ∧ H a = some (.ins CF dx []) ∧ LOk n L ∧ NmOk L ∧ Gt H l L ∧
  (∀ S H', Res n L (some S) → TrA CF H' a n L S → (∀ b o, b ≠ a → H b = some o → H' b = some o) → Q .non H') ∧ (∀ H' d, Res n L none → (∀ b o, b ≠ a → H b = some o → H' b = some o) → H' d = none → E (.ref CO) (some d) (upd H' d (.xd [("count", .int 17)])))
section
variable {P : Program} {w : World} {K : PySem.W.Frag} {mg : Str → Option Value} {base : Heap} {f f1 f2 f3 : Addr} {fd d1 d2 d3 : FuncData} {C CF CO : Addr}
theorem scAl : FnScope nAl ["states", "letters"] (defScope sAl) := ⟨rfl, rfl, rfl, by decide +kernel, rfl, by decide +kernel, by decide +kernel⟩
theorem ok_al (F : Fun K "_are_letters" "_are_letters" sAl f fd) (M : Mn mg) (mL : ∃ t, mg "MOST_LETTERS" = some (.int 4 t))
    (G1 : FnOk P w K mg base CX0 1 f1 d1 ["value"] (spIsName K)) (b1 : Binds K d1 ["value"] []) (k1 : PySem.W.keepIn K (.ref f1) = true) (m1 : mg "is_name" = some (.ref f1))
    (G2 : FnOk P w K mg base CX0 3 f2 d2 ["value", "least", "most", "limit"] (spNumList K)) (b2 : Binds K d2 ["value", "least", "most", "limit"] []) (k2 : PySem.W.keepIn K (.ref f2) = true) (m2 : mg "is_number_list" = some (.ref f2)) :
    FnOk P w K mg base CX0 4 f fd ["states", "letters"] spAl := by
  obtain ⟨tok, mL⟩ := mL
  refine F.ok scAl (fun vs H Q E h => ?_) (fun cdv A outer s H vs Q E hr h => ?_)
  · obtain ⟨n, l, L, rfl, _⟩ := h
    rfl
  obtain ⟨n, l, L, rfl, lo, no, hG, q⟩ := h
  have hr1 : Room 1 _ := hr.mono (by decide)
  have hr3 : Room 3 _ := hr.mono (by decide)
  have hu := hr.units
  have hu1 : (A.deeper (PyProof.Rows.envOfC "_are_letters" (defScope sAl) s.heap.objs.size f cdv)).units + 1 < cLine := by omega
  refine ⟨_, (pss_cons (ps_if (pw_or (pt_not (pt_val (pe_callB call_isi (by rfl) M.isin (by decide +kernel) (pa_cons (pv 1) (pa_cons (pe_bltn (v := .ty "dict") (by rfl) M.dict (by decide +kernel) rfl) pa_nil))))) (pw_or1 (pt_not (pt_chain op_le op_le pe_int (pe_callB call_lenD (by rfl) M.len PySem.boot_len (pa_cons (pv 1) pa_nil)) (pe_glob (v := .int 4) (by rfl) mL ⟨_, rfl⟩))))).pt (pss_one (ps_ret pe_bl)) pss_nil) (pss_one (ps_lock (ps_ret (pe_callB (cr_all rfl) (by rfl) M.all (by decide +kernel) (pa_cons (pe_lc (own := [("name", 2)]) (g := gName 2) (tt := tYes) rfl scAl.nd (pi_keys (pv 1)) (blkOk_by (N := nAl) (sc := defScope sAl) (by decide +kernel)) (fun _ _ _ _ _ => (pg_name (i := 2) scAl.nd rfl (Or.inl rfl))) (fun _ _ _ _ _ => pts_nil) (fun _ _ _ _ _ => (pe_and (pe_call G1 hr1 (by rfl) m1 k1 b1 .nil pass0 (pa_cons (pv 2) pa_nil)) (pe_one (pe_call G2 hr3 (by rfl) m2 k2 b2 .nil pass0 (pa_cons (pe_dget (by exact hu1) (pv 1) (pv 2) (fun _ _ => rfl)) (pa_cons (pv 0) (pa_cons (pv 0) (pa_cons (pv 0) pa_nil))))))))) pa_nil)))))), ?_⟩
  obtain ⟨kvs, eg, pr⟩ := hG
  have lk : kvs.length = L.length := pr.length
  have l1 := lo.le
  have l4 := lo.ge
  have n1 := lo.n1
  have n5 := lo.n5
  have nd := GtP.nd pr no
  refine ⟨_, rfl, _, .ty "dict", .type "dict", .type "dict", true, rfl, .ty _, .base (.dK eg), kit_ty (by decide +kernel), true, rfl, iteF ?_⟩
  refine ⟨_, rfl, l, kvs, rfl, eg, _, _, rfl, rfl, _, rfl, ?_⟩
  rw [lk]
  refine iteTt (decide_eq_true (by omega)) ⟨_, _, rfl, rfl, _, rfl, iteFf (by rw [decide_eq_true (by omega)]; rfl) ?_⟩
  refine ⟨l, .dK kvs, eg, trivial, fun od => ?_⟩
  have eF := upd_same (H := H) (a := l) (o := .frz od (.dK kvs))
  have sHF : ∀ b o, b ≠ l → H b = some o → (upd H l (.frz od (.dK kvs))) b = some o := fun b o n e => by rw [upd_ne n]; exact e
  generalize upd H l (.frz od (.dK kvs)) = F at eF sHF ⊢
  refine ⟨_, rfl, l, od, rfl, .inl ⟨kvs, eF, fun D hD => ?_⟩⟩
  refine lc_it walk_keys (fun i G => Same F G ∧ G D = some (.lst ((List.replicate i true).map V.bl))) ⟨Same.new hD _, upd_same⟩ (fun i G _ z => z.1 _ _ eF) ?_ ?_
  · rintro i y G G' hi ⟨sG, eD⟩ ⟨rfl, k, v, hk, rfl⟩
    obtain ⟨q1, hq1, rfl, b, rfl, eb⟩ := pair_at pr hk
    have hqm := List.mem_of_getElem? hq1
    have nbl : b ≠ l := lt_ne eb eg (fun _ z => nomatch z) (fun _ z => nomatch z)
    have mq := lo.mp q1 hqm
    refine ⟨rfl, _, rfl, .str q1.1, nm q1.1, rfl, .inl ⟨q1.1, rfl, (lo.ss q1 hqm).mono (by decide), rfl⟩, fun G1 s1 => ?_⟩
    rw [no.nm q1 hqm]
    have sF1 := sG.trans s1
    have numb : (nv q1.2).all (nb (n : Int)) = true := List.all_eq_true.mpr fun x hx => by
      obtain ⟨y, hy, rfl⟩ := List.mem_map.mp hx
      have := mq.2 y hy
      show (decide ((0 : Int) ≤ (y : Int)) && decide ((y : Int) < (n : Int))) = true
      rw [decide_eq_true (by omega), decide_eq_true (by omega)]; rfl
    have itm : ∀ x, x ∈ nv q1.2 → Itm K G1 x := fun x hx => by
      obtain ⟨y, _, rfl⟩ := List.mem_map.mp hx
      exact .inl ⟨_, rfl⟩
    have gd : DGet G1 l (.str q1.1) (some (.ref b)) := .inl ⟨kvs, Sum.inr q1.1, .inr ⟨od, sF1 _ _ eF⟩, rfl, (val_nodup nd _ (List.mem_of_getElem? hk)).symm⟩
    refine ⟨_, rfl, iteT ⟨_, rfl, _, rfl, l, _, rfl, gd, _, rfl, _, rfl, _, rfl, .ref b, _, _, _, rfl, .inl ⟨nv q1.2, ⟨b, rfl, eb.elim (fun e => .inl (SqL.of (sF1 _ _ (sHF _ _ nbl e)))) (fun e => .inr (SqT.of (sF1 _ _ (sHF _ _ nbl e))))⟩, itm, by rw [nv_len, mq.1]; omega, fun G2 s2 => ?_⟩⟩⟩
    rw [nv_len, mq.1, decide_eq_true (Int.le_refl _), numb]
    have sF2 := sF1.trans s2
    refine ⟨_, s2 _ _ (s1 _ _ eD), by rw [List.length_map, List.length_replicate]; exact small1000 (by omega), fun c o e => by rw [upd_ne (ne_of_none e hD)]; exact sF2 _ _ e, ?_⟩
    rw [upd_same, List.replicate_succ', List.map_append]; rfl
  rintro G ⟨sG, eD⟩
  refine ⟨D, _, rfl, SqL.of eD, sG _ _ eF, ?_⟩
  rw [show (List.replicate kvs.length true).all id = true from List.all_eq_true.mpr fun x hx => (List.eq_of_mem_replicate hx)]
  refine q _ fun b o e => ?_
  by_cases c : b = l
  · rw [c, upd_same]; rw [c, eg] at e; exact e
  · rw [upd_ne c]; exact sG _ _ (sHF _ _ c e)
theorem scTi : FnScope nTi ["self", "states", "letters"] (defScope sTi) := ⟨rfl, rfl, rfl, by decide +kernel, rfl, by decide +kernel, by decide +kernel⟩
theorem ok_ti (F : Fun K "__init__" "Transformations.__init__" sTi f fd) (M : Mn mg) (U : TfX K CF) (mS : ∃ t, mg "MOST_STATES" = some (.int 5 t))
    (G1 : FnOk P w K mg base CX0 1 f1 d1 ["value"] (spIsInt K)) (b1 : Binds K d1 ["value"] []) (k1 : PySem.W.keepIn K (.ref f1) = true) (m1 : mg "is_integer" = some (.ref f1))
    (G2 : FnOk P w K mg base CX0 4 f2 d2 ["states", "letters"] spAl) (b2 : Binds K d2 ["states", "letters"] []) (k2 : PySem.W.keepIn K (.ref f2) = true) (m2 : mg "_are_letters" = some (.ref f2))
    (G3 : FnOk P w K mg base (L2.CX P w) 3 f3 d3 ["states", "letters"] (spSw CO)) (b3 : Binds K d3 ["states", "letters"] []) (k3 : PySem.W.keepIn K (.ref f3) = true) (m3 : mg "_shortest_words" = some (.ref f3)) :
    FnOk P w K mg base (L2.CX P w) 5 f fd ["self", "states", "letters"] (spTi CF CO) := by
  obtain ⟨tok, mS⟩ := mS
  refine F.okX scTi (fun vs H Q E h => ?_) (fun cdv A outer s H vs Q E hr h => ?_)
  · obtain ⟨a, dx, n, l, L, rfl, _⟩ := h
    rfl
  obtain ⟨a, dx, n, l, L, rfl, ha, lo, no, hG, q, qE⟩ := h
  have hr1 : Room 1 _ := hr.mono (by decide)
  have hr3 : Room 3 _ := hr.mono (by decide)
  have hr4 : Room 4 _ := hr.mono (by decide)
  have hu := hr.units
  refine ⟨_, (pss_cons (ps_if (pw_or (pt_not (pt_val (pe_call G1 hr1 (by rfl) m1 k1 b1 .nil pass0 (pa_cons (pv 1) pa_nil)))) (pw_or1 (pt_not (pt_chain op_le op_le pe_int (pv 1) (pe_glob (v := .int 5) (by rfl) mS ⟨_, rfl⟩))))).pt pss_dead pss_nil) (pss_cons (ps_if (pt_not (pt_val (pe_call G2 hr4 (by rfl) m2 k2 b2 .nil pass0 (pa_cons (pv 1) (pa_cons (pv 2) pa_nil))))) pss_dead pss_nil) (pss_cons (ps_fld (pv 0) (pv 1) rfl) (pss_cons (ps_lock (ps_fld (pv 0) (pe_callTy (call_tuple_F (K := K) rfl) (by rfl) M.tuple (by decide +kernel) (pa_cons (pe_lc (own := [("name", 4), ("targets", 5)]) (g := gTup _ 2 (gCons (gName 4) (gCons (gName 5) gNil))) (tt := tYes) rfl scTi.nd (pi_items (pv 2)) (blkOk_by (N := nTi) (sc := defScope sTi) (by decide +kernel)) (fun _ _ _ _ _ => (pg_tup rfl (pgs_cons (pg_name (i := 4) scTi.nd rfl (Or.inl rfl)) (pgs_cons (pg_name (i := 5) scTi.nd rfl (Or.inl rfl)) pgs_nil)))) (fun _ _ _ _ _ => pts_nil) (fun _ _ _ _ _ => (pe_tup (pa_cons (pv 4) (pa_cons (pe_callTy (ctu (K := K) rfl) (by rfl) M.tuple (by decide +kernel) (pa_cons (pv 5) pa_nil)) pa_nil))))) pa_nil)) rfl)) (pss_cons (ps_set (i := 3) scTi.nd rfl (Or.inl rfl) (pe_call G3 hr3 (by rfl) m3 k3 b3 .nil (passes_call (takes_of rfl rfl rfl rfl) (fun _ _ _ _ h => h)) (pa_cons (pv 1) (pa_cons (pe_fld (pv 0) rfl) pa_nil)))) (pss_cons (ps_fld (pv 0) (pe_callTy (call_list_dT rfl) (by rfl) M.list (by decide +kernel) (pa_cons (pv 3) pa_nil)) rfl) (pss_one (ps_fld (pv 0) (pe_listVals rfl (by rfl) M.list (pv 3)) rfl)))))))), ?_⟩
  obtain ⟨kvs, eg, pr⟩ := id hG
  have nd := GtP.nd pr no
  have n1 := lo.n1
  have n5 := lo.n5
  have l4 := lo.ge
  have nla : l ≠ a := ne_of eg ha fun z => nomatch z
  let FF : Hp := mn a H
  have nF : FF a = none := mn_p
  have sF : Same FF H := mn_same
  have toF : ∀ b o, b ≠ a → H b = some o → FF b = some o := fun b o n e => mn_sx _ _ n e
  have egF : FF l = some (.dK kvs) := toF _ _ nla eg
  have prF : GtP FF kvs L := L2.Paired.mapP pr fun kv q ⟨x, b, y, z⟩ => ⟨x, b, y, z.imp (toF _ _ (lt_ne z ha (fun _ z => nomatch z) (fun _ z => nomatch z))) (toF _ _ (lt_ne z ha (fun _ z => nomatch z) (fun _ z => nomatch z)))⟩
  generalize FF = F at nF sF toF egF prF
  have nx : ∀ {J : Hp} {o : HO}, Same F J → Same F (upd J a o) := fun h b o e => by rw [upd_ne (ne_of_none e nF)]; exact h _ _ e
  have out : ∀ {J : Hp}, Same F J → ∀ b o, b ≠ a → H b = some o → J b = some o := fun h b o n e => h _ _ (toF b o n e)
  refine ⟨_, rfl, _, true, false, rfl, ⟨_, .base (.int _), kit_ty (by decide +kernel), kit_ty (by decide +kernel)⟩, _, rfl, iteF ?_⟩
  refine ⟨_, rfl, _, _, rfl, rfl, _, rfl, iteTt (decide_eq_true (by omega)) ⟨_, _, rfl, rfl, _, rfl, iteFf (by rw [decide_eq_true (by omega)]; rfl) ?_⟩⟩
  refine ⟨_, rfl, _, rfl, n, l, L, rfl, lo, no, hG, fun H1 s1 => ⟨_, rfl, iteF ?_⟩⟩
  have ha1 := s1 _ _ ha
  have sF1 := sF.trans s1
  refine ⟨_, rfl, _, rfl, a, CF, dx, _, rfl, ha1, U.cl, U.n1, (by show 0 < 1000; decide), ?_⟩
  have sF2 := nx (o := .ins CF dx (putF (Str.ofString "_states") (.int (n : Int)) [])) sF1
  have c2 : (upd H1 a (.ins CF dx (putF (Str.ofString "_states") (.int (n : Int)) []))) a = some (.ins CF dx [("_states", .int (n : Int))]) := upd_same
  generalize upd H1 a (.ins CF dx (putF (Str.ofString "_states") (.int (n : Int)) [])) = H2 at sF2 c2 ⊢
  have el2 := sF2 _ _ egF
  refine ⟨l, .dK kvs, el2, trivial, fun od => ?_⟩
  have e3 := upd_same (H := H2) (a := l) (o := .frz od (.dK kvs))
  have s3 : ∀ b o, b ≠ l → H2 b = some o → (upd H2 l (.frz od (.dK kvs))) b = some o := fun b o n e => by rw [upd_ne n]; exact e
  have f3 : ∀ b, (upd H2 l (.frz od (.dK kvs))) b = none → H2 b = none := fun b e => by
    by_cases z : b = l
    · rw [z, e3] at e; cases e
    · rw [upd_ne z] at e; exact e
  generalize upd H2 l (.frz od (.dK kvs)) = H3 at e3 s3 f3 ⊢
  refine ⟨_, rfl, l, od, kvs, rfl, e3, fun D hD => ?_⟩
  refine lc_it walk_items (fun i G => Same H3 G ∧ ∃ ps : List Addr, G D = some (.lst (ps.map V.ref)) ∧ Paired (fun p (q : Str × List Nat) => p ≠ D ∧ ∃ t, t ≠ D ∧ G p = some (.tup [.str q.1, .ref t]) ∧ G t = some (.tup (nv q.2))) ps (L.take i)) ⟨Same.new hD _, [], upd_same, .nil⟩ (fun i G _ z => z.1 _ _ e3) ?_ ?_
  · rintro i y G1 G2 hi ⟨sG, ps, eD, pps⟩ ⟨T, y1, y2, rfl, hT, rfl, g1, g2⟩
    obtain ⟨⟨k, v⟩, hk⟩ : ∃ kv, kvs[i]? = some kv := ⟨kvs[i], List.getElem?_eq_getElem hi⟩
    obtain ⟨q1, hq1, rfl, b, rfl, eb⟩ := pair_at prF hk
    dsimp only at g1 g2
    rw [hk] at g1 g2
    cases g1
    cases g2
    dsimp only
    change gTup _ _ _ _ _ (upd G1 T (.tup [.str q1.1, .ref b])) _
    have lps : ps.length = i := by
      rw [pps.length, List.length_take]
      have : L.length = kvs.length := prF.length.symm
      omega
    have nbl : b ≠ l := lt_ne eb egF (fun _ z => nomatch z) (fun _ z => nomatch z)
    have u1 := Same.new hT (.tup [.str q1.1, .ref b])
    have nDT : D ≠ T := ne_of_none eD hT
    have tk : L.take (i + 1) = L.take i ++ [q1] := by rw [List.take_add_one, hq1]; rfl
    refine ⟨T, _, rfl, SqT.of upd_same, rfl, _, _, rfl, _, _, rfl, rfl, rfl, _, rfl, _, rfl, b, nv q1.2, rfl, ?_⟩
    have fin : ∀ (t : Addr) (J : Hp), Same (upd G1 T (.tup [.str q1.1, .ref b])) J → J t = some (.tup (nv q1.2)) → t ≠ D → ∀ (T2 : Addr), J T2 = none → ∃ xs : List V, (upd J T2 (.tup [.str q1.1, .ref t])) D = some (.lst xs) ∧ xs.length < sizeLine ∧ (Same H3 (upd (upd J T2 (.tup [.str q1.1, .ref t])) D (.lst (xs ++ [.ref T2]))) ∧ ∃ ps : List Addr, (upd (upd J T2 (.tup [.str q1.1, .ref t])) D (.lst (xs ++ [.ref T2]))) D = some (.lst (ps.map V.ref)) ∧ Paired (fun p (q : Str × List Nat) => p ≠ D ∧ ∃ t', t' ≠ D ∧ (upd (upd J T2 (.tup [.str q1.1, .ref t])) D (.lst (xs ++ [.ref T2]))) p = some (.tup [.str q.1, .ref t']) ∧ (upd (upd J T2 (.tup [.str q1.1, .ref t])) D (.lst (xs ++ [.ref T2]))) t' = some (.tup (nv q.2))) ps (L.take (i + 1))) := fun t J sJ et ntD T2 hT2 => by
      have u2 := u1.trans (sJ.trans (Same.new hT2 (.tup [.str q1.1, .ref t])))
      have et' := Same.new hT2 (.tup [.str q1.1, .ref t]) _ _ et
      have eT2 := upd_same (H := J) (a := T2) (o := .tup [.str q1.1, .ref t])
      have nT2D : T2 ≠ D := (ne_of_none (sJ _ _ (u1 _ _ eD)) hT2).symm
      refine ⟨_, u2 _ _ eD, by rw [List.length_map, lps]; exact small1000 (by have : L.length = kvs.length := prF.length.symm; omega), fun c o e => by rw [upd_ne (ne_of_none e hD)]; exact u2 _ _ (sG _ _ e), ps ++ [T2], by rw [upd_same, List.map_append]; rfl, ?_⟩
      rw [tk]
      exact pair_app (L2.Paired.mapP pps fun p q ⟨z1, t', z2, z3, z4⟩ => ⟨z1, t', z2, by rw [upd_ne z1]; exact u2 _ _ z3, by rw [upd_ne z2]; exact u2 _ _ z4⟩) ⟨nT2D, t, ntD, by rw [upd_ne nT2D]; exact eT2, by rw [upd_ne ntD]; exact et'⟩
    rcases eb with eb | eb
    · have eb1 := u1 _ _ (sG _ _ (s3 _ _ nbl (sF2 _ _ eb)))
      refine .inl ⟨SqL.of eb1, fun t ht => ⟨szl _ (by simp), fun T2 hT2 => ?_⟩⟩
      exact fin t _ (Same.new ht (.tup (nv q1.2))) upd_same (ne_of_none (u1 _ _ eD) ht).symm T2 hT2
    · have eb1 := u1 _ _ (sG _ _ (s3 _ _ nbl (sF2 _ _ eb)))
      refine .inr ⟨SqT.of eb1, ⟨szl _ (by simp), fun T2 hT2 => ?_⟩⟩
      exact fin b _ (Same.refl _) eb1 (ne_of eb1 (u1 _ _ eD) fun z => nomatch z) T2 hT2
  rintro G ⟨sG, ps, eD, pps⟩
  have lkL : L.length = kvs.length := prF.length.symm
  rw [← lkL, List.take_length] at pps
  refine ⟨D, _, rfl, SqL.of eD, fun tl ob htl hob => ?_⟩
  have st := Same.new htl (.frz ob (.tup (ps.map V.ref)))
  have na3 : a ≠ l := nla.symm
  have ca := st _ _ (sG _ _ (s3 _ _ na3 c2))
  refine ⟨_, rfl, a, CF, dx, _, rfl, ca, U.cl, U.n2, (by show 1 < 1000; decide), ?_⟩
  have etl := upd_same (H := G) (a := tl) (o := .frz ob (.tup (ps.map V.ref)))
  have ntl : tl ≠ a := (ne_of_none (sG _ _ (s3 _ _ na3 c2)) htl).symm
  have ntl2 : tl ≠ l := (ne_of_none (sG _ _ e3) htl).symm
  refine ⟨by rw [upd_ne nla]; exact st _ _ (sG _ _ e3), ?_⟩
  have sF4 : Same F (upd (upd (upd G tl (.frz ob (.tup (ps.map V.ref)))) a (.ins CF dx (putF (Str.ofString "_letters") (.ref tl) [("_states", .int (n : Int))]))) l (.dK kvs)) := fun b o e => by
    by_cases z : b = l
    · rw [z, upd_same]; rw [z, egF] at e; exact e
    · rw [upd_ne z, upd_ne (ne_of_none e nF)]; exact st _ _ (sG _ _ (s3 _ _ z (sF2 _ _ e)))
  have c4 : (upd (upd (upd G tl (.frz ob (.tup (ps.map V.ref)))) a (.ins CF dx (putF (Str.ofString "_letters") (.ref tl) [("_states", .int (n : Int))]))) l (.dK kvs)) a = some (.ins CF dx [("_states", .int (n : Int)), ("_letters", .ref tl)]) := by rw [upd_ne na3]; exact upd_same
  have keepG : ∀ b o, b ≠ a → b ≠ l → (upd G tl (.frz ob (.tup (ps.map V.ref)))) b = some o → (upd (upd (upd G tl (.frz ob (.tup (ps.map V.ref)))) a (.ins CF dx (putF (Str.ofString "_letters") (.ref tl) [("_states", .int (n : Int))]))) l (.dK kvs)) b = some o := fun b o z1 z2 e => by rw [upd_ne z2, upd_ne z1]; exact e
  have tupk : ∀ b xs, (upd G tl (.frz ob (.tup (ps.map V.ref)))) b = some (.tup xs) → (upd (upd (upd G tl (.frz ob (.tup (ps.map V.ref)))) a (.ins CF dx (putF (Str.ofString "_letters") (.ref tl) [("_states", .int (n : Int))]))) l (.dK kvs)) b = some (.tup xs) := fun b xs e =>
    keepG _ _ (ne_of e ca fun z => nomatch z) (ne_of e (st _ _ (sG _ _ e3)) fun z => nomatch z) e
  have hL4 : Ltr (upd (upd (upd G tl (.frz ob (.tup (ps.map V.ref)))) a (.ins CF dx (putF (Str.ofString "_letters") (.ref tl) [("_states", .int (n : Int))]))) l (.dK kvs)) tl L :=
    ⟨ps, ⟨ob, keepG _ _ ntl ntl2 etl, hob⟩, L2.Paired.mapP pps fun p q ⟨_, t, _, z3, z4⟩ => ⟨t, tupk _ _ (st _ _ z3), tupk _ _ (st _ _ z4)⟩⟩
  generalize (upd (upd (upd G tl (.frz ob (.tup (ps.map V.ref)))) a (.ins CF dx (putF (Str.ofString "_letters") (.ref tl) [("_states", .int (n : Int))]))) l (.dK kvs)) = H4 at sF4 c4 hL4 ⊢
  refine ⟨_, rfl, _, rfl, a, CF, dx, _, _, rfl, c4, U.cl, U.n2, rfl, n, tl, L, rfl, lo, hL4, fun S Dw H5 res wd s5 hDw => ?_, fun H5 d res s5 hd => qE H5 d res (out (sF4.trans s5)) hd⟩
  have c5 := s5 _ _ c4
  have sF5 := sF4.trans s5
  have hL5 := hL4.to s5
  obtain ⟨kw, ew, prw⟩ := id wd
  have nwa : Dw ≠ a := ne_of ew c5 fun z => nomatch z
  refine ⟨_, rfl, Dw, kw, rfl, .inl ew, fun cl bs hcl ik => ?_⟩
  have s6 := Same.new hcl (.lst (bs.map V.ref))
  have c6 := s6 _ _ c5
  have ecl := upd_same (H := H5) (a := cl) (o := .lst (bs.map V.ref))
  have ncl : cl ≠ a := (ne_of_none c5 hcl).symm
  refine ⟨_, rfl, a, CF, dx, _, rfl, c6, U.cl, U.n3, (by show 2 < 1000; decide), ?_⟩
  have k7 : ∀ b o, b ≠ a → H5 b = some o → (upd (upd H5 cl (.lst (bs.map V.ref))) a (.ins CF dx (putF (Str.ofString "_contents") (.ref cl) [("_states", .int (n : Int)), ("_letters", .ref tl)]))) b = some o := fun b o z e => by rw [upd_ne z]; exact s6 _ _ e
  have c7 : (upd (upd H5 cl (.lst (bs.map V.ref))) a (.ins CF dx (putF (Str.ofString "_contents") (.ref cl) [("_states", .int (n : Int)), ("_letters", .ref tl)]))) a = some (.ins CF dx [("_states", .int (n : Int)), ("_letters", .ref tl), ("_contents", .ref cl)]) := upd_same
  have e7 : (upd (upd H5 cl (.lst (bs.map V.ref))) a (.ins CF dx (putF (Str.ofString "_contents") (.ref cl) [("_states", .int (n : Int)), ("_letters", .ref tl)]))) cl = some (.lst (bs.map V.ref)) := by rw [upd_ne ncl]; exact ecl
  generalize (upd (upd H5 cl (.lst (bs.map V.ref))) a (.ins CF dx (putF (Str.ofString "_contents") (.ref cl) [("_states", .int (n : Int)), ("_letters", .ref tl)]))) = H7 at k7 c7 e7 ⊢
  refine ⟨_, rfl, Dw, rfl, .inr ⟨kw, k7 _ _ nwa ew, fun wl hwl => ?_⟩⟩
  have s8 := Same.new hwl (.lst (kw.map (·.2)))
  have c8 := s8 _ _ c7
  have ewl := upd_same (H := H7) (a := wl) (o := .lst (kw.map (·.2)))
  have nwl : wl ≠ a := (ne_of_none c7 hwl).symm
  refine ⟨_, rfl, a, CF, dx, _, rfl, c8, U.cl, U.n4, (by show 3 < 1000; decide), ?_⟩
  have k9 : ∀ b o, b ≠ a → H7 b = some o → (upd (upd H7 wl (.lst (kw.map (·.2)))) a (.ins CF dx (putF (Str.ofString "_words") (.ref wl) [("_states", .int (n : Int)), ("_letters", .ref tl), ("_contents", .ref cl)]))) b = some o := fun b o z e => by rw [upd_ne z]; exact s8 _ _ e
  refine q S _ res ⟨dx, tl, cl, wl, upd_same, ?_, ⟨bs, k9 _ _ ncl e7, ?_⟩, ?_⟩ fun b o z e => k9 _ _ z (k7 _ _ z (out sF5 b o z e))
  · obtain ⟨ps5, ⟨ob5, e5, z5⟩, pr5⟩ := hL5
    refine ⟨ps5, ⟨ob5, k9 _ _ (ne_of e5 c5 fun z => nomatch z) (k7 _ _ (ne_of e5 c5 fun z => nomatch z) e5), z5⟩, L2.Paired.mapP pr5 fun p q ⟨t, x1, x2⟩ => ⟨t, k9 _ _ (ne_of x1 c5 fun z => nomatch z) (k7 _ _ (ne_of x1 c5 fun z => nomatch z) x1), k9 _ _ (ne_of x2 c5 fun z => nomatch z) (k7 _ _ (ne_of x2 c5 fun z => nomatch z) x2)⟩⟩
  · refine L2.Paired.mapP (pair_join ik prw) fun b e ⟨kv, z1, z2, _⟩ => ?_
    rw [z2, keyL_kV] at z1
    exact k9 _ _ (ne_of z1 c5 fun z => nomatch z) (k7 _ _ (ne_of z1 c5 fun z => nomatch z) z1)
  · obtain ⟨ws, e1, e2⟩ := wd_refs prw
    rw [e1] at ewl k9 ⊢
    exact ⟨ws, by rw [upd_ne nwl]; exact ewl, L2.Paired.mapP e2 fun b e z => k9 _ _ (ne_of z c5 fun z => nomatch z) (k7 _ _ (ne_of z c5 fun z => nomatch z) z)⟩
end
end L

set_option Elab.async false
set_option linter.all false
set_option maxRecDepth 100000
set_option maxHeartbeats 4000000
set_option pp.maxSteps 400
namespace L
open PySem L2 KX
abbrev sTl : Stmt := inClass (top 29) 1
abbrev sTe : Stmt := inClass (top 29) 2
abbrev sCt : Stmt := inClass (top 29) 5
abbrev sTt : Stmt := inClass (top 29) 6
abbrev sMo : Stmt := inClass (top 29) 10
abbrev sEo : Stmt := inClass (top 29) 7
abbrev sWo : Stmt := inClass (top 29) 8
abbrev sRu : Stmt := inClass (top 29) 9
abbrev nMo : List Str := ["self", "word", "letter", "steps", "targets"]
abbrev nTt : List Str := ["self", "maps", "first", "second"]
def scTtO : Scope := { kind := .function, names := [(Str.ofString ".0", .local), (Str.ofString "first", .cell), (Str.ofString "maps", .cell)], isGenerator := false, isCoroutine := false }
theorem merge_app : ∀ {more acc : List (Key × V)}, ((acc ++ more).map (·.1)).Nodup → mergeK acc more = acc ++ more
  | [], acc, _ => by rw [List.append_nil]; rfl
  | kv :: more, acc, h => by
    have hn : valV acc kv.1 = none := by
      cases hv : valV acc kv.1 with
      | none => rfl
      | some x =>
        exfalso
        have hm := valV_in hv
        rw [List.map_append, List.map_cons] at h
        have := List.nodup_append.mp h
        exact this.2.2 _ hm _ List.mem_cons_self rfl
    show mergeK (putK acc kv.1 kv.2) more = _
    rw [putK_new kv.2 hn]
    have e : acc ++ [(kv.1, kv.2)] ++ more = acc ++ kv :: more := by rw [List.append_assoc]; rfl
    rw [merge_app (by rw [e]; exact h), e]
/-- the targets of a letter -/
def tg (L : Ltt) (z : Str) : List Nat := match L.find? (fun q => decide (q.1 = z)) with
  | some q => q.2
  | none => []
def mapW (n : Nat) (L : Ltt) (zs : List Str) : List Nat := zs.foldl (fun m z => cmp m (tg L z)) (List.range n)
theorem tg_in {L : Ltt} {z : Str} (h : z ∈ L.map (·.1)) : ∃ q, q ∈ L ∧ q.1 = z ∧ q.2 = tg L z := by
  unfold tg
  cases hf : L.find? (fun q => decide (q.1 = z)) with
  | none =>
    obtain ⟨q, h1, h2⟩ := List.mem_map.mp h
    have := List.find?_eq_none.mp hf q h1
    exact absurd (decide_eq_true h2) this
  | some q =>
    have h1 := List.find?_some hf
    exact ⟨q, List.mem_of_find?_eq_some hf, of_decide_eq_true h1, rfl⟩
theorem mapW_mp {n : Nat} {L : Ltt} (o : LOk n L) : ∀ {zs : List Str} {m : List Nat}, Mp n m → (∀ z, z ∈ zs → z ∈ L.map (·.1)) → Mp n (zs.foldl (fun m z => cmp m (tg L z)) m)
  | [], m, h, _ => h
  | z :: zs, m, h, hz => by
    obtain ⟨q, h1, _, h3⟩ := tg_in (hz z List.mem_cons_self)
    exact mapW_mp (zs := zs) (m := cmp m (tg L z)) o (cmp_mp h (h3 ▸ o.mp q h1)) fun z' hz' => hz z' (List.mem_cons_of_mem _ hz')
/-- the letters' pairs as a dict's -/
theorem Ltr.kvs {H : Hp} {l : Addr} {L : Ltt} (h : Ltr H l L) : ∃ (ps : List Addr) (kvs : List (Key × V)), TupF H l (ps.map V.ref) ∧ Paired (fun p (kv : Key × V) => H p = some (.tup [kV kv.1, kv.2])) ps kvs ∧
    Paired (fun (kv : Key × V) (q : Str × List Nat) => kv.1 = Sum.inr q.1 ∧ ∃ t, kv.2 = .ref t ∧ H t = some (.tup (nv q.2))) kvs L := by
  obtain ⟨ps, e, pr⟩ := h
  suffices h : ∃ kvs : List (Key × V), Paired (fun p (kv : Key × V) => H p = some (.tup [kV kv.1, kv.2])) ps kvs ∧ Paired (fun (kv : Key × V) (q : Str × List Nat) => kv.1 = Sum.inr q.1 ∧ ∃ t, kv.2 = .ref t ∧ H t = some (.tup (nv q.2))) kvs L by
    obtain ⟨kvs, h1, h2⟩ := h
    exact ⟨ps, kvs, e, h1, h2⟩
  clear e
  induction pr with
  | nil => exact ⟨[], .nil, .nil⟩
  | @cons p q _ _ h _ ih =>
    obtain ⟨kvs, h1, h2⟩ := ih
    obtain ⟨t, e1, e2⟩ := h
    exact ⟨(Sum.inr q.1, .ref t) :: kvs, .cons e1 h1, .cons ⟨rfl, t, rfl, e2⟩ h2⟩
theorem kvs_keys {H : Hp} {kvs : List (Key × V)} {L : Ltt} (h : Paired (fun (kv : Key × V) (q : Str × List Nat) => kv.1 = Sum.inr q.1 ∧ ∃ t, kv.2 = .ref t ∧ H t = some (.tup (nv q.2))) kvs L) : kvs.map (·.1) = L.map fun q => (Sum.inr q.1 : Key) := by
  induction h with
  | nil => rfl
  | cons h _ ih => rw [List.map_cons, List.map_cons, ih, h.1]
theorem kvs_nd {H : Hp} {kvs : List (Key × V)} {L : Ltt} (h : Paired (fun (kv : Key × V) (q : Str × List Nat) => kv.1 = Sum.inr q.1 ∧ ∃ t, kv.2 = .ref t ∧ H t = some (.tup (nv q.2))) kvs L) (n : NmOk L) : (kvs.map (·.1)).Nodup := by
  rw [kvs_keys h]
  exact List.pairwise_map.mpr ((List.pairwise_map.mp n.nd).imp fun ne e => ne (Sum.inr.inj e))
theorem kvs_at {H : Hp} {kvs : List (Key × V)} {L : Ltt} (h : Paired (fun (kv : Key × V) (q : Str × List Nat) => kv.1 = Sum.inr q.1 ∧ ∃ t, kv.2 = .ref t ∧ H t = some (.tup (nv q.2))) kvs L) (n : NmOk L) {z : Str} (hz : z ∈ L.map (·.1)) : ∃ t, valV kvs (Sum.inr z) = some (.ref t) ∧ H t = some (.tup (nv (tg L z))) := by
  obtain ⟨q, h1, h2, h3⟩ := tg_in hz
  obtain ⟨j, hj, rfl⟩ := List.mem_iff_getElem.mp h1
  obtain ⟨kv, hk, e1, t, e2, e3⟩ := pair_to h (List.getElem?_eq_getElem hj)
  have := val_nodup (kvs_nd h n) kv (List.mem_of_getElem? hk)
  rw [e1, e2, h2] at this
  exact ⟨t, this, by rw [← h3]; exact e3⟩
/-! the letters as data -/
def lD (L : Ltt) : List PyData := L.map fun q => .tuple [.str q.1, tD q.2]
theorem ss_ok {n : Nat} {z : Str} (h : Ss n z) : PyData.strOk z = true := by
  unfold PyData.strOk
  rw [← Array.all_toList]
  exact List.all_eq_true.mpr fun c hc => decide_eq_true (h.2 c hc)
theorem lD_lay : ∀ L : Ltt, (∀ q, q ∈ L → Ss 8 q.1) → PyData.canLayAll0 (lD L) = true ∧ PyData.depthAll (lD L) ≤ 2
  | [], _ => ⟨rfl, Nat.zero_le _⟩
  | q :: L, hs => by
    obtain ⟨h1, h2⟩ := lD_lay L fun q' hq => hs q' (List.mem_cons_of_mem _ hq)
    have e3 := ss_ok (hs q List.mem_cons_self)
    have e0 : PyData.depth (tD q.2) = 1 := by unfold tD; simp only [PyData.depth, nD_depth q.2]
    have e1 : PyData.canLay0 (tD q.2) = true := by unfold tD; simp only [PyData.canLay0]; exact nD_lay q.2
    refine ⟨?_, ?_⟩
    · show (PyData.canLay0 (.tuple [.str q.1, tD q.2]) && PyData.canLayAll0 (lD L)) = true
      rw [h1]
      simp [PyData.canLay0, PyData.canLayAll0, e1, e3]
    · show max (PyData.depth (.tuple [.str q.1, tD q.2])) (PyData.depthAll (lD L)) ≤ 2
      have : PyData.depth (.tuple [.str q.1, tD q.2]) = 2 := by simp [PyData.depth, PyData.depthAll, e0]
      omega
theorem lD_shaped {L : Ltt} (hs : ∀ q, q ∈ L → Ss 8 q.1) : SeqAt.shaped (.tuple (lD L)) = true := by
  obtain ⟨h1, h2⟩ := lD_lay L hs
  have c1 : PyData.canLay0 (.tuple (lD L)) = true := by simp only [PyData.canLay0]; exact h1
  have c2 : PyData.depth (.tuple (lD L)) ≤ 64 := by simp only [PyData.depth]; omega
  show (PyData.canLay0 (.tuple (lD L)) && decide (PyData.depth (.tuple (lD L)) ≤ 64)) = true
  rw [c1, decide_eq_true c2]; rfl
theorem lD_refl : ∀ L : Ltt, PyData.eqvAll (lD L) (lD L) = true
  | [] => rfl
  | q :: L => by
    have h := lD_refl L
    have e := tD_eqv q.2 q.2
    rw [decide_eq_true rfl] at e
    show (PyData.eqv (.tuple [.str q.1, tD q.2]) (.tuple [.str q.1, tD q.2]) && PyData.eqvAll (lD L) (lD L)) = true
    rw [h]
    simp [PyData.eqv, PyData.eqvAll, e]
theorem Ltr.dp {K : PySem.W.Frag} {H : Hp} {l : Addr} {L : Ltt} (h : Ltr H l L) : Dp K H (.ref l) (.tuple (lD L)) := by
  obtain ⟨ps, e, pr⟩ := h
  refine .tup e.sq ?_
  clear e
  induction pr with
  | nil => exact .nil
  | @cons p q _ _ h _ ih =>
    obtain ⟨t, e1, e2⟩ := h
    exact .cons (.tup (SqT.of e1) (.cons (.str _) (.cons (dp_tup e2) .nil))) ih
theorem keys_pair {H : Hp} {bs : List Addr} {S : List En} (h : Paired (fun b (e : En) => H b = some (.tup (nv e.1))) bs S) : Paired (fun b m => H b = some (.tup (nv m))) bs (keys S) := by
  induction h with
  | nil => exact .nil
  | cons h _ ih => exact .cons h ih
theorem str_at {zs : List Str} {i : Nat} {v : V} (h : (zs.map V.str)[i]? = some v) : ∃ z, zs[i]? = some z ∧ v = .str z := by
  rw [List.getElem?_map] at h
  obtain ⟨z, h1, h2⟩ := Option.map_eq_some_iff.mp h
  exact ⟨z, h1, h2.symm⟩
def spTl (CF : Addr) : Sp := fun vs H Q _ => ∃ a n L S, vs = [.ref a] ∧ TrA CF H a n L S ∧ Q (.int ((S.length : Nat) : Int)) H
def spTe (CF : Addr) : Sp := fun vs H Q _ => ∃ a b n L S S', vs = [.ref a, .ref b] ∧ TrA CF H a n L S ∧ TrA CF H b n L S' ∧ LOk n L ∧ Q (.bl true) H
def spCt (CF : Addr) : Sp := fun vs H Q _ => ∃ a n L S, vs = [.ref a] ∧ TrA CF H a n L S ∧ ∀ (D : Addr) (bs : List Addr) H', Same H H' → H D = none → H' D = some (.lst (bs.map V.ref)) → Paired (fun b (e : En) => H b = some (.tup (nv e.1))) bs S → Q (.ref D) H'
def spTt (K : PySem.W.Frag) (C CF : Addr) : Sp := fun vs H Q _ => ∃ a n L S, vs = [.ref a] ∧ TrA CF H a n L S ∧ LOk n L ∧ Fnd n L S ∧ ∀ x H', H x = none → TbA K C H' x (tab S.length (fmp (keys S))) → Same H H' → Q (.ref x) H'
def spMo (K : PySem.W.Frag) (CF : Addr) : Sp := fun vs H Q _ => ∃ (a wl : Addr) (n : Nat) (L : Ltt) (S : List En) (zs : List Str), vs = [.ref a, .ref wl] ∧ TrA CF H a n L S ∧ LOk n L ∧ NmOk L ∧ SqL K H wl (zs.map V.str) ∧ 1 ≤ zs.length ∧ zs.length ≤ 60 ∧ (∀ z, z ∈ zs → z ∈ L.map (·.1)) ∧
  ∀ t H', Same H H' → H' t = some (.tup (nv (mapW n L zs))) → Q (.ref t) H'
def spEo (K : PySem.W.Frag) (CF : Addr) : Sp := fun vs H Q _ => ∃ (a wl : Addr) (n : Nat) (L : Ltt) (S : List En) (zs : List Str), vs = [.ref a, .ref wl] ∧ TrA CF H a n L S ∧ LOk n L ∧ NmOk L ∧ SqL K H wl (zs.map V.str) ∧ 1 ≤ zs.length ∧ zs.length ≤ 60 ∧ (∀ z, z ∈ zs → z ∈ L.map (·.1)) ∧ mapW n L zs ∈ keys S ∧
  ∀ H', Same H H' → Q (.int (((keys S).idxOf (mapW n L zs) : Nat) : Int)) H'
def spWo (CF : Addr) : Sp := fun vs H Q _ => ∃ (a : Addr) (i n : Nat) (L : Ltt) (S : List En) (e : En), vs = [.ref a, .int (i : Int)] ∧ TrA CF H a n L S ∧ S[i]? = some e ∧ S.length ≤ 16 ∧ ∀ D H', Same H H' → H D = none → H' D = some (.lst (e.2.map V.str)) → Q (.ref D) H'
def spRu (K : PySem.W.Frag) (CF : Addr) : Sp := fun vs H Q _ => ∃ (a wl : Addr) (i n : Nat) (L : Ltt) (S : List En) (zs : List Str), vs = [.ref a, .int (i : Int), .ref wl] ∧ TrA CF H a n L S ∧ LOk n L ∧ NmOk L ∧ SqL K H wl (zs.map V.str) ∧ 1 ≤ zs.length ∧ zs.length ≤ 60 ∧ (∀ z, z ∈ zs → z ∈ L.map (·.1)) ∧ i < n ∧
  ∀ H', Same H H' → Q (.int (((mapW n L zs).getD i 0 : Nat) : Int)) H'
section
variable {P : Program} {w : World} {K : PySem.W.Frag} {mg : Str → Option Value} {base : Heap} {f f1 f2 f3 fI g1 : Addr} {fd d1 d2 d3 dI : FuncData} {C CF CO : Addr}
theorem scTl : FnScope ["self"] ["self"] (defScope sTl) := ⟨rfl, rfl, rfl, by decide +kernel, rfl, by decide +kernel, by decide +kernel⟩
theorem ok_tl (F : Fun K "__len__" "Transformations.__len__" sTl f fd) (M : Mn mg) (U : TfX K CF) : FnOk P w K mg base CX0 1 f fd ["self"] (spTl CF) := by
  refine F.ok scTl (fun vs H Q E h => ?_) (fun cdv A outer s H vs Q E hr h => ?_)
  · obtain ⟨a, n, L, S, rfl, _⟩ := h
    rfl
  obtain ⟨a, n, L, S, rfl, ht, q⟩ := h
  refine ⟨_, (pss_one (ps_ret (pe_callB call_len_seq (by rfl) M.len PySem.boot_len (pa_cons (pe_fld (pv 0) rfl) pa_nil)))), ?_⟩
  obtain ⟨dx, tl, cl, wl, e, hl, ⟨bs, e1, p1⟩, ws, e2, p2⟩ := ht.ob
  refine ⟨_, rfl, a, CF, dx, _, _, rfl, e, U.cl, U.n3, rfl, cl, _, rfl, .inl (SqL.of e1), ?_⟩
  rw [List.length_map, p1.length]
  exact q
theorem scTe : FnScope ["self", "other"] ["self", "other"] (defScope sTe) := ⟨rfl, rfl, rfl, by decide +kernel, rfl, by decide +kernel, by decide +kernel⟩
theorem ok_te (F : Fun K "__eq__" "Transformations.__eq__" sTe f fd) (M : Mn mg) (U : TfX K CF) (Y : CTi K CF) (mF : mg "Transformations" = some (.ref CF)) : FnOk P w K mg base CX0 1 f fd ["self", "other"] (spTe CF) := by
  refine F.ok scTe (fun vs H Q E h => ?_) (fun cdv A outer s H vs Q E hr h => ?_)
  · obtain ⟨a, b, n, L, S, S', rfl, _⟩ := h
    rfl
  obtain ⟨a, b, n, L, S, S', rfl, ht, ht2, o, q⟩ := h
  have hu := hr.units
  refine ⟨_, (pss_one (ps_ret (pe_and (pe_callB call_isi (by rfl) M.isin (by decide +kernel) (pa_cons (pv 1) (pa_cons (pe_glob (v := .ref CF) (by rfl) mF rfl) pa_nil))) (pe_and (pe_cmpR op_eq (pe_fld (pv 0) rfl) (pe_fld (pv 1) rfl) (nomark _)) (pe_one (pe_cmpR (op_eqD hu) (pe_fld (pv 0) rfl) (pe_fld (pv 1) rfl) (nomark _))))))), ?_⟩
  obtain ⟨dx, tl, cl, wl, e, hl, _⟩ := ht.ob
  obtain ⟨dx', tl', cl', wl', e', hl', _⟩ := ht2.ob
  refine ⟨_, rfl, _, .ref CF, _, .ref CF, true, rfl, .own CF, .base (.ins e' U.cl Y.ha Y.hn Y.htk Y.hm), kit_self K CF, _, rfl, iteT ?_⟩
  refine ⟨_, rfl, a, CF, dx, _, _, rfl, e, U.cl, U.n1, rfl, _, rfl, b, CF, dx', _, _, rfl, e', U.cl, U.n1, rfl, rfl, _, rfl, iteTt (decide_eq_true rfl) ?_⟩
  refine ⟨_, rfl, a, CF, dx, _, _, rfl, e, U.cl, U.n2, rfl, _, rfl, b, CF, dx', _, _, rfl, e', U.cl, U.n2, rfl, _, _, hl.dp, hl'.dp, lD_shaped o.ss, lD_shaped o.ss, ?_⟩
  rw [show PyData.eqv (.tuple (lD L)) (.tuple (lD L)) = true by simp only [PyData.eqv]; exact lD_refl L]
  exact q
theorem scCt : FnScope ["self"] ["self"] (defScope sCt) := ⟨rfl, rfl, rfl, by decide +kernel, rfl, by decide +kernel, by decide +kernel⟩
theorem ok_ct (F : Fun K "contents" "Transformations.contents" sCt f fd) (M : Mn mg) (U : TfX K CF) : FnOk P w K mg base CX0 1 f fd ["self"] (spCt CF) := by
  refine F.ok scCt (fun vs H Q E h => ?_) (fun cdv A outer s H vs Q E hr h => ?_)
  · obtain ⟨a, n, L, S, rfl, _⟩ := h
    rfl
  obtain ⟨a, n, L, S, rfl, ht, q⟩ := h
  refine ⟨_, (pss_one (ps_ret (pe_callTy (clist (K := K) rfl) (by rfl) M.list (by decide +kernel) (pa_cons (pe_fld (pv 0) rfl) pa_nil)))), ?_⟩
  obtain ⟨dx, tl, cl, wl, e, hl, ⟨bs, e1, p1⟩, ws, e2, p2⟩ := ht.ob
  exact ⟨_, rfl, a, CF, dx, _, _, rfl, e, U.cl, U.n3, rfl, cl, _, rfl, .inl (SqL.of e1), fun D hD => q D bs _ (Same.new hD _) hD upd_same p1⟩
theorem scTt : FnScope nTt ["self"] (defScope sTt) := ⟨rfl, rfl, rfl, by decide +kernel, rfl, by decide +kernel, by decide +kernel⟩
theorem ok_tt (F : Fun K "table" "Transformations.table" sTt f fd) (M : Mn mg) (T : CTx K mg C) (U : TfX K CF)
    (MI : Mk K C fI) (GI : FnOk P w K mg base CX0 5 fI dI ["self", "rows"] (spInit K C)) (bI : Binds K dI ["self", "rows"] [])
    (G1 : FnOk P w K mg base CX0 1 f1 d1 ["first", "second"] (spCd K)) (b1 : Binds K d1 ["first", "second"] []) (k1 : PySem.W.keepIn K (.ref f1) = true) (m1 : mg "_composed" = some (.ref f1)) :
    FnOk P w K mg base CX0 7 f fd ["self"] (spTt K C CF) := by
  refine F.ok scTt (fun vs H Q E h => ?_) (fun cdv A outer s H vs Q E hr h => ?_)
  · obtain ⟨a, n, L, S, rfl, _⟩ := h
    rfl
  obtain ⟨a, n, L, S, rfl, ht, o, fn, q⟩ := h
  have hr1 : Room 1 _ := hr.mono (by decide)
  have hr6 : Room 6 _ := hr.mono (by decide)
  refine ⟨_, (pss_cons (ps_set (i := 1) scTt.nd rfl (Or.inr rfl) (pe_fld (pv 0) rfl)) (pss_one (ps_ret (pe_make MI GI hr6 (by rfl) T.mgC bI .nil pass0 (pa_cons (pe_lc (own := [("first", 2)]) (g := gName 2) (tt := tYes) rfl scTt.nd (pi_list (pv 1)) (blkOk_by (N := nTt) (sc := defScope sTt) (by decide +kernel)) (fun _ _ _ _ _ => (pg_name (i := 2) scTt.nd rfl (Or.inr rfl))) (fun _ _ _ _ _ => pts_nil) (fun _ _ _ _ _ => (pe_lc (own := [("second", 3)]) (g := gName 3) (tt := tYes) rfl scTt.nd (pil (K := K) rfl (pv 1)) (blkOk_by (N := nTt) (sc := scTtO) (by decide +kernel)) (fun _ _ _ _ _ => (pg_name (i := 3) scTt.nd rfl (Or.inl rfl))) (fun _ _ _ _ _ => pts_nil) (fun _ _ _ _ _ => (pe_idx (K := K) rfl (hu65 hr1) (pv 1) (pa_cons (pe_call G1 hr1 (by rfl) m1 k1 b1 .nil pass0 (pa_cons (pv 2) (pa_cons (pv 3) pa_nil))) pa_nil)))))) pa_nil))))), ?_⟩
  have n5 := o.n5
  have fl : (keys S).length = S.length := List.length_map _
  have s1' := fn.ne o
  have s16 := fn.le
  obtain ⟨dx, tl, cl, wl, e, hl, ⟨bs, e1, p1⟩, _⟩ := ht.ob
  have lbs : bs.length = S.length := p1.length
  have pk := keys_pair p1
  have kget : ∀ {i : Nat} {x : En}, S[i]? = some x → (keys S)[i]? = some x.1 := fun h => by unfold keys; rw [List.getElem?_map, h]; rfl
  refine ⟨_, rfl, a, CF, dx, _, _, rfl, e, U.cl, U.n3, rfl, ?_⟩
  refine ⟨_, rfl, cl, rfl, ⟨_, SqL.of e1⟩, fun D hD => ?_⟩
  refine lc_it (walk_list (xs := bs.map V.ref)) (fun i G => Part H G D (rowsTo S.length (fmp (keys S)) i)) (Part.start (Same.refl H) hD) (fun i G _ z => SqL.of (z.same _ _ e1)) ?_ ?_
  · rintro i v G1 G2 hi pa ⟨rfl, hv⟩
    rw [List.length_map, lbs] at hi
    obtain ⟨tx, htx, rfl⟩ := ref_at hv
    obtain ⟨x, hx, ex⟩ := pair_at p1 htx
    have xk := fn.cl.mp x.1 (List.mem_of_getElem? (kget hx))
    refine ⟨rfl, _, rfl, cl, rfl, ⟨_, SqL.of (pa.same _ _ e1)⟩, fun D5 hD5 => ?_⟩
    refine lc_it (walk_list (xs := bs.map V.ref)) (fun j G => Same G2 G ∧ G D5 = some (.lst ((rowTo (fmp (keys S)) i j).map V.int))) ⟨Same.new hD5 _, upd_same⟩ (fun j G _ z => SqL.of (z.1 _ _ (pa.same _ _ e1))) ?_ ?_
    · rintro j v G3 G4 hj ⟨sG, e5⟩ ⟨rfl, hv⟩
      rw [List.length_map, lbs] at hj
      obtain ⟨ty, hty, rfl⟩ := ref_at hv
      obtain ⟨y, hy, ey⟩ := pair_at p1 hty
      have yk := fn.cl.mp y.1 (List.mem_of_getElem? (kget hy))
      have sH := pa.same.trans sG
      have em : cmp x.1 y.1 = cmp ((keys S).getD i []) ((keys S).getD j []) := by
        rw [List.getD_eq_getElem?_getD, kget hx, List.getD_eq_getElem?_getD, kget hy]; rfl
      have at1 := fn.cl.at_ (a := i) (b := j) (by rw [fl]; exact hi) (by rw [fl]; exact hj)
      rw [← em] at at1
      refine ⟨rfl, _, rfl, Or.inl ⟨rfl, _, SqL.of (sH _ _ e1)⟩, _, rfl, _, rfl, tx, ty, n, x.1, y.1, rfl, SqT.of (sH _ _ ex), SqT.of (sH _ _ ey), xk, yk, n5, fun t G5 s5 ht5 et => ?_⟩
      have sH5 := sH.trans s5
      refine ⟨cl, .ref t, tD (cmp x.1 y.1), (keys S).map tD, fmp (keys S) i j, tD (cmp x.1 y.1), rfl, rfl, .lst (SqL.of (sH5 _ _ e1)) (dp_tups (L2.Paired.mapP pk fun _ _ w => sH5 _ _ w)), dp_tup et, tDs_shaped _, tD_shaped _, by rw [List.getElem?_map, at1.2]; rfl, by rw [tD_eqv]; exact decide_eq_true rfl, fun m z' hm hz' => ?_, _, s5 _ _ e5, by rw [rowTo_len]; exact small1000 (by omega), fun c o ec => by rw [upd_ne (ne_of_none ec hD5)]; exact s5 _ _ (sG c o ec), ?_⟩
      · rw [List.getElem?_map] at hz'
        obtain ⟨w, hw, rfl⟩ := Option.map_eq_some_iff.mp hz'
        rw [tD_eqv]
        refine decide_eq_false (idx_ahead (ms := keys S) (m := cmp x.1 y.1) ?_ hw)
        unfold fmp at hm
        rw [← em] at hm
        exact hm
      · rw [upd_same, rowTo_next, List.map_append]; rfl
    · rintro G3 ⟨sG, e5⟩
      rw [List.length_map, lbs] at e5
      obtain ⟨acc, ea, lacc, p1'⟩ := pa.add sG hD5 e5
      refine ⟨acc, ea, by rw [lacc, rowsTo_len]; exact small1000 (by omega), ?_⟩
      rw [rowsTo_next]
      exact p1'
  rintro G1 pa
  rw [List.length_map, lbs] at pa
  have pa' : Part H G1 D (tab S.length (fmp (keys S))) := pa
  have asf := asf_maps fn.cl
  rw [fl] at asf
  have TR : Tb (tab S.length (fmp (keys S))) := tab_tb s1' s16 asf
  refine fun y dy hy hdy ney => ?_
  have sn : Same G1 (upd (upd G1 dy (.own y)) y (.ins C dy [])) := fun b o e => by rw [upd_ne (ne_of_none e hy), upd_ne (ne_of_none e hdy)]; exact e
  have RC : RowsL G1 (.ref D) (tab S.length (fmp (keys S))) := pa'.fin.same nw_same
  have nD1 : ∀ b, V.ref D = .ref b → b ≠ y := fun b e => by
    obtain ⟨_, _, e', ed, _⟩ := id RC
    cases e'
    cases e
    exact ne_of_none ed hy
  refine ⟨y, dy, .ref D, tab S.length (fmp (keys S)), rfl, upd_same, (RC.same sn).rws, TR.sq, TR.as, nD1, fun J5 tc kc => ⟨rfl, ?_⟩⟩
  have s45 : Same G1 J5 := fun b o e => kc b o (ne_of_none e hy) (sn b o e)
  exact q y J5 (pa'.same.free hy) tc (pa'.same.trans s45)
theorem scMo : FnScope nMo ["self", "word"] (defScope sMo) := ⟨rfl, rfl, rfl, by decide +kernel, rfl, by decide +kernel, by decide +kernel⟩
theorem ok_mo (F : Fun K "_map_of" "Transformations._map_of" sMo f fd) (M : Mn mg) (U : TfX K CF) (mW : ∃ t, mg "_LONGEST_WORD" = some (.int 60 t))
    (G1 : FnOk P w K mg base CX0 1 f1 d1 ["value", "least", "most"] (spIsList K)) (b1 : Binds K d1 ["value", "least", "most"] []) (k1 : PySem.W.keepIn K (.ref f1) = true) (m1 : mg "is_list" = some (.ref f1))
    (G2 : FnOk P w K mg base CX0 1 f2 d2 ["value"] (spIsName K)) (b2 : Binds K d2 ["value"] []) (k2 : PySem.W.keepIn K (.ref f2) = true) (m2 : mg "is_name" = some (.ref f2))
    (G3 : FnOk P w K mg base CX0 1 f3 d3 ["first", "second"] (spCd K)) (b3 : Binds K d3 ["first", "second"] []) (k3 : PySem.W.keepIn K (.ref f3) = true) (m3 : mg "_composed" = some (.ref f3)) :
    FnOk P w K mg base CX0 2 f fd ["self", "word"] (spMo K CF) := by
  obtain ⟨tok, mW⟩ := mW
  refine F.ok scMo (fun vs H Q E h => ?_) (fun cdv A outer s H vs Q E hr h => ?_)
  · obtain ⟨a, wl, n, L, S, zs, rfl, _⟩ := h
    rfl
  obtain ⟨a, wl, n, L, S, zs, rfl, ht, o, no, hw, z1, z60, hz, q⟩ := h
  have hr1 : Room 1 _ := hr.mono (by decide)
  have hu := hr.units
  have hu1 : (A.deeper (PyProof.Rows.envOfC "Transformations._map_of" (defScope sMo) s.heap.objs.size f cdv)).units + 1 < cLine := by omega
  refine ⟨_, (pss_cons (ps_if (pw_or (pt_not (pt_val (pe_call G1 hr1 (by rfl) m1 k1 b1 .nil pass0 (pa_cons (pv 1) (pa_cons pe_int (pa_cons (pe_glob (v := .int 60) (by rfl) mW ⟨_, rfl⟩) pa_nil)))))) (pw_or1 (pt_not (pt_val (pe_callB (cr_all rfl) (by rfl) M.all (by decide +kernel) (pa_cons (pe_lc (own := [("letter", 2)]) (g := gName 2) (tt := tYes) rfl scMo.nd (pi_list (pv 1)) (blkOk_by (N := nMo) (sc := defScope sMo) (by decide +kernel)) (fun _ _ _ _ _ => (pg_name (i := 2) scMo.nd rfl (Or.inl rfl))) (fun _ _ _ _ _ => pts_nil) (fun _ _ _ _ _ => (pe_call G2 hr1 (by rfl) m2 k2 b2 .nil pass0 (pa_cons (pv 2) pa_nil)))) pa_nil)))))).pt pss_dead pss_nil) (pss_cons (ps_set (i := 3) scMo.nd rfl (Or.inl rfl) (pe_callTy (call_dictF (K := K) rfl rfl) (by rfl) M.dict (by decide +kernel) (pa_cons (pe_fld (pv 0) rfl) pa_nil))) (pss_cons (ps_for PassesOwn.never rfl (pi_list (pv 1)) (pg_name (i := 2) scMo.nd rfl (Or.inl rfl)) (pss_one (ps_if (pt_cmp (pc_dnotin (by exact hu1) (pv 2) (pv 3))) pss_dead pss_nil))) (pss_cons (ps_set (i := 4) scMo.nd rfl (Or.inl rfl) (pe_tupRg rfl (by rfl) M.tuple (prg_1 (by rfl) M.range (pe_fld (pv 0) rfl)))) (pss_cons (ps_for PassesOwn.never rfl (pi_list (pv 1)) (pg_name (i := 2) scMo.nd rfl (Or.inl rfl)) (pss_one (ps_set (i := 4) scMo.nd rfl (Or.inl rfl) (pe_call G3 hr1 (by rfl) m3 k3 b3 .nil pass0 (pa_cons (pv 4) (pa_cons (pe_dget (by exact hu1) (pv 3) (pv 2) (fun _ _ => rfl)) pa_nil)))))) (pss_one (ps_ret (pv 4)))))))), ?_⟩
  obtain ⟨dx, tl, cl, wl', e, hl, _⟩ := ht.ob
  obtain ⟨ps, kvs, hps, prp, prk⟩ := hl.kvs
  have nd := kvs_nd prk no
  have n5 := o.n5
  have Mn0 : Mp n (List.range n) := ⟨List.length_range, fun x hx => List.mem_range.mp hx⟩
  have lz : (zs.map V.str).length = zs.length := List.length_map _
  refine ⟨_, rfl, .ref wl, _, _, rfl, .inl ⟨zs.map V.str, ⟨wl, rfl, .inl hw⟩, fun H1 s1 => ?_⟩⟩
  rw [lz, decide_eq_true (show (1 : Int) ≤ (zs.length : Int) by omega), decide_eq_true (show (zs.length : Int) ≤ 60 by omega)]
  refine ⟨_, rfl, iteF ?_⟩
  have hw1 := s1.seq hw
  refine ⟨_, rfl, wl, rfl, ⟨_, hw1⟩, fun D hD => ?_⟩
  refine lc_it (walk_list (xs := zs.map V.str)) (fun i G => Same H1 G ∧ G D = some (.lst ((List.replicate i true).map V.bl))) ⟨Same.new hD _, upd_same⟩ (fun i G _ z => z.1.seq hw1) ?_ ?_
  · rintro i y G G' hi ⟨sG, eD⟩ ⟨rfl, hy⟩
    rw [lz] at hi
    obtain ⟨z, hz', rfl⟩ := str_at hy
    obtain ⟨q1, hq1, e1, _⟩ := tg_in (hz z (List.mem_of_getElem? hz'))
    refine ⟨rfl, _, rfl, .str z, nm z, rfl, .inl ⟨z, rfl, (e1 ▸ o.ss q1 hq1).mono (by decide), rfl⟩, fun G1 s2 => ?_⟩
    rw [show nm z = true from e1 ▸ no.nm q1 hq1]
    refine ⟨_, s2 _ _ eD, by rw [List.length_map, List.length_replicate]; exact small1000 (by omega), fun c o e => by rw [upd_ne (ne_of_none e hD)]; exact s2 _ _ (sG _ _ e), ?_⟩
    rw [upd_same, List.replicate_succ', List.map_append]; rfl
  rintro G ⟨sG, eD⟩
  refine ⟨D, _, rfl, SqL.of eD, ?_⟩
  rw [show (List.replicate (zs.map V.str).length true).all id = true from List.all_eq_true.mpr fun x hx => (List.eq_of_mem_replicate hx)]
  refine ⟨_, rfl, iteF ?_⟩
  have sH := s1.trans sG
  refine ⟨_, rfl, a, CF, dx, _, _, rfl, sH _ _ e, U.cl, U.n2, rfl, tl, ps, kvs, rfl, hps.ext sH, L2.Paired.mapP prp fun p kv h => SqT.of (sH _ _ h), fun d hd => ?_⟩
  rw [merge_app (acc := []) nd]
  have sd := sH.trans (Same.new hd (.dK ([] ++ kvs)))
  have ed : (upd G d (.dK ([] ++ kvs))) d = some (.dK kvs) := upd_same
  generalize upd G d (.dK ([] ++ kvs)) = H2 at sd ed ⊢
  have lk : ∀ {z : Str}, z ∈ zs → ∃ t, valV kvs (Sum.inr z) = some (.ref t) ∧ H2 t = some (.tup (nv (tg L z))) := fun {z} h => by
    obtain ⟨t, h1, h2⟩ := kvs_at prk no (hz z h)
    exact ⟨t, h1, sd _ _ h2⟩
  have hw2 := sd.seq hw
  refine ⟨_, rfl, wl, rfl, ⟨_, hw2⟩, ?_⟩
  refine for_it (walk_list (xs := zs.map V.str)) (fun i σ G => Same H2 G ∧ ∃ x2 x4, σ = [some (.ref a), some (.ref wl), x2, some (.ref d), x4]) ⟨Same.refl _, _, _, rfl⟩ (fun i σ G _ z => z.1.seq hw2) ?_ ?_
  · rintro i y _ G1 G2 hi ⟨sG1, x2, x4, rfl⟩ ⟨rfl, hy⟩
    obtain ⟨z, hz', rfl⟩ := str_at hy
    obtain ⟨t, h1, _⟩ := lk (List.mem_of_getElem? hz')
    have gd : DGet G2 d (.str z) (valV kvs (Sum.inr z)) := DGet.k (k := Sum.inr z) (sG1 _ _ ed)
    rw [h1] at gd
    exact ⟨_, rfl, _, rfl, d, _, rfl, gd, _, rfl, iteF ⟨sG1, _, _, rfl⟩⟩
  rintro _ G1 ⟨sG1, x2, x4, rfl⟩
  have sH1 := sd.trans sG1
  refine ⟨_, rfl, a, CF, dx, _, _, rfl, sH1 _ _ e, U.cl, U.n1, rfl, _, rfl, RgOk.of_le (by decide) (by omega) (by decide) (by omega), fun t0 ht0 => ?_⟩
  rw [rg_nv]
  have s3 := sG1.trans (Same.new ht0 (.tup (nv (List.range n))))
  have et0 := upd_same (H := G1) (a := t0) (o := .tup (nv (List.range n)))
  generalize upd G1 t0 (.tup (nv (List.range n))) = H3 at s3 et0 ⊢
  refine ⟨_, rfl, wl, rfl, ⟨_, s3.seq hw2⟩, ?_⟩
  refine for_it (walk_list (xs := zs.map V.str)) (fun i σ G => Same H2 G ∧ ∃ x2 t, σ = [some (.ref a), some (.ref wl), x2, some (.ref d), some (.ref t)] ∧ G t = some (.tup (nv (mapW n L (zs.take i)))) ∧ Mp n (mapW n L (zs.take i))) ⟨s3, _, t0, rfl, et0, Mn0⟩ (fun i σ G _ z => z.1.seq hw2) ?_ ?_
  · rintro i y _ G1 G2 hi ⟨sG1, x2, t, rfl, et, mt⟩ ⟨rfl, hy⟩
    obtain ⟨z, hz', rfl⟩ := str_at hy
    have zm := List.mem_of_getElem? hz'
    obtain ⟨t', h1, h2⟩ := lk zm
    obtain ⟨q1, hq1, _, e2⟩ := tg_in (hz z zm)
    have gd : DGet G2 d (.str z) (valV kvs (Sum.inr z)) := DGet.k (k := Sum.inr z) (sG1 _ _ ed)
    rw [h1] at gd
    have mz : Mp n (tg L z) := e2 ▸ o.mp q1 hq1
    have tk : mapW n L (zs.take (i + 1)) = cmp (mapW n L (zs.take i)) (tg L z) := by
      unfold mapW
      rw [List.take_add_one, hz', List.foldl_append]; rfl
    refine ⟨_, rfl, _, rfl, _, rfl, d, _, rfl, gd, t, t', n, _, _, rfl, SqT.of et, SqT.of (sG1 _ _ h2), mt, mz, n5, fun p G3 s4 hp ep => ?_⟩
    exact ⟨sG1.trans s4, _, p, rfl, by rw [tk]; exact ep, by rw [tk]; exact cmp_mp mt mz⟩
  rintro _ G2 ⟨sG2, x2, t, rfl, et, mt⟩
  rw [lz, List.take_length] at et
  exact ⟨_, rfl, q t G2 (sd.trans sG2) et⟩
theorem scEo : FnScope ["self", "word"] ["self", "word"] (defScope sEo) := ⟨rfl, rfl, rfl, by decide +kernel, rfl, by decide +kernel, by decide +kernel⟩
theorem ok_eo (F : Fun K "element_of" "Transformations.element_of" sEo f fd) (M : Mn mg) (U : TfX K CF)
    (G1 : FnOk P w K mg base CX0 2 g1 d1 ["self", "word"] (spMo K CF)) (b1 : Binds K d1 ["self", "word"] []) (h1 : Meth K CF "_map_of" g1) : FnOk P w K mg base CX0 3 f fd ["self", "word"] (spEo K CF) := by
  refine F.ok scEo (fun vs H Q E h => ?_) (fun cdv A outer s H vs Q E hr h => ?_)
  · obtain ⟨a, wl, n, L, S, zs, rfl, _⟩ := h
    rfl
  obtain ⟨a, wl, n, L, S, zs, rfl, ht, o, no, hw, z1, z60, hz, hin, q⟩ := h
  have hr1 : Room 1 _ := hr.mono (by decide)
  have hr2 : Room 2 _ := hr.mono (by decide)
  refine ⟨_, (pss_one (ps_ret (pe_idx (K := K) rfl (hu65 hr1) (pe_fld (pv 0) rfl) (pa_cons (pe_meth (pv 0) U.cl h1 G1 hr2 b1 .nil pass0 (pa_cons (pv 1) pa_nil)) pa_nil)))), ?_⟩
  obtain ⟨dx, tl, cl, wl', e, hl, ⟨bs, e1, p1⟩, _⟩ := ht.ob
  have pk := keys_pair p1
  refine ⟨_, rfl, a, CF, dx, _, _, rfl, e, U.cl, U.n3, rfl, Or.inl ⟨rfl, _, SqL.of e1⟩, _, rfl, a, dx, _, rfl, e, rfl, _, rfl, a, wl, n, L, S, zs, rfl, ht, o, no, hw, z1, z60, hz, fun t H1 s1 et => ?_⟩
  obtain ⟨i1, i2⟩ := idx_get hin
  refine ⟨cl, .ref t, tD (mapW n L zs), (keys S).map tD, (keys S).idxOf (mapW n L zs), tD (mapW n L zs), rfl, rfl, .lst (SqL.of (s1 _ _ e1)) (dp_tups (L2.Paired.mapP pk fun _ _ w => s1 _ _ w)), dp_tup et, tDs_shaped _, tD_shaped _, by rw [List.getElem?_map, i2]; rfl, by rw [tD_eqv]; exact decide_eq_true rfl, fun m z' hm hz' => ?_, q _ s1⟩
  rw [List.getElem?_map] at hz'
  obtain ⟨w, hw, rfl⟩ := Option.map_eq_some_iff.mp hz'
  rw [tD_eqv]
  exact decide_eq_false (idx_ahead hm hw)
theorem scRu : FnScope ["self", "state", "word"] ["self", "state", "word"] (defScope sRu) := ⟨rfl, rfl, rfl, by decide +kernel, rfl, by decide +kernel, by decide +kernel⟩
theorem ok_ru (F : Fun K "run" "Transformations.run" sRu f fd) (M : Mn mg) (U : TfX K CF)
    (G1 : FnOk P w K mg base CX0 2 g1 d1 ["self", "word"] (spMo K CF)) (b1 : Binds K d1 ["self", "word"] []) (h1 : Meth K CF "_map_of" g1)
    (G2 : FnOk P w K mg base CX0 2 f2 d2 ["value", "limit"] (spBelow K)) (b2 : Binds K d2 ["value", "limit"] []) (k2 : PySem.W.keepIn K (.ref f2) = true) (m2 : mg "is_number_below" = some (.ref f2)) : FnOk P w K mg base CX0 3 f fd ["self", "state", "word"] (spRu K CF) := by
  refine F.ok scRu (fun vs H Q E h => ?_) (fun cdv A outer s H vs Q E hr h => ?_)
  · obtain ⟨a, wl, i, n, L, S, zs, rfl, _⟩ := h
    rfl
  obtain ⟨a, wl, i, n, L, S, zs, rfl, ht, o, no, hw, z1, z60, hz, hi, q⟩ := h
  have hr2 : Room 2 _ := hr.mono (by decide)
  refine ⟨_, (pss_cons (ps_if (pt_not (pt_val (pe_call G2 hr2 (by rfl) m2 k2 b2 .nil pass0 (pa_cons (pv 1) (pa_cons (pe_fld (pv 0) rfl) pa_nil))))) pss_dead pss_nil) (pss_one (ps_ret (pe_ix (ixt (K := K) rfl) (pe_meth (pv 0) U.cl h1 G1 hr2 b1 .nil pass0 (pa_cons (pv 2) pa_nil)) (pv 1) (fun _ _ => rfl))))), ?_⟩
  obtain ⟨dx, tl, cl, wl', e, hl, _⟩ := ht.ob
  have Mn0 : Mp n (List.range n) := ⟨List.length_range, fun x hx => List.mem_range.mp hx⟩
  have mm : Mp n (mapW n L zs) := mapW_mp o Mn0 hz
  refine ⟨_, rfl, _, rfl, a, CF, dx, _, _, rfl, e, U.cl, U.n1, rfl, ?_⟩
  have nbt : nb ((n : Nat) : Int) (.int (i : Int)) = true := by
    show (decide ((0 : Int) ≤ (i : Int)) && decide ((i : Int) < (n : Int))) = true
    rw [decide_eq_true (by omega), decide_eq_true (by omega)]; rfl
  refine ⟨.int (i : Int), _, rfl, .inl ⟨_, rfl⟩, _, rfl, ?_⟩
  rw [nbt]
  exact iteF ⟨_, rfl, a, dx, _, rfl, e, rfl, _, rfl, a, wl, n, L, S, zs, rfl, ht, o, no, hw, z1, z60, hz, fun t H1 s1 et => ⟨_, rfl, t, _, _, _, rfl, rfl, SqT.of et, at_of (j := i) rfl (nv_get mm hi), q _ s1⟩⟩
end
end L

set_option Elab.async false
set_option linter.all false
set_option maxRecDepth 100000
set_option maxHeartbeats 4000000
set_option pp.maxSteps 400
namespace L
open PySem L2 KX
abbrev sNa : Stmt := top 37
abbrev sLt : Stmt := top 38
abbrev nNa : List Str := ["box", "signs", "k", "stem", "first", "at", "found", "end", "sign"]
abbrev nLt : List Str := ["box", "size", "names", "found", "k", "way", "targets", "state"]
def cs (z : Str) : List Nat := z.cps.toList
theorem cs_app (a b : Str) : cs (a ++ b) = cs a ++ cs b := Array.toList_append
theorem cs_len (z : Str) : (cs z).length = z.length := Array.length_toList
theorem join_cs (l : List Nat) : cs (Txt.join (Str.ofString "") (l.map fun c => (⟨#[c]⟩ : Str))) = l := by
  have e0 : cs (Str.ofString "") = [] := by decide +kernel
  have e : ∀ l : List Nat, cs (Str.join (Str.ofString "") (l.map fun c => (⟨#[c]⟩ : Str))) = l := fun l => by
    induction l with
    | nil => decide +kernel
    | cons c l ih =>
      cases l with
      | nil => rfl
      | cons d l =>
        show cs ((⟨#[c]⟩ : Str) ++ Str.ofString "" ++ Str.join (Str.ofString "") ((d :: l).map fun c => (⟨#[c]⟩ : Str))) = c :: d :: l
        rw [cs_app, cs_app, ih, e0]; rfl
  have ej : Txt.join (Str.ofString "") (l.map fun c => (⟨#[c]⟩ : Str)) = Str.join (Str.ofString "") (l.map fun c => (⟨#[c]⟩ : Str)) := StrLaws.glued_eq_join _ _
  rw [ej, e]
theorem cs_take (z : Str) (m : Nat) : cs (cutS z none (some (m : Int))) = (cs z).take m := by
  unfold cutS cs
  rw [HT.sIx_none, HT.sIx_nat]
  simp only [List.drop_zero, Nat.sub_zero]
  have l : z.cps.toList.length = z.length := Array.length_toList
  by_cases h : m ≤ z.length
  · rw [Nat.min_eq_left h]
  · rw [Nat.min_eq_right (by omega), List.take_of_length_le (by omega), List.take_of_length_le (by omega)]
theorem cs_mid (z : Str) {a b : Nat} (h : a ≤ b) (hb : b ≤ z.length) : cs (cutS z (some (a : Int)) (some (b : Int))) = ((cs z).drop a).take (b - a) := by
  unfold cutS cs
  rw [HT.sIx_nat, HT.sIx_nat, show min a z.length = a by omega, show min b z.length = b by omega]
def Az (z : Str) : Prop := ∀ c, c ∈ cs z → 97 ≤ c ∧ c ≤ 122
theorem sg_az {c : Nat} (h : 97 ≤ c ∧ c ≤ 122) : sg c = true := by
  have k : ∀ d, d ∈ List.range 26 → sg (97 + d) = true := by decide +kernel
  have := k (c - 97) (List.mem_range.mpr (by omega))
  rw [show 97 + (c - 97) = c by omega] at this
  exact this
theorem nm_az {z : Str} (h : Az z) (l1 : 1 ≤ z.length) (l8 : z.length ≤ 8) : nm z = true := by
  unfold nm
  rw [decide_eq_true l1, decide_eq_true l8]
  exact List.all_eq_true.mpr fun c hc => sg_az (h c hc)
theorem ss_az {z : Str} (h : Az z) (l8 : z.length ≤ 8) : Ss 8 z := ⟨l8, fun c hc => by have := h c hc; omega⟩
theorem Az.app {a b : Str} (h : Az a) (g : Az b) : Az (a ++ b) := fun c hc => by
  rw [cs_app] at hc
  exact (List.mem_append.mp hc).elim (h c) (g c)
theorem sgn_at {r : Int} (h0 : 0 ≤ r) (h1 : r < 26) : ∃ c, atI (Str.ofString "abcdefghijklmnopqrstuvwxyz").cps.toList r = some c ∧ 97 ≤ c ∧ c ≤ 122 := by
  obtain ⟨j, c, hc1, hc2, _, hc3⟩ := pick (xs := (Str.ofString "abcdefghijklmnopqrstuvwxyz").cps.toList) (i := r) h0 (by rw [show (Str.ofString "abcdefghijklmnopqrstuvwxyz").cps.toList.length = 26 by decide +kernel]; exact h1)
  exact ⟨c, hc3, (show ∀ c ∈ (Str.ofString "abcdefghijklmnopqrstuvwxyz").cps.toList, 97 ≤ c ∧ c ≤ 122 by decide +kernel) c hc2⟩
def spNa : Sp := fun vs H Q _ => ∃ p : Addr, vs = [.ref p] ∧ Bx H p ∧ ∀ (zs : List Str) (D : Addr) H', Bx H' p → Sx p H H' → H D = none → H' D = some (.lst (zs.map V.str)) → zs.length = 4 → (∀ z, z ∈ zs → nm z = true ∧ Ss 8 z) → Q (.ref D) H'
def spLt : Sp := fun vs H Q _ => ∃ p : Addr, vs = [.ref p] ∧ Bx H p ∧ ∀ (t gl : Addr) (n : Nat) (L : Ltt) H', Bx H' p → Sx p H H' → H' t = some (.tup [.int (n : Int), .ref gl]) → LOk n L → NmOk L → Gv (mn p H') gl L → Q (.ref t) H'
/-- a letter more, or told anew -/
def putL (L : Ltt) (z : Str) (m : List Nat) : Ltt := if z ∈ L.map (·.1) then L.map (fun q => if q.1 = z then (q.1, m) else q) else L ++ [(z, m)]
theorem putL_in {L : Ltt} {z : Str} {m : List Nat} : ∀ q, q ∈ putL L z m → q ∈ L ∨ (q.1 = z ∧ q.2 = m) := fun q h => by
  unfold putL at h
  by_cases c : z ∈ L.map (·.1)
  · rw [if_pos c] at h
    obtain ⟨p, hp, rfl⟩ := List.mem_map.mp h
    by_cases e : p.1 = z
    · rw [if_pos e]; exact .inr ⟨e, rfl⟩
    · rw [if_neg e]; exact .inl hp
  · rw [if_neg c] at h
    rcases List.mem_append.mp h with h | h
    · exact .inl h
    · rw [List.mem_singleton.mp h]; exact .inr ⟨rfl, rfl⟩
theorem putL_len {L : Ltt} {z : Str} {m : List Nat} : 1 ≤ (putL L z m).length ∧ (putL L z m).length ≤ L.length + 1 := by
  unfold putL
  by_cases c : z ∈ L.map (·.1)
  · rw [if_pos c, List.length_map]
    obtain ⟨p, hp, _⟩ := List.mem_map.mp c
    exact ⟨List.length_pos_of_mem hp, by omega⟩
  · rw [if_neg c, List.length_append]; simp
theorem putL_nd {L : Ltt} {z : Str} {m : List Nat} (h : (L.map (·.1)).Nodup) : ((putL L z m).map (·.1)).Nodup := by
  unfold putL
  by_cases c : z ∈ L.map (·.1)
  · rw [if_pos c, List.map_map]
    have : (L.map ((fun q : Str × List Nat => q.1) ∘ fun q => if q.1 = z then (q.1, m) else q)) = L.map (·.1) := List.map_congr_left fun q _ => by
      show (if q.1 = z then (q.1, m) else q).1 = q.1
      split <;> rfl
    rw [this]; exact h
  · rw [if_neg c, List.map_append]
    refine List.nodup_append.mpr ⟨h, by simp, fun a ha b hb e => ?_⟩
    have : b = z := by simpa using hb
    exact c (by rw [← this, ← e]; exact ha)
theorem GvP.put {H : Hp} {kvs : List (Key × V)} {L : Ltt} {z : Str} {m : List Nat} {t : Addr} (h : GvP H kvs L) (ht : H t = some (.lst (nv m))) : GvP H (putK kvs (Sum.inr z) (.ref t)) (putL L z m) := by
  have hk : (kvs.any fun kv => decide (kv.1 = (Sum.inr z : Key))) = decide (z ∈ L.map (·.1)) := by
    unfold GvP at h
    induction h with
    | nil => rfl
    | @cons kv q _ _ h _ ih =>
      rw [List.any_cons, ih, h.1]
      by_cases e : q.1 = z
      · subst e; simp
      · have : ¬ (Sum.inr q.1 : Key) = Sum.inr z := fun x => e (Sum.inr.inj x)
        simp [e, this, Ne.symm e]
  unfold putK putL
  rw [hk]
  by_cases c : z ∈ L.map (·.1)
  · rw [if_pos (decide_eq_true c), if_pos c]
    clear hk c
    unfold GvP at *
    induction h with
    | nil => exact .nil
    | @cons kv q _ _ h _ ih =>
      refine .cons ?_ ih
      obtain ⟨h1, a, h2, h3⟩ := h
      dsimp only
      by_cases e : q.1 = z
      · rw [if_pos (by rw [h1, e]), if_pos e]; exact ⟨h1, t, rfl, ht⟩
      · rw [if_neg (by rw [h1]; exact fun x => e (Sum.inr.inj x)), if_neg e]; exact ⟨h1, a, h2, h3⟩
  · rw [if_neg (by rw [decide_eq_false c]; exact Bool.false_ne_true), if_neg c]
    exact pair_app h ⟨rfl, t, rfl, ht⟩
section
variable {P : Program} {w : World} {K : PySem.W.Frag} {mg : Str → Option Value} {base : Heap} {f f1 f2 : Addr} {fd d1 d2 : FuncData}
theorem scNa : FnScope nNa ["box"] (defScope sNa) := ⟨rfl, rfl, rfl, by decide +kernel, rfl, by decide +kernel, by decide +kernel⟩
theorem ok_na (F : Fun K "_law_letter_names" "_law_letter_names" sNa f fd) (M : Mn mg)
    (G1 : FnOk P w K mg base CX0 1 f1 d1 ["box", "size"] spTake) (b1 : Binds K d1 ["box", "size"] []) (k1 : PySem.W.keepIn K (.ref f1) = true) (m1 : mg "_law_take" = some (.ref f1)) :
    FnOk P w K mg base CX0 2 f fd ["box"] spNa := by
  refine F.ok scNa (fun vs H Q E h => ?_) (fun cdv A outer s H vs Q E hr h => ?_)
  · obtain ⟨p, rfl, _⟩ := h
    rfl
  obtain ⟨p, rfl, hb, q⟩ := h
  have hr1 : Room 1 _ := hr.mono (by decide)
  refine ⟨_, (pss_cons (ps_set (i := 1) scNa.nd rfl (Or.inr rfl) pe_str) (pss_cons (ps_set (i := 3) scNa.nd rfl (Or.inr rfl) (pe_join pe_str (pe_lc (own := [("k", 2)]) (g := gName 2) (tt := tYes) rfl scNa.nd (pi_range1 (by rfl) M.range (pa_cons pe_int pa_nil)) (blkOk_by (N := nNa) (sc := defScope sNa) (by decide +kernel)) (fun _ _ _ _ _ => (pg_name (i := 2) scNa.nd rfl (Or.inl rfl))) (fun _ _ _ _ _ => pts_nil) (fun _ _ _ _ _ => (pe_ix ix_str (pv 1) (pe_call G1 hr1 (by rfl) m1 k1 b1 .nil pass0 (pa_cons (pv 0) (pa_cons pe_int pa_nil))) (fun _ _ => rfl)))))) (pss_cons (ps_asg (pe_tup (pa_cons (pe_call G1 hr1 (by rfl) m1 k1 b1 .nil pass0 (pa_cons (pv 0) (pa_cons pe_int pa_nil))) (pa_cons (pe_call G1 hr1 (by rfl) m1 k1 b1 .nil pass0 (pa_cons (pv 0) (pa_cons pe_int pa_nil))) pa_nil))) (pg_tup rfl (pgs_cons (pg_name (i := 4) scNa.nd rfl (Or.inr rfl)) (pgs_cons (pg_name (i := 5) scNa.nd rfl (Or.inl rfl)) pgs_nil)))) (pss_cons (ps_if (pt_cmpR op_eq (pe_call G1 hr1 (by rfl) m1 k1 b1 .nil pass0 (pa_cons (pv 0) (pa_cons pe_int pa_nil))) pe_int (nomark _)) (pss_one (ps_ret (pe_lc (own := [("k", 2)]) (g := gName 2) (tt := tYes) rfl scNa.nd (pi_range1 (by rfl) M.range (pa_cons pe_int pa_nil)) (blkOk_by (N := nNa) (sc := defScope sNa) (by decide +kernel)) (fun _ _ _ _ _ => (pg_name (i := 2) scNa.nd rfl (Or.inl rfl))) (fun _ _ _ _ _ => pts_nil) (fun _ _ _ _ _ => (pe_slice sl_str (pv 3) po_none (po_some (pe_op op_add pe_int (pe_op op_mod (pe_op op_add (pv 4) (pe_op op_mul pe_int (pv 2))) pe_int)))))))) pss_nil) (pss_cons (ps_par (i := 6) (j := 7) (by rfl) scNa.nd rfl rfl (by decide) rfl rfl (pa_cons (pe_lst pa_nil) (pa_cons (pe_op op_add (pv 5) (pe_call G1 hr1 (by rfl) m1 k1 b1 .nil pass0 (pa_cons (pv 0) (pa_cons (pe_op op_sub pe_int (pv 5)) pa_nil)))) pa_nil)) (by rfl)) (pss_cons (ps_for PassesOwn.never rfl (pi_range1 (by rfl) M.range (pa_cons pe_int pa_nil)) (pg_name (i := 2) scNa.nd rfl (Or.inl rfl)) (pss_cons (ps_set (i := 8) scNa.nd rfl (Or.inl rfl) (pe_ix ix_str (pv 1) (pe_op op_mod (pe_op op_add (pv 4) (pe_op op_mul pe_int (pv 2))) pe_int) (fun _ _ => rfl))) (pss_one (ps_expr (pe_bm PySem.F.plainAttrs_list PySem.F.slot_list_append PySem.F.type_list_append mt_append (pv 6) (pa_cons (pe_op op_add_str (pe_op op_add_str (pe_op op_add_str (pe_slice sl_str (pv 3) po_none (po_some (pv 5))) (pv 8)) (pe_slice sl_str (pv 3) (po_some (pv 5)) (po_some (pv 7)))) (pe_op op_mulZ pe_str (pe_op op_mod (pv 2) pe_int))) pa_nil)))))) (pss_one (ps_ret (pv 6))))))))), ?_⟩
  refine ⟨⟨_, rfl⟩, _, rfl, by decide, by decide, fun D hD => ?_⟩
  have nDp : D ≠ p := hb.ne hD
  refine lc_range (lo := 0) (n := Int.toNat 8) (fun i J => Bx J p ∧ Sx p H J ∧ ∃ l : List Nat, J D = some (.lst ((l.map fun c => (⟨#[c]⟩ : Str)).map V.str)) ∧ l.length = i ∧ ∀ c, c ∈ l → 97 ≤ c ∧ c ≤ 122)
    ⟨hb.new hD, Sx.new hD, [], upd_same, rfl, fun _ z => nomatch z⟩ ?_ ?_
  · rintro i J hi ⟨bJ, sJ, l, eD, ll, hl⟩
    have hi8 : i < 8 := hi
    refine ⟨rfl, _, rfl, _, rfl, p, 26, rfl, bJ, by decide, by decide, fun r J1 ra rb bJ1 sJ1 => ?_⟩
    obtain ⟨c, hc3, hc⟩ := sgn_at ra rb
    refine ⟨_, r, c, rfl, rfl, by decide +kernel, hc3, _, sJ1 D _ nDp eD, ?_, bJ1.at_ne nDp, ?_, l ++ [c], ?_, by rw [List.length_append, ll]; rfl, fun d hd => ?_⟩
    · rw [List.length_map, List.length_map, ll]; exact small1000 (by omega)
    · intro b o hb' e
      rw [upd_ne (ne_of_none e hD)]
      exact sJ1 b o hb' (sJ b o hb' e)
    · rw [upd_same, List.map_append, List.map_append]; rfl
    · rcases List.mem_append.mp hd with h | h
      · exact hl d h
      · rw [List.mem_singleton.mp h]; exact hc
  rintro J ⟨bJ, sJ, l, eD, ll, hl⟩
  have ll8 : l.length = 8 := ll
  refine ⟨_, D, _, rfl, rfl, .inl (SqL.of eD), ?_, ?_⟩
  · have := Ss.sum (m := 1) (ys := l.map fun c => (⟨#[c]⟩ : Str)) fun y hy => by
      obtain ⟨c, hc, rfl⟩ := List.mem_map.mp hy
      exact Ss.sign (by have := hl c hc; omega)
    rw [List.length_map, ll8] at this
    show _ + _ * 0 ≤ _
    omega
  have hcs : cs (Txt.join (Str.ofString "") (l.map fun c => (⟨#[c]⟩ : Str))) = l := join_cs l
  generalize Txt.join (Str.ofString "") (l.map fun c => (⟨#[c]⟩ : Str)) = stem at hcs ⊢
  have sl8 : stem.length = 8 := by rw [← cs_len, hcs]; exact ll8
  have saz : Az stem := fun c hc => hl c (hcs ▸ hc)
  have ssz : stem.length ≤ sizeLine := szl _ (by omega)
  refine ⟨_, rfl, p, 26, rfl, bJ, by decide, by decide, fun fr J1 f0 f1 bJ1 x1 => ⟨_, rfl, p, 7, rfl, bJ1, by decide, by decide, fun at_ J2 a0 a1 bJ2 x2 => ⟨szl _ (by simp), fun T hT => ⟨T, _, rfl, SqT.of upd_same, rfl, _, _, rfl, _, _, rfl, rfl, ?_⟩⟩⟩⟩
  have bJ3 := bJ2.new (o := .tup [.int fr, .int at_]) hT
  have x3 : Sx p H (upd J2 T (.tup [.int fr, .int at_])) := sJ.trans (x1.trans (x2.trans (Sx.new hT)))
  generalize upd J2 T (.tup [.int fr, .int at_]) = J3 at bJ3 x3 ⊢
  refine ⟨_, rfl, p, 3, rfl, bJ3, by decide, by decide, fun r J4 ra rb bJ4 x4 => ⟨rfl, _, rfl, ?_⟩⟩
  have x4' := x3.trans x4
  obtain ⟨an, rfl⟩ := Int.eq_ofNat_of_zero_le a0
  refine ite2 (fun c => ?_) (fun c => ?_)
  · refine ⟨_, rfl, by decide, by decide, fun D2 hD2 => ?_⟩
    have nD2 : D2 ≠ p := bJ4.ne hD2
    have hD2' : H D2 = none := x4'.free bJ4 hD2
    refine lc_range (lo := 0) (n := Int.toNat 4) (fun i G => Bx G p ∧ Sx p H G ∧ ∃ zs : List Str, G D2 = some (.lst (zs.map V.str)) ∧ zs.length = i ∧ ∀ z, z ∈ zs → nm z = true ∧ Ss 8 z)
      ⟨bJ4.new hD2, x4'.trans (Sx.new hD2), [], upd_same, rfl, fun _ z => nomatch z⟩ ?_ ?_
    · rintro i G hi ⟨bG, sG, zs, eD2, lz, hz⟩
      have hi4 : i < 4 := hi
      refine ⟨rfl, _, rfl, _, rfl, _, rfl, _, _, rfl, rfl, .inl ⟨by decide, by decide⟩, _, _, rfl, rfl, _, _, rfl, rfl, (by show (0 : Int) < 8; decide), _, _, rfl, rfl, _, rfl, stem, rfl, ssz, ?_⟩
      have m0 := Int.emod_nonneg (fr + 3 * (0 + (i : Int))) (show (8 : Int) ≠ 0 by decide)
      have m1 := Int.emod_lt_of_pos (fr + 3 * (0 + (i : Int))) (show (0 : Int) < 8 by decide)
      generalize (fr + 3 * (0 + (i : Int))) % 8 = x at m0 m1
      obtain ⟨xn, rfl⟩ := Int.eq_ofNat_of_zero_le m0
      rw [show (1 : Int) + (xn : Int) = ((1 + xn : Nat) : Int) by omega]
      have hc2 := cs_take stem (1 + xn)
      have haz : Az (cutS stem none (some ((1 + xn : Nat) : Int))) := fun c hc => saz c (List.mem_of_mem_take (hc2 ▸ hc))
      have hlen : (cutS stem none (some ((1 + xn : Nat) : Int))).length = 1 + xn := by
        rw [← cs_len, hc2, List.length_take, cs_len, sl8]; omega
      refine ⟨_, eD2, by rw [List.length_map, lz]; exact small1000 (by omega), bG.at_ne nD2, fun b o n e => by rw [upd_ne (ne_of_none e hD2')]; exact sG b o n e, zs ++ [cutS stem none (some ((1 + xn : Nat) : Int))], by rw [upd_same, List.map_append]; rfl, by rw [List.length_append, lz]; rfl, fun z hz' => ?_⟩
      rcases List.mem_append.mp hz' with h | h
      · exact hz z h
      · rw [List.mem_singleton.mp h]
        exact ⟨nm_az haz (by omega) (by omega), ss_az haz (by omega)⟩
    rintro G ⟨bG, sG, zs, eD2, lz, hz⟩
    exact q zs D2 G bG sG hD2' eD2 lz hz
  refine ⟨szl _ (by simp), fun Fd hFd => ?_⟩
  have nFp : Fd ≠ p := bJ4.ne hFd
  have hF' : H Fd = none := x4'.free bJ4 hFd
  have bJ5 := bJ4.new (o := .lst []) hFd
  have x5 : Sx p H (upd J4 Fd (.lst [])) := x4'.trans (Sx.new hFd)
  have eF5 := upd_same (H := J4) (a := Fd) (o := .lst [])
  generalize upd J4 Fd (.lst []) = J5 at bJ5 x5 eF5 ⊢
  refine ⟨_, rfl, _, rfl, _, rfl, _, _, rfl, rfl, p, 7 - (an : Int), rfl, bJ5, by omega, by omega, fun en J6 c0 c1 bJ6 x6 => ⟨_, _, rfl, rfl, _, _, rfl, ?_⟩⟩
  obtain ⟨bn, rfl⟩ := Int.eq_ofNat_of_zero_le c0
  have x6' := x5.trans x6
  have eF6 := x6 _ _ nFp eF5
  refine ⟨_, rfl, by decide, by decide, ?_⟩
  refine for_range (lo := 0) (n := Int.toNat 4) (fun i σ G => Bx G p ∧ Sx p H G ∧ (∃ zs : List Str, G Fd = some (.lst (zs.map V.str)) ∧ zs.length = i ∧ ∀ z, z ∈ zs → nm z = true ∧ Ss 8 z) ∧ ∃ x2 x8, σ = [some (.ref p), some (.str (Str.ofString "abcdefghijklmnopqrstuvwxyz")), x2, some (.str stem), some (.int fr), some (.int (an : Int)), some (.ref Fd), some (.int ((an : Int) + (bn : Int))), x8])
    ⟨bJ6, x6', ⟨[], eF6, rfl, fun _ z => nomatch z⟩, _, _, rfl⟩ ?_ ?_
  rotate_left
  · rintro _ G ⟨bG, sG, ⟨zs, eF, lz, hz⟩, x2', x8, rfl⟩
    exact ⟨_, rfl, q zs Fd G bG sG hF' eF lz hz⟩
  rintro i _ G hi ⟨bG, sG, ⟨zs, eF, lz, hz⟩, x2', x8, rfl⟩
  have hi4 : i < 4 := hi
  refine ⟨_, rfl, _, rfl, _, rfl, _, _, rfl, rfl, .inl ⟨by decide, by decide⟩, _, _, rfl, rfl, _, _, rfl, rfl, (by show (0 : Int) < 26; decide), ?_⟩
  have m0 := Int.emod_nonneg (fr + 7 * (0 + (i : Int))) (show (26 : Int) ≠ 0 by decide)
  have m1 := Int.emod_lt_of_pos (fr + 7 * (0 + (i : Int))) (show (0 : Int) < 26 by decide)
  obtain ⟨c, hc3, hc⟩ := sgn_at m0 m1
  refine ⟨_, _, c, rfl, rfl, by decide +kernel, hc3, ?_⟩
  have e1 := cs_take stem an
  have z1 : Az (cutS stem none (some (an : Int))) := fun c hc => saz c (List.mem_of_mem_take (e1 ▸ hc))
  have l1 : (cutS stem none (some (an : Int))).length = an := by rw [← cs_len, e1, List.length_take, cs_len, sl8]; omega
  have e2 := cs_mid stem (a := an) (b := an + bn) (by omega) (by omega)
  have z2 : Az (cutS stem (some (an : Int)) (some ((an + bn : Nat) : Int))) := fun c hc => saz c (List.mem_of_mem_drop (List.mem_of_mem_take (e2 ▸ hc)))
  have l2 : (cutS stem (some (an : Int)) (some ((an + bn : Nat) : Int))).length = bn := by rw [← cs_len, e2, List.length_take, List.length_drop, cs_len, sl8]; omega
  have zc : Az ⟨#[c]⟩ := fun d hd => by
    have : d = c := by simpa [cs] using hd
    rw [this]; exact hc
  have lc : (⟨#[c]⟩ : Str).length = 1 := rfl
  have s12 : ∀ a b : Str, a.length ≤ 10 → b.length ≤ 10 → a.length + b.length ≤ sizeLine := fun a b h1 h2 => szl _ (by omega)
  refine ⟨_, rfl, .inl ⟨rfl, _, SqL.of eF⟩, _, rfl, _, rfl, _, rfl, stem, rfl, ssz, _, rfl, _, _, rfl, rfl, s12 _ _ (by omega) (by omega), ?_⟩
  refine ⟨_, rfl, _, rfl, _, rfl, _, rfl, _, rfl, stem, rfl, ssz, _, _, rfl, rfl, ?_⟩
  rw [← Int.natCast_add]
  have a1 : (cutS stem none (some (an : Int)) ++ (⟨#[c]⟩ : Str)).length = an + 1 := by rw [strLen_append, l1, lc]
  have a2 : (cutS stem none (some (an : Int)) ++ (⟨#[c]⟩ : Str) ++ cutS stem (some (an : Int)) (some ((an + bn : Nat) : Int))).length = an + 1 + bn := by rw [strLen_append, a1, l2]
  have az := (z1.app zc).app z2
  refine ⟨s12 _ _ (by omega) (by omega), _, rfl, _, _, rfl, rfl, (by show (0 : Int) < 2; decide), ?_⟩
  refine ⟨_, _, rfl, rfl, (show (0 + (i : Int)) % 2 = 0 ∨ (0 + (i : Int)) % 2 = 1 by omega).elim (fun e0 => .inl ⟨e0, ?_⟩) (fun e0 => .inr ⟨e0, ?_⟩)⟩
  · have hy : Az (Str.empty) := fun c hc => nomatch hc
    have ly : (Str.empty).length ≤ 1 := by decide
    have a3 : (cutS stem none (some (an : Int)) ++ (⟨#[c]⟩ : Str) ++ cutS stem (some (an : Int)) (some ((an + bn : Nat) : Int)) ++ Str.empty).length = an + 1 + bn + (Str.empty).length := by rw [strLen_append, a2]
    refine ⟨_, _, rfl, rfl, s12 _ _ (by omega) (by omega), Fd, _, _, rfl, rfl, eF, by rw [List.length_map, lz]; exact small1000 (by omega), ?_⟩
    refine ⟨bG.at_ne nFp, fun b o n e => by rw [upd_ne (ne_of_none e hF')]; exact sG b o n e, ⟨zs ++ [cutS stem none (some (an : Int)) ++ (⟨#[c]⟩ : Str) ++ cutS stem (some (an : Int)) (some ((an + bn : Nat) : Int)) ++ Str.empty], by rw [upd_same, List.map_append]; rfl, by rw [List.length_append, lz]; rfl, fun z hz' => ?_⟩, _, _, rfl⟩
    rcases List.mem_append.mp hz' with h | h
    · exact hz z h
    · rw [List.mem_singleton.mp h]
      exact ⟨nm_az (az.app hy) (by omega) (by omega), ss_az (az.app hy) (by omega)⟩
  · have hy : Az (Str.ofString "z") := by unfold Az; exact (by decide +kernel : ∀ c ∈ cs (Str.ofString "z"), 97 ≤ c ∧ c ≤ 122)
    have ly : (Str.ofString "z").length ≤ 1 := by decide +kernel
    have a3 : (cutS stem none (some (an : Int)) ++ (⟨#[c]⟩ : Str) ++ cutS stem (some (an : Int)) (some ((an + bn : Nat) : Int)) ++ Str.ofString "z").length = an + 1 + bn + (Str.ofString "z").length := by rw [strLen_append, a2]
    refine ⟨_, _, rfl, rfl, s12 _ _ (by omega) (by omega), Fd, _, _, rfl, rfl, eF, by rw [List.length_map, lz]; exact small1000 (by omega), ?_⟩
    refine ⟨bG.at_ne nFp, fun b o n e => by rw [upd_ne (ne_of_none e hF')]; exact sG b o n e, ⟨zs ++ [cutS stem none (some (an : Int)) ++ (⟨#[c]⟩ : Str) ++ cutS stem (some (an : Int)) (some ((an + bn : Nat) : Int)) ++ Str.ofString "z"], by rw [upd_same, List.map_append]; rfl, by rw [List.length_append, lz]; rfl, fun z hz' => ?_⟩, _, _, rfl⟩
    rcases List.mem_append.mp hz' with h | h
    · exact hz z h
    · rw [List.mem_singleton.mp h]
      exact ⟨nm_az (az.app hy) (by omega) (by omega), ss_az (az.app hy) (by omega)⟩
end
end L

set_option Elab.async false
set_option linter.all false
set_option maxRecDepth 100000
set_option maxHeartbeats 4000000
set_option pp.maxSteps 400
namespace L
open PySem L2 KX
def MidLt (p D gl : Addr) (n : Nat) (k way : V) (G1 : Hp) : L2.St → Hp → Prop := fun σ' G' => Bx G' p ∧ Sx p G1 G' ∧ ∃ (t : Addr) (m : List Nat) (x7 : Option V), σ' = [some (.ref p), some (.int (n : Int)), some (.ref D), some (.ref gl), some k, some way, some (.ref t), x7] ∧ G' t = some (.lst (nv m)) ∧ t ≠ p ∧ t ≠ gl ∧ Mp n m
theorem rep_flat (n x : Nat) : (List.replicate n [V.int (x : Int)]).flatten = nv (List.replicate n x) := by
  induction n with
  | zero => rfl
  | succ n ih => rw [List.replicate_succ, List.flatten_cons, ih, List.replicate_succ]; rfl
theorem at0 (a : Nat) (l : List Nat) : atI (nv (a :: l)) 0 = some (.int (a : Int)) := by simp [atI, nv, ixN]
section
variable {P : Program} {w : World} {K : PySem.W.Frag} {mg : Str → Option Value} {base : Heap} {f f1 f2 : Addr} {fd d1 d2 : FuncData}
theorem scLt : FnScope nLt ["box"] (defScope sLt) := ⟨rfl, rfl, rfl, by decide +kernel, rfl, by decide +kernel, by decide +kernel⟩
theorem ok_lt (F : Fun K "_law_letters" "_law_letters" sLt f fd) (M : Mn mg)
    (G1 : FnOk P w K mg base CX0 1 f1 d1 ["box", "size"] spTake) (b1 : Binds K d1 ["box", "size"] []) (k1 : PySem.W.keepIn K (.ref f1) = true) (m1 : mg "_law_take" = some (.ref f1))
    (G2 : FnOk P w K mg base CX0 2 f2 d2 ["box"] spNa) (b2 : Binds K d2 ["box"] []) (k2 : PySem.W.keepIn K (.ref f2) = true) (m2 : mg "_law_letter_names" = some (.ref f2)) :
    FnOk P w K mg base CX0 3 f fd ["box"] spLt := by
  refine F.ok scLt (fun vs H Q E h => ?_) (fun cdv A outer s H vs Q E hr h => ?_)
  · obtain ⟨p, rfl, _⟩ := h
    rfl
  obtain ⟨p, rfl, hb, q⟩ := h
  have hr1 : Room 1 _ := hr.mono (by decide)
  have hr2 : Room 2 _ := hr.mono (by decide)
  have hu := hr.units
  have hu0 : (A.deeper (PyProof.Rows.envOfC "_law_letters" (defScope sLt) s.heap.objs.size f cdv)).units < cLine := by omega
  have hu1 : (A.deeper (PyProof.Rows.envOfC "_law_letters" (defScope sLt) s.heap.objs.size f cdv)).units + 1 < cLine := by omega
  refine ⟨_, (pss_cons (ps_set (i := 1) scLt.nd rfl (Or.inr rfl) (pe_op op_add pe_int (pe_call G1 hr1 (by rfl) m1 k1 b1 .nil pass0 (pa_cons (pv 0) (pa_cons pe_int pa_nil))))) (pss_cons (ps_par (i := 2) (j := 3) (by rfl) scLt.nd rfl rfl (by decide) rfl rfl (pa_cons (pe_call G2 hr2 (by rfl) m2 k2 b2 .nil pass0 (pa_cons (pv 0) pa_nil)) (pa_cons pe_dnewK pa_nil)) (by rfl)) (pss_cons (ps_for PassesOwn.never rfl (pi_range1 (by rfl) M.range (pa_cons (pe_op op_add pe_int (pe_call G1 hr1 (by rfl) m1 k1 b1 .nil pass0 (pa_cons (pv 0) (pa_cons pe_int pa_nil)))) pa_nil)) (pg_name (i := 4) scLt.nd rfl (Or.inl rfl)) (pss_cons (ps_set (i := 5) scLt.nd rfl (Or.inl rfl) (pe_call G1 hr1 (by rfl) m1 k1 b1 .nil pass0 (pa_cons (pv 0) (pa_cons pe_int pa_nil)))) (pss_cons (ps_set (i := 6) scLt.nd rfl (Or.inr rfl) (pe_lc (own := [("state", 7)]) (g := gName 7) (tt := tYes) rfl scLt.nd (pi_range1 (by rfl) M.range (pa_cons (pv 1) pa_nil)) (blkOk_by (N := nLt) (sc := defScope sLt) (by decide +kernel)) (fun _ _ _ _ _ => (pg_name (i := 7) scLt.nd rfl (Or.inl rfl))) (fun _ _ _ _ _ => pts_nil) (fun _ _ _ _ _ => (pe_call G1 hr1 (by rfl) m1 k1 b1 .nil pass0 (pa_cons (pv 0) (pa_cons (pv 1) pa_nil)))))) (pss_cons (ps_cut (ps_if (pt_cmpR op_eq (pv 5) pe_int (nomark _)) (pss_one (ps_set (i := 6) scLt.nd rfl (Or.inr rfl) (pe_lc (own := [("state", 7)]) (g := gName 7) (tt := tYes) rfl scLt.nd (pi_range1 (by rfl) M.range (pa_cons (pv 1) pa_nil)) (blkOk_by (N := nLt) (sc := defScope sLt) (by decide +kernel)) (fun _ _ _ _ _ => (pg_name (i := 7) scLt.nd rfl (Or.inl rfl))) (fun _ _ _ _ _ => pts_nil) (fun _ _ _ _ _ => (pe_op op_mod (pe_op op_add (pv 7) (pe_ix (ixl (K := K) rfl) (pv 6) pe_int (fun _ _ => rfl))) (pv 1)))))) pss_nil)) (pss_cons (ps_cut (ps_if (pt_cmpR op_eq (pv 5) pe_int (nomark _)) (pss_one (ps_set (i := 6) scLt.nd rfl (Or.inr rfl) (pe_op op_rep (pe_lst (pa_cons (pe_ix (ixl (K := K) rfl) (pv 6) pe_int (fun _ _ => rfl)) pa_nil)) (pv 1)))) pss_nil)) (pss_cons (ps_cut (ps_if (pt_mo (pw_and (pt_cmpR op_eq (pv 5) pe_int (nomark _)) (pw_and1 (pt_cmpR (op_ne_dict0 hu0) (pv 3) pe_dnewK (nomark _)))).pt) (pss_one (ps_set (i := 6) scLt.nd rfl (Or.inr rfl) (pe_callTy (clist (K := K) rfl) (by rfl) M.list (by decide +kernel) (pa_cons (pe_ix (ixl (K := K) rfl) (pe_listVals rfl (by rfl) M.list (pv 3)) (pe_call G1 hr1 (by rfl) m1 k1 b1 .nil pass0 (pa_cons (pv 0) (pa_cons (pe_callB call_lenD (by rfl) M.len PySem.boot_len (pa_cons (pv 3) pa_nil)) pa_nil))) (fun _ _ => rfl)) pa_nil)))) pss_nil)) (pss_one (ps_dput (by exact hu1) (pv 3) (pe_ix (ixl (K := K) rfl) (pv 2) (pv 4) (fun _ _ => rfl)) (pv 6) rfl)))))))) (pss_one (ps_ret (pe_tup (pa_cons (pv 1) (pa_cons (pv 3) pa_nil)))))))), ?_⟩
  refine ⟨_, rfl, p, 5, rfl, hb, by decide, by decide, fun sz J0 s0 s1 bJ0 x0 => ⟨_, _, rfl, rfl, ?_⟩⟩
  obtain ⟨sn, rfl⟩ := Int.eq_ofNat_of_zero_le s0
  dsimp only
  rw [show (1 : Int) + (sn : Int) = ((1 + sn : Nat) : Int) by omega]
  have n1 : 1 ≤ 1 + sn := by omega
  have n5 : 1 + sn ≤ 5 := by omega
  generalize 1 + sn = n at n1 n5 ⊢
  refine ⟨_, rfl, p, rfl, bJ0, fun zs D J1 bJ1 x1 hD eD lz hz => fun gl hgl => ?_⟩
  have hD' : H D = none := x0.free bJ0 hD
  have nDp : D ≠ p := hb.ne hD'
  have nlp : gl ≠ p := bJ1.ne hgl
  have hgl' : H gl = none := (x0.trans x1).free bJ1 hgl
  have nlD : gl ≠ D := (ne_of_none eD hgl).symm
  have bJ2 := bJ1.new (o := .dK []) hgl
  have x2 : Sx p H (upd J1 gl (.dK [])) := x0.trans (x1.trans (Sx.new hgl))
  have eD2 := Sx.new (p := p) (o := .dK []) hgl D _ nDp eD
  have eg2 := upd_same (H := J1) (a := gl) (o := .dK [])
  generalize upd J1 gl (.dK []) = J2 at bJ2 x2 eD2 eg2 ⊢
  refine ⟨_, _, rfl, _, rfl, p, 4, rfl, bJ2, by decide, by decide, fun cn J3 c0 c1 bJ3 x3 => ⟨_, _, rfl, rfl, _, rfl, by omega, by omega, ?_⟩⟩
  obtain ⟨cm, rfl⟩ := Int.eq_ofNat_of_zero_le c0
  have x3' := x2.trans x3
  have mns : ∀ {J J' : Hp}, Sx p J J' → Same (mn p J) (mn p J') := fun x b o e => by
    unfold mn at e ⊢
    by_cases c : b = p
    · rw [if_pos c] at e; cases e
    · rw [if_neg c] at e ⊢; exact x _ _ c e
  refine for_range (lo := 0) (n := Int.toNat (1 + (cm : Int))) (fun i σ G => Bx G p ∧ Sx p H G ∧ G D = some (.lst (zs.map V.str)) ∧ (∃ kvs L, G gl = some (.dK kvs) ∧ GvP (mn p G) kvs L ∧ NmOk L ∧ (∀ q, q ∈ L → Mp n q.2) ∧ (∀ q, q ∈ L → Ss 8 q.1) ∧ L.length ≤ i ∧ (0 < i → 1 ≤ L.length)) ∧ ∃ x4 x5 x6 x7, σ = [some (.ref p), some (.int (n : Int)), some (.ref D), some (.ref gl), x4, x5, x6, x7])
    ⟨bJ3, x3', x3 _ _ nDp eD2, ⟨[], [], x3 _ _ nlp eg2, .nil, ⟨List.nodup_nil, fun _ z => (nomatch z)⟩, fun _ z => (nomatch z), fun _ z => (nomatch z), Nat.le_refl _, fun z => absurd z (by decide)⟩, _, _, _, _, rfl⟩ ?_ ?_
  rotate_left
  · rintro _ G ⟨bG, sG, eDG, ⟨kvs, L, eg, pr, no, mp, ss, le, ge⟩, x4, x5, x6, x7, rfl⟩
    refine ⟨_, rfl, _, rfl, szl _ (by simp), fun T hT => ?_⟩
    have e0 : Same (mn p G) (mn p (upd G T (.tup [.int (n : Int), .ref gl]))) := mns (Sx.new hT)
    exact q T gl n L _ (bG.new hT) (sG.trans (Sx.new hT)) upd_same ⟨ge (by omega), by omega, n1, n5, mp, ss⟩ no ⟨kvs, e0 _ _ (by unfold mn; rw [if_neg nlp]; exact eg), L2.Paired.mapP pr fun kv q ⟨a, b, c, d⟩ => ⟨a, b, c, e0 _ _ d⟩⟩
  rintro i _ G0 hi ⟨bG0, sG_, eD0, ⟨kvs, L, eg0, pr0, no, mp, ss, le, ge⟩, x4, x5, x6, x7, rfl⟩
  have hi4 : i < 4 := by omega
  refine ⟨_, rfl, p, 4, rfl, bG0, by decide, by decide, fun way G1 w0 w1 bG1 y1 => ?_⟩
  refine ⟨_, rfl, _, rfl, by omega, by omega, fun t1 ht1 => ?_⟩
  have nt1 : t1 ≠ p := bG1.ne ht1
  refine lc_range (lo := 0) (n := Int.toNat (n : Int)) (fun j J => Bx J p ∧ Sx p G1 J ∧ ∃ l : List Nat, J t1 = some (.lst (nv l)) ∧ l.length = j ∧ ∀ x, x ∈ l → x < n) ⟨bG1.new ht1, Sx.new ht1, [], upd_same, rfl, fun _ z => (nomatch z)⟩ ?_ ?_
  · rintro j J hj ⟨bJ, sJ, l, el, ll, hl⟩
    refine ⟨rfl, _, rfl, _, rfl, p, (n : Int), rfl, bJ, by omega, by omega, fun r J' r0 r1 bJ' sJ' => ?_⟩
    obtain ⟨rn, rfl⟩ := Int.eq_ofNat_of_zero_le r0
    refine ⟨_, sJ' _ _ nt1 el, by rw [nv_len, ll]; exact small1000 (by omega), bJ'.at_ne nt1, fun b o n e => ?_, l ++ [rn], by rw [upd_same]; unfold nv; rw [List.map_append]; rfl, by rw [List.length_append, ll]; rfl, fun x hx => ?_⟩
    · rw [upd_ne (ne_of_none e ht1)]; exact sJ' _ _ n (sJ _ _ n e)
    · rcases List.mem_append.mp hx with h | h
      · exact hl x h
      · rw [List.mem_singleton.mp h]; omega
  rintro G2 ⟨bG2, sG2, l, el, ll, hl⟩
  have eg1 := y1 _ _ nlp eg0
  have ntl : t1 ≠ gl := (ne_of_none eg1 ht1).symm
  refine ⟨MidLt p D gl n (.int (0 + (i : Int))) (.int way) G1, ?_, ?_⟩
  · refine ⟨_, rfl, rfl, _, rfl, ite2 (fun c => ?_) (fun c => ⟨bG2, sG2, t1, l, _, rfl, el, nt1, ntl, ⟨by rw [ll]; rfl, hl⟩⟩)⟩
    have hm : Mp n l := ⟨by rw [ll]; rfl, hl⟩
    obtain ⟨m0, ms, rfl⟩ : ∃ a r, l = a :: r := by
      cases l with
      | nil => exact absurd hm.1 (by show ¬ (0 = n); omega)
      | cons a r => exact ⟨_, _, rfl⟩
    have m0n := hm.2 m0 List.mem_cons_self
    refine ⟨_, rfl, _, rfl, by omega, by omega, fun t2 ht2 => ?_⟩
    have nt2 : t2 ≠ p := bG2.ne ht2
    refine lc_range (lo := 0) (n := Int.toNat (n : Int)) (fun j J => Same G2 J ∧ ∃ l : List Nat, J t2 = some (.lst (nv l)) ∧ l.length = j ∧ ∀ x, x ∈ l → x < n) ⟨Same.new ht2 _, [], upd_same, rfl, fun _ z => (nomatch z)⟩ ?_ ?_
    · rintro j J hj ⟨sJ, l2, el2, ll2, hl2⟩
      refine ⟨rfl, _, rfl, _, rfl, t1, nv (m0 :: ms), 0, .int (m0 : Int), rfl, rfl, SqL.of (sJ _ _ el), at0 _ _, _, _, rfl, rfl, _, rfl, _, _, rfl, rfl, (by omega), ?_⟩
      have r0 := Int.emod_nonneg (0 + (j : Int) + (m0 : Int)) (show (n : Int) ≠ 0 by omega)
      have r1 := Int.emod_lt_of_pos (0 + (j : Int) + (m0 : Int)) (show (0 : Int) < n by omega)
      dsimp only
      generalize (0 + (j : Int) + (m0 : Int)) % (n : Int) = r at r0 r1 ⊢
      obtain ⟨rn, rfl⟩ := Int.eq_ofNat_of_zero_le r0
      refine ⟨_, el2, by rw [nv_len, ll2]; exact small1000 (by omega), fun b o e => by rw [upd_ne (ne_of_none e ht2)]; exact sJ _ _ e, l2 ++ [rn], by rw [upd_same]; unfold nv; rw [List.map_append]; rfl, by rw [List.length_append, ll2]; rfl, fun x hx => ?_⟩
      rcases List.mem_append.mp hx with h | h
      · exact hl2 x h
      · rw [List.mem_singleton.mp h]; omega
    rintro G3 ⟨sG3, l2, el2, ll2, hl2⟩
    exact ⟨bG2.same sG3, fun b o n e => sG3 _ _ (sG2 _ _ n e), t2, l2, _, rfl, el2, nt2, (ne_of_none (sG2 _ _ nlp eg1) ht2).symm, ⟨by rw [ll2]; rfl, hl2⟩⟩
  rintro _ G3 ⟨bG3, sG3, t, m, x7', rfl, et, ntp, ntg, hm⟩
  refine ⟨MidLt p D gl n (.int (0 + (i : Int))) (.int way) G1, ?_, ?_⟩
  · refine ⟨_, rfl, rfl, _, rfl, ite2 (fun c => ?_) (fun c => ⟨bG3, sG3, t, m, _, rfl, et, ntp, ntg, hm⟩)⟩
    obtain ⟨m0, ms, rfl⟩ : ∃ a r, m = a :: r := by
      cases m with
      | nil => exact absurd hm.1 (by show ¬ (0 = n); omega)
      | cons a r => exact ⟨_, _, rfl⟩
    have m0n := hm.2 m0 List.mem_cons_self
    refine ⟨_, rfl, t, nv (m0 :: ms), 0, .int (m0 : Int), rfl, rfl, SqL.of et, at0 _ _, szl _ (by simp), fun d hd => ⟨_, rfl, d, _, _, rfl, rfl, upd_same, by omega, by omega, ?_, fun t2 ht2 => ?_⟩⟩
    · show 1 * (Int.toNat (n : Int)) ≤ sizeLine
      exact szl _ (by omega)
    rw [show Int.toNat (n : Int) = n from rfl, rep_flat]
    have bd := bG3.new (o := .lst [.int (m0 : Int)]) hd
    exact ⟨bd.new ht2, sG3.trans ((Sx.new hd).trans (Sx.new ht2)), t2, List.replicate n m0, _, rfl, upd_same, bd.ne ht2, (ne_of_none (Sx.new hd _ _ nlp (sG3 _ _ nlp eg1)) ht2).symm, ⟨List.length_replicate, fun x hx => by rw [(List.mem_replicate.mp hx).2]; exact m0n⟩⟩
  clear bG3 sG3 et ntp ntg hm
  rintro _ G3 ⟨bG3, sG3, t, m, x7', rfl, et, ntp, ntg, hm⟩
  refine ⟨MidLt p D gl n (.int (0 + (i : Int))) (.int way) G1, ?_, ?_⟩
  · refine ⟨fun b J => Bx J p ∧ Sx p G3 J ∧ (b = true → kvs ≠ []), ⟨_, rfl, rfl, _, rfl, ite2 (fun c => ?_) (fun c => ?_)⟩, ?_⟩
    · refine ⟨_, rfl, fun d hd => ⟨gl, d, kvs, rfl, rfl, Sx.new (p := p) hd _ _ nlp (sG3 _ _ nlp eg1), upd_same, _, rfl, bG3.new hd, Sx.new hd, fun e => ?_⟩⟩
      intro z; rw [z] at e; cases e
    · exact ⟨bG3, Sx.refl _, fun z => (nomatch z)⟩
    rintro b J ⟨bJ, sJ, hne⟩
    refine ite2 (fun c => ?_) (fun c => ⟨bJ, sG3.trans sJ, t, m, _, rfl, sJ _ _ ntp et, ntp, ntg, hm⟩)
    have hk := hne c
    have kl : kvs.length = L.length := pr0.length
    have k1 : 1 ≤ kvs.length := List.length_pos_iff.mpr hk
    have sJ1 := sG3.trans sJ
    refine ⟨_, rfl, gl, rfl, .inl ⟨kvs, sJ1 _ _ nlp eg1, fun vl hvl => ?_⟩⟩
    have nvl : vl ≠ p := bJ.ne hvl
    refine ⟨_, rfl, _, rfl, gl, kvs, rfl, Sx.new (p := p) hvl _ _ nlp (sJ1 _ _ nlp eg1), p, (kvs.length : Int), rfl, bJ.new hvl, by omega, by omega, fun r J2 r0 r1 bJ2 s2 => ?_⟩
    obtain ⟨j, c, hc1, _, _, hc3⟩ := pick (xs := kvs.map (·.2)) (i := r) r0 (by rw [List.length_map]; exact r1)
    rw [List.getElem?_map] at hc1
    obtain ⟨kv, hkv, rfl⟩ : ∃ kv, kvs[j]? = some kv ∧ kv.2 = c := by
      cases e : kvs[j]? with
      | none => rw [e] at hc1; cases hc1
      | some kv => rw [e] at hc1; exact ⟨kv, rfl, Option.some.inj hc1⟩
    obtain ⟨q1, hq1, _, b, eb, eb2⟩ := pair_at pr0 hkv
    have nbp : b ≠ p := fun z => by rw [z, mn_p] at eb2; cases eb2
    have eb3 : G0 b = some (.lst (nv q1.2)) := mn_same _ _ eb2
    have sJ2 : Sx p G1 J2 := sJ1.trans ((Sx.new hvl).trans s2)
    refine ⟨vl, kvs.map (·.2), r, kv.2, rfl, rfl, SqL.of (s2 _ _ nvl upd_same), hc3, b, nv q1.2, eb ▸ rfl, .inl (SqL.of (sJ2 _ _ nbp (y1 _ _ nbp eb3))), fun t2 ht2 => ?_⟩
    exact ⟨bJ2.new ht2, sJ2.trans (Sx.new ht2), t2, q1.2, _, rfl, upd_same, bJ2.ne ht2, (ne_of_none (sJ2 _ _ nlp eg1) ht2).symm, mp _ (List.mem_of_getElem? hq1)⟩
  clear bG3 sG3 et ntp ntg hm
  rintro _ G3 ⟨bG3, sG3, t, m, x7', rfl, et, ntp, ntg, hm⟩
  obtain ⟨j, c, hc1, hcm, _, hc3⟩ := pick (xs := zs.map V.str) (i := 0 + (i : Int)) (by omega) (by rw [List.length_map, lz]; omega)
  obtain ⟨z, hzm, rfl⟩ := List.mem_map.mp hcm
  have sG0 : Sx p G0 G3 := y1.trans sG3
  have kl : kvs.length = L.length := pr0.length
  refine ⟨_, rfl, _, rfl, _, rfl, _, rfl, D, zs.map V.str, _, _, rfl, rfl, SqL.of (sG0 _ _ nDp eD0), hc3, gl, _, rfl, DPut.k (k := Sum.inr z) (sG0 _ _ nlp eg0) (szl _ (by omega)), ?_⟩
  have eT : mn p (upd G3 gl (.dK (putK kvs (Sum.inr z) (.ref t)))) t = some (.lst (nv m)) := by
    unfold mn; rw [if_neg ntp, upd_ne ntg]; exact et
  have pr1 : GvP (mn p (upd G3 gl (.dK (putK kvs (Sum.inr z) (.ref t))))) kvs L := L2.Paired.mapP pr0 fun kv q ⟨a, b, c, d⟩ => ⟨a, b, c, by
    have nbp : b ≠ p := fun z => by rw [z, mn_p] at d; cases d
    have nbg : b ≠ gl := fun z => by
      have d2 := mn_same _ _ d
      rw [z, eg0] at d2; cases d2
    unfold mn; rw [if_neg nbp, upd_ne nbg]; exact sG0 _ _ nbp (mn_same _ _ d)⟩
  have pl := putL_len (L := L) (z := z) (m := m)
  refine ⟨bG3.at_ne nlp, fun b o n e => by rw [upd_ne (ne_of_none e hgl')]; exact sG0 _ _ n (sG_ b o n e), by rw [upd_ne nlD.symm]; exact sG0 _ _ nDp eD0, ⟨_, putL L z m, upd_same, GvP.put pr1 eT, ⟨putL_nd no.nd, fun q hq => ?_⟩, fun q hq => ?_, fun q hq => ?_, by omega, fun _ => pl.1⟩, _, _, _, _, rfl⟩
  · rcases putL_in q hq with h | h
    · exact no.nm q h
    · rw [h.1]; exact (hz z hzm).1
  · rcases putL_in q hq with h | h
    · exact mp q h
    · rw [h.2]; exact hm
  · rcases putL_in q hq with h | h
    · exact ss q h
    · rw [h.1]; exact (hz z hzm).2
end
end L

set_option Elab.async false
set_option linter.all false
set_option maxRecDepth 100000
set_option maxHeartbeats 4000000
set_option pp.maxSteps 400
namespace L2
open PySem PySem.Spec PyProof.Rows
section
variable {X : Cx} {CX : CXT} {k : Nat} {f C : Addr} {fd : FuncData} {ps : List Str} {sp : Sp} {dvs : List V} {ds : List Value} {E : St → XK} {x : Str} {p pos : Pos} {e : Expr} {es : List Expr} {t : TA}
/-- C(e, ..) in a try: what it raises is taken with the slots as they are -/
def tMakeS (C : Addr) (sp : Sp) (dvs : List V) (E : St → XK) (t : TA) : TE := fun σ H Q => tMake C sp dvs (E σ) t σ H Q
theorem run_makeS {pins : List (Addr × Obj)} {σ : St} {H : Hp} {s : Shared} {Q : VK} {us : List Value} {vs : List V} {E : XK} (M : Mk X.K C f) (F : FnOk X.prog X.w X.K X.mg X.base CX k f fd ps sp) (hr : Room (k + 1) X.A) (hb : Binds X.K fd ps ds) (hd : Vals dvs ds)
    (hx : PassesAt CX X σ E) (I : Inv X pins σ H s) (r : Vals vs us)
    (h : ∀ x dx, H x = none → H dx = none → dx ≠ x → sp (.ref x :: (vs ++ dvs)) (upd (upd H dx (.own x)) x (.ins C dx [])) (fun v H2 => v = .non ∧ Q (.ref x) H2) E) :
    wpAny (model X.prog X.w) X.A (call (.ref C) us) (EP X pins σ Q) X.xe s := by
  have hq := h (s.heap.objs.size + 1) s.heap.objs.size (I.hok.fresh (Nat.le_succ _)) (I.hok.fresh (Nat.le_refl _)) (Nat.ne_of_lt (Nat.lt_succ_self _))
  have I2 := Inv.made (C := C) I
  have r2 : Vals (V.ref (s.heap.objs.size + 1) :: (vs ++ dvs)) (Value.ref (s.heap.objs.size + 1) :: (us ++ ds)) := .cons rfl (r.append hd)
  have hl : (Value.ref (s.heap.objs.size + 1) :: us ++ ds).length = ps.length := by
    have e := r2.length
    rw [F.len _ _ _ _ hq] at e
    exact e.symm
  refine wpAny_call (make_map (f := f) I.kIn M.makes M.init (beq_iff_eq.mp M.fn) (codeAny_mono (F.run _ X.stack _ _ ⟨Value.ref (s.heap.objs.size + 1) :: us, []⟩ (Value.ref (s.heap.objs.size + 1) :: (us ++ ds)) _ _ E (hr.make C us [])
    (I2.env0.make C us []) (hb _ (Value.ref (s.heap.objs.size + 1) :: us) I2.kIn hl) r2 hq) fun r s' hq' => ?_))
  cases r with
  | error e => exact hx pins _ _ e s' I2 hq'
  | ok fl =>
    cases fl with
    | ret u =>
      obtain ⟨v, H', I3, rv, ev, q3⟩ := I2.after hq'
      subst ev
      exact ⟨rv, ⟨V.ref (s.heap.objs.size + 1), H', I3, rfl, q3⟩⟩
    | next => exact False.elim hq'
    | brk => exact False.elim hq'
    | cont => exact False.elim hq'
theorem pe_makeS (M : Mk X.K C f) (F : FnOk X.prog X.w X.K X.mg X.base CX k f fd ps sp) (hr : Room (k + 1) X.A) (hg : Gl X x) (hm : X.mg x = some (.ref C)) (hb : Binds X.K fd ps ds) (hd : Vals dvs ds) (hx : ∀ σ, PassesAt CX X σ (E σ))
    (ha : PA X (e :: es) t) (hdb : (x == ("__debug__" : Str)) = false := by decide) (he : starEach (e :: es) X.env = (false, eval e X.env) :: starEach es X.env := by rfl) (hpl : (backTo pos (starEach es X.env)).any (·.1) = false := by rfl) :
    PE X (.Call (.Name x p) (e :: es) [] pos) (tMakeS C sp dvs E t) := by
  refine ⟨fun pins s σ H Q I h => ?_⟩
  refine wpAny_Call_Name_kw (ld_glob I hg hm ?_ hdb)
  refine PySem.W.callWith_K (h₀ := X.base) I.ok.mod.kin M.kp (thn (ha.run pos pins s σ H _ I h) fun us s1 ⟨vs, H1, I1, r, q⟩ => ⟨I1.kIn, ?_⟩) he hpl
  exact run_makeS M F hr hb hd (hx σ) I1 r q
end
end L2
namespace L
open PySem L2 KX
theorem ixTq {X : Cx} {K : PySem.W.Frag} (hK : X.K = K) : IxR X (rIxT K) := by subst hK; exact ix_tup
abbrev sLm : Stmt := top 39
abbrev nLm : List Str := ["size", "letters", "e"]
def spLm (CF : Addr) : Sp := fun vs H Q _ => ∃ (n : Nat) (l : Addr) (L : Ltt), vs = [.int (n : Int), .ref l] ∧ LOk n L ∧ NmOk L ∧ Gt H l L ∧
  (∀ S a H', Res n L (some S) → TrA CF H' a n L S → Same H H' → H a = none → Q (.ref a) H') ∧ (∀ H', Res n L none → Same H H' → Q (.int 17) H')
section
variable {P : Program} {w : World} {K : PySem.W.Frag} {mg : Str → Option Value} {base : Heap} {f f1 f2 fI fE : Addr} {fd d1 d2 dI : FuncData} {C CF CO : Addr}
theorem scLm : FnScope nLm ["size", "letters"] (defScope sLm) := ⟨rfl, rfl, rfl, by decide +kernel, rfl, by decide +kernel, by decide +kernel⟩
theorem ok_lm (F : Fun K "_law_made" "_law_made" sLm f fd) (TE : ETx K mg "TooMany" "count" CO fE) (x11 : PySem.W.exmOne K (.ref CO) (.ref CO) = some true) (mC : mg "Transformations" = some (.ref CF))
    (MI : Mk K CF fI) (GI : FnOk P w K mg base (L2.CX P w) 5 fI dI ["self", "states", "letters"] (spTi CF CO)) (bI : Binds K dI ["self", "states", "letters"] []) :
    FnOk P w K mg base CX0 7 f fd ["size", "letters"] (spLm CF) := by
  refine F.ok scLm (fun vs H Q E h => ?_) (fun cdv A outer s H vs Q E hr h => ?_)
  · obtain ⟨n, l, L, rfl, _⟩ := h
    rfl
  obtain ⟨n, l, L, rfl, lo, no, hG, q1, q2⟩ := h
  refine ⟨_, pss_one (ps_try_to (tb := fun W => tRet (tMakeS CF (spTi CF CO) [] (WE W) (tCons (tVar 0) (tCons (tVar 1) tNil))))
      (l := [(.ref CO, 2, fun a cls d => tRet (tXf a cls d CO "count" (tVar 2)))]) rfl rfl scLm.nd
    (.cons ⟨rfl, by decide, .inl TE.mgC⟩ rfl rfl (fun a oe cls d pn hz hf => pss_one (ps_ret (by exact pe_xf TE.xf TE.noF hz hf (pv 2)))) .rest)
    (fun W pn xe tk _ => pss_one (ps_ret (by exact pe_makeS MI GI hr (by rfl) mC bI .nil (fun σ => passAt tk σ) (pa_cons (pv 0) (pa_cons (pv 1) pa_nil)))))), ?_⟩
  refine ⟨_, rfl, _, rfl, fun x dx hx hdx nx => ?_⟩
  have sn : Same H (upd (upd H dx (.own x)) x (.ins CF dx [])) := fun b o e => by rw [upd_ne (ne_of_none e hx), upd_ne (ne_of_none e hdx)]; exact e
  refine ⟨x, dx, n, l, L, rfl, upd_same, lo, no, hG.to sn, fun S H' rs ht ss => ⟨rfl, q1 S x H' rs ht (fun b o e => ss _ _ (ne_of_none e hx) (sn _ _ e)) hx⟩, fun H' d rs ss hd => ?_⟩
  have sH' : Same H H' := fun b o e => ss _ _ (ne_of_none e hx) (sn _ _ e)
  refine ⟨true, x11, fun _ a ha => ?_, fun z => nomatch z⟩
  exact ⟨_, rfl, rfl, rfl, d, _, .int 17, rfl, upd_same, rfl, q2 _ rs (sH'.trans (Same.new hd _))⟩
end
end L

set_option Elab.async false
set_option linter.all false
set_option maxRecDepth 100000
set_option maxHeartbeats 4000000
set_option pp.maxSteps 400
namespace L
open PySem L2 KX
/-- words of letters alone -/
def Wf (L : Ltt) (S : List En) : Prop := ∀ e, e ∈ S → ∀ z, z ∈ e.2 → z ∈ L.map (·.1)
theorem Wf.snoc {L : Ltt} {S : List En} {e : En} (h : Wf L S) (g : ∀ z, z ∈ e.2 → z ∈ L.map (·.1)) : Wf L (S ++ [e]) := fun x hx => by
  rcases List.mem_append.mp hx with k | k
  · exact h x k
  · rw [List.mem_singleton.mp k]; exact g
theorem inn_wf {L : Ltt} {st : En} (hst : ∀ z, z ∈ st.2 → z ∈ L.map (·.1)) : ∀ {r : Ltt} {S lg S' lg' : List En}, (∀ q, q ∈ r → q ∈ L) → Wf L S → Wf L lg → inn st r S lg = some (S', lg') → Wf L S' ∧ Wf L lg'
  | [], S, lg, S', lg', _, h1, h2, e => by
    have e := Option.some.inj e
    rw [Prod.mk.injEq] at e
    rw [← e.1, ← e.2]; exact ⟨h1, h2⟩
  | q :: r, S, lg, S', lg', hr, h1, h2, e => by
    unfold inn at e
    have hn : ∀ z, z ∈ (new st q).2 → z ∈ L.map (·.1) := fun z hz => by
      rcases List.mem_append.mp (show z ∈ st.2 ++ [q.1] from hz) with k | k
      · exact hst z k
      · rw [List.mem_singleton.mp k]; exact List.mem_map.mpr ⟨q, hr q List.mem_cons_self, rfl⟩
    have hr' : ∀ q, q ∈ r → q ∈ L := fun x hx => hr x (List.mem_cons_of_mem _ hx)
    split at e
    · exact inn_wf hst hr' h1 h2 e
    · split at e
      · cases e
      · exact inn_wf hst hr' (h1.snoc hn) (h2.snoc hn) e
theorem lay_wf {L : Ltt} : ∀ {lr S lg S' lg' : List En}, Wf L lr → Wf L S → Wf L lg → lay L lr S lg = some (S', lg') → Wf L S' ∧ Wf L lg'
  | [], S, lg, S', lg', _, h1, h2, e => by
    have e := Option.some.inj e
    rw [Prod.mk.injEq] at e
    rw [← e.1, ← e.2]; exact ⟨h1, h2⟩
  | st :: r, S, lg, S', lg', hl, h1, h2, e => by
    unfold lay at e
    cases hi : inn st L S lg with
    | none => rw [hi] at e; cases e
    | some p =>
      rw [hi] at e
      obtain ⟨k1, k2⟩ := inn_wf (hl st List.mem_cons_self) (fun _ h => h) h1 h2 (S' := p.1) (lg' := p.2) hi
      exact lay_wf (fun x hx => hl x (List.mem_cons_of_mem _ hx)) k1 k2 e
theorem Bf.wf {L : Ltt} {S lr : List En} {r : Option (List En)} (h : Bf L S lr r) : Wf L S → Wf L lr → ∀ S', r = some S' → Wf L S' := by
  induction h with
  | done S => intro h _ S' e; rw [← Option.some.inj e]; exact h
  | over => intro _ _ S' e; cases e
  | next _ e _ ih =>
    intro h1 h2 S' er
    obtain ⟨k1, k2⟩ := lay_wf h2 h1 (fun e he => by cases he) e
    exact ih k1 k2 S' er
theorem Res.wf {n : Nat} {L : Ltt} {S : List En} (h : Res n L (some S)) : Wf L S := Bf.wf h (fun e he => by cases he) (fun e he z hz => by rw [List.mem_singleton.mp he] at hz; cases hz) S rfl
theorem dp_strs {K : PySem.W.Frag} {H : Hp} : ∀ zs : List Str, DpAll K H (zs.map V.str) (zs.map PyData.str)
  | [] => .nil
  | z :: zs => .cons (.str z) (dp_strs zs)
theorem strs_plain (zs : List Str) : (PyData.list (zs.map PyData.str)).plain = true := by
  show PyData.plainAll _ = true
  induction zs with
  | nil => rfl
  | cons z zs ih => exact ih
theorem strs_lay : ∀ zs : List Str, (∀ z, z ∈ zs → ∃ n, Ss n z) → PyData.canLayAll0 (zs.map PyData.str) = true
  | [], _ => by simp [PyData.canLayAll0]
  | z :: zs, hz => by
    have h := strs_lay zs fun x hx => hz x (List.mem_cons_of_mem _ hx)
    obtain ⟨n, hn⟩ := hz z List.mem_cons_self
    have k : PyData.strOk z = true := by
      show z.cps.all (· < 0x110000) = true
      rw [← Array.all_toList]
      exact List.all_eq_true.mpr fun c hc => decide_eq_true (hn.2 c hc)
    simp [PyData.canLayAll0, PyData.canLay0, h, k]
theorem strs_depth : ∀ zs : List Str, PyData.depthAll (zs.map PyData.str) = 0
  | [] => by simp [PyData.depthAll]
  | z :: zs => by
    have h := strs_depth zs
    simp [PyData.depthAll, PyData.depth, h]
theorem strs_shaped (zs : List Str) (hz : ∀ z, z ∈ zs → ∃ n, Ss n z) : SeqAt.shaped (.list (zs.map PyData.str)) = true := by
  show ((PyData.list (zs.map PyData.str)).canLay0 && decide ((PyData.list (zs.map PyData.str)).depth ≤ 64)) = true
  have h1 : (PyData.list (zs.map PyData.str)).canLay0 = true := by simp only [PyData.canLay0]; exact strs_lay zs hz
  have h2 : (PyData.list (zs.map PyData.str)).depth = 1 := by simp only [PyData.depth, strs_depth zs]
  rw [h1, h2]; rfl
theorem ints2_shaped (a b : Int) : SeqAt.shaped (.list [.int a, .int b]) = true := by
  simp [SeqAt.shaped, PyData.canLay0, PyData.canLayAll0, PyData.depth, PyData.depthAll]
end L

set_option Elab.async false
set_option linter.all false
set_option maxRecDepth 100000
set_option maxHeartbeats 4000000
/-! Own layer: name = {..: .. for ..}, walks for it. -/
namespace KX
open PySem PySem.Spec PyProof.Rows L2
section
variable {X : Cx}
theorem sw_trueD {kx vx : Expr} {gs : List Comprehension} {scope : Scope} {pos py : Pos} {y : Str} {l : Nat} {env : Env} (hk : env.scope.kind = .function) (hy : env.scope.names.lookup y = some .local) (hl : (py.line == pos.line) = true)
    (ha : (scope.names.any fun (n, k) => n == y && (k == .local || k == .cell)) = false) : swapsWith (.DictComp kx vx gs scope pos) (some (.Name y py)) l env = pure true := by
  have ky : env.kindOf y = some .local := hy
  have hb : env.blockKind = .function := by unfold Env.blockKind; rw [hk]; rfl
  unfold swapsWith
  simp only [hb, ky, ha, Expr.pos, hl]
  rfl
theorem ps_setDc {i : Nat} {y : Str} {py : Pos} {kx vx tg iter : Expr} {ifs : List Expr} {scope : Scope} {own : List (Str × Nat)} {pos spos : Pos} {wi : TI} {g : TG} {tt : TT} {tk tv : TE} (hc : X.calm = true) (hN : X.N.Nodup) (hy : X.N[i]? = some y) (hyl : X.env.scope.names.lookup y = some .local)
    (hsw : swapsWith (.DictComp kx vx [⟨tg, iter, ifs, 0⟩] scope pos) (some (.Name y py)) spos.line X.env = pure true) (hi : PI X tg iter wi) (ok : BlkOk X.N X.env.scope scope own)
    (hg : ∀ (s : Shared) (H : Hp) (C : Addr) (cl : List (Str × Addr)) (fp : List Addr), PG (X.blk s H scope (compEnvC scope cl C X.env) fp) tg g) (ht : ∀ (s : Shared) (H : Hp) (C : Addr) (cl : List (Str × Addr)) (fp : List Addr), PTs (X.blk s H scope (compEnvC scope cl C X.env) fp) ifs tt)
    (hk : ∀ (s : Shared) (H : Hp) (C : Addr) (cl : List (Str × Addr)) (fp : List Addr), PE (X.blk s H scope (compEnvC scope cl C X.env) fp) kx tk)
    (he : ∀ (s : Shared) (H : Hp) (C : Addr) (cl : List (Str × Addr)) (fp : List Addr), PE (X.blk s H scope (compEnvC scope cl C X.env) fp) vx tv) (hs : ∀ x, foldedSetIterable iter X.env x = pure x := by intro _; rfl) :
    PS X (.Assign [.Name y py] (.DictComp kx vx [⟨tg, iter, ifs, 0⟩] scope pos) spos) (tAsg (tDc wi g tt tk tv (own.map (·.2))) (gName i)) := by
  refine ⟨fun pins s σ H D I h => ?_⟩
  rw [exec_Assign_Name_used _ _ _ _ hsw]
  refine wpAny_bind (wpAny_standAt (wpAny_bind ?_))
  show wpAny _ X.A (do let _ ← comprehension (.DictComp kx vx [⟨tg, iter, ifs, 0⟩] scope pos) scope X.env (firstIterPos [⟨tg, iter, ifs, 0⟩] pos) newDict false (eval iter X.env) (some (assign (.Name y py) X.env))) _ _ s
  have h : tDc wi g tt tk tv (own.map (·.2)) σ H (fun x H1 => gName i x σ H1 D.nx) := h
  refine wpAny_bind (thn (dc_core (Qf := fun _ s' => SP X pins D .next s') hc hN I hi ok hg ht hk he hs h fun L C s' m H' I' q hn f => ?_) fun _ s' hq => wpAny_pure (wpAny_pure hq))
  show wpAny _ _ (assign (.Name y py) X.env (.ref L)) _ _ _
  refine wpAny_assign_Name (store_ok2 (v := V.ref L) I' hN hy (.inl hyl) rfl (fun s2 I2 ⟨a, sb, ha⟩ => ?_) (.inr hyl))
  obtain ⟨f0, f1, f2, f3, f4, f5⟩ := f
  have haC : C ≠ a := by
    rcases ha with z | z
    · rw [z]; exact f1
    · exact fun e => f4 y a z e.symm
  refine ⟨m, hn.sameBut sb haC, fun h3 sb3 => ?_⟩
  exact ⟨_, H', I2.turned (t' := s2.toks) (fun b o hb e => (sb3.2 b hb).trans e) f0 f1 f3 f4 f5, q⟩
end
/-- a dict's comprehension over any walk -/
theorem dc_it {J : It} {n : Nat} {G : Hp → Prop} {Y : Nat → Hp → V → Hp → Prop} (w : Walk J n G Y) {g : TG} {tt : TT} {tk tv : TE} {vs : List Nat} {σ : L2.St} {H1 : Hp} {D : Addr} {Qd : Hp → Prop} (Pv : Nat → Hp → Prop) (h0 : Pv 0 (upd H1 D (.dK []))) (hG : ∀ i H, i ≤ n → Pv i H → G H)
    (hs : ∀ i x H H', i < n → Pv i H → Y i H x H' → g x (wipe σ vs) H' fun σ2 H2 => wipe σ2 vs = wipe σ vs ∧ tt σ2 H2 fun b H3 =>
      if b = true then tk σ2 H3 fun y H4 => tv σ2 H4 fun z H5 => ∃ kvs k, y = kV k ∧ H5 D = some (.dK kvs) ∧ kvs.length < sizeLine ∧ Pv (i + 1) (upd H5 D (.dK (putK kvs k z))) else Pv (i + 1) H3) (hd : ∀ H, Pv n H → Qd H) :
    ∃ W : Nat → Nat → Hp → Prop, (∃ m, W 0 m (upd H1 D (.dK []))) ∧ ∀ i m H, W i m H →
      (J.stop i H ∧ Qd H) ∨ (J.go i H ∧ ∃ Nx : Hp → Prop, (∀ H', Nx H' → ∃ m', m' < m ∧ W (i + 1) m' H') ∧ ∀ x H', J.yld i H x H' → g x (wipe σ vs) H' fun σ2 H2 => wipe σ2 vs = wipe σ vs ∧ tt σ2 H2 fun b H3 =>
        if b = true then tk σ2 H3 fun y H4 => tv σ2 H4 fun z H5 => ∃ kvs k, y = kV k ∧ H5 D = some (.dK kvs) ∧ kvs.length < sizeLine ∧ Nx (upd H5 D (.dK (putK kvs k z))) else Nx H3) := by
  refine ⟨fun i m H => m = n - i ∧ i ≤ n ∧ Pv i H, ⟨n, by simp, Nat.zero_le _, h0⟩, ?_⟩
  rintro i m H ⟨rfl, hi, p⟩
  have q := hG i H hi p
  by_cases hlt : i < n
  · refine .inr ⟨w.goes i H hlt q, Pv (i + 1), fun H' p' => ⟨n - (i + 1), by omega, rfl, hlt, p'⟩, fun x H' y => hs i x H H' hlt p (w.yields i H x H' hlt q y)⟩
  · have e : i = n := by omega
    subst e
    exact .inl ⟨w.stops H q, hd H p⟩
end KX

set_option Elab.async false
set_option linter.all false
set_option maxRecDepth 100000
set_option maxHeartbeats 4000000
set_option pp.maxSteps 400
namespace KX
open PySem PySem.Spec PyProof.Rows L2
section
variable {X : Cx}
/-- x != y of data, dicts among them -/
def rNeQ : R2 := fun x y H Q => ∃ d e, Dq H x d ∧ Dq H y e ∧ SeqAt.shaped d = true ∧ SeqAt.shaped e = true ∧ Q (.bl (!PyData.eqv d e)) H
theorem op_neQ (hu : X.A.units + 64 < cLine) : OpR X (compareOp .NotEq) rNeQ := by
  intro pins s σ H x y v u Q I rx ry h
  obtain ⟨d, e, hd, he, sd, se, q⟩ := h
  obtain ⟨as, r1, _⟩ := Dq.reads I d x v hd rx
  obtain ⟨bs, r2, _⟩ := Dq.reads I e y u he ry
  exact SeqAt.compareNe_shaped r1 r2 sd se hu ⟨.bl _, H, I, rfl, q⟩
def rEqQ : R2 := fun x y H Q => ∃ d e, Dq H x d ∧ Dq H y e ∧ SeqAt.shaped d = true ∧ SeqAt.shaped e = true ∧ Q (.bl (PyData.eqv d e)) H
theorem op_eqQ (hu : X.A.units + 64 < cLine) : OpR X (compareOp .Eq) rEqQ := by
  intro pins s σ H x y v u Q I rx ry h
  obtain ⟨d, e, hd, he, sd, se, q⟩ := h
  obtain ⟨as, r1, _⟩ := Dq.reads I d x v hd rx
  obtain ⟨bs, r2, _⟩ := Dq.reads I e y u he ry
  exact SeqAt.compareEq_shaped r1 r2 sd se hu ⟨.bl _, H, I, rfl, q⟩
/-- xs != [] -/
def rNeE (K : PySem.W.Frag) : R2 := fun x y H Q => ∃ a b xs, x = .ref a ∧ y = .ref b ∧ SqL K H a xs ∧ SqL K H b [] ∧ Q (.bl (!xs.isEmpty)) H
theorem op_neE (hu : X.A.units + 64 < cLine) : OpR X (compareOp .NotEq) (rNeE X.K) := by
  intro pins s σ H x y v u Q I rx ry h
  obtain ⟨a, b, xs, rfl, rfl, ha, hb, q⟩ := h
  cases rx
  cases ry
  obtain ⟨its, rv, ⟨⟨cls, dd, data, sl⟩, n, ho, hc, hd, hdat⟩, hz⟩ := I.list ha
  obtain ⟨its2, rv2, ⟨⟨cls2, dd2, data2, sl2⟩, n2, ho2, hc2, hd2, hdat2⟩, hz2⟩ := I.list hb
  simp only at hc hd hdat hc2 hd2 hdat2
  subst hc hdat hc2 hdat2
  cases rv2
  show wpAny (model X.prog X.w) X.A (richCompare .NotEq (.ref a) (.ref b)) (EP X pins σ Q) X.xe s
  refine wpAny_richCompare_same_room (op := .NotEq) ⟨_, ho, rfl⟩ ⟨_, ho2, rfl⟩ F.slot_list_ne (GQ.call_here F.slot_list_ne ⟨_, ho, rfl⟩ F.entry_list_ne (F.args_list_ne_2 _ _) ?_) (by omega)
  cases rv with
  | nil => exact PySem.SeqAt.list_neAt a b _ _ n n2 dd dd2 sl sl2 rfl (fun _ => true) X.prog X.w X.A _ s ⟨ho, ho2, fun j h1 h2 => absurd h1 (Nat.not_lt_zero j), (fun z => nomatch z), .bl false, H, I, rfl, q⟩
  | cons h t => exact PySem.SeqAt.list_ne_lengthsAt a b _ _ n n2 dd dd2 sl sl2 (by simp) X.prog X.w X.A _ s ⟨ho, ho2, (fun z => nomatch z), .bl true, H, I, rfl, q⟩
end
end KX

set_option Elab.async false
set_option linter.all false
set_option maxRecDepth 100000
set_option maxHeartbeats 4000000
set_option pp.maxSteps 400
namespace L
open PySem L2 KX
abbrev sSt : Stmt := inClass (top 29) 3
abbrev sLs : Stmt := inClass (top 29) 4
abbrev nLs : List Str := ["self", "name", "targets"]
def hf (L : Ltt) (zs : List Str) (st : Nat) : Nat := zs.foldl (fun h z => (tg L z).getD h 0) st
theorem mapW_hf' {L : Ltt} : ∀ {zs : List Str} {m : List Nat}, zs.foldl (fun m z => cmp m (tg L z)) m = m.map (hf L zs)
  | [], m => by
    show m = m.map (fun x => x)
    rw [List.map_id']
  | z :: zs, m => by
    show zs.foldl (fun m z => cmp m (tg L z)) (cmp m (tg L z)) = _
    rw [mapW_hf' (zs := zs)]
    unfold cmp
    rw [List.map_map]; rfl
theorem mapW_hf (n : Nat) (L : Ltt) (zs : List Str) : mapW n L zs = (List.range n).map (hf L zs) := mapW_hf'
theorem hf_lt {n : Nat} {L : Ltt} (o : LOk n L) : ∀ {zs : List Str} {st : Nat}, st < n → (∀ z, z ∈ zs → z ∈ L.map (·.1)) → hf L zs st < n
  | [], st, h, _ => h
  | z :: zs, st, h, hz => by
    obtain ⟨q, h1, _, h3⟩ := tg_in (hz z List.mem_cons_self)
    have m := o.mp q h1
    rw [h3] at m
    refine hf_lt (zs := zs) o ?_ fun x hx => hz x (List.mem_cons_of_mem _ hx)
    show (tg L z).getD st 0 < n
    rw [List.getD_eq_getElem?_getD, List.getElem?_eq_getElem (by rw [m.1]; exact h)]
    exact m.2 _ (List.getElem_mem _)
theorem putL_new {L : Ltt} {z : Str} {m : List Nat} (h : z ∉ L.map (·.1)) : putL L z m = L ++ [(z, m)] := if_neg h
/-- a letter's targets where the letters stand -/
theorem gv_at {H : Hp} {kvs : List (Key × V)} {L : Ltt} (pr : GvP H kvs L) (no : NmOk L) {z : Str} (hz : z ∈ L.map (·.1)) : ∃ b, valV kvs (Sum.inr z) = some (.ref b) ∧ H b = some (.lst (nv (tg L z))) := by
  obtain ⟨q, h1, h2, h3⟩ := tg_in hz
  obtain ⟨j, hj, ej⟩ := List.mem_iff_getElem.mp h1
  have lk : kvs.length = L.length := pr.length
  obtain ⟨q', hq', e1, b, e2, eb⟩ := pair_at (i := j) pr (List.getElem?_eq_getElem (by omega))
  rw [List.getElem?_eq_getElem hj] at hq'
  cases hq'
  rw [ej] at e1 eb
  have nd := GvP.nd pr no
  have := val_nodup nd _ (List.getElem_mem (l := kvs) (n := j) (by omega))
  rw [e1, h2, e2] at this
  exact ⟨b, this, h3 ▸ eb⟩
theorem tg_of {L : Ltt} (no : NmOk L) {q : Str × List Nat} (h : q ∈ L) : tg L q.1 = q.2 := by
  obtain ⟨q', h1, h2, h3⟩ := tg_in (List.mem_map.mpr ⟨q, h, rfl⟩)
  obtain ⟨i, hi, ei⟩ := List.mem_iff_getElem.mp h1
  obtain ⟨j, hj, ej⟩ := List.mem_iff_getElem.mp h
  have nd2 := List.getElem_inj (xs := L.map (·.1)) (i := i) (j := j) (h₀ := by rw [List.length_map]; exact hi) (h₁ := by rw [List.length_map]; exact hj) no.nd
  have e : i = j := nd2.mp (by rw [List.getElem_map, List.getElem_map, ei, ej, h2])
  subst e
  rw [← h3, ← ei, ej]
def spSt (CF : Addr) : Sp := fun vs H Q _ => ∃ a n L S, vs = [.ref a] ∧ TrA CF H a n L S ∧ Q (.int (n : Int)) H
def spLs (CF : Addr) : Sp := fun vs H Q _ => ∃ a n L S, vs = [.ref a] ∧ TrA CF H a n L S ∧ LOk n L ∧ NmOk L ∧ ∀ (D : Addr) kvs H', Same H H' → H D = none → H' D = some (.dK kvs) → GvP H' kvs L → (∀ kv : Key × V, kv ∈ kvs → ∀ t, kv.2 = .ref t → H t = none ∧ t ≠ D) → Q (.ref D) H'
theorem putK_mem {kvs : List (Key × V)} {k : Key} {v : V} {x : Key × V} (h : x ∈ putK kvs k v) : x ∈ kvs ∨ x.2 = v := by
  unfold putK at h
  split at h
  · obtain ⟨y, hy, rfl⟩ := List.mem_map.mp h
    split
    · exact .inr rfl
    · exact .inl hy
  · rcases List.mem_append.mp h with h | h
    · exact .inl h
    · rw [List.mem_singleton.mp h]; exact .inr rfl
section
variable {P : Program} {w : World} {K : PySem.W.Frag} {mg : Str → Option Value} {base : Heap} {f f1 f2 f3 g1 : Addr} {fd d1 d2 d3 : FuncData} {C CF CO : Addr}
theorem scLs : FnScope nLs ["self"] (defScope sLs) := ⟨rfl, rfl, rfl, by decide +kernel, rfl, by decide +kernel, by decide +kernel⟩
theorem ok_ls (F : Fun K "letters" "Transformations.letters" sLs f fd) (M : Mn mg) (U : TfX K CF) : FnOk P w K mg base CX0 1 f fd ["self"] (spLs CF) := by
  refine F.ok scLs (fun vs H Q E h => ?_) (fun cdv A outer s H vs Q E hr h => ?_)
  · obtain ⟨a, n, L, S, rfl, _⟩ := h
    rfl
  obtain ⟨a, n, L, S, rfl, ht, o, no, q⟩ := h
  refine ⟨_, (pss_one (ps_ret (pe_dc (own := [("name", 1), ("targets", 2)]) (g := gTup _ 2 (gCons (gName 1) (gCons (gName 2) gNil))) (tt := tYes) rfl scLs.nd (pit (K := K) rfl (pe_fld (pv 0) rfl)) (blkOk_by (N := nLs) (sc := defScope sLs) (by decide +kernel)) (fun _ _ _ _ _ => (pg_tup rfl (pgs_cons (pg_name (i := 1) scLs.nd rfl (Or.inl rfl)) (pgs_cons (pg_name (i := 2) scLs.nd rfl (Or.inl rfl)) pgs_nil)))) (fun _ _ _ _ _ => pts_nil) (fun _ _ _ _ _ => (pv 1)) (fun _ _ _ _ _ => (pe_callTy (clist (K := K) rfl) (by rfl) M.list (by decide +kernel) (pa_cons (pv 2) pa_nil)))))), ?_⟩
  obtain ⟨dx, tl, cl, wl, e, hl, _⟩ := ht.ob
  obtain ⟨ps, kvs, hps, prp, prk⟩ := hl.kvs
  have lpk : ps.length = kvs.length := prp.length
  have lkl : kvs.length = L.length := prk.length
  have l4 := o.ge
  refine ⟨_, rfl, a, CF, dx, _, _, rfl, e, U.cl, U.n2, rfl, tl, rfl, ⟨_, hps.sq⟩, fun D hD => ?_⟩
  refine dc_it (walk_tup (xs := ps.map V.ref)) (fun i G => Same H G ∧ ∃ acc, G D = some (.dK acc) ∧ GvP G acc (L.take i) ∧ (∀ kv : Key × V, kv ∈ acc → ∀ t, kv.2 = .ref t → H t = none ∧ t ≠ D)) ⟨Same.new hD _, [], upd_same, .nil, fun kv h => (by cases h)⟩ (fun i G _ z => (hps.ext z.1).sq) ?_ ?_
  · rintro i y G G' hi ⟨sG, acc, eD, pr, nw'⟩ ⟨rfl, hy⟩
    obtain ⟨p1, hp1, rfl⟩ := ref_at hy
    obtain ⟨kv, hkv, ep⟩ := pair_at prp hp1
    obtain ⟨q1, hq1, ek, t, et, ett⟩ := pair_at prk hkv
    rw [ek, et] at ep
    refine ⟨p1, _, rfl, SqT.of (sG _ _ ep), rfl, _, _, rfl, _, _, rfl, rfl, rfl, _, rfl, _, rfl, t, nv q1.2, rfl, .inr (SqT.of (sG _ _ ett)), fun t2 ht2 => ?_⟩
    have u := Same.new ht2 (.lst (nv q1.2))
    have n2D : t2 ≠ D := (ne_of_none eD ht2).symm
    have pr2 : GvP (upd (upd G' t2 (.lst (nv q1.2))) D (.dK (putK acc (Sum.inr q1.1) (.ref t2)))) acc (L.take i) := L2.Paired.mapP pr fun kv q ⟨a, b, c, d⟩ => ⟨a, b, c, by rw [upd_ne (ne_of d eD fun z => nomatch z)]; exact u _ _ d⟩
    have la : acc.length = (L.take i).length := pr.length
    refine ⟨acc, Sum.inr q1.1, rfl, u _ _ eD, by rw [la, List.length_take]; exact small1000 (by omega), fun b o e => by rw [upd_ne (ne_of_none e hD)]; exact u _ _ (sG _ _ e), _, upd_same, ?_⟩
    have tk : L.take (i + 1) = L.take i ++ [(q1.1, q1.2)] := by rw [List.take_add_one, hq1]; rfl
    have nin : q1.1 ∉ (L.take i).map (·.1) := fun hm => by
      have nd := no.nd
      obtain ⟨hi2, ei⟩ := List.getElem?_eq_some_iff.mp hq1
      rw [← List.take_append_drop i L, List.map_append, List.drop_eq_getElem_cons hi2, ei] at nd
      exact (List.nodup_append.mp nd).2.2 _ hm _ (List.mem_cons_self) rfl
    rw [tk, ← putL_new nin]
    refine ⟨GvP.put pr2 (by rw [upd_ne n2D]; exact upd_same), fun x hx t e => ?_⟩
    rcases putK_mem hx with h | h
    · exact nw' x h t e
    · rw [h] at e; cases e
      exact ⟨sG.free ht2, n2D⟩
  rintro G ⟨sG, acc, eD, pr, nw'⟩
  rw [List.length_map, lpk, lkl, List.take_length] at pr
  exact q D acc G sG hD eD pr nw'
theorem scSt : FnScope ["self"] ["self"] (defScope sSt) := ⟨rfl, rfl, rfl, by decide +kernel, rfl, by decide +kernel, by decide +kernel⟩
theorem ok_st (F : Fun K "states" "Transformations.states" sSt f fd) (U : TfX K CF) : FnOk P w K mg base CX0 1 f fd ["self"] (spSt CF) := by
  refine F.ok scSt (fun vs H Q E h => ?_) (fun cdv A outer s H vs Q E hr h => ?_)
  · obtain ⟨a, n, L, S, rfl, _⟩ := h
    rfl
  obtain ⟨a, n, L, S, rfl, ht, q⟩ := h
  refine ⟨_, pss_one (ps_ret (pe_fld (pv 0) rfl)), ?_⟩
  obtain ⟨dx, tl, cl, wl, e, _⟩ := ht.ob
  exact ⟨_, rfl, a, CF, dx, _, _, rfl, e, U.cl, U.n1, rfl, q⟩
end
end L

set_option Elab.async false
set_option linter.all false
set_option maxRecDepth 100000
set_option maxHeartbeats 4000000
set_option pp.maxSteps 400
namespace L
open PySem L2 KX
abbrev sLc : Stmt := top 40
abbrev nLc : List Str := ["size", "letters", "names", "found", "firsts", "newest", "later", "word", "targets", "letter", "one", "target"]
def ItL (H : Hp) (t : Addr) (e : En) : Prop := ∃ wd tg, H t = some (.tup [.ref wd, .ref tg]) ∧ H wd = some (.lst (e.2.map V.str)) ∧ H tg = some (.lst (nv e.1))
theorem ItL.to {H H' : Hp} {t : Addr} {e : En} (h : ItL H t e) (s : Same H H') : ItL H' t e := by
  obtain ⟨m, wd, a, b, c⟩ := h
  exact ⟨m, wd, s _ _ a, s _ _ b, s _ _ c⟩
def muLc (σ : L2.St) (J : Hp) : Nat := (match σ.getD 3 none with
  | some (.ref a) => match J a with
    | some (.lst xs) => (17 - xs.length) * 2
    | _ => 0
  | _ => 0) + match σ.getD 5 none with
  | some (.ref a) => match J a with
    | some (.lst xs) => min 1 xs.length
    | _ => 0
  | _ => 0
theorem muLc_of {σ : L2.St} {J : Hp} {a b : Addr} {ys xs : List V} (h : σ.getD 3 none = some (.ref a)) (e : J a = some (.lst ys)) (h2 : σ.getD 5 none = some (.ref b)) (e2 : J b = some (.lst xs)) : muLc σ J = (17 - ys.length) * 2 + min 1 xs.length := by
  unfold muLc
  rw [h, h2]
  dsimp only
  rw [e, e2]
theorem mn_self {p : Addr} {J : Hp} {o : HO} : mn p (upd J p o) = mn p J := by
  funext b
  unfold mn
  by_cases z : b = p
  · rw [if_pos z, if_pos z]
  · rw [if_neg z, if_neg z, upd_ne z]
theorem mn_out {p q : Addr} {J : Hp} {o : HO} (n : q ≠ p) : mn p (upd J q o) = upd (mn p J) q o := by
  funext b
  by_cases z : b = q
  · subst z
    rw [upd_same]
    unfold mn
    rw [if_neg n, upd_same]
  · rw [upd_ne z]
    unfold mn
    rw [upd_ne z]
theorem mn_mono {p : Addr} {A B : Hp} (s : Same A B) : Same (mn p A) (mn p B) := fun b o e => by
  have nb : b ≠ p := fun z => by rw [z, mn_p] at e; cases e
  exact mn_sx _ _ nb (s _ _ (mn_same _ _ e))
theorem bf_step {L : Ltt} {S lr R : List En} (h : Bf L S lr (some R)) : lr = [] ∧ S = R ∨ ∃ S' lg, lay L lr S [] = some (S', lg) ∧ Bf L S' lg (some R) := by
  cases h with
  | done => exact .inl ⟨rfl, rfl⟩
  | next h1 h2 h3 => exact .inr ⟨_, _, h2, h3⟩
/-- a layer without a bound -/
def innU (st : En) : Ltt → List En → List En → List En × List En
  | [], S, lg => (S, lg)
  | q :: r, S, lg => if cmp st.1 q.2 ∈ keys S then innU st r S lg else innU st r (S ++ [new st q]) (lg ++ [new st q])
def layU (L : Ltt) : List En → List En → List En → List En × List En
  | [], S, lg => (S, lg)
  | st :: r, S, lg => layU L r (innU st L S lg).1 (innU st L S lg).2
theorem innU_cons (st : En) (q : Str × List Nat) (r : Ltt) (S lg : List En) : innU st (q :: r) S lg = if cmp st.1 q.2 ∈ keys S then innU st r S lg else innU st r (S ++ [new st q]) (lg ++ [new st q]) := rfl
theorem layU_cons (L : Ltt) (st : En) (r S lg : List En) : layU L (st :: r) S lg = layU L r (innU st L S lg).1 (innU st L S lg).2 := rfl
theorem innU_le (st : En) : ∀ (r : Ltt) (S lg : List En), S.length ≤ (innU st r S lg).1.length
  | [], S, lg => Nat.le_refl _
  | q :: r, S, lg => by
    rw [innU_cons]
    split
    · exact innU_le st r S lg
    · have := innU_le st r (S ++ [new st q]) (lg ++ [new st q])
      rw [List.length_append] at this
      exact Nat.le_trans (Nat.le_add_right _ _) this
theorem layU_le (L : Ltt) : ∀ (lr S lg : List En), S.length ≤ (layU L lr S lg).1.length
  | [], S, lg => Nat.le_refl _
  | st :: r, S, lg => Nat.le_trans (innU_le st L S lg) (layU_le L r _ _)
theorem innU_of (st : En) : ∀ (r : Ltt) (S lg : List En), S.length ≤ 16 → (∀ p, inn st r S lg = some p → innU st r S lg = p ∧ p.1.length ≤ 16) ∧ (inn st r S lg = none → 16 < (innU st r S lg).1.length)
  | [], S, lg, h => ⟨fun p e => by
      have e := Option.some.inj e
      subst e
      exact ⟨rfl, h⟩, fun e => (by cases e)⟩
  | q :: r, S, lg, h => by
    rw [inn_cons, innU_cons]
    by_cases c : cmp st.1 q.2 ∈ keys S
    · rw [if_pos c, if_pos c]; exact innU_of st r S lg h
    · rw [if_neg c, if_neg c]
      have ln : (S ++ [new st q]).length = S.length + 1 := by rw [List.length_append]; rfl
      by_cases c2 : S.length = 16
      · rw [if_pos c2]
        refine ⟨fun p e => (by cases e), fun _ => ?_⟩
        have := innU_le st r (S ++ [new st q]) (lg ++ [new st q])
        omega
      · rw [if_neg c2]
        exact innU_of st r _ _ (by omega)
theorem layU_of (L : Ltt) : ∀ (lr S lg : List En), S.length ≤ 16 → (∀ p, lay L lr S lg = some p → layU L lr S lg = p ∧ p.1.length ≤ 16) ∧ (lay L lr S lg = none → 16 < (layU L lr S lg).1.length)
  | [], S, lg, h => ⟨fun p e => by
      have e := Option.some.inj e
      subst e
      exact ⟨rfl, h⟩, fun e => (by cases e)⟩
  | st :: r, S, lg, h => by
    rw [lay_cons, layU_cons]
    obtain ⟨h1, h2⟩ := innU_of st L S lg h
    cases hi : inn st L S lg with
    | none =>
      refine ⟨fun p e => (by cases e), fun _ => ?_⟩
      exact Nat.lt_of_lt_of_le (h2 hi) (layU_le L r _ _)
    | some p =>
      obtain ⟨e1, e2⟩ := h1 p hi
      rw [e1]
      exact layU_of L r p.1 p.2 e2
theorem bf_step3 {L : Ltt} {S lr : List En} {r : Option (List En)} (h : Bf L S lr r) : lr = [] ∧ r = some S ∨ lr ≠ [] ∧ lay L lr S [] = none ∧ r = none ∨ lr ≠ [] ∧ ∃ S' lg, lay L lr S [] = some (S', lg) ∧ Bf L S' lg r := by
  cases h with
  | done => exact .inl ⟨rfl, rfl⟩
  | over h1 h2 => exact .inr (.inl ⟨h1, h2, rfl⟩)
  | next h1 h2 h3 => exact .inr (.inr ⟨h1, _, _, h2, h3⟩)
def spLc : Sp := fun vs H Q _ => ∃ (n : Nat) (l : Addr) (L : Ltt) (r : Option (List En)), vs = [.int (n : Int), .ref l] ∧ LOk n L ∧ NmOk L ∧ Gv H l L ∧ Res n L r ∧
  (∀ S, r = some S → ∀ (t ft wt : Addr) (bs ws : List Addr) H', Same H H' → H ft = none → H wt = none → H' t = some (.tup [.ref ft, .ref wt]) → H' ft = some (.lst (bs.map V.ref)) → Paired (fun b (e : En) => H' b = some (.tup (nv e.1))) bs S →
    H' wt = some (.lst (ws.map V.ref)) → Paired (fun b (e : En) => H' b = some (.lst (e.2.map V.str))) ws S → Q (.ref t) H') ∧ (r = none → ∀ H', Same H H' → Q .non H')
section
variable {P : Program} {w : World} {K : PySem.W.Frag} {mg : Str → Option Value} {base : Heap} {f f1 f2 f3 g1 : Addr} {fd d1 d2 d3 : FuncData} {C CF CO : Addr}
theorem scLc : FnScope nLc ["size", "letters"] (defScope sLc) := ⟨rfl, rfl, rfl, by decide +kernel, rfl, by decide +kernel, by decide +kernel⟩
theorem ok_lc (F : Fun K "_law_contents" "_law_contents" sLc f fd) (M : Mn mg) : FnOk P w K mg base CX0 1 f fd ["size", "letters"] spLc := by
  refine F.ok scLc (fun vs H Q E h => ?_) (fun cdv A outer s H vs Q E hr h => ?_)
  · obtain ⟨n, l, L, r, rfl, _⟩ := h
    rfl
  obtain ⟨n, l, L, R, rfl, lo, no, hG, rs, q, qN⟩ := h
  have hu := hr.units
  have hu0 : (A.deeper (PyProof.Rows.envOfC "_law_contents" (defScope sLc) s.heap.objs.size f cdv)).units + 64 < cLine := hu
  have hu1 : (A.deeper (PyProof.Rows.envOfC "_law_contents" (defScope sLc) s.heap.objs.size f cdv)).units + 1 < cLine := by omega
  have hu6 : (A.deeper (PyProof.Rows.envOfC "_law_contents" (defScope sLc) s.heap.objs.size f cdv)).units + 65 < cLine := hu65 hr
  refine ⟨_, (pss_cons (ps_par3 (i := 2) (j := 3) (l := 4) (by rfl) scLc.nd rfl rfl rfl (by decide) (by decide) (by decide) rfl rfl rfl (pa_cons (pe_callTy (call_listD rfl) (by rfl) M.list (by decide +kernel) (pa_cons (pv 1) pa_nil)) (pa_cons (pe_lst pa_nil) (pa_cons (pe_lst pa_nil) pa_nil))) (by rfl)) (pss_cons (ps_set (i := 5) scLc.nd rfl (Or.inl rfl) (pe_lst (pa_cons (pe_tup (pa_cons (pe_lst pa_nil) (pa_cons (pe_listRg rfl (by rfl) M.list (prg_1 (by rfl) M.range (pv 0))) pa_nil))) pa_nil))) (pss_cons (ps_while PassesOwn.never (pt_mo (pt_cmpR (op_neE hu0) (pv 5) (pe_lst pa_nil) (nomark _))) (pss_cons (ps_set (i := 6) scLc.nd rfl (Or.inl rfl) (pe_lst pa_nil)) (pss_cons (ps_for PassesOwn.never rfl (pi_list (pv 5)) (pg_tup rfl (pgs_cons (pg_name (i := 7) scLc.nd rfl (Or.inl rfl)) (pgs_cons (pg_name (i := 8) scLc.nd rfl (Or.inl rfl)) pgs_nil))) (pss_one (ps_for PassesOwn.never rfl (pi_list (pv 2)) (pg_name (i := 9) scLc.nd rfl (Or.inr rfl)) (pss_cons (ps_set (i := 10) scLc.nd rfl (Or.inl rfl) (pe_callTy (ctu (K := K) rfl) (by rfl) M.tuple (by decide +kernel) (pa_cons (pe_lc (own := [("target", 11)]) (g := gName 11) (tt := tYes) rfl scLc.nd (pil (K := K) rfl (pv 8)) (blkOk_by (N := nLc) (sc := defScope sLc) (by decide +kernel)) (fun _ _ _ _ _ => (pg_name (i := 11) scLc.nd rfl (Or.inl rfl))) (fun _ _ _ _ _ => pts_nil) (fun _ _ _ _ _ => (pe_ix (ixl (K := K) rfl) (pe_dget (by exact hu1) (pv 1) (pv 9) (fun _ _ => rfl)) (pv 11) (fun _ _ => rfl)))) pa_nil))) (pss_one (ps_if (pt_cmpR (op_notInD hu6) (pv 10) (pv 3) (by rfl)) (pss_cons (ps_expr (pe_bm PySem.F.plainAttrs_list PySem.F.slot_list_append PySem.F.type_list_append mt_append (pv 3) (pa_cons (pv 10) pa_nil))) (pss_cons (ps_expr (pe_bm PySem.F.plainAttrs_list PySem.F.slot_list_append PySem.F.type_list_append mt_append (pv 4) (pa_cons (pe_op op_cat (pv 7) (pe_lst (pa_cons (pv 9) pa_nil))) pa_nil))) (pss_one (ps_expr (pe_bm PySem.F.plainAttrs_list PySem.F.slot_list_append PySem.F.type_list_append mt_append (pv 6) (pa_cons (pe_tup (pa_cons (pe_op op_cat (pv 7) (pe_lst (pa_cons (pv 9) pa_nil))) (pa_cons (pe_callTy (clist (K := K) rfl) (by rfl) M.list (by decide +kernel) (pa_cons (pv 10) pa_nil)) pa_nil))) pa_nil)))))) pss_nil)))))) (pss_cons (ps_if (pt_cmpR op_gt (pe_callB (lenl (K := K) rfl) (by rfl) M.len PySem.boot_len (pa_cons (pv 3) pa_nil)) pe_int (nomark _)) (pss_one (ps_ret pe_non)) pss_nil) (pss_one (ps_set (i := 5) scLc.nd rfl (Or.inl rfl) (pv 6))))))) (pss_one (ps_ret (pe_tup (pa_cons (pv 3) (pa_cons (pv 4) pa_nil)))))))), ?_⟩
  obtain ⟨kvs, eg, pr⟩ := hG
  have n5 := lo.n5
  have l4 := lo.ge
  have Mn0 : Mp n (List.range n) := ⟨List.length_range, fun x hx => List.mem_range.mp hx⟩
  have ekeys : (kvs.map fun kv => kV kv.1) = L.map fun q => V.str q.1 := by
    have h := pr.keys
    have : (kvs.map fun kv => kV kv.1) = (kvs.map (·.1)).map kV := by rw [List.map_map]; rfl
    rw [this, h, List.map_map]; rfl
  refine ⟨_, rfl, l, kvs, rfl, .inl eg, fun D0 hD0 => ?_⟩
  rw [ekeys]
  have s0 := Same.new hD0 (.lst (L.map fun q => V.str q.1))
  have e00 := upd_same (H := H) (a := D0) (o := .lst (L.map fun q => V.str q.1))
  generalize upd H D0 (.lst (L.map fun q => V.str q.1)) = H0 at s0 e00 ⊢
  refine ⟨szl _ (by simp), fun a ha => ⟨szl _ (by simp), fun b hb => ⟨_, _, _, rfl, ?_⟩⟩⟩
  have eg0 := s0 _ _ eg
  have pr0 : GvP H0 kvs L := L2.Paired.mapP pr fun kv q ⟨a, b, c, d⟩ => ⟨a, b, c, s0 _ _ d⟩
  have nab : a ≠ b := ne_of_none (upd_same (H := H0) (a := a) (o := .lst [])) hb
  have hb0 : H0 b = none := (Same.new ha (.lst [])).free hb
  have ea1 := Same.new hb (.lst []) _ _ (upd_same (H := H0) (a := a) (o := .lst []))
  have eb1 := upd_same (H := upd H0 a (.lst [])) (a := b) (o := .lst [])
  have s1 : Same H0 (mn a (mn b (upd (upd H0 a (.lst [])) b (.lst [])))) := fun x o e => mn_sx _ _ (ne_of_none e ha) (mn_sx _ _ (ne_of_none e hb0) (by rw [upd_ne (ne_of_none e hb0), upd_ne (ne_of_none e ha)]; exact e))
  generalize upd (upd H0 a (.lst [])) b (.lst []) = H1 at ea1 eb1 s1 ⊢
  refine ⟨szl _ (by simp), fun w0 hw0 => ⟨_, rfl, _, rfl, RgOk.of_le (by decide) (by omega) (by decide) (by omega), fun m0 hm0 => ⟨szl _ (by simp), fun T0 hT0 => ⟨szl _ (by simp), fun nt hnt => ?_⟩⟩⟩⟩
  rw [rg_nv] at hT0 hnt ⊢
  have u1 := Same.new hw0 (.lst [])
  have u2 := Same.new hm0 (.lst (nv (List.range n)))
  have u3 := Same.new hT0 (.tup [.ref w0, .ref m0])
  have u4 := Same.new hnt (.lst [.ref T0])
  have u14 := u1.trans (u2.trans (u3.trans u4))
  have out : ∀ {J : Hp} {x : Addr} {o : HO}, x ≠ a → x ≠ b → J x = some o → (mn a (mn b J)) x = some o := fun h1 h2 e => mn_sx _ _ h1 (mn_sx _ _ h2 e)
  have nw_ : ∀ {J : Hp} {x : Addr}, Same H1 J → J x = none → x ≠ a ∧ x ≠ b := fun s h => ⟨(ne_of_none (s _ _ ea1) h).symm, (ne_of_none (s _ _ eb1) h).symm⟩
  have w0n := nw_ (Same.refl _) hw0
  have m0n := nw_ u1 hm0
  have T0n := nw_ (u1.trans u2) hT0
  have ntn := nw_ (u1.trans (u2.trans u3)) hnt
  have it0 : ItL (mn a (mn b (upd (upd (upd (upd H1 w0 (.lst [])) m0 (.lst (nv (List.range n)))) T0 (.tup [.ref w0, .ref m0])) nt (.lst [.ref T0])))) T0 (List.range n, []) :=
    ⟨w0, m0, out T0n.1 T0n.2 (u4 _ _ upd_same), out w0n.1 w0n.2 (u4 _ _ (u3 _ _ (u2 _ _ upd_same))), out m0n.1 m0n.2 (u4 _ _ (u3 _ _ upd_same))⟩
  have ent := out ntn.1 ntn.2 (upd_same (H := upd (upd (upd H1 w0 (.lst [])) m0 (.lst (nv (List.range n)))) T0 (.tup [.ref w0, .ref m0])) (a := nt) (o := .lst [.ref T0]))
  have ea2 := u14 _ _ ea1
  have eb2 := u14 _ _ eb1
  have s2 := s1.trans (mn_mono (p := a) (mn_mono (p := b) u14))
  generalize upd (upd (upd (upd H1 w0 (.lst [])) m0 (.lst (nv (List.range n)))) T0 (.tup [.ref w0, .ref m0])) nt (.lst [.ref T0]) = H2 at it0 ent ea2 eb2 s2 ⊢
  clear u14 u1 u2 u3 u4 w0n m0n T0n ntn nw_ hw0 hm0 hT0 hnt ea1 eb1 s1
  dsimp only [gName, tSeq]
  change tWhile _ _ _ [some (.int (n : Int)), some (.ref l), some (.ref D0), some (.ref a), some (.ref b), some (.ref nt), none, none, none, none, none, none] _
  refine while_by (fun σ J => ∃ S lr nt bs ws ts x6 x7 x8 x9 x10 x11, σ = [some (.int (n : Int)), some (.ref l), some (.ref D0), some (.ref a), some (.ref b), some (.ref nt), x6, x7, x8, x9, x10, x11] ∧ Same H0 (mn a (mn b J)) ∧ J a = some (.lst (bs.map V.ref)) ∧ Paired (fun x (e : En) => (mn a (mn b J)) x = some (.tup (nv e.1))) bs S ∧
      J b = some (.lst (ws.map V.ref)) ∧ Paired (fun x (e : En) => (mn a (mn b J)) x = some (.lst (e.2.map V.str))) ws S ∧ (mn a (mn b J)) nt = some (.lst (ts.map V.ref)) ∧ Paired (ItL (mn a (mn b J))) ts lr ∧ Sea n L S lr ∧ (∀ e, e ∈ lr → Mp n e.1 ∧ e.2.length ≤ S.length) ∧ Bf L S lr R ∧ lr.length ≤ 16) muLc
    ⟨[], [(List.range n, [])], nt, [], [], [T0], _, _, _, _, _, _, rfl, s2, ea2, .nil, eb2, .nil, ent, .cons it0 .nil, sea0 lo, fun e he => by rw [List.mem_singleton.mp he]; exact ⟨Mn0, Nat.le_refl _⟩, rs, (by show 1 ≤ 16; decide)⟩ ?_ ?_
  rotate_left
  · rintro σ H Q Q' k ⟨R, h, r⟩
    exact ⟨R, h, fun x H1 z => k _ _ (r x H1 z)⟩
  clear it0 ent ea2 eb2 s2
  rintro _ J ⟨S, lr, nt, bs, ws, ts, x6, x7, x8, x9, x10, x11, rfl, sJ, ea, pA, eb, pB, en, pT, sea, mpl, bf, l1r⟩
  have lts : ts.length = lr.length := pT.length
  have emp : (!(ts.map V.ref).isEmpty) = !lr.isEmpty := by
    cases ts <;> cases lr <;> first | rfl | cases lts
  have enJ := mn_same _ _ (mn_same _ _ en)
  refine ⟨fun b G1 => Same J G1 ∧ b = !lr.isEmpty, ⟨_, rfl, szl _ (by simp), fun z hz => ⟨nt, z, _, rfl, rfl, SqL.of (Same.new hz _ _ _ enJ), SqL.of upd_same, _, rfl, Same.new hz _, emp⟩⟩, ?_⟩
  rintro _ J1 ⟨sJ1, rfl⟩
  have sm := mn_mono (p := a) (mn_mono (p := b) sJ1)
  have sJ' := sJ.trans sm
  have ea' := sJ1 _ _ ea
  have eb' := sJ1 _ _ eb
  by_cases hlr : lr = []
  · subst hlr
    have eSR : R = some S := by
      rcases bf_step3 bf with ⟨_, e⟩ | ⟨h, _⟩ | ⟨h, _⟩
      · exact e
      · exact absurd rfl h
      · exact absurd rfl h
    refine iteF ⟨_, rfl, _, rfl, szl _ (by simp), fun t ht => ?_⟩
    have st := Same.new ht (.tup [.ref a, .ref b])
    have lift : ∀ {x : Addr} {o : HO}, (mn a (mn b J)) x = some o → (upd J1 t (.tup [.ref a, .ref b])) x = some o := fun e => st _ _ (sJ1 _ _ (mn_same _ _ (mn_same _ _ e)))
    exact q S eSR t a b bs ws _ (s0.trans fun x o e => lift (sJ _ _ e)) (s0.free ha) (s0.free hb0) upd_same (st _ _ ea') (L2.Paired.mapP pA fun x e z => lift z) (st _ _ eb') (L2.Paired.mapP pB fun x e z => lift z)
  refine iteTt (by cases lr with
    | nil => exact absurd rfl hlr
    | cons => rfl) ?_
  obtain ⟨S', lg', hlay⟩ : ∃ S' lg', layU L lr S [] = (S', lg') := ⟨_, _, rfl⟩
  refine ⟨szl _ (by simp), fun c hc => ?_⟩
  have nca : c ≠ a := (ne_of_none ea' hc).symm
  have ncb : c ≠ b := (ne_of_none eb' hc).symm
  have mnc : ∀ {A : Hp} {o : HO}, mn c (mn a (mn b (upd A c o))) = mn c (mn a (mn b A)) := fun {A o} => by rw [mn_out ncb, mn_out nca, mn_self]
  have mna : ∀ {A : Hp} {o : HO}, mn c (mn a (mn b (upd A a o))) = mn c (mn a (mn b A)) := fun {A o} => by rw [mn_out nab, mn_self]
  have mnb : ∀ {A : Hp} {o : HO}, mn c (mn a (mn b (upd A b o))) = mn c (mn a (mn b A)) := fun {A o} => by rw [mn_self]
  have up3 : ∀ {A B : Hp}, Same A B → Same (mn c (mn a (mn b A))) (mn c (mn a (mn b B))) := fun s => mn_mono (mn_mono (mn_mono s))
  have dn3 : ∀ {A : Hp}, Same (mn c (mn a (mn b A))) A := fun x o e => mn_same _ _ (mn_same _ _ (mn_same _ _ e))
  have in3 : ∀ {A : Hp} {x : Addr} {o : HO}, x ≠ a → x ≠ b → x ≠ c → A x = some o → (mn c (mn a (mn b A))) x = some o := fun h1 h2 h3 e => mn_sx _ _ h3 (mn_sx _ _ h1 (mn_sx _ _ h2 e))
  have sJc : Same (mn a (mn b J1)) (mn c (mn a (mn b J1))) := fun x o e => mn_sx _ _ (ne_of_none (mn_same _ _ (mn_same _ _ e)) hc) e
  have sJ3 := sm.trans sJc
  have en1 := sJ1 _ _ enJ
  refine ⟨_, rfl, nt, rfl, ⟨_, SqL.of (by rw [upd_ne (ne_of_none en1 hc)]; exact en1)⟩, ?_⟩
  refine for_it (walk_list (xs := ts.map V.ref)) (fun i σ G => ∃ S1 lg1 bs1 ws1 ts1 x7 x8 x9 x10 x11, σ = [some (.int (n : Int)), some (.ref l), some (.ref D0), some (.ref a), some (.ref b), some (.ref nt), some (.ref c), x7, x8, x9, x10, x11] ∧ Same (mn c (mn a (mn b J1))) (mn c (mn a (mn b G))) ∧
      G a = some (.lst (bs1.map V.ref)) ∧ Paired (fun x (e : En) => (mn c (mn a (mn b G))) x = some (.tup (nv e.1))) bs1 S1 ∧ G b = some (.lst (ws1.map V.ref)) ∧ Paired (fun x (e : En) => (mn c (mn a (mn b G))) x = some (.lst (e.2.map V.str))) ws1 S1 ∧
      G c = some (.lst (ts1.map V.ref)) ∧ Paired (ItL (mn c (mn a (mn b G)))) ts1 lg1 ∧ layU L (lr.drop i) S1 lg1 = (S', lg') ∧ lg1.length ≤ 4 * i ∧ lg1.length + S.length = S1.length ∧ ∀ e, e ∈ lg1 → Mp n e.1 ∧ e.2.length ≤ S1.length)
    ⟨S, [], bs, ws, [], _, _, _, _, _, rfl, by rw [mnc]; exact Same.refl _, by rw [upd_ne nca.symm]; exact ea', by rw [mnc]; exact L2.Paired.mapP pA fun x e z => sJ3 _ _ z, by rw [upd_ne ncb.symm]; exact eb', by rw [mnc]; exact L2.Paired.mapP pB fun x e z => sJ3 _ _ z, upd_same, .nil, hlay, Nat.le_refl _, by simp, fun _ z => (nomatch z)⟩
    (fun i σ G _ z => by
      obtain ⟨S1, lg1, bs1, ws1, ts1, x7, x8, x9, x10, x11, _, sG, _⟩ := z
      exact SqL.of (dn3 _ _ (sG _ _ (sJ3 _ _ en)))) ?_ ?_
  · rintro i y _ G G' hi ⟨S1, lg1, bs1, ws1, ts1, x7, x8, x9, x10, x11, rfl, sG, ea1, pA1, eb1, pB1, ec1, pC1, hl1, l16, ll, mpg⟩ ⟨rfl, hy⟩
    obtain ⟨T, hT, rfl⟩ := ref_at hy
    obtain ⟨st, hst, wd, tgA, e1, e2, e3⟩ := pair_at pT hT
    have sG3 := sJ3.trans sG
    have e1 := sG3 _ _ e1
    have e2 := sG3 _ _ e2
    have e3 := sG3 _ _ e3
    have hil : i < lr.length := (List.getElem?_eq_some_iff.mp hst).1
    have hst' : lr.drop i = st :: lr.drop (i + 1) := by
      rw [List.drop_eq_getElem_cons hil]
      rw [List.getElem?_eq_getElem hil] at hst
      rw [Option.some.inj hst]
    obtain ⟨mst, wst⟩ := mpl st (List.mem_of_getElem? hst)
    rw [hst', layU_cons] at hl1
    obtain ⟨Si, lgi, hin0⟩ : ∃ Si lgi, innU st L S1 lg1 = (Si, lgi) := ⟨_, _, rfl⟩
    rw [hin0] at hl1
    have hl2 : layU L (lr.drop (i + 1)) Si lgi = (S', lg') := hl1
    refine ⟨T, _, rfl, SqT.of (dn3 _ _ e1), rfl, _, _, rfl, _, _, rfl, rfl, ?_⟩
    have eD0 : ∀ {A : Hp}, Same (mn c (mn a (mn b J1))) (mn c (mn a (mn b A))) → A D0 = some (.lst (L.map fun q => V.str q.1)) := fun h => dn3 _ _ (h _ _ (sJc _ _ (sJ' _ _ e00)))
    refine ⟨_, rfl, D0, rfl, ⟨_, SqL.of (eD0 sG)⟩, ?_⟩
    refine for_it (walk_list (xs := L.map fun q => V.str q.1)) (fun j σ G2 => ∃ S2 lg2 bs2 ws2 ts2 x9 x10 x11, σ = [some (.int (n : Int)), some (.ref l), some (.ref D0), some (.ref a), some (.ref b), some (.ref nt), some (.ref c), some (.ref wd), some (.ref tgA), x9, x10, x11] ∧ Same (mn c (mn a (mn b G'))) (mn c (mn a (mn b G2))) ∧
        G2 a = some (.lst (bs2.map V.ref)) ∧ Paired (fun x (e : En) => (mn c (mn a (mn b G2))) x = some (.tup (nv e.1))) bs2 S2 ∧ G2 b = some (.lst (ws2.map V.ref)) ∧ Paired (fun x (e : En) => (mn c (mn a (mn b G2))) x = some (.lst (e.2.map V.str))) ws2 S2 ∧
        G2 c = some (.lst (ts2.map V.ref)) ∧ Paired (ItL (mn c (mn a (mn b G2)))) ts2 lg2 ∧ innU st (L.drop j) S2 lg2 = (Si, lgi) ∧ lg2.length ≤ 4 * i + j ∧ lg2.length + S.length = S2.length ∧ ∀ e, e ∈ lg2 → Mp n e.1 ∧ e.2.length ≤ S2.length)
      ⟨S1, lg1, bs1, ws1, ts1, _, _, _, rfl, Same.refl _, ea1, pA1, eb1, pB1, ec1, pC1, hin0, l16, ll, mpg⟩ (fun j σ G2 _ z => by
        obtain ⟨S2, lg2, bs2, ws2, ts2, x9, x10, x11, _, sF2, _⟩ := z
        exact SqL.of (eD0 (sG.trans sF2))) ?_ ?_
    · rintro j y _ G2 G3 hj ⟨S2, lg2, bs2, ws2, ts2, x9, x10, x11, rfl, sF2, ea2, pA2, eb2, pB2, ec2, pC2, hin, l16', ll2, mpg2⟩ ⟨rfl, hy⟩
      obtain ⟨q1, hq1, rfl⟩ : ∃ q1, L[j]? = some q1 ∧ y = V.str q1.1 := by
        rw [List.getElem?_map] at hy
        obtain ⟨z, h2, h3⟩ := Option.map_eq_some_iff.mp hy
        exact ⟨z, h2, h3.symm⟩
      have hjl : j < L.length := (List.getElem?_eq_some_iff.mp hq1).1
      have hq1' : L.drop j = q1 :: L.drop (j + 1) := by
        rw [List.drop_eq_getElem_cons hjl]
        rw [List.getElem?_eq_getElem hjl] at hq1
        rw [Option.some.inj hq1]
      have hqm := List.mem_of_getElem? hq1
      have zm : q1.1 ∈ L.map (·.1) := List.mem_map.mpr ⟨q1, hqm, rfl⟩
      have etg : tg L q1.1 = q1.2 := by
        obtain ⟨q', h1, h2, h3⟩ := tg_in zm
        have := no.nd
        obtain ⟨i1, hi1, e1⟩ := List.mem_iff_getElem.mp h1
        have nd2 := List.getElem_inj (xs := L.map (·.1)) (i := i1) (j := j) (h₀ := by rw [List.length_map]; exact hi1) (h₁ := by rw [List.length_map]; exact hjl) this
        have hj2 := (List.getElem?_eq_some_iff.mp hq1).2
        have : i1 = j := nd2.mp (by rw [List.getElem_map, List.getElem_map, e1, hj2, h2])
        subst this
        rw [← h3, ← e1, hj2]
      have mq := lo.mp q1 hqm
      have sGa := sG.trans sF2
      have dnG := dn3 (A := G3)
      have toG : ∀ {x : Addr} {o : HO}, H0 x = some o → G3 x = some o := fun e => dn3 _ _ (sGa _ _ (sJc _ _ (sJ' _ _ e)))
      have e3' := dnG _ _ (sF2 _ _ e3)
      refine ⟨_, rfl, tgA, rfl, ⟨_, SqL.of e3'⟩, fun D4 hD4 => ?_⟩
      obtain ⟨bq, hbq, ebq⟩ := gv_at pr0 no zm
      rw [etg] at ebq
      refine lc_it (walk_list (xs := nv st.1)) (fun k G5 => Same G3 G5 ∧ G5 D4 = some (.lst (nv ((cmp st.1 q1.2).take k)))) ⟨Same.new hD4 _, upd_same⟩ (fun k G5 _ z => SqL.of (z.1 _ _ e3')) ?_ ?_
      · rintro k v G5 G6 hk ⟨s5, e4⟩ ⟨rfl, hv⟩
        obtain ⟨x, hx, rfl⟩ := nv_at hv
        have hs := mst.2 x (List.mem_of_getElem? hx)
        have gd : DGet G6 l (.str q1.1) (valV kvs (Sum.inr q1.1)) := DGet.k (k := Sum.inr q1.1) (s5 _ _ (toG eg0))
        rw [hbq] at gd
        refine ⟨rfl, _, rfl, _, rfl, l, _, rfl, gd, _, rfl, bq, nv q1.2, _, _, rfl, rfl, SqL.of (s5 _ _ (toG ebq)), at_of (j := x) rfl (nv_get mq hs), _, e4, ?_, fun d o e => by rw [upd_ne (ne_of_none e hD4)]; exact s5 _ _ e, ?_⟩
        · rw [nv_len, List.length_take]
          have := (cmp_mp mst mq).1
          exact small1000 (by omega)
        · rw [upd_same, cmp_take hx]
          unfold nv
          rw [List.map_append]; rfl
      rintro G5 ⟨s5, e4⟩
      have lcm : (cmp st.1 q1.2).length = st.1.length := by unfold cmp; rw [List.length_map]
      rw [nv_len, ← lcm, List.take_length] at e4
      refine ⟨D4, _, rfl, .inl ⟨SqL.of e4, fun rx hrx => ?_⟩⟩
      have s6 := s5.trans (Same.new hrx (.tup (nv (cmp st.1 q1.2))))
      have erx := upd_same (H := G5) (a := rx) (o := .tup (nv (cmp st.1 q1.2)))
      have hrx3 : G3 rx = none := s5.free hrx
      generalize upd G5 rx (.tup (nv (cmp st.1 q1.2))) = J3 at s6 erx ⊢
      have nrx : rx ≠ a ∧ rx ≠ b ∧ rx ≠ c := ⟨(ne_of_none ea2 hrx3).symm, (ne_of_none eb2 hrx3).symm, (ne_of_none ec2 hrx3).symm⟩
      have sm6 := up3 s6
      have ea3 := s6 _ _ ea2
      have eb3 := s6 _ _ eb2
      have ec3 := s6 _ _ ec2
      rw [hq1', innU_cons] at hin
      refine ⟨_, rfl, _, rfl, tD (cmp st.1 q1.2), (keys S2).map tD, dp_tup erx, .lst (SqL.of ea3) (dp_tups (L2.Paired.mapP (keys_pair pA2) fun _ _ w => dn3 _ _ (sm6 _ _ w))), tD_shaped _, tDs_shaped _, ?_⟩
      rw [tD_any]
      refine ⟨_, rfl, ?_⟩
      refine ite2 (fun cc => ?_) (fun cc => ?_)
      rotate_left
      · have c' : cmp st.1 q1.2 ∈ keys S2 := by
          by_cases h : cmp st.1 q1.2 ∈ keys S2
          · exact h
          · exact absurd (by rw [decide_eq_false h]; rfl) cc
        rw [if_pos c'] at hin
        exact ⟨S2, lg2, bs2, ws2, ts2, _, _, _, rfl, sF2.trans sm6, ea3, L2.Paired.mapP pA2 fun x e z => sm6 _ _ z, eb3, L2.Paired.mapP pB2 fun x e z => sm6 _ _ z, ec3, L2.Paired.mapP pC2 fun t e z => z.to sm6, hin, by omega, ll2, mpg2⟩
      have c' : cmp st.1 q1.2 ∉ keys S2 := fun z => by rw [decide_eq_true z] at cc; cases cc
      rw [if_neg c'] at hin
      have s80 : S2.length ≤ 96 := by have := sea.le; have := hil; omega
      have lb2 : bs2.length = S2.length := pA2.length
      have lw2 : ws2.length = S2.length := pB2.length
      have lt2 : ts2.length = lg2.length := pC2.length
      refine ⟨_, rfl, .inl ⟨rfl, _, SqL.of ea3⟩, _, rfl, a, _, _, rfl, rfl, ea3, by rw [List.length_map, lb2]; exact small1000 (by omega), ?_⟩
      have ea4 := upd_same (H := J3) (a := a) (o := .lst (bs2.map V.ref ++ [.ref rx]))
      have n4 : ∀ {x : Addr} {o : HO}, x ≠ a → J3 x = some o → (upd J3 a (.lst (bs2.map V.ref ++ [.ref rx]))) x = some o := fun n e => by rw [upd_ne n]; exact e
      have m4 : Same (mn c (mn a (mn b J3))) (mn c (mn a (mn b (upd J3 a (.lst (bs2.map V.ref ++ [.ref rx])))))) := by rw [mna]; exact Same.refl _
      have eb4 := n4 nab.symm eb3
      have ec4 := n4 nca ec3
      have erx4 := n4 nrx.1 erx
      generalize upd J3 a (.lst (bs2.map V.ref ++ [.ref rx])) = J4 at ea4 n4 m4 eb4 ec4 erx4 ⊢
      have e2_3 := sm6 _ _ (sF2 _ _ e2)
      have ewd4 := dn3 _ _ (m4 _ _ e2_3)
      have wlen : (st.2.map V.str).length + [V.str q1.1].length ≤ sizeLine := szl _ (by rw [List.length_map]; simp; omega)
      have emap : st.2.map V.str ++ [V.str q1.1] = (st.2 ++ [q1.1]).map V.str := by rw [List.map_append]; rfl
      refine ⟨_, rfl, .inl ⟨rfl, _, SqL.of eb4⟩, _, rfl, _, rfl, szl _ (by simp), fun l1 hl1 => ⟨wd, l1, _, _, rfl, rfl, Same.new hl1 _ _ _ ewd4, upd_same, wlen, fun w2 hw2 => ?_⟩⟩
      rw [emap]
      have s5' := (Same.new hl1 (.lst [.str q1.1])).trans (Same.new hw2 (.lst ((st.2 ++ [q1.1]).map V.str)))
      have ew2 := upd_same (H := upd J4 l1 (.lst [.str q1.1])) (a := w2) (o := .lst ((st.2 ++ [q1.1]).map V.str))
      have hw24 : J4 w2 = none := (Same.new hl1 (.lst [.str q1.1])).free hw2
      generalize upd (upd J4 l1 (.lst [.str q1.1])) w2 (.lst ((st.2 ++ [q1.1]).map V.str)) = J5 at s5' ew2 ⊢
      have m5 := up3 s5'
      have nw2 : w2 ≠ a ∧ w2 ≠ b ∧ w2 ≠ c := ⟨(ne_of_none ea4 hw24).symm, (ne_of_none eb4 hw24).symm, (ne_of_none ec4 hw24).symm⟩
      refine ⟨b, _, _, rfl, rfl, s5' _ _ eb4, by rw [List.length_map, lw2]; exact small1000 (by omega), ?_⟩
      have eb6 := upd_same (H := J5) (a := b) (o := .lst (ws2.map V.ref ++ [.ref w2]))
      have n6 : ∀ {x : Addr} {o : HO}, x ≠ b → J5 x = some o → (upd J5 b (.lst (ws2.map V.ref ++ [.ref w2]))) x = some o := fun n e => by rw [upd_ne n]; exact e
      have m6 : Same (mn c (mn a (mn b J5))) (mn c (mn a (mn b (upd J5 b (.lst (ws2.map V.ref ++ [.ref w2])))))) := by rw [mnb]; exact Same.refl _
      have ea6 := n6 nab (s5' _ _ ea4)
      have ec6 := n6 ncb (s5' _ _ ec4)
      have erx6 := n6 nrx.2.1 (s5' _ _ erx4)
      have ew6 := n6 nw2.2.1 ew2
      generalize upd J5 b (.lst (ws2.map V.ref ++ [.ref w2])) = J6 at eb6 n6 m6 ea6 ec6 erx6 ew6 ⊢
      have ewd6 := dn3 _ _ (m6 _ _ (m5 _ _ (m4 _ _ e2_3)))
      refine ⟨_, rfl, .inl ⟨rfl, _, SqL.of ec6⟩, _, rfl, _, rfl, szl _ (by simp), fun l3 hl3 => ⟨wd, l3, _, _, rfl, rfl, Same.new hl3 _ _ _ ewd6, upd_same, wlen, fun w3 hw3 => ?_⟩⟩
      rw [emap]
      have t1 := (Same.new hl3 (.lst [.str q1.1])).trans (Same.new hw3 (.lst ((st.2 ++ [q1.1]).map V.str)))
      refine ⟨_, rfl, rx, nv (cmp st.1 q1.2), rfl, .inr (SqT.of (t1 _ _ erx6)), fun t3 ht3 => ⟨szl _ (by simp), fun T2 hT2 => ?_⟩⟩
      have t2 := Same.new ht3 (.lst (nv (cmp st.1 q1.2)))
      have t3' := Same.new hT2 (.tup [.ref w3, .ref t3])
      have ew3 := t3' _ _ (t2 _ _ (upd_same (H := upd J6 l3 (.lst [.str q1.1])) (a := w3) (o := .lst ((st.2 ++ [q1.1]).map V.str))))
      have et3 := t3' _ _ (upd_same (H := upd (upd J6 l3 (.lst [.str q1.1])) w3 (.lst ((st.2 ++ [q1.1]).map V.str))) (a := t3) (o := .lst (nv (cmp st.1 q1.2))))
      have eT2 := upd_same (H := upd (upd (upd J6 l3 (.lst [.str q1.1])) w3 (.lst ((st.2 ++ [q1.1]).map V.str))) t3 (.lst (nv (cmp st.1 q1.2)))) (a := T2) (o := .tup [.ref w3, .ref t3])
      have fr : ∀ {x : Addr}, J6 x = none → x ≠ a ∧ x ≠ b ∧ x ≠ c := fun h => ⟨(ne_of_none ea6 h).symm, (ne_of_none eb6 h).symm, (ne_of_none ec6 h).symm⟩
      have nw3 := fr ((Same.new hl3 (.lst [.str q1.1])).free hw3)
      have nt3 := fr (t1.free ht3)
      have nT2 := fr ((t1.trans t2).free hT2)
      have s7 := t1.trans (t2.trans t3')
      generalize upd (upd (upd (upd J6 l3 (.lst [.str q1.1])) w3 (.lst ((st.2 ++ [q1.1]).map V.str))) t3 (.lst (nv (cmp st.1 q1.2)))) T2 (.tup [.ref w3, .ref t3]) = J9 at ew3 et3 eT2 s7 ⊢
      have m7 := up3 s7
      refine ⟨c, _, _, rfl, rfl, s7 _ _ ec6, by rw [List.length_map, lt2]; exact small1000 (by omega), ?_⟩
      have mall := sm6.trans (m4.trans (m5.trans (m6.trans m7)))
      have erx9 := in3 nrx.1 nrx.2.1 nrx.2.2 (s7 _ _ erx6)
      have ew9 := in3 nw2.1 nw2.2.1 nw2.2.2 (s7 _ _ ew6)
      refine ⟨S2 ++ [new st q1], lg2 ++ [new st q1], bs2 ++ [rx], ws2 ++ [w2], ts2 ++ [T2], _, _, _, rfl, ?_, ?_, ?_, ?_, ?_, ?_, ?_, hin, ?_, ?_, ?_⟩
      all_goals try rw [mnc]
      · exact sF2.trans mall
      · rw [upd_ne nca.symm, List.map_append]; exact s7 _ _ ea6
      · exact pair_app (L2.Paired.mapP pA2 fun x e z => mall _ _ z) erx9
      · rw [upd_ne ncb.symm, List.map_append]; exact s7 _ _ eb6
      · exact pair_app (L2.Paired.mapP pB2 fun x e z => mall _ _ z) ew9
      · rw [upd_same, List.map_append]; rfl
      · exact pair_app (L2.Paired.mapP pC2 fun t e z => z.to mall) ⟨w3, t3, in3 nT2.1 nT2.2.1 nT2.2.2 eT2, in3 nw3.1 nw3.2.1 nw3.2.2 ew3, in3 nt3.1 nt3.2.1 nt3.2.2 et3⟩
      · rw [List.length_append]; show lg2.length + 1 ≤ _; omega
      · rw [List.length_append, List.length_append]; simp; omega
      · intro e he
        rw [List.length_append]
        rcases List.mem_append.mp he with h | h
        · obtain ⟨a1, a2⟩ := mpg2 e h
          exact ⟨a1, by simp; omega⟩
        · rw [List.mem_singleton.mp h]
          refine ⟨cmp_mp mst mq, ?_⟩
          show (st.2 ++ [q1.1]).length ≤ _
          rw [List.length_append]; simp; omega
    · rintro _ G2 ⟨S2, lg2, bs2, ws2, ts2, x9, x10, x11, rfl, sF2, ea2, pA2, eb2, pB2, ec2, pC2, hin, l16', ll2, mpg2⟩
      rw [List.length_map, List.drop_length] at hin
      have hin' : (S2, lg2) = (Si, lgi) := hin
      cases hin'
      exact ⟨Si, lgi, bs2, ws2, ts2, _, _, _, _, _, rfl, sG.trans sF2, ea2, pA2, eb2, pB2, ec2, pC2, hl2, by rw [List.length_map] at l16'; omega, ll2, mpg2⟩
  · rintro _ G ⟨S1, lg1, bs1, ws1, ts1, x7, x8, x9, x10, x11, rfl, sG, ea1, pA1, eb1, pB1, ec1, pC1, hl1, l16, ll, mpg⟩
    rw [List.length_map, lts, List.drop_length] at hl1
    have hl1' : (S1, lg1) = (S', lg') := hl1
    cases hl1'
    have lb1 : bs1.length = S'.length := pA1.length
    have down : ∀ {x : Addr} {o : HO}, (mn c (mn a (mn b G))) x = some o → (mn a (mn b G)) x = some o := fun e => mn_same _ _ e
    refine ⟨_, rfl, a, _, rfl, .inl (SqL.of ea1), _, _, rfl, rfl, _, rfl, ?_⟩
    rw [List.length_map, lb1]
    rcases bf_step3 bf with ⟨h, _⟩ | ⟨_, h1, h2⟩ | ⟨_, S2, lg2, h1, bf'⟩
    · exact absurd h hlr
    · have := (layU_of L lr S [] sea.le).2 h1
      rw [hlay] at this
      refine iteTt (decide_eq_true (by show (16 : Int) < _; have : 16 < S'.length := this; omega)) ?_
      exact qN h2 _ (s0.trans fun x o e => dn3 _ _ (sG _ _ (sJc _ _ (sJ' _ _ e))))
    obtain ⟨h2, h3⟩ := (layU_of L lr S [] sea.le).1 _ h1
    rw [hlay] at h2
    cases h2
    have sea' := sea.next h1
    have h3 : S'.length ≤ 16 := h3
    refine iteFf (decide_eq_false (by omega)) ?_
    refine ⟨_, rfl, ⟨S', lg', c, bs1, ws1, ts1, _, _, _, _, _, _, rfl, fun x o e => down (sG _ _ (sJc _ _ (sJ' _ _ e))), ea1, L2.Paired.mapP pA1 fun x e z => down z, eb1, L2.Paired.mapP pB1 fun x e z => down z, out nca ncb ec1, L2.Paired.mapP pC1 fun t e z => z.to mn_same, sea', mpg, bf', by omega⟩, ?_⟩
    have k1 : bs.length = S.length := pA.length
    have k3 : ts1.length = lg'.length := pC1.length
    have k5 : 1 ≤ lr.length := List.length_pos_iff.mpr hlr
    have k4 := sea.le
    rw [muLc_of (a := a) (b := c) rfl ea1 rfl ec1, muLc_of (a := a) (b := nt) rfl ea rfl enJ, List.length_map, List.length_map, List.length_map, List.length_map, lb1, k1, k3, lts]
    omega
end
end L

set_option Elab.async false
set_option linter.all false
set_option maxRecDepth 100000
set_option maxHeartbeats 4000000
set_option pp.maxSteps 400
namespace L
open PySem L2 KX
/-! == of objects that may differ, and of other values -/
theorem lD_eqvAll : ∀ L M : Ltt, PyData.eqvAll (lD L) (lD M) = decide (L = M)
  | [], [] => rfl
  | [], _ :: _ => rfl
  | _ :: _, [] => rfl
  | q :: L, r :: M => by
    have h := lD_eqvAll L M
    show (PyData.eqv (.tuple [.str q.1, tD q.2]) (.tuple [.str r.1, tD r.2]) && PyData.eqvAll (lD L) (lD M)) = _
    have e : PyData.eqv (.tuple [.str q.1, tD q.2]) (.tuple [.str r.1, tD r.2]) = (decide (q.1 = r.1) && decide (q.2 = r.2)) := by
      simp only [PyData.eqv, PyData.eqvAll, tD_eqv, Bool.and_true]
      congr 1
    rw [e, h, Bool.eq_iff_iff, Bool.and_eq_true, Bool.and_eq_true, decide_eq_true_iff, decide_eq_true_iff, decide_eq_true_iff, decide_eq_true_iff, List.cons.injEq]
    obtain ⟨a, b⟩ := q
    obtain ⟨c, d⟩ := r
    rw [Prod.mk.injEq]
/-- what the other may be, and whether it is equal -/
def Oth (K : PySem.W.Frag) (CF : Addr) (H : Hp) (n : Nat) (L : Ltt) (y : V) (r : Bool) : Prop :=
  (∃ b n' L' S', y = .ref b ∧ TrA CF H b n' L' S' ∧ LOk n' L' ∧ r = decide (n = n' ∧ L = L')) ∨ ∃ t, TyX K H y t ∧ PySem.W.kitOne K t (.ref CF) = some false ∧ r = false
def spTeG (K : PySem.W.Frag) (CF : Addr) : Sp := fun vs H Q _ => ∃ a n L S y r, vs = [.ref a, y] ∧ TrA CF H a n L S ∧ LOk n L ∧ Oth K CF H n L y r ∧ Q (.bl r) H
section
variable {P : Program} {w : World} {K : PySem.W.Frag} {mg : Str → Option Value} {base : Heap} {f : Addr} {fd : FuncData} {CF : Addr}
theorem ok_teG (F : Fun K "__eq__" "Transformations.__eq__" sTe f fd) (M : Mn mg) (U : TfX K CF) (Y : CTi K CF) (mF : mg "Transformations" = some (.ref CF)) : FnOk P w K mg base CX0 1 f fd ["self", "other"] (spTeG K CF) := by
  refine F.ok scTe (fun vs H Q E h => ?_) (fun cdv A outer s H vs Q E hr h => ?_)
  · obtain ⟨a, n, L, S, y, r, rfl, _⟩ := h
    rfl
  obtain ⟨a, n, L, S, y, r, rfl, ht, o, ho, q⟩ := h
  have hu := hr.units
  refine ⟨_, (pss_one (ps_ret (pe_and (pe_callB call_isi (by rfl) M.isin (by decide +kernel) (pa_cons (pv 1) (pa_cons (pe_glob (v := .ref CF) (by rfl) mF rfl) pa_nil))) (pe_and (pe_cmpR op_eq (pe_fld (pv 0) rfl) (pe_fld (pv 1) rfl) (nomark _)) (pe_one (pe_cmpR (op_eqD hu) (pe_fld (pv 0) rfl) (pe_fld (pv 1) rfl) (nomark _))))))), ?_⟩
  rcases ho with ⟨b, n', L', S', rfl, ht2, o2, rfl⟩ | ⟨t, hty, hk, rfl⟩
  · obtain ⟨dx, tl, cl, wl, e, hl, _⟩ := ht.ob
    obtain ⟨dx', tl', cl', wl', e', hl', _⟩ := ht2.ob
    refine ⟨_, rfl, _, .ref CF, _, .ref CF, true, rfl, .own CF, .base (.ins e' U.cl Y.ha Y.hn Y.htk Y.hm), kit_self K CF, _, rfl, iteT ?_⟩
    refine ⟨_, rfl, a, CF, dx, _, _, rfl, e, U.cl, U.n1, rfl, _, rfl, b, CF, dx', _, _, rfl, e', U.cl, U.n1, rfl, rfl, _, rfl, ite2 (fun c => ?_) (fun c => ?_)⟩
    · have en : n = n' := by
        have c := of_decide_eq_true c
        injection c with c
        omega
      subst en
      refine ⟨_, rfl, a, CF, dx, _, _, rfl, e, U.cl, U.n2, rfl, _, rfl, b, CF, dx', _, _, rfl, e', U.cl, U.n2, rfl, _, _, hl.dp, hl'.dp, lD_shaped o.ss, lD_shaped o2.ss, ?_⟩
      rw [show PyData.eqv (.tuple (lD L)) (.tuple (lD L')) = decide (L = L') by simp only [PyData.eqv]; exact lD_eqvAll L L']
      rw [show decide (L = L') = decide (n = n ∧ L = L') by simp]
      exact q
    · have en : n ≠ n' := fun z => c (by rw [z]; exact decide_eq_true rfl)
      have e1 : decide (V.int (n : Int) = V.int (n' : Int)) = false := by
        cases h : decide (V.int (n : Int) = V.int (n' : Int)) with
        | false => rfl
        | true => exact absurd h c
      rw [show decide (n = n' ∧ L = L') = false by simp [en]] at q
      first
        | exact q
        | (rw [e1]; exact q)
  · exact ⟨_, rfl, _, .ref CF, t, .ref CF, false, rfl, .own CF, hty, hk, _, rfl, iteFf rfl q⟩
end
end L

set_option Elab.async false
set_option linter.all false
set_option maxRecDepth 100000
set_option maxHeartbeats 4000000
set_option pp.maxSteps 400
namespace L
open PySem L2 KX
abbrev sRg : Stmt := top 41
abbrev nRg : List Str := ["size", "letters", "letter", "targets", "lent", "made", "due", "element", "turn", "told"]
def spRg : Sp := fun vs H Q _ => ∃ (n : Nat) (l : Addr) (L : Ltt) (r : Option (List En)), vs = [.int (n : Int), .ref l] ∧ LOk n L ∧ NmOk L ∧ Gv H l L ∧ Res n L r ∧ ∀ H', Same H H' → Q (.bl true) H'
theorem iL_shaped (m : List Nat) : SeqAt.shaped (.list (nD m)) = true := by
  show ((PyData.list (nD m)).canLay0 && decide ((PyData.list (nD m)).depth ≤ 64)) = true
  have h1 : (PyData.list (nD m)).canLay0 = true := by simp only [PyData.canLay0]; exact nD_lay m
  have h2 : (PyData.list (nD m)).depth = 1 := by simp only [PyData.depth, nD_depth m]
  rw [h1, h2]; rfl
theorem iL_eqv (m : List Nat) : PyData.eqv (.list (nD m)) (.list (nD m)) = true := by
  simp only [PyData.eqv]
  rw [nD_eqv]; exact decide_eq_true rfl
open Classical in
/-- the heap without what is in T -/
noncomputable def mnS (T : Addr → Prop) (J : Hp) : Hp := fun b => if T b then none else J b
theorem mnS_same {T : Addr → Prop} {J : Hp} : Same (mnS T J) J := fun b o e => by
  unfold mnS at e
  by_cases h : T b
  · rw [if_pos h] at e; cases e
  · rw [if_neg h] at e; exact e
theorem mnS_in {T : Addr → Prop} {J : Hp} {b : Addr} {o : HO} (h : ¬ T b) (e : J b = some o) : mnS T J b = some o := by
  unfold mnS; rw [if_neg h]; exact e
theorem mnS_upd {T : Addr → Prop} {J : Hp} {p : Addr} {o : HO} (h : T p) : mnS T (upd J p o) = mnS T J := by
  funext b
  unfold mnS
  by_cases k : T b
  · rw [if_pos k, if_pos k]
  · rw [if_neg k, if_neg k, upd_ne (fun z : b = p => k (by rw [z]; exact h))]
theorem mnS_mono {T : Addr → Prop} {A B : Hp} (s : Same A B) : Same (mnS T A) (mnS T B) := fun b o e => by
  have nb : ¬ T b := fun z => by unfold mnS at e; rw [if_pos z] at e; cases e
  exact mnS_in nb (s _ _ (mnS_same _ _ e))
theorem strs_no (zs : List Str) : ∀ i r, zs.map V.str ≠ V.int i :: r := fun i r h => by cases zs <;> cases h
theorem refs_no (zs : List Addr) : ∀ i r, zs.map V.ref ≠ V.int i :: r := fun i r h => by cases zs <;> cases h
/-- the object stands beside lists of numbers and dicts -/
theorem TrA.mnS {CF : Addr} {H : Hp} {T : Addr → Prop} {a : Addr} {n : Nat} {L : Ltt} {S : List En} (b : ∀ x, T x → (∃ i r, H x = some (.lst (V.int i :: r))) ∨ ∃ kv, H x = some (.dK kv)) (h : TrA CF H a n L S) : TrA CF (mnS T H) a n L S := by
  obtain ⟨dx, tl, cl, wl, e, ⟨ps, hps, pr⟩, ⟨bs, e1, p1⟩, ws, e2, p2⟩ := h.ob
  have k : ∀ {x : Addr} {u : HO}, H x = some u → (∀ xs, u ≠ .lst xs) → (∀ kv, u ≠ .dK kv) → (_root_.L.mnS T H) x = some u := fun h n1 n2 => mnS_in (fun z => by
    rcases b _ z with ⟨i, r, e⟩ | ⟨kv, e⟩
    · rw [h] at e; cases e; exact n1 _ rfl
    · rw [h] at e; cases e; exact n2 _ rfl) h
  have kl : ∀ {x : Addr} {xs : List V}, H x = some (.lst xs) → (∀ i r, xs ≠ V.int i :: r) → (_root_.L.mnS T H) x = some (.lst xs) := fun h n1 => mnS_in (fun z => by
    rcases b _ z with ⟨i, r, e⟩ | ⟨kv, e⟩
    · rw [h] at e; cases e; exact n1 _ _ rfl
    · rw [h] at e; cases e) h
  obtain ⟨ob, eo, ho⟩ := hps
  exact ⟨dx, tl, cl, wl, k e (fun _ z => nomatch z) (fun _ z => nomatch z), ⟨ps, ⟨ob, k eo (fun _ z => nomatch z) (fun _ z => nomatch z), ho⟩, L2.Paired.mapP pr fun p q ⟨t, a1, a2⟩ => ⟨t, k a1 (fun _ z => nomatch z) (fun _ z => nomatch z), k a2 (fun _ z => nomatch z) (fun _ z => nomatch z)⟩⟩,
    ⟨bs, kl e1 (refs_no _), L2.Paired.mapP p1 fun b e z => k z (fun _ z => nomatch z) (fun _ z => nomatch z)⟩, ws, kl e2 (refs_no _), L2.Paired.mapP p2 fun b e z => kl z (strs_no _)⟩
theorem okAllKv {n W : Nat} : ∀ {ds : List (PyData × PyData)}, (∀ d, d ∈ ds → OkD n W d.1 ∧ OkD n W d.2) → PyData.leavesShortKv 110 ds = true ∧ PyData.showableKv ds = true ∧ PyData.depthKv ds ≤ n ∧ PyData.weightKv ds ≤ ds.length * (2 * W + 2)
  | [], _ => ⟨rfl, rfl, Nat.zero_le _, Nat.zero_le _⟩
  | (a, b) :: ds, h => by
    obtain ⟨h1, h2⟩ := h (a, b) List.mem_cons_self
    dsimp only at h1 h2
    obtain ⟨g2, g3, g4, g5⟩ := okAllKv (ds := ds) fun x hx => h x (List.mem_cons_of_mem _ hx)
    refine ⟨?_, ?_, ?_, ?_⟩
    · simp only [PyData.leavesShortKv, h1.short, h2.short, g2, Bool.and_self]
    · simp only [PyData.showableKv, h1.shows, h2.shows, g3, Bool.and_self]
    · have := h1.deep
      have := h2.deep
      simp only [PyData.depthKv]; omega
    · have := h1.wt
      have := h2.wt
      simp only [PyData.weightKv, List.length_cons]
      rw [Nat.succ_mul]
      generalize ds.length * (2 * W + 2) = X at g5 ⊢
      omega
theorem okDi {n W m : Nat} {ds : List (PyData × PyData)} (h : ∀ d, d ∈ ds → OkD n W d.1 ∧ OkD n W d.2) (l : ds.length ≤ m) : OkD (n + 1) (m * (2 * W + 2)) (.dict ds) := by
  obtain ⟨g2, g3, g4, g5⟩ := okAllKv h
  have := Nat.mul_le_mul_right (2 * W + 2) l
  exact ⟨by simpa only [PyData.leavesShort] using g2, by simpa only [PyData.showable] using g3, by simp only [PyData.depth]; omega, by simp only [PyData.weight]; omega⟩
/-- the elements and the letters as data -/
def ctD (S : List En) : PyData := .list (S.map fun e => .tuple (nD e.1))
def ltD (L : Ltt) : PyData := .dict (L.map fun q => (.str q.1, .list (nD q.2)))
theorem dq_nv {H : Hp} : ∀ m : List Nat, DqAll H (nv m) (nD m)
  | [] => .nil
  | x :: m => .cons (.int _) (dq_nv m)
theorem ctD_dq {H : Hp} {D : Addr} {bs : List Addr} {S : List En} (e : H D = some (.lst (bs.map V.ref))) (p : Paired (fun b (e : En) => H b = some (.tup (nv e.1))) bs S) : Dq H (.ref D) (ctD S) := by
  refine .lst e ?_
  clear e
  induction p with
  | nil => exact .nil
  | cons h _ ih => exact .cons (.tup h (dq_nv _)) ih
theorem ltD_dq {H : Hp} {D : Addr} {kvs : List (Key × V)} {L : Ltt} (e : H D = some (.dK kvs)) (p : GvP H kvs L) : Dq H (.ref D) (ltD L) := by
  refine .dct e ?_
  clear e
  unfold GvP at p
  induction p with
  | nil => exact .nil
  | @cons kv q _ _ h _ ih =>
    obtain ⟨k, v⟩ := kv
    obtain ⟨h1, a, h2, h3⟩ := h
    dsimp only at h1 h2
    subst h1 h2
    exact .cons (.lst h3 (dq_nv _)) ih
theorem okNs {n : Nat} {m : List Nat} (h : Mp n m) (n5 : n ≤ 5) : ∀ d, d ∈ nD m → OkD 0 100 d := fun d hd => by
  obtain ⟨x, hx, rfl⟩ := List.mem_map.mp hd
  exact OkD.int (by have := h.2 x hx; show ((x : Nat) : Int).natAbs < _; rw [Int.natAbs_natCast]; exact Nat.lt_of_lt_of_le (Nat.lt_of_lt_of_le this n5) (by decide))
theorem okCt {n : Nat} {S : List En} (h : ∀ e, e ∈ S → Mp n e.1) (n5 : n ≤ 5) (s : S.length ≤ 16) : OkD 2 8096 (ctD S) := okLi (W := 505) (m := 16) (fun d hd => by
  obtain ⟨e, he, rfl⟩ := List.mem_map.mp hd
  exact okTu (m := 5) (okNs (h e he) n5) (by unfold nD; rw [List.length_map, (h e he).1]; exact n5)) (by rw [List.length_map]; exact s)
theorem okLt {n : Nat} {L : Ltt} (o : LOk n L) : OkD 2 4048 (ltD L) := okDi (n := 1) (W := 505) (m := 4) (fun d hd => by
  obtain ⟨q, hq, rfl⟩ := List.mem_map.mp hd
  exact ⟨(OkD.str (o.ss q hq)).mono (by decide) (by decide), okLi (m := 5) (okNs (o.mp q hq) o.n5) (by unfold nD; rw [List.length_map, (o.mp q hq).1]; exact o.n5)⟩) (by rw [List.length_map]; exact o.ge)
theorem split_pairs {K : PySem.W.Frag} {G H : Hp} {l D : Addr} : ∀ {ps : List Addr} {L : Ltt}, Paired (fun p (q : Str × List Nat) => p ≠ D ∧ ∃ t, t ≠ D ∧ H t = none ∧ t ≠ l ∧ G p = some (.tup [.str q.1, .ref t]) ∧ G t = some (.lst (nv q.2))) ps L →
    ∃ lkv : List (Key × V), Paired (fun p (kv : Key × V) => SqT K G p [kV kv.1, kv.2]) ps lkv ∧ Paired (fun (kv : Key × V) (q : Str × List Nat) => kv.1 = Sum.inr q.1 ∧ ∃ t, kv.2 = .ref t ∧ H t = none ∧ t ≠ l ∧ G t = some (.lst (nv q.2))) lkv L
  | _, _, .nil => ⟨[], .nil, .nil⟩
  | _, _, .cons (b := q) h t => by
    obtain ⟨lkv, a, b⟩ := split_pairs (K := K) t
    obtain ⟨_, t, _, h1, h2, h3, h4⟩ := h
    exact ⟨(Sum.inr q.1, .ref t) :: lkv, .cons (SqT.of h3) a, .cons ⟨rfl, t, rfl, h1, h2, h4⟩ b⟩
section
variable {P : Program} {w : World} {K : PySem.W.Frag} {mg : Str → Option Value} {base : Heap} {f f1 f2 f3 f4 f5 f6 f7 g1 : Addr} {fd d1 d2 d3 d4 d5 d6 d7 e1 : FuncData} {C CF CO : Addr}
theorem scRg : FnScope nRg ["size", "letters"] (defScope sRg) := ⟨rfl, rfl, rfl, by decide +kernel, rfl, by decide +kernel, by decide +kernel⟩
theorem ok_rg (F : Fun K "_law_right" "_law_right" sRg f fd) (M : Mn mg) (U : TfX K CF) (hS : ∃ o, base.get? sysModules = some o)
    (G1 : FnOk P w K mg base CX0 7 f1 d1 ["size", "letters"] (spLm CF)) (b1 : Binds K d1 ["size", "letters"] []) (k1 : PySem.W.keepIn K (.ref f1) = true) (m1 : mg "_law_made" = some (.ref f1))
    (G2 : FnOk P w K mg base CX0 1 f2 d2 ["size", "letters"] spLc) (b2 : Binds K d2 ["size", "letters"] []) (k2 : PySem.W.keepIn K (.ref f2) = true) (m2 : mg "_law_contents" = some (.ref f2))
    (G3 : FnOk P w K mg base CX0 3 f3 d3 ["self", "word"] (spEo K CF)) (b3 : Binds K d3 ["self", "word"] []) (h3 : Meth K CF "element_of" f3)
    (G4 : FnOk P w K mg base CX0 3 f4 d4 ["self", "state", "word"] (spRu K CF)) (b4 : Binds K d4 ["self", "state", "word"] []) (h4 : Meth K CF "run" f4)
    (G5 : FnOk P w K mg base CX0 1 f5 d5 ["self"] (spCt CF)) (b5 : Binds K d5 ["self"] []) (h5 : Meth K CF "contents" f5)
    (G6 : FnOk P w K mg base CX0 1 f6 d6 ["self"] (spLs CF)) (b6 : Binds K d6 ["self"] []) (h6 : Meth K CF "letters" f6)
    (G7 : FnOk P w K mg base CX0 1 f7 d7 ["self"] (spSt CF)) (b7 : Binds K d7 ["self"] []) (h7 : Meth K CF "states" f7)
    (hL : PySem.W.findIn K (.ref CF) "__len__" = some (some (.ref g1))) (tL : PySem.W.typeIn K (.ref g1) = some (.type "function")) (GL : FnOk P w K mg base CX0 1 g1 e1 ["self"] (spTl CF)) (bL : Binds K e1 ["self"] []) :
    GOk P w K mg base CX0 8 f fd ["size", "letters"] spRg := by
  refine gok F scRg (fun vs H Q E h => ?_) (fun cdv A outer s H vs Q E hr hA h => ?_)
  · obtain ⟨n, l, L, r, rfl, _⟩ := h
    rfl
  obtain ⟨n, l, L, r, rfl, o, no, hG, rs, q⟩ := h
  have hr1 : Room 1 _ := hr.mono (by decide)
  have hr2 : Room 2 _ := hr.mono (by decide)
  have hr3 : Room 3 _ := hr.mono (by decide)
  have hr7 : Room 7 _ := hr
  have hu := hr.units
  have hu1 : (A.deeper (PyProof.Rows.envOfC "_law_right" (defScope sRg) s.heap.objs.size f cdv)).units + 1 < cLine := by omega
  have rp := fun {X : Cx} (h1 : X.base = base) (h2 : X.A = (A.deeper (PyProof.Rows.envOfC "_law_right" (defScope sRg) s.heap.objs.size f cdv))) => @call_repr_q X (by rw [h1]; exact hS) (by rw [h2]; exact hA) (by rw [h2]; exact hu)
  refine ⟨_, (pss_cons (ps_lock (ps_set (i := 4) scRg.nd rfl (Or.inl rfl) (pe_callTy (call_dictP rfl) (by rfl) M.dict (by decide +kernel) (pa_cons (pe_lc (own := [("letter", 2), ("targets", 3)]) (g := gTup _ 2 (gCons (gName 2) (gCons (gName 3) gNil))) (tt := tYes) rfl scRg.nd (pi_items (pv 1)) (blkOk_by (N := nRg) (sc := defScope sRg) (by decide +kernel)) (fun _ _ _ _ _ => (pg_tup rfl (pgs_cons (pg_name (i := 2) scRg.nd rfl (Or.inl rfl)) (pgs_cons (pg_name (i := 3) scRg.nd rfl (Or.inl rfl)) pgs_nil)))) (fun _ _ _ _ _ => pts_nil) (fun _ _ _ _ _ => (pe_tup (pa_cons (pv 2) (pa_cons (pe_callTy (clist (K := K) rfl) (by rfl) M.list (by decide +kernel) (pa_cons (pv 3) pa_nil)) pa_nil))))) pa_nil)))) (pss_cons (ps_par (i := 5) (j := 6) (by rfl) scRg.nd rfl rfl (by decide) rfl rfl (pa_cons (pe_call G1 hr7 (by rfl) m1 k1 b1 .nil pass0 (pa_cons (pv 0) (pa_cons (pv 4) pa_nil))) (pa_cons (pe_call G2 hr1 (by rfl) m2 k2 b2 .nil pass0 (pa_cons (pv 0) (pa_cons (pv 1) pa_nil))) pa_nil)) (by rfl)) (pss_cons (ps_if (pt_cmpR op_isN (pv 6) pe_non (by rfl)) (pss_one (ps_ret (pe_cmpR op_eq (pe_callB (rp rfl rfl) (by rfl) M.repr (by decide +kernel) (pa_cons (pv 5) pa_nil)) pe_str (nomark _)))) pss_nil) (pss_cons (ps_lock (ps_for PassesOwn.never rfl (pi_values (pv 4)) (pg_name (i := 3) scRg.nd rfl (Or.inl rfl)) (pss_cons (ps_asg (pe_op op_mod (pe_op op_add (pe_ix (ixl (K := K) rfl) (pv 3) pe_int (fun _ _ => rfl)) pe_int) (pv 0)) (pg_sub (pv 3) pe_int set_list)) (pss_one (ps_expr (pe_bm PySem.F.plainAttrs_list PySem.F.slot_list_append PySem.F.type_list_append mt_append (pv 3) (pa_cons pe_int pa_nil))))))) (pss_cons (ps_expr (pe_dclear (pv 4))) (pss_cons (ps_lock (ps_for PassesOwn.never rfl (pi_keys (pv 1)) (pg_name (i := 2) scRg.nd rfl (Or.inl rfl)) (pss_cons (ps_set (i := 7) scRg.nd rfl (Or.inl rfl) (pe_meth (pv 5) U.cl h3 G3 hr3 b3 .nil pass0 (pa_cons (pe_lst (pa_cons (pv 2) pa_nil)) pa_nil))) (pss_one (ps_if (pw_or (pt_cmpR (op_neD hu) (pe_callTy (clist (K := K) rfl) (by rfl) M.list (by decide +kernel) (pa_cons (pe_ix (ixl (K := K) rfl) (pe_ix (ixt (K := K) rfl) (pv 6) pe_int (fun _ _ => rfl)) (pv 7) (fun _ _ => rfl)) pa_nil)) (pe_dget (by exact hu1) (pv 1) (pv 2) (fun _ _ => rfl)) (nomark _)) (pw_or1 (pt_cmpR op_ne (pe_meth (pv 5) U.cl h4 G4 hr3 b4 .nil pass0 (pa_cons pe_int (pa_cons (pe_lst (pa_cons (pv 2) pa_nil)) pa_nil))) (pe_ix (ixl (K := K) rfl) (pe_dget (by exact hu1) (pv 1) (pv 2) (fun _ _ => rfl)) pe_int (fun _ _ => rfl)) (nomark _)))).pt (pss_one (ps_ret pe_bl)) pss_nil))))) (pss_cons (ps_for PassesOwn.never rfl (pi_range1 (by rfl) M.range (pa_cons pe_int pa_nil)) (pg_name (i := 8) scRg.nd rfl (Or.inl rfl)) (pss_cons (ps_set (i := 9) scRg.nd rfl (Or.inl rfl) (pe_lst (pa_cons (pe_meth0 (pv 5) U.cl h5 G5 hr1 b5 .nil pass0) (pa_cons (pe_meth0 (pv 5) U.cl h6 G6 hr1 b6 .nil pass0) pa_nil)))) (pss_cons (ps_if (pw_or (pt_cmpR op_ne (pe_callB (rp rfl rfl) (by rfl) M.repr (by decide +kernel) (pa_cons (pv 9) pa_nil)) (pe_callB (rp rfl rfl) (by rfl) M.repr (by decide +kernel) (pa_cons (pe_lst (pa_cons (pe_ix (ixt (K := K) rfl) (pv 6) pe_int (fun _ _ => rfl)) (pa_cons (pv 1) pa_nil))) pa_nil)) (nomark _)) (pw_or1 (pt_cmpR op_ne (pe_callB (rp rfl rfl) (by rfl) M.repr (by decide +kernel) (pa_cons (pe_lst (pa_cons (pe_meth0 (pv 5) U.cl h7 G7 hr1 b7 .nil pass0) (pa_cons (pe_callB (call_lenOwn hL tL GL hr2 bL) (by rfl) M.len PySem.boot_len (pa_cons (pv 5) pa_nil)) pa_nil))) pa_nil)) (pe_callB (rp rfl rfl) (by rfl) M.repr (by decide +kernel) (pa_cons (pe_lst (pa_cons (pv 0) (pa_cons (pe_callB (lenl (K := K) rfl) (by rfl) M.len PySem.boot_len (pa_cons (pe_ix (ixt (K := K) rfl) (pv 6) pe_int (fun _ _ => rfl)) pa_nil)) pa_nil))) pa_nil)) (nomark _)))).pt (pss_one (ps_ret pe_bl)) pss_nil) (pss_cons (ps_expr (pe_bm PySem.F.plainAttrs_list PySem.F.slot_list_append PySem.F.type_list_append mt_append (pe_ix (ixl (K := K) rfl) (pv 9) pe_int (fun _ _ => rfl)) (pa_cons pe_str pa_nil))) (pss_cons (ps_lock (ps_for PassesOwn.never rfl (pi_values (pe_ix (ixl (K := K) rfl) (pv 9) pe_int (fun _ _ => rfl))) (pg_name (i := 3) scRg.nd rfl (Or.inl rfl)) (pss_one (ps_expr (pe_bm PySem.F.plainAttrs_list PySem.F.slot_list_append PySem.F.type_list_append mt_append (pv 3) (pa_cons pe_str pa_nil)))))) (pss_one (ps_expr (pe_dclear (pe_ix (ixl (K := K) rfl) (pv 9) pe_int (fun _ _ => rfl)))))))))) (pss_one (ps_ret pe_bl))))))))), ?_⟩
  obtain ⟨kvs, eg, pr⟩ := id hG
  have nd := GvP.nd pr no
  have n1 := o.n1
  have n5 := o.n5
  have l4 := o.ge
  have lkL : kvs.length = L.length := pr.length
  refine ⟨l, .dK kvs, eg, trivial, fun od => ?_⟩
  have eF := upd_same (H := H) (a := l) (o := .frz od (.dK kvs))
  have sHF : ∀ b o, b ≠ l → H b = some o → (upd H l (.frz od (.dK kvs))) b = some o := fun b o n e => by rw [upd_ne n]; exact e
  have fHF : ∀ b, (upd H l (.frz od (.dK kvs))) b = none → H b = none ∧ b ≠ l := fun b e => by
    have nb : b ≠ l := fun z => by rw [z, eF] at e; cases e
    rw [upd_ne nb] at e
    exact ⟨e, nb⟩
  generalize upd H l (.frz od (.dK kvs)) = HF at eF sHF fHF ⊢
  refine ⟨_, rfl, l, od, kvs, rfl, eF, fun D hD => ?_⟩
  refine lc_it walk_items (fun i G => Same HF G ∧ ∃ ps : List Addr, G D = some (.lst (ps.map V.ref)) ∧ Paired (fun p (q : Str × List Nat) => p ≠ D ∧ ∃ t, t ≠ D ∧ H t = none ∧ t ≠ l ∧ G p = some (.tup [.str q.1, .ref t]) ∧ G t = some (.lst (nv q.2))) ps (L.take i)) ⟨Same.new hD _, [], upd_same, .nil⟩ (fun i G _ z => z.1 _ _ eF) ?_ ?_
  · rintro i y G1 G2 hi ⟨sG, ps, eD, pps⟩ ⟨T, y1, y2, rfl, hT, rfl, g1, g2⟩
    obtain ⟨⟨k, v⟩, hk⟩ : ∃ kv, kvs[i]? = some kv := ⟨kvs[i], List.getElem?_eq_getElem hi⟩
    obtain ⟨q1, hq1, rfl, b, rfl, eb⟩ := pair_at pr hk
    dsimp only at g1 g2
    rw [hk] at g1 g2
    cases g1
    cases g2
    dsimp only
    change gTup _ _ _ _ _ (upd G1 T (.tup [.str q1.1, .ref b])) _
    have lps : ps.length = i := by rw [pps.length, List.length_take]; omega
    have nbl : b ≠ l := ne_of eb eg fun z => nomatch z
    have u1 := Same.new hT (.tup [.str q1.1, .ref b])
    have eb1 := u1 _ _ (sG _ _ (sHF _ _ nbl eb))
    refine ⟨T, _, rfl, SqT.of upd_same, rfl, _, _, rfl, _, _, rfl, rfl, rfl, _, rfl, _, rfl, b, nv q1.2, rfl, .inl (SqL.of eb1), fun t ht => ⟨szl _ (by simp), fun T2 hT2 => ?_⟩⟩
    have u2 := u1.trans ((Same.new ht (.lst (nv q1.2))).trans (Same.new hT2 (.tup [.str q1.1, .ref t])))
    have et := Same.new hT2 (.tup [.str q1.1, .ref t]) _ _ (upd_same (H := upd G1 T (.tup [.str q1.1, .ref b])) (a := t) (o := .lst (nv q1.2)))
    have eT2 := upd_same (H := upd (upd G1 T (.tup [.str q1.1, .ref b])) t (.lst (nv q1.2))) (a := T2) (o := .tup [.str q1.1, .ref t])
    have ntD : t ≠ D := (ne_of_none (u1 _ _ eD) ht).symm
    have nT2D : T2 ≠ D := (ne_of_none (Same.new ht (.lst (nv q1.2)) _ _ (u1 _ _ eD)) hT2).symm
    obtain ⟨tn, tl⟩ := fHF t ((sG.trans u1).free ht)
    have tk : L.take (i + 1) = L.take i ++ [q1] := by rw [List.take_add_one, hq1]; rfl
    refine ⟨_, u2 _ _ eD, by rw [List.length_map, lps]; exact small1000 (by omega), fun c o e => by rw [upd_ne (ne_of_none e hD)]; exact u2 _ _ (sG _ _ e), ps ++ [T2], by rw [upd_same, List.map_append]; rfl, ?_⟩
    rw [tk]
    exact pair_app (L2.Paired.mapP pps fun p q ⟨z1, t', z2, z5, z6, z3, z4⟩ => ⟨z1, t', z2, z5, z6, by rw [upd_ne z1]; exact u2 _ _ z3, by rw [upd_ne z2]; exact u2 _ _ z4⟩) ⟨nT2D, t, ntD, tn, tl, by rw [upd_ne nT2D]; exact eT2, by rw [upd_ne ntD]; exact et⟩
  rintro G ⟨sG, ps, eD, pps⟩
  rw [lkL, List.take_length] at pps
  obtain ⟨lkv, plk, plg⟩ := split_pairs (K := K) pps
  have gvl : GvP G lkv L := L2.Paired.mapP plg fun kv q ⟨a, t, b, _, _, c⟩ => ⟨a, t, b, c⟩
  refine ⟨D, ps, lkv, rfl, SqL.of eD, plk, fun dl hdl => ?_⟩
  rw [merge_app (acc := []) (by rw [List.nil_append]; exact GvP.nd gvl no), List.nil_append]
  have ndl : dl ≠ l := (ne_of_none (sG _ _ eF) hdl).symm
  have hdlH : H dl = none := (fHF dl (sG.free hdl)).1
  have sd := Same.new hdl (.dK lkv)
  refine ⟨sd _ _ (sG _ _ eF), ?_⟩
  have s1 : Same H (upd (upd G dl (.dK lkv)) l (.dK kvs)) := fun b o' e => by
    by_cases z : b = l
    · rw [z, upd_same]; rw [z, eg] at e; exact e
    · rw [upd_ne z]; exact sd _ _ (sG _ _ (sHF _ _ z e))
  have edl : (upd (upd G dl (.dK lkv)) l (.dK kvs)) dl = some (.dK lkv) := by rw [upd_ne ndl]; exact upd_same
  have plg1 : Paired (fun (kv : Key × V) (q : Str × List Nat) => kv.1 = Sum.inr q.1 ∧ ∃ t, kv.2 = .ref t ∧ H t = none ∧ (upd (upd G dl (.dK lkv)) l (.dK kvs)) t = some (.lst (nv q.2))) lkv L := L2.Paired.mapP plg fun kv q ⟨a, t, b, c, d, e⟩ => ⟨a, t, b, c, by rw [upd_ne d]; exact sd _ _ e⟩
  generalize upd (upd G dl (.dK lkv)) l (.dK kvs) = H1 at s1 edl plg1 ⊢
  have gv1 : Gv H1 dl L := ⟨lkv, edl, L2.Paired.mapP plg1 fun kv q ⟨a, t, b, _, c⟩ => ⟨a, t, b, c⟩⟩
  clear eF sHF fHF pps plk plg gvl eD hD sG hdl sd
  refine ⟨_, rfl, _, rfl, n, dl, L, rfl, o, no, gv1.t, fun S a G2 rs' ht s2 ha => ?_, fun G2 rn s2 => ?_⟩
  rotate_left
  · have er : r = none := Bf.det rs rn
    subst er
    refine ⟨_, rfl, _, rfl, n, l, L, none, rfl, o, no, hG.to (s1.trans s2), rs, fun S z => (by cases z), fun _ H3 s3 => ⟨_, _, rfl, ?_⟩⟩
    refine ⟨_, rfl, rfl, _, rfl, iteTt rfl ?_⟩
    refine ⟨_, rfl, _, .int 17, rfl, .int _, by decide +kernel, by decide +kernel, by decide +kernel, rfl, ?_⟩
    show Q (V.bl (decide (V.str (PyData.shown (.int 17)) = V.str (Str.ofString "17")))) _
    rw [show decide (V.str (PyData.shown (.int 17)) = V.str (Str.ofString "17")) = true by decide +kernel]
    exact q _ (s1.trans (s2.trans s3))
  have er : r = some S := Bf.det rs rs'
  subst er
  refine ⟨_, rfl, _, rfl, n, l, L, some S, rfl, o, no, hG.to (s1.trans s2), rs, fun S' eS t ft wt bs ws G3 s3 hft hwt et eft pA ewt pB => ⟨_, _, rfl, ?_⟩, fun z => (by cases z)⟩
  cases eS
  refine ⟨_, rfl, rfl, _, rfl, iteFf (by simp) ?_⟩
  have sH3 : Same H G3 := s1.trans (s2.trans s3)
  have edl3 := s3 _ _ (s2 _ _ edl)
  have plg3 : Paired (fun (kv : Key × V) (q : Str × List Nat) => kv.1 = Sum.inr q.1 ∧ ∃ t, kv.2 = .ref t ∧ H t = none ∧ G3 t = some (.lst (nv q.2))) lkv L := L2.Paired.mapP plg1 fun kv q ⟨a, t, b, c, d⟩ => ⟨a, t, b, c, s3 _ _ (s2 _ _ d)⟩
  let T : Addr → Prop := fun b => b = dl ∨ ∃ kv, kv ∈ lkv ∧ kv.2 = V.ref b
  have tH : ∀ b, T b → H b = none := fun b hb => by
    rcases hb with rfl | ⟨kv, hkv, e⟩
    · exact hdlH
    · obtain ⟨j, hj, ej⟩ := List.mem_iff_getElem.mp hkv
      obtain ⟨q1, hq1, _, t, e2, e3, _⟩ := pair_at plg3 (List.getElem?_eq_getElem hj)
      rw [ej, e] at e2
      cases e2
      exact e3
  have tG : ∀ kv, kv ∈ lkv → ∃ t x r, kv.2 = V.ref t ∧ G3 t = some (.lst (V.int x :: r)) ∧ r.length ≤ 5 := fun kv hkv => by
    obtain ⟨j, hj, ej⟩ := List.mem_iff_getElem.mp hkv
    obtain ⟨q1, hq1, _, t, e2, _, e4⟩ := pair_at plg3 (List.getElem?_eq_getElem hj)
    rw [ej] at e2
    have mq := o.mp q1 (List.mem_of_getElem? hq1)
    cases hc : q1.2 with
    | nil =>
      have := mq.1
      rw [hc] at this
      simp at this
      omega
    | cons x r =>
      rw [hc] at e4
      have := mq.1
      rw [hc, List.length_cons] at this
      exact ⟨t, (x : Int), nv r, e2, e4, by rw [nv_len]; omega⟩
  have tB : ∀ x, T x → (∃ i r, G3 x = some (.lst (V.int i :: r))) ∨ ∃ kv, G3 x = some (.dK kv) := fun x hx => by
    rcases hx with rfl | ⟨kv, hkv, e⟩
    · exact .inr ⟨_, edl3⟩
    · obtain ⟨t, i, r, e1, e2, _⟩ := tG kv hkv
      rw [e] at e1
      cases e1
      exact .inl ⟨_, _, e2⟩
  let FF : Hp := mnS T G3
  have sF : Same FF G3 := mnS_same
  have htF : TrA CF FF a n L S := (ht.to s3).mnS tB
  have sHF : Same H FF := fun b o' e => mnS_in (fun z => by rw [tH b z] at e; cases e) (sH3 _ _ e)
  have nT : ∀ {x : Addr} {u : HO}, G3 x = some u → (∀ i r, u ≠ .lst (V.int i :: r)) → (∀ kv, u ≠ .dK kv) → FF x = some u := fun h n1 n2 => mnS_in (fun z => by
    rcases tB _ z with ⟨i, r, e⟩ | ⟨kv, e⟩
    · rw [h] at e; cases e; exact n1 _ _ rfl
    · rw [h] at e; cases e; exact n2 _ rfl) h
  have etF : FF t = some (.tup [.ref ft, .ref wt]) := nT et (fun _ _ z => nomatch z) (fun _ z => nomatch z)
  have eftF : FF ft = some (.lst (bs.map V.ref)) := nT eft (fun i r z => by cases bs <;> cases z) (fun _ z => nomatch z)
  have pAF : Paired (fun b (e : En) => FF b = some (.tup (nv e.1))) bs S := L2.Paired.mapP pA fun b e z => nT z (fun _ _ z => nomatch z) (fun _ z => nomatch z)
  have toM : ∀ {J : Hp}, Same FF (mnS T J) → Same FF J := fun h => h.trans mnS_same
  refine ⟨dl, .dK lkv, edl3, trivial, fun od2 => ?_⟩
  refine ⟨_, rfl, dl, od2, lkv, rfl, upd_same, ?_⟩
  refine for_it walk_values (fun i σ G => Same FF (mnS T G) ∧ G dl = some (.frz od2 (.dK lkv)) ∧ (∀ kv, kv ∈ lkv → ∃ t x r, kv.2 = V.ref t ∧ t ≠ dl ∧ G t = some (.lst (V.int x :: r)) ∧ r.length ≤ 5 + i) ∧ ∃ x2 x3, σ = [some (.int (n : Int)), some (.ref l), x2, x3, some (.ref dl), some (.ref a), some (.ref t), none, none, none])
    ⟨by rw [mnS_upd (.inl rfl)]; exact Same.refl _, upd_same, fun kv hkv => by
      obtain ⟨t, x, r, e1, e2, e3⟩ := tG kv hkv
      have ne : t ≠ dl := ne_of e2 edl3 fun z => nomatch z
      exact ⟨t, x, r, e1, ne, by rw [upd_ne ne]; exact e2, by omega⟩, _, _, rfl⟩ (fun i σ G _ z => z.2.1) ?_ ?_
  · rintro i y _ G G' hi ⟨sG, edG, hl, x2, x3, rfl⟩ ⟨rfl, k, hk⟩
    have hkm := List.mem_of_getElem? hk
    obtain ⟨t1, x, r, e1, ne, e2, e3⟩ := hl _ hkm
    dsimp only at e1
    subst e1
    have Tt : T t1 := .inr ⟨_, hkm, rfl⟩
    have llk : lkv.length = L.length := plg1.length
    have hi4 : i < 4 := by omega
    refine ⟨_, rfl, t1, _, _, _, rfl, rfl, SqL.of e2, at_of (j := 0) rfl rfl, _, _, rfl, rfl, _, rfl, _, _, rfl, rfl, (by omega), ?_⟩
    refine ⟨_, rfl, t1, _, 0, 0, rfl, rfl, e2, by simp [ixN], ?_⟩
    have g1 := upd_same (H := G') (a := t1) (o := .lst ((V.int x :: r).set 0 (V.int ((x + 1) % (n : Int)))))
    refine ⟨_, rfl, .inl ⟨rfl, _, SqL.of g1⟩, t1, _, _, rfl, rfl, g1, szl _ (by simp; omega), ?_⟩
    have s5 : Same FF (mnS T (upd (upd G' t1 (.lst ((V.int x :: r).set 0 (V.int ((x + 1) % (n : Int)))))) t1 (.lst ((V.int x :: r).set 0 (V.int ((x + 1) % (n : Int))) ++ [.int 0])))) := by rw [mnS_upd Tt, mnS_upd Tt]; exact sG
    refine ⟨s5, by rw [upd_ne ne.symm, upd_ne ne.symm]; exact edG, fun kv hkv => ?_, _, _, rfl⟩
    obtain ⟨t2, x', r', f1, f2, f3, f4⟩ := hl kv hkv
    by_cases z : t2 = t1
    · subst z
      exact ⟨t2, _, r ++ [.int 0], f1, f2, by rw [upd_same]; rfl, by rw [List.length_append]; simp; omega⟩
    · exact ⟨t2, x', r', f1, f2, by rw [upd_ne z, upd_ne z]; exact f3, by omega⟩
  rintro _ G ⟨sG, edG, hl, x2, x3, rfl⟩
  refine ⟨edG, ?_⟩
  have sG2 : Same FF (mnS T (upd G dl (.dK lkv))) := by rw [mnS_upd (.inl rfl)]; exact sG
  have edG2 := upd_same (H := G) (a := dl) (o := .dK lkv)
  generalize upd G dl (.dK lkv) = G4 at sG2 edG2 ⊢
  refine ⟨_, rfl, .inr (.inr (.inl ⟨rfl, .inl ⟨_, edG2⟩⟩)), dl, lkv, rfl, rfl, edG2, ?_⟩
  have sG5 : Same FF (upd G4 dl (.dK [])) := toM (by rw [mnS_upd (.inl rfl)]; exact sG2)
  generalize upd G4 dl (.dK []) = G5 at sG5 ⊢
  -- only what stands beside lent and letters counts from here on
  have egF : FF l = some (.dK kvs) := sHF _ _ eg
  have prF : GvP FF kvs L := L2.Paired.mapP pr fun kv q ⟨a, b, c, d⟩ => ⟨a, b, c, sHF _ _ d⟩
  have fn := Res.fnd o rs'
  have s16 := fn.le
  have htF2 : TrA CF (mnS (fun b => b = l) FF) a n L S := htF.mnS fun x hx => .inr ⟨kvs, by rw [hx]; exact egF⟩
  have nl : ∀ {x : Addr} {u : HO}, FF x = some u → (∀ kv, u ≠ .dK kv) → (mnS (fun b => b = l) FF) x = some u := fun h n2 => mnS_in (fun z => by
    rw [z, egF] at h; cases h; exact n2 _ rfl) h
  have et2 := nl etF (fun _ z => nomatch z)
  have eft2 := nl eftF (fun _ z => nomatch z)
  have pA2 : Paired (fun b (e : En) => (mnS (fun b => b = l) FF) b = some (.tup (nv e.1))) bs S := L2.Paired.mapP pAF fun b e z => nl z (fun _ z => nomatch z)
  have pr2 : GvP (mnS (fun b => b = l) FF) kvs L := L2.Paired.mapP prF fun kv q ⟨a, b, c, d⟩ => ⟨a, b, c, nl d (fun _ z => nomatch z)⟩
  have hF2 : ∀ {b : Addr} {o' : HO}, H b = some o' → b ≠ l → (mnS (fun b => b = l) FF) b = some o' := fun e n2 => mnS_in n2 (sHF _ _ e)
  have sF2F : Same (mnS (fun b => b = l) FF) FF := mnS_same
  generalize hF2e : mnS (fun b => b = l) FF = F2 at htF2 et2 eft2 pA2 pr2 hF2 sF2F
  obtain ⟨dx, _, _, _, ea2, _⟩ := id htF2.ob
  have el5 := sG5 _ _ egF
  have s25 : Same F2 G5 := sF2F.trans sG5
  have nlF2 : F2 l = none := by rw [← hF2e]; unfold mnS; rw [if_pos rfl]
  refine ⟨l, .dK kvs, el5, trivial, fun od3 => ?_⟩
  refine ⟨_, rfl, l, od3, rfl, .inl ⟨kvs, upd_same, ?_⟩⟩
  have s26 : Same F2 (upd G5 l (.frz od3 (.dK kvs))) := fun b o' e => by rw [upd_ne (ne_of_none e nlF2)]; exact s25 _ _ e
  have ef6 := upd_same (H := G5) (a := l) (o := .frz od3 (.dK kvs))
  generalize upd G5 l (.frz od3 (.dK kvs)) = G6 at s26 ef6 ⊢
  refine for_it walk_keys (fun i σ G => Same F2 G ∧ G l = some (.frz od3 (.dK kvs)) ∧ ∃ x2 x3 x7, σ = [some (.int (n : Int)), some (.ref l), x2, x3, some (.ref dl), some (.ref a), some (.ref t), x7, none, none]) ⟨s26, ef6, _, _, _, rfl⟩ (fun i σ G _ z => z.2.1) ?_ ?_
  · rintro i y _ J J' hi ⟨sJ, efJ, x2, x3, x7, rfl⟩ ⟨rfl, k, v, hk, rfl⟩
    obtain ⟨q1, hq1, rfl, b, rfl, eb⟩ := pair_at pr2 hk
    have hqm := List.mem_of_getElem? hq1
    have zm : q1.1 ∈ L.map (·.1) := List.mem_map.mpr ⟨q1, hqm, rfl⟩
    have hz : ∀ z, z ∈ [q1.1] → z ∈ L.map (·.1) := fun z hz => by rw [List.mem_singleton.mp hz]; exact zm
    have mq := o.mp q1 hqm
    have emw : mapW n L [q1.1] = q1.2 := by
      show cmp (List.range n) (tg L q1.1) = q1.2
      rw [tg_of no hqm, cmp_id mq]
    have hin : mapW n L [q1.1] ∈ keys S := by rw [emw]; exact fn.lt q1 hqm
    refine ⟨_, rfl, a, _, _, rfl, sJ _ _ ea2, rfl, _, rfl, szl _ (by simp), fun w hw => ?_⟩
    have sw := sJ.trans (Same.new hw (.lst [.str q1.1]))
    refine ⟨a, w, n, L, S, [q1.1], rfl, htF2.to sw, o, no, SqL.of upd_same, by simp, by simp, hz, hin, fun J2 s2' => ?_⟩
    have s3' := sw.trans s2'
    have ef3 := s2' _ _ (Same.new hw (.lst [.str q1.1]) _ _ efJ)
    obtain ⟨i1, i2⟩ := idx_get hin
    obtain ⟨be, hbe, ebe⟩ := pair_to (keys_pair pA2) i2
    refine ⟨_, rfl, t, _, _, _, rfl, rfl, SqT.of (s3' _ _ et2), at_of (j := 0) rfl rfl, _, rfl, ft, bs.map V.ref, _, _, rfl, rfl, SqL.of (s3' _ _ eft2), at_of (j := (keys S).idxOf (mapW n L [q1.1])) rfl (by rw [List.getElem?_map, hbe]; rfl), be, nv (mapW n L [q1.1]), rfl, .inr (SqT.of (s3' _ _ ebe)), fun y hy => ?_⟩
    rw [emw]
    have s4' := s3'.trans (Same.new hy (.lst (nv q1.2)))
    have ef4 := Same.new hy (.lst (nv q1.2)) _ _ ef3
    have gd : ∀ {G : Hp}, G l = some (.frz od3 (.dK kvs)) → DGet G l (.str q1.1) (some (.ref b)) := fun e => .inl ⟨kvs, Sum.inr q1.1, .inr ⟨od3, e⟩, rfl, (val_nodup nd _ (List.mem_of_getElem? hk)).symm⟩
    refine ⟨_, rfl, _, rfl, l, _, rfl, gd ef4, _, _, .lst (SqL.of upd_same) (dp_nv _), .lst (SqL.of (s4' _ _ eb)) (dp_nv _), iL_shaped _, iL_shaped _, ?_⟩
    rw [iL_eqv]
    refine ⟨_, rfl, iteFf rfl ?_⟩
    refine ⟨_, rfl, a, _, _, rfl, s4' _ _ ea2, rfl, _, rfl, szl _ (by simp), fun w2 hw2 => ?_⟩
    have s5' := s4'.trans (Same.new hw2 (.lst [.str q1.1]))
    refine ⟨a, w2, 0, n, L, S, [q1.1], rfl, htF2.to s5', o, no, SqL.of upd_same, by simp, by simp, hz, by omega, fun J5 s6' => ?_⟩
    have s7' := s5'.trans s6'
    have ef7 := s6' _ _ (Same.new hw2 (.lst [.str q1.1]) _ _ ef4)
    refine ⟨_, rfl, _, rfl, l, _, rfl, gd ef7, b, nv q1.2, _, _, rfl, rfl, SqL.of (s7' _ _ eb), at_of (j := 0) rfl (nv_get mq (by omega)), rfl, _, rfl, iteNS (by rw [emw]) ?_⟩
    exact ⟨s7', ef7, _, _, _, rfl⟩
  rintro _ J ⟨sJ, efJ, x2, x3, x7, rfl⟩
  refine ⟨efJ, ?_⟩
  have sJ1 : Same F2 (upd J l (.dK kvs)) := fun b o' e => by rw [upd_ne (ne_of_none e nlF2)]; exact sJ _ _ e
  have eJ1 := upd_same (H := J) (a := l) (o := .dK kvs)
  generalize upd J l (.dK kvs) = J1 at sJ1 eJ1 ⊢
  clear sG edG hl sG2 edG2 sG5 efJ sJ s26 ef6 el5
  have okc := okCt (S := S) (fun e he => fn.cl.mp e.1 (List.mem_map.mpr ⟨e, he, rfl⟩)) n5 s16
  have okl := okLt o
  have ok2 := okL2 (okc.mono (by decide) (Nat.le_refl _)) (okl.mono (m := 2) (U := 8096) (by decide) (by decide))
  have okI : ∀ {x : Nat}, x ≤ 16 → OkD 0 100 (.int (x : Int)) := fun h => OkD.int (by rw [Int.natAbs_natCast]; exact Nat.lt_of_le_of_lt h (by decide))
  have okn := okL2 (okI (x := n) (by omega)) (okI s16)
  refine ⟨_, rfl, by decide, by decide, ?_⟩
  refine for_range (lo := 0) (n := Int.toNat 2) (fun _ σ G => Same F2 G ∧ G l = some (.dK kvs) ∧ ∃ x2 x3 x7 x8 x9, σ = [some (.int (n : Int)), some (.ref l), x2, x3, some (.ref dl), some (.ref a), some (.ref t), x7, x8, x9]) ⟨sJ1, eJ1, _, _, _, _, _, rfl⟩ ?_ ?_
  rotate_left
  · rintro _ G ⟨sG, eG, x2, x3, x7, x8, x9, rfl⟩
    exact q _ fun b o' e => by
      by_cases z : b = l
      · rw [z] at e ⊢; rw [eg] at e; cases e; exact eG
      · exact sG _ _ (hF2 e z)
  rintro i _ G hi ⟨sG, eG, x2, x3, x7, x8, x9, rfl⟩
  refine ⟨_, rfl, a, _, _, rfl, sG _ _ ea2, rfl, a, n, L, S, rfl, htF2.to sG, fun D1 cs1 G1 q1 hD1 eD1 pD1 => ?_⟩
  have sG1 := sG.trans q1
  refine ⟨_, rfl, a, _, _, rfl, sG1 _ _ ea2, rfl, a, n, L, S, rfl, htF2.to sG1, o, no, fun D2 kv2 G2 q2 hD2 eD2 pD2 nD2 => ?_⟩
  have sG2 := sG1.trans q2
  refine ⟨szl _ (by simp), fun T0 hT0 => ?_⟩
  have u1 := Same.new hT0 (.lst [.ref D1, .ref D2])
  have sG3 := sG2.trans u1
  have eT0 := upd_same (H := G2) (a := T0) (o := .lst [.ref D1, .ref D2])
  have e1 := u1 _ _ (q2 _ _ eD1)
  have e2 := u1 _ _ eD2
  have pc := L2.Paired.mapP pD1 fun b e z => u1 _ _ (q2 _ _ (q1 _ _ z))
  have pl : GvP (upd G2 T0 (.lst [.ref D1, .ref D2])) kv2 L := L2.Paired.mapP pD2 fun kv q ⟨x1, x2, x3, x4⟩ => ⟨x1, x2, x3, u1 _ _ x4⟩
  have fD1 : F2 D1 = none := sG.free hD1
  have fD2 : F2 D2 = none := sG1.free hD2
  have fT0 : F2 T0 = none := sG2.free hT0
  have nd12 : D1 ≠ D2 := ne_of_none eD1 hD2
  have nT1 : D1 ≠ T0 := ne_of_none (q2 _ _ eD1) hT0
  have nT2 : D2 ≠ T0 := ne_of_none eD2 hT0
  have nlD : l ≠ D2 := ne_of_none (q1 _ _ eG) hD2
  have lcs : cs1.length = S.length := pD1.length
  have nv1 : ∀ kv : Key × V, kv ∈ kv2 → ∀ t, kv.2 = .ref t → F2 t = none ∧ t ≠ D2 ∧ t ≠ D1 ∧ t ≠ T0 := fun kv hk t e => by
    obtain ⟨j, hj, ej⟩ := List.mem_iff_getElem.mp hk
    obtain ⟨_, _, _, t', x2, x3⟩ := pair_at pD2 (List.getElem?_eq_getElem hj)
    rw [ej, e] at x2
    cases x2
    exact ⟨sG1.free (nD2 kv hk t e).1, (nD2 kv hk t e).2, (ne_of_none eD1 (nD2 kv hk t e).1).symm, ne_of_none x3 hT0⟩
  have eG3 := u1 _ _ (q2 _ _ (q1 _ _ eG))
  generalize upd G2 T0 (.lst [.ref D1, .ref D2]) = G3 at sG3 eT0 e1 e2 pc pl eG3 ⊢
  refine ⟨_, rfl, _, .list [ctD S, ltD L], rfl, .lst eT0 (.cons (ctD_dq e1 pc) (.cons (ltD_dq e2 pl) .nil)), ok2.shows, Nat.le_trans ok2.deep (by decide), ok2.len (by decide), ?_⟩
  refine ⟨_, rfl, t, _, _, _, rfl, rfl, SqT.of (sG3 _ _ et2), at_of (j := 0) rfl rfl, _, rfl, szl _ (by simp), fun w hw => ?_⟩
  have u2 := Same.new hw (.lst [.ref ft, .ref l])
  refine ⟨_, .list [ctD S, ltD L], rfl, .lst upd_same (.cons (ctD_dq (u2 _ _ (sG3 _ _ eft2)) (L2.Paired.mapP pA2 fun b e z => u2 _ _ (sG3 _ _ z))) (.cons (ltD_dq (u2 _ _ eG3) (L2.Paired.mapP pr2 fun kv q ⟨x1, x2, x3, x4⟩ => ⟨x1, x2, x3, u2 _ _ (sG3 _ _ x4)⟩)) .nil)), ok2.shows, Nat.le_trans ok2.deep (by decide), ok2.len (by decide), rfl, _, rfl, iteNS rfl ?_⟩
  have sG4 := sG3.trans u2
  have eT4 := u2 _ _ eT0
  have e14 := u2 _ _ e1
  have e24 := u2 _ _ e2
  have eG4' := u2 _ _ eG3
  have pl4 : GvP (upd G3 w (.lst [.ref ft, .ref l])) kv2 L := L2.Paired.mapP pl fun kv q ⟨x1, x2, x3, x4⟩ => ⟨x1, x2, x3, u2 _ _ x4⟩
  generalize upd G3 w (.lst [.ref ft, .ref l]) = G4 at sG4 eT4 e14 e24 eG4' pl4 ⊢
  refine ⟨_, rfl, a, _, _, rfl, sG4 _ _ ea2, rfl, a, n, L, S, rfl, htF2.to sG4, ?_⟩
  refine ⟨_, rfl, a, _, _, rfl, sG4 _ _ ea2, a, n, L, S, rfl, htF2.to sG4, ?_⟩
  refine ⟨S.length, rfl, by omega, szl _ (by simp), fun w2 hw2 => ?_⟩
  have u3 := Same.new hw2 (.lst [.int (n : Int), .int ((S.length : Nat) : Int)])
  refine ⟨_, .list [.int (n : Int), .int ((S.length : Nat) : Int)], rfl, .lst upd_same (.cons (.int _) (.cons (.int _) .nil)), okn.shows, Nat.le_trans okn.deep (by decide), okn.len (by decide), ?_⟩
  have sG5 := sG4.trans u3
  refine ⟨_, rfl, _, rfl, t, _, _, _, rfl, rfl, SqT.of (sG5 _ _ et2), at_of (j := 0) rfl rfl, ft, _, rfl, .inl (SqL.of (sG5 _ _ eft2)), szl _ (by simp), fun w3 hw3 => ?_⟩
  rw [List.length_map, pA2.length]
  have u4 := Same.new hw3 (.lst [.int (n : Int), .int ((S.length : Nat) : Int)])
  refine ⟨_, .list [.int (n : Int), .int ((S.length : Nat) : Int)], rfl, .lst upd_same (.cons (.int _) (.cons (.int _) .nil)), okn.shows, Nat.le_trans okn.deep (by decide), okn.len (by decide), rfl, _, rfl, iteNS rfl ?_⟩
  have u34 := u3.trans u4
  have sG6 := sG5.trans u4
  have eT6 := u34 _ _ eT4
  have e16 := u34 _ _ e14
  have e26 := u34 _ _ e24
  have eG6 := u34 _ _ eG4'
  have pl6 : GvP (upd (upd G4 w2 (.lst [.int (n : Int), .int ((S.length : Nat) : Int)])) w3 (.lst [.int (n : Int), .int ((S.length : Nat) : Int)])) kv2 L := L2.Paired.mapP pl4 fun kv q ⟨x1, x2, x3, x4⟩ => ⟨x1, x2, x3, u34 _ _ x4⟩
  generalize upd (upd G4 w2 (.lst [.int (n : Int), .int ((S.length : Nat) : Int)])) w3 (.lst [.int (n : Int), .int ((S.length : Nat) : Int)]) = G6 at sG6 eT6 e16 e26 eG6 pl6 ⊢
  clear u3 u4 u34 sG5 sG4 eT4 e14 e24 eG4' pl4 eT0 e1 e2 pc pl sG3 u1 u2 sG2 sG1 q2 q1
  refine ⟨_, rfl, T0, _, _, _, rfl, rfl, SqL.of eT6, at_of (j := 0) rfl rfl, .inl ⟨rfl, _, SqL.of e16⟩, D1, _, _, rfl, rfl, e16, by rw [List.length_map]; exact small1000 (by omega), ?_⟩
  have sG7 : Same F2 (upd G6 D1 (.lst (cs1.map V.ref ++ [.str (Str.ofString "more")]))) := fun b o' e => by rw [upd_ne (ne_of_none e fD1)]; exact sG6 _ _ e
  have eT7 : (upd G6 D1 (.lst (cs1.map V.ref ++ [.str (Str.ofString "more")]))) T0 = some (.lst [.ref D1, .ref D2]) := by rw [upd_ne nT1.symm]; exact eT6
  have e27 : (upd G6 D1 (.lst (cs1.map V.ref ++ [.str (Str.ofString "more")]))) D2 = some (.dK kv2) := by rw [upd_ne nd12.symm]; exact e26
  have eG7 : (upd G6 D1 (.lst (cs1.map V.ref ++ [.str (Str.ofString "more")]))) l = some (.dK kvs) := by rw [upd_ne (ne_of eG6 e16 fun z => nomatch z)]; exact eG6
  have pl7 : ∀ kv : Key × V, kv ∈ kv2 → ∃ t xs, kv.2 = .ref t ∧ F2 t = none ∧ t ≠ D2 ∧ t ≠ T0 ∧ (upd G6 D1 (.lst (cs1.map V.ref ++ [.str (Str.ofString "more")]))) t = some (.lst xs) ∧ xs.length ≤ 5 := fun kv hkv => by
    obtain ⟨j, hj, ej⟩ := List.mem_iff_getElem.mp hkv
    obtain ⟨q1, hq1, _, t, x2, x3⟩ := pair_at pl6 (List.getElem?_eq_getElem hj)
    rw [ej] at x2
    obtain ⟨y1, y2, y3, y4⟩ := nv1 kv hkv t x2
    exact ⟨t, _, x2, y1, y2, y4, by rw [upd_ne y3]; exact x3, by rw [nv_len, (o.mp q1 (List.mem_of_getElem? hq1)).1]; exact n5⟩
  generalize upd G6 D1 (.lst (cs1.map V.ref ++ [.str (Str.ofString "more")])) = G7 at sG7 eT7 e27 eG7 pl7 ⊢
  have nl2 : l ≠ D2 := nlD
  refine ⟨D2, .dK kv2, e27, trivial, fun od4 => ?_⟩
  have lk2 : kv2.length = L.length := pl6.length
  refine ⟨_, rfl, T0, _, _, _, rfl, rfl, SqL.of (by rw [upd_ne nT2.symm]; exact eT7), at_of (j := 1) rfl rfl, D2, od4, kv2, rfl, upd_same, ?_⟩
  refine for_it walk_values (fun i σ G => Same F2 G ∧ G l = some (.dK kvs) ∧ G D2 = some (.frz od4 (.dK kv2)) ∧ G T0 = some (.lst [.ref D1, .ref D2]) ∧ (∀ kv : Key × V, kv ∈ kv2 → ∃ t xs, kv.2 = .ref t ∧ F2 t = none ∧ t ≠ D2 ∧ t ≠ T0 ∧ G t = some (.lst xs) ∧ xs.length ≤ 5 + i) ∧ ∃ x2 x3 x7 x8, σ = [some (.int (n : Int)), some (.ref l), x2, x3, some (.ref dl), some (.ref a), some (.ref t), x7, x8, some (.ref T0)])
    ⟨fun b o' e => by rw [upd_ne (ne_of_none e fD2)]; exact sG7 _ _ e, by rw [upd_ne nl2]; exact eG7, upd_same, by rw [upd_ne nT2.symm]; exact eT7, fun kv hkv => by
      obtain ⟨t1, xs, y1, y2, y3, y4, y5, y6⟩ := pl7 kv hkv
      exact ⟨t1, xs, y1, y2, y3, y4, by rw [upd_ne y3]; exact y5, y6⟩, _, _, _, _, rfl⟩ (fun i σ G _ z => z.2.2.1) ?_ ?_
  · rintro j y _ J J' hj ⟨sJ, eJl, eJ2, eJT, hJ, x2, x3, x7, x8, rfl⟩ ⟨rfl, k, hk⟩
    have hkm := List.mem_of_getElem? hk
    obtain ⟨t1, xs, y1, y2, y3, y4, y5, y6⟩ := hJ _ hkm
    dsimp only at y1
    subst y1
    refine ⟨_, rfl, .inl ⟨rfl, _, SqL.of y5⟩, t1, _, _, rfl, rfl, y5, small1000 (by omega), ?_⟩
    refine ⟨fun b o' e => by rw [upd_ne (ne_of_none e y2)]; exact sJ _ _ e, by rw [upd_ne (ne_of eJl y5 fun z => nomatch z)]; exact eJl, by rw [upd_ne y3.symm]; exact eJ2, by rw [upd_ne y4.symm]; exact eJT, fun kv hkv => ?_, _, _, _, _, rfl⟩
    obtain ⟨t2, xs2, z1, z2, z3, z4, z5, z6⟩ := hJ kv hkv
    by_cases c : t2 = t1
    · subst c
      exact ⟨t2, _, z1, z2, z3, z4, upd_same, by rw [List.length_append]; simp; omega⟩
    · exact ⟨t2, xs2, z1, z2, z3, z4, by rw [upd_ne c]; exact z5, by omega⟩
  rintro _ J ⟨sJ, eJl, eJ2, eJT, hJ, x2, x3, x7, x8, rfl⟩
  refine ⟨eJ2, ?_⟩
  refine ⟨_, rfl, T0, _, _, _, rfl, rfl, SqL.of (by rw [upd_ne nT2.symm]; exact eJT), at_of (j := 1) rfl rfl, ?_⟩
  refine ⟨.inr (.inr (.inl ⟨rfl, .inl ⟨_, upd_same⟩⟩)), D2, kv2, rfl, rfl, upd_same, ?_⟩
  exact ⟨fun b o' e => by rw [upd_ne (ne_of_none e fD2), upd_ne (ne_of_none e fD2)]; exact sJ _ _ e, by rw [upd_ne nl2, upd_ne nl2]; exact eJl, _, _, _, _, _, rfl⟩
end
end L

set_option Elab.async false
set_option linter.all false
set_option maxRecDepth 100000
set_option maxHeartbeats 4000000
/-! Own layer: list(zip(a, b)), a and b lists; xs[:0:-1]. -/
namespace KX
open PySem PySem.Spec PyProof.Rows L2
theorem zip_no_len : typeLookup (.type "zip") "__len__" = pure none := am_miss_of_fast (by decide +kernel)
theorem zip_no_hint : typeLookup (.type "zip") "__length_hint__" = pure none := am_miss_of_fast (by decide +kernel)
/-- the walk stands at i -/
def ZpS (N z TI TO : Addr) (h : Heap) : Prop := (IsZip h z TI TO .none ∧ ∃ a b, IsPair h TO a b) ∨ ∃ T f oT, IsZipHeld h z TI TO T f ∧ h.get? T = some oT ∧ N ≤ T
structure Zp (N z TI TO i1 i2 l1 l2 : Addr) (xs ys : Array Value) (i : Nat) (h : Heap) : Prop where
  st : ZpS N z TI TO h
  ti : IsPair h TI (.ref i1) (.ref i2)
  a1 : h.IsListIter i1 l1 i
  a2 : h.IsListIter i2 l2 i
  b1 : h.IsList l1 xs
  b2 : h.IsList l2 ys
theorem Zp.stay {N z TI TO i1 i2 l1 l2 S : Addr} {xs ys : Array Value} {i : Nat} {h h' : Heap} (Z : Zp N z TI TO i1 i2 l1 l2 xs ys i h) (bS : S < N) (n1 : z ≠ S) (n2 : TI ≠ S) (n3 : TO ≠ S) (n4 : i1 ≠ S) (n5 : i2 ≠ S) (n6 : l1 ≠ S) (n7 : l2 ≠ S)
    (hk : ∀ b o, b ≠ S → h.get? b = some o → h'.get? b = some o) : Zp N z TI TO i1 i2 l1 l2 xs ys i h' := by
  refine ⟨?_, hk _ _ n2 Z.ti, ?_, ?_, ?_, ?_⟩
  · rcases Z.st with ⟨a, x, y, b⟩ | ⟨T, f, oT, a, b, c⟩
    · exact .inl ⟨hk _ _ n1 a, x, y, hk _ _ n3 b⟩
    · exact .inr ⟨T, f, oT, hk _ _ n1 a, hk _ _ (Nat.ne_of_gt (Nat.lt_of_lt_of_le bS c)) b, c⟩
  · obtain ⟨o, q, r⟩ := Z.a1; exact ⟨o, hk _ _ n4 q, r⟩
  · obtain ⟨o, q, r⟩ := Z.a2; exact ⟨o, hk _ _ n5 q, r⟩
  · obtain ⟨o, q, r⟩ := Z.b1; exact ⟨o, hk _ _ n6 q, r⟩
  · obtain ⟨o, q, r⟩ := Z.b2; exact ⟨o, hk _ _ n7 q, r⟩
/-- the pairs so far, one behind the other -/
def PrZ (xs ys : Array Value) (N i : Nat) (h : Heap) : Prop := ∀ j x y, j < i → xs[j]? = some x → ys[j]? = some y → h.get? (N + j) = some { cls := .type "tuple", data := .seq #[x, y] }
section
variable {prog : Program} {w : World} {A : Around} {R : Result → Shared → Prop} {z TI TO i1 i2 l1 l2 S : Addr} {xs ys : Array Value} {N n : Nat} {res : Value}
theorem zip_loop (hh : A.in1.handled = none) (hn : n = min xs.size ys.size) (hz : n ≤ sizeLine) (D : ZipApart z TI TO i1 i2 l1 l2) (bS : S < N) (bz : z < N) (bO : TO < N) (bi1 : i1 < N) (bi2 : i2 < N)
    (n1 : z ≠ S) (n2 : TI ≠ S) (n3 : TO ≠ S) (n4 : i1 ≠ S) (n5 : i2 ≠ S) (n6 : l1 ≠ S) (n7 : l2 ≠ S) :
    ∀ (k i : Nat) (s : Shared) (acc : Array Value) (c : Nat), acc.toList = refsTo N i → n - i = k → i ≤ n → s.heap.objs.size = N + i → Zp N z TI TO i1 i2 l1 l2 xs ys i s.heap →
      s.heap.get? S = some { cls := .type "list", dict := none, data := .seq acc c, slots := #[] } → PrZ xs ys N i s.heap →
      (∀ h' (acc' : Array Value) c', acc'.toList = refsTo N n → (∀ b o, b ≠ z → b ≠ TO → b ≠ i1 → b ≠ i2 → b ≠ S → s.heap.get? b = some o → h'.get? b = some o) → h'.get? S = some { cls := .type "list", dict := none, data := .seq acc' c', slots := #[] } →
        PrZ xs ys N n h' → R (.ok (.ret res)) { s with heap := h' }) →
      codeAny (model prog w) A (.builtin "list.extend.loop" ⟨[.ref S, .ref z, res], []⟩) R s := by
  intro k
  induction k with
  | zero =>
    intro i s acc c hacc hk hi hN Z hS hP hR
    have hin : i = n := by omega
    subst hin
    refine codeAny_builtin F.entry_extend_loop ?_
    rw [Around.under_plainId F.plain_extend_loop _]
    show wpAny _ A.in1 (pyNext (.ref z) >>= _) _ _ s
    have hend : xs[i]? = none ∨ ys[i]? = none := by
      by_cases h : xs.size ≤ ys.size
      · exact .inl (Array.getElem?_eq_none (by omega))
      · exact .inr (Array.getElem?_eq_none (by omega))
    have fin : ∀ h', (∀ b o, b ≠ z → b ≠ TO → b ≠ i1 → b ≠ i2 → s.heap.get? b = some o → h'.get? b = some o) → R (.ok (.ret res)) { s with heap := h' } := fun h' x => by
      refine hR h' acc c hacc (fun b o m1 m2 m3 m4 _ q => x b o m1 m2 m3 m4 q) (x S _ (Ne.symm n1) (Ne.symm n3) (Ne.symm n4) (Ne.symm n5) hS) fun j x' y' hj hx hy => ?_
      exact x _ _ (nA0 bz) (nA0 bO) (nA0 bi1) (nA0 bi2) (hP j x' y' hj hx hy)
    refine wpAny_bind ?_
    rcases Z.st with ⟨a, x, y, b⟩ | ⟨T, f, oT, a, b, _⟩
    · exact wpAny_pyNext_zip_end hh D a Z.ti b Z.a1 Z.a2 Z.b1 Z.b2 hend fun h' hx => wpAny_pure (fin h' hx)
    · exact wpAny_pyNext_zip_end_held hh D a b Z.ti Z.a1 Z.a2 Z.b1 Z.b2 hend fun h' hx => wpAny_pure (fin h' fun b o m1 m2 m3 m4 => hx b o m1 m3 m4)
  | succ k ih =>
    intro i s acc c hacc hk hi hN Z hS hP hR
    have hlt : i < n := by omega
    refine codeAny_builtin F.entry_extend_loop ?_
    rw [Around.under_plainId F.plain_extend_loop _]
    show wpAny _ A.in1 (pyNext (.ref z) >>= _) _ _ s
    have hx : xs[i]? = some xs[i] := Array.getElem?_eq_getElem (by omega)
    have hy : ys[i]? = some ys[i] := Array.getElem?_eq_getElem (by omega)
    have go : ∀ h', Zp N z TI TO i1 i2 l1 l2 xs ys (i + 1) h' → IsPair h' s.heap.objs.size xs[i] ys[i] → h'.objs.size = s.heap.objs.size + 1 →
        (∀ b o, b ≠ z → b ≠ TO → b ≠ i1 → b ≠ i2 → s.heap.get? b = some o → h'.get? b = some o) →
        wpAny (model prog w) A.in1 (updateSeq S (·.push (.ref s.heap.objs.size)) >>= fun _ => again (.builtin "list.extend.loop" ⟨[.ref S, .ref z, res], []⟩))
          (fun fin s' => match fin with | .done f => R (.ok f) s' | .again c' => c'.quiet = true ∧ codeAny (model prog w) A c' R s') (fun e s' => R (.error e) s') { s with heap := h' } := by
      intro h' Z' hT hsz hk'
      have hS' := hk' S _ (Ne.symm n1) (Ne.symm n3) (Ne.symm n4) (Ne.symm n5) hS
      have sz : acc.size = i := by rw [← Array.length_toList, hacc, refsTo_len]
      refine wpAny_bind ?_
      have oth : ∀ b, b ≠ S → (h'.update S (Obj.mapSeq (·.push (.ref s.heap.objs.size)))).get? b = h'.get? b := fun b hb => Heap.get?_update_other _ _ (fun z => hb z.symm)
      refine wpAny_updateSeq hS' rfl (wpAny_pure ⟨plainId_quiet F.plain_extend_loop _, ih (i + 1) _ (acc.push (.ref s.heap.objs.size)) _ (by rw [Array.toList_push, hacc, refsTo_next, hN]) (by omega) hlt ?_ ?_ (Heap.get?_update_self _ hS' rfl) ?_ fun h2 acc2 c' ha2 hk2 hS2 hP2 => ?_⟩) (by rw [sz]; omega) (by show (acc.push _).size ≤ _; rw [Array.size_push, sz]; omega)
      · show (h'.update S _).objs.size = _
        rw [Heap.size_update, hsz]; omega
      · exact Z'.stay bS n1 n2 n3 n4 n5 n6 n7 fun b o hb e => (oth b hb).trans e
      · intro j x' y' hj hx' hy'
        by_cases q : j = i
        · subst q
          rw [hx] at hx'
          rw [hy] at hy'
          cases hx'
          cases hy'
          exact (oth _ (nA0 bS)).trans (by rw [← hN]; exact hT)
        · exact (oth _ (nA0 bS)).trans (hk' _ _ (nA0 bz) (nA0 bO) (nA0 bi1) (nA0 bi2) (hP j x' y' (by omega) hx' hy'))
      · exact hR h2 acc2 c' ha2 (fun b o m1 m2 m3 m4 m5 q => hk2 b o m1 m2 m3 m4 m5 ((oth b m5).trans (hk' b o m1 m2 m3 m4 q))) hS2 hP2
    refine wpAny_bind ?_
    have bT : ∀ h', (∀ b o, b ≠ z → b ≠ TO → b ≠ i1 → b ≠ i2 → s.heap.get? b = some o → h'.get? b = some o) → IsPair h' TI (.ref i1) (.ref i2) ∧ h'.IsList l1 xs ∧ h'.IsList l2 ys := fun h' hk' =>
      ⟨hk' _ _ D.TIz D.TITO D.TIi1 D.TIi2 Z.ti, by obtain ⟨o, q, r⟩ := Z.b1; exact ⟨o, hk' _ _ D.l1z D.l1TO D.l1i1 D.l1i2 q, r⟩, by obtain ⟨o, q, r⟩ := Z.b2; exact ⟨o, hk' _ _ D.l2z D.l2TO D.l2i1 D.l2i2 q, r⟩⟩
    rcases Z.st with ⟨a, x, y, b⟩ | ⟨T, f, oT, a, b, c2⟩
    · refine wpAny_pyNext_zip_item D a Z.ti b Z.a1 Z.a2 Z.b1 Z.b2 hx hy fun h' ho _ h1 h2 hT hsz hk' => ?_
      obtain ⟨t1, t2, t3⟩ := bT h' hk'
      exact go h' ⟨.inr ⟨s.heap.objs.size, false, _, ho, hT, by rw [hN]; exact Nat.le_add_right _ _⟩, t1, h1, h2, t2, t3⟩ hT hsz hk'
    · refine wpAny_pyNext_zip_item_held D a b Z.ti Z.a1 Z.a2 Z.b1 Z.b2 hx hy fun h' ho h1 h2 hT hsz hk' => ?_
      have hk2 : ∀ b o, b ≠ z → b ≠ TO → b ≠ i1 → b ≠ i2 → s.heap.get? b = some o → h'.get? b = some o := fun b o m1 m2 m3 m4 q => hk' b o m1 m3 m4 q
      obtain ⟨t1, t2, t3⟩ := bT h' hk2
      have gt : ∀ {u : Nat}, u < N → T ≠ u := fun hu => Nat.ne_of_gt (Nat.lt_of_lt_of_le hu c2)
      exact go h' ⟨.inr ⟨T, true, oT, ho, hk2 T oT (gt bz) (gt bO) (gt bi1) (gt bi2) b, c2⟩, t1, h1, h2, t2, t3⟩ hT hsz hk2
end
section
variable {prog : Program} {w : World} {A : Around} {E : Value → Shared → Prop} {R : Result → Shared → Prop} {s : Shared} {z TI TO i1 i2 l1 l2 S : Addr} {xs ys : Array Value} {n : Nat}
/-- what a new zip is -/
structure ZNew (z TI TO i1 i2 l1 l2 : Addr) (xs ys : Array Value) (h : Heap) : Prop where
  zp : IsZip h z TI TO .none
  ti : IsPair h TI (.ref i1) (.ref i2)
  to : ∃ a b, IsPair h TO a b
  a1 : h.IsListIter i1 l1 0
  a2 : h.IsListIter i2 l2 0
  b1 : h.IsList l1 xs
  b2 : h.IsList l2 ys
theorem ZNew.stay {h h' : Heap} (Z : ZNew z TI TO i1 i2 l1 l2 xs ys h) (hk : ∀ b o, b ≠ S → h.get? b = some o → h'.get? b = some o) (n1 : z ≠ S) (n2 : TI ≠ S) (n3 : TO ≠ S) (n4 : i1 ≠ S) (n5 : i2 ≠ S) (n6 : l1 ≠ S) (n7 : l2 ≠ S) : ZNew z TI TO i1 i2 l1 l2 xs ys h' := by
  obtain ⟨a, b, e⟩ := Z.to
  refine ⟨hk _ _ n1 Z.zp, hk _ _ n2 Z.ti, ⟨a, b, hk _ _ n3 e⟩, ?_, ?_, ?_, ?_⟩
  · obtain ⟨o, q, r⟩ := Z.a1; exact ⟨o, hk _ _ n4 q, r⟩
  · obtain ⟨o, q, r⟩ := Z.a2; exact ⟨o, hk _ _ n5 q, r⟩
  · obtain ⟨o, q, r⟩ := Z.b1; exact ⟨o, hk _ _ n6 q, r⟩
  · obtain ⟨o, q, r⟩ := Z.b2; exact ⟨o, hk _ _ n7 q, r⟩
theorem ZNew.lt {h : Heap} (Z : ZNew z TI TO i1 i2 l1 l2 xs ys h) : z < h.objs.size ∧ TO < h.objs.size ∧ i1 < h.objs.size ∧ i2 < h.objs.size ∧ TI < h.objs.size ∧ l1 < h.objs.size ∧ l2 < h.objs.size := by
  obtain ⟨a, b, e⟩ := Z.to
  refine ⟨Heap.lt_size Z.zp, Heap.lt_size e, ?_, ?_, Heap.lt_size Z.ti, ?_, ?_⟩
  · obtain ⟨o, q, r⟩ := Z.a1; exact Heap.lt_size q
  · obtain ⟨o, q, r⟩ := Z.a2; exact Heap.lt_size q
  · obtain ⟨o, q, r⟩ := Z.b1; exact Heap.lt_size q
  · obtain ⟨o, q, r⟩ := Z.b2; exact Heap.lt_size q
theorem extend_zip (hh : A.in1.handled = none) (hn : n = min xs.size ys.size) (hz : n ≤ sizeLine) (D : ZipApart z TI TO i1 i2 l1 l2)
    (n1 : z ≠ S) (n2 : TI ≠ S) (n3 : TO ≠ S) (n4 : i1 ≠ S) (n5 : i2 ≠ S) (n6 : l1 ≠ S) (n7 : l2 ≠ S) (Z : ZNew z TI TO i1 i2 l1 l2 xs ys s.heap)
    (res : Value) (c₀ : Nat) (hS : s.heap.get? S = some { cls := .type "list", data := .seq #[] c₀ })
    (hR : ∀ h' (acc' : Array Value) c', acc'.toList = refsTo s.heap.objs.size n → (∀ b o, b ≠ z → b ≠ TO → b ≠ i1 → b ≠ i2 → b ≠ S → s.heap.get? b = some o → h'.get? b = some o) → h'.get? S = some { cls := .type "list", dict := none, data := .seq acc' c', slots := #[] } →
        PrZ xs ys s.heap.objs.size n h' → R (.ok (.ret res)) { s with heap := h' }) :
    wpAny (model prog w) A.in1 (Builtin.List.listExtendWith (.ref S) (.ref z) res)
      (fun fin s' => match fin with | .done f => R (.ok f) s' | .again c' => c'.quiet = true ∧ codeAny (model prog w) A c' R s') (fun e s' => R (.error e) s') s := by
  have hT : s.TypeIs (.ref z) "zip" := ⟨_, Z.zp, rfl⟩
  unfold Builtin.List.listExtendWith
  refine wpAny_bind (wpAny_typeOf hT ?_)
  have h1 : Builtin.List.listSameRef (.ref S) (.ref z) = false := by simp [Builtin.List.listSameRef, Ne.symm n1]
  have h2 : (Value.type "zip" == Value.type "list") = false := by decide
  have h3 : (Value.type "zip" == Value.type "tuple") = false := by decide
  simp only [h1, h2, h3, Bool.or_false, Bool.false_eq_true, if_false]
  refine wpAny_bind (wpAny_pyIter_zip Z.zp ?_)
  refine wpAny_bind (wpAny_holding ?_)
  unfold Builtin.List.listLengthHint
  refine wpAny_bind (wpAny_specialOf hT zip_no_len ?_)
  show wpAny _ A.in1 (specialOf (Value.ref z) (Str.ofString "__length_hint__") >>= _) _ _ _
  refine wpAny_bind (wpAny_specialOf hT zip_no_hint ?_)
  refine wpAny_pure ?_
  show wpAny _ A.in1 (rule "list.extend.makes-room" >>= fun _ => Builtin.List.listTouch (.ref S) >>= fun _ =>
    again (.builtin "list.extend.loop" ⟨[.ref S, .ref z, res], []⟩)) _ _ _
  refine wpAny_bind (wpAny_rule ?_)
  refine wpAny_bind ?_
  show wpAny _ A.in1 (updateSeq S (·.push .none) >>= fun _ => updateSeq S (·.pop)) _ _ _
  refine wpAny_bind (wpAny_updateSeq hS rfl ?_)
  have hS₂ := Heap.get?_update_self (Obj.mapSeq (·.push Value.none)) hS rfl
  refine wpAny_updateSeq (hz := by seq_fits) hS₂ rfl ?_
  have hS₃ := Heap.get?_update_self (Obj.mapSeq (·.pop)) hS₂ rfl
  have oth : ∀ b o, b ≠ S → s.heap.get? b = some o → ((s.heap.update S (Obj.mapSeq (·.push Value.none))).update S (Obj.mapSeq (·.pop))).get? b = some o :=
    fun b o hb e => (Heap.get?_update_other _ _ (Ne.symm hb)).trans ((Heap.get?_update_other _ _ (Ne.symm hb)).trans e)
  have sz : ((s.heap.update S (Obj.mapSeq (·.push Value.none))).update S (Obj.mapSeq (·.pop))).objs.size = s.heap.objs.size := by rw [Heap.size_update, Heap.size_update]
  have li := Heap.lt_size hS
  obtain ⟨bz, bO, bi1, bi2, _⟩ := Z.lt
  have Z' := Z.stay oth n1 n2 n3 n4 n5 n6 n7
  refine wpAny_pure ⟨plainId_quiet F.plain_extend_loop _, zip_loop (N := s.heap.objs.size) hh hn hz D li bz bO bi1 bi2 n1 n2 n3 n4 n5 n6 n7 n 0 _ #[] _ rfl (by omega) (Nat.zero_le _) (by show Array.size _ = _; rw [sz]; rfl)
    ⟨.inl ⟨Z'.zp, Z'.to⟩, Z'.ti, Z'.a1, Z'.a2, Z'.b1, Z'.b2⟩ hS₃ (fun j x y hj => absurd hj (Nat.not_lt_zero _)) fun h' acc' c' ha hk hS' hP => ?_⟩
  exact hR h' acc' c' (by rw [ha]) (fun b o m1 m2 m3 m4 m5 q => hk b o m1 m2 m3 m4 m5 (oth b o m5 q)) hS' hP
theorem list_init_zip (hh : A.in1.handled = none) (hn : n = min xs.size ys.size) (hz : n ≤ sizeLine) (D : ZipApart z TI TO i1 i2 l1 l2)
    (n1 : z ≠ S) (n2 : TI ≠ S) (n3 : TO ≠ S) (n4 : i1 ≠ S) (n5 : i2 ≠ S) (n6 : l1 ≠ S) (n7 : l2 ≠ S) (Z : ZNew z TI TO i1 i2 l1 l2 xs ys s.heap)
    (hS : s.heap.get? S = some { cls := .type "list", data := .seq #[] })
    (hR : ∀ h' (acc' : Array Value) c', acc'.toList = refsTo s.heap.objs.size n → (∀ b o, b ≠ z → b ≠ TO → b ≠ i1 → b ≠ i2 → b ≠ S → s.heap.get? b = some o → h'.get? b = some o) → h'.get? S = some { cls := .type "list", dict := none, data := .seq acc' c', slots := #[] } →
        PrZ xs ys s.heap.objs.size n h' → R (.ok (.ret .none)) { s with heap := h' }) :
    wpAny (model prog w) A.in1 (Builtin.«list.__init__» ⟨[.ref S, .ref z], []⟩)
      (fun fin s' => match fin with | .done f => R (.ok f) s' | .again c' => c'.quiet = true ∧ codeAny (model prog w) A c' R s') (fun e s' => R (.error e) s') s := by
  show wpAny _ A.in1 (do let old ← Builtin.List.listItems (.ref S); Builtin.List.listUpdate (.ref S) (fun _ => #[]); letGo old.toList.reverse; Builtin.List.listExtendWith (.ref S) (.ref z) .none) _ _ s
  refine wpAny_bind ?_
  unfold Builtin.List.listItems
  refine wpAny_bind (wpAny_seqItems hS rfl (wpAny_pure ?_))
  show wpAny _ A.in1 (updateSeq S (fun _ => #[]) >>= fun _ => letGo (#[] : Array Value).toList.reverse >>= fun _ => Builtin.List.listExtendWith (.ref S) (.ref z) .none) _ _ s
  refine wpAny_bind (wpAny_updateSeq hS rfl ?_)
  have hS₂ := Heap.get?_update_self (Obj.mapSeq (fun _ => (#[] : Array Value))) hS rfl
  have oth : ∀ b o, b ≠ S → s.heap.get? b = some o → (s.heap.update S (Obj.mapSeq (fun _ => (#[] : Array Value)))).get? b = some o :=
    fun b o hb e => (Heap.get?_update_other _ _ (Ne.symm hb)).trans e
  have sz : (s.heap.update S (Obj.mapSeq (fun _ => (#[] : Array Value)))).objs.size = s.heap.objs.size := Heap.size_update ..
  refine wpAny_bind (wpAny_letGo ?_)
  refine extend_zip hh hn hz D n1 n2 n3 n4 n5 n6 n7 (Z.stay oth n1 n2 n3 n4 n5 n6 n7) .none _ hS₂ fun h' acc' c' ha hk hS' hP => ?_
  have sz' : ({ s with heap := s.heap.update S (Obj.mapSeq (fun _ => (#[] : Array Value))) } : Shared).heap.objs.size = s.heap.objs.size := sz
  rw [sz'] at ha hP
  exact hR h' acc' c' ha (fun b o m1 m2 m3 m4 m5 q => hk b o m1 m2 m3 m4 m5 (oth b o m5 q)) hS' hP
theorem call_list_zip {Q : Value → Shared → Prop} (hh : A.handled = none) (hn : n = min xs.size ys.size) (hz : n ≤ sizeLine) (D : ZipApart z TI TO i1 i2 l1 l2) (Z : ZNew z TI TO i1 i2 l1 l2 xs ys s.heap)
    (hQ : ∀ h' (acc' : Array Value) c', acc'.toList = refsTo (s.heap.objs.size + 1) n → (∀ b o, b ≠ z → b ≠ TO → b ≠ i1 → b ≠ i2 → s.heap.get? b = some o → h'.get? b = some o) → h'.get? s.heap.objs.size = some { cls := .type "list", dict := none, data := .seq acc' c', slots := #[] } →
        PrZ xs ys (s.heap.objs.size + 1) n h' → Q (.ref s.heap.objs.size) { s with heap := h' }) :
    wpAny (model prog w) A (call (.type "list") [.ref z]) Q E s := by
  refine callType_codes (Q₁ := fun obj s₁ => obj = .ref s.heap.objs.size ∧ s₁ = { s with heap := s.heap.push { cls := .type "list", data := .seq #[] } }) F.called_list (F.typeCall_list_1 _) F.entry_list_init
    (code_list_new _ ⟨rfl, rfl⟩) fun obj s₁ h₁ => ?_
  obtain ⟨rfl, rfl⟩ := h₁
  have hS : (s.heap.push { cls := .type "list", data := .seq #[] }).get? s.heap.objs.size = some { cls := .type "list", data := .seq #[] } := Heap.get?_push_size _ rfl
  obtain ⟨b1, b2, b3, b4, b5, b6, b7⟩ := Z.lt
  have pz : (s.heap.push { cls := .type "list", data := .seq #[] }).objs.size = s.heap.objs.size + 1 := Heap.size_push ..
  refine ⟨⟨_, hS, rfl⟩, F.args_list_init_2 _ _, list_init_zip (A := A.in1) (by simp [hh]) hn hz D (Nat.ne_of_lt b1) (Nat.ne_of_lt b5) (Nat.ne_of_lt b2) (Nat.ne_of_lt b3) (Nat.ne_of_lt b4) (Nat.ne_of_lt b6) (Nat.ne_of_lt b7)
    (Z.stay (S := s.heap.objs.size) (fun b o _ q => Heap.get?_push_of_some _ q) (Nat.ne_of_lt b1) (Nat.ne_of_lt b5) (Nat.ne_of_lt b2) (Nat.ne_of_lt b3) (Nat.ne_of_lt b4) (Nat.ne_of_lt b6) (Nat.ne_of_lt b7)) hS fun h' acc' c' ha hk hS' hP => ?_⟩
  have pz' : ({ s with heap := s.heap.push { cls := .type "list", data := .seq #[] } } : Shared).heap.objs.size = s.heap.objs.size + 1 := pz
  rw [pz'] at ha hP
  exact ⟨rfl, hQ h' acc' c' ha (fun b o m1 m2 m3 m4 q => hk b o m1 m2 m3 m4 (Nat.ne_of_lt (Heap.lt_size q)) (Heap.get?_push_of_some _ q)) hS' hP⟩
end
/-- list(zip(a, b)) -/
def tListZip (K : PySem.W.Frag) (ta : TA) : TE := fun σ H Q => ta σ H fun vs H1 => ∃ (a b : Addr) (xs ys : List V), vs = [.ref a, .ref b] ∧ SqL K H1 a xs ∧ SqL K H1 b ys ∧ ∀ (p : Addr) (ts : List Addr) (H2 : Hp), ts.length = min xs.length ys.length → H1 p = none → Same H1 H2 → H2 p = some (.lst (ts.map V.ref)) →
  (∀ (j : Nat) (x y : V), xs[j]? = some x → ys[j]? = some y → ∃ T : Addr, ts[j]? = some T ∧ H1 T = none ∧ T ≠ p ∧ H2 T = some (.tup [x, y])) → Q (.ref p) H2
/-- the heap with the list at S, the pairs behind it -/
def zpH (H : Hp) (S : Addr) (xs ys : List V) : Hp := fun b => if b = S then some (.lst ((List.range (min xs.length ys.length)).map fun j => V.ref (S + 1 + j))) else if S + 1 ≤ b ∧ b < S + 1 + min xs.length ys.length then some (.tup [xs.getD (b - (S + 1)) .non, ys.getD (b - (S + 1)) .non]) else H b
theorem zpH_S {H : Hp} {S : Addr} {xs ys : List V} : zpH H S xs ys S = some (.lst ((List.range (min xs.length ys.length)).map fun j => V.ref (S + 1 + j))) := if_pos rfl
theorem zpH_T {H : Hp} {S : Addr} {xs ys : List V} {j : Nat} {x y : V} (h : xs[j]? = some x) (h' : ys[j]? = some y) : zpH H S xs ys (S + 1 + j) = some (.tup [x, y]) := by
  have hj := (List.getElem?_eq_some_iff.mp h).1
  have hj' := (List.getElem?_eq_some_iff.mp h').1
  unfold zpH
  have z := nA1 (S := S) (n := min xs.length ys.length) (j := j) (by omega)
  rw [if_neg z.1, if_pos z.2.1]
  rw [z.2.2, List.getD_eq_getElem?_getD, h, List.getD_eq_getElem?_getD, h']; rfl
theorem zpH_old {H : Hp} {S b : Addr} {xs ys : List V} (h : b < S) : zpH H S xs ys b = H b := by
  unfold zpH
  rw [if_neg (Nat.ne_of_lt h), if_neg (fun z => absurd z.1 (Nat.not_le_of_lt (Nat.lt_succ_of_lt h)))]
section
variable {X : Cx}
theorem pe_listZip {K : PySem.W.Frag} (hK : X.K = K) {e e2 : Expr} {ta : TA} {p p2 pos pos2 : Pos} (hc : X.calm = true) (hg : Gl X "list") (hm : X.mg "list" = none) (hg2 : Gl X "zip") (hm2 : X.mg "zip" = none) (ha : PA X [e, e2] ta)
    (hs : starEach [e, e2] X.env = (false, eval e X.env) :: starEach [e2] X.env := by rfl) (hpl : (backTo pos2 (starEach [e2] X.env)).any (·.1) = false := by rfl)
    (na : starEach [.Call (.Name "zip" p2) [e, e2] [] pos2] X.env = (false, eval (.Call (.Name "zip" p2) [e, e2] [] pos2) X.env) :: starEach [] X.env := by rfl) :
    PE X (.Call (.Name "list" p) [.Call (.Name "zip" p2) [e, e2] [] pos2] [] pos) (tListZip K ta) := by
  subst hK
  refine ⟨fun pins s σ H Q I h => ?_⟩
  refine Call_ (ld_blt I hg hm boot_list (PyProof.Rows.callWith_type1 (args_cons (Call_ (ld_blt I hg2 hm2 PyProof.Rows.boot_zip (PyProof.Rows.callWith_type1 (thn (ha.run pos2 pins s σ H _ I h) fun us s1 ⟨vs, H1, I1, r1, q1⟩ => ?_) hs hpl))) na) na))
  obtain ⟨a, b, xs, ys, ex, hqa, hqb, q⟩ := q1
  subst ex
  cases r1 with
  | cons r rr =>
    cases rr with
    | cons r' rr =>
      cases rr
      cases r
      cases r'
      obtain ⟨its, rv, p1, hz1⟩ := I1.list hqa
      obtain ⟨its2, rv2, p2', hz2⟩ := I1.list hqb
      refine call_zip_2 p1.isList p2'.isList fun h' hzp hTI hTO h1 h2 hsz hk => args_nil ?_
      have la : a < s1.heap.objs.size := by obtain ⟨_, q, _⟩ := p1.isList; exact Heap.lt_size q
      have lb : b < s1.heap.objs.size := by obtain ⟨_, q, _⟩ := p2'.isList; exact Heap.lt_size q
      have D := PySem.W.ktu_apart s1.heap.objs.size a b la lb
      have Z : ZNew (s1.heap.objs.size + 4) (s1.heap.objs.size + 2) (s1.heap.objs.size + 3) s1.heap.objs.size (s1.heap.objs.size + 1) a b its.toArray its2.toArray h' :=
        ⟨hzp, hTI, ⟨_, _, hTO⟩, h1, h2, by obtain ⟨o, q, r⟩ := p1.isList; exact ⟨o, hk _ _ q, r⟩, by obtain ⟨o, q, r⟩ := p2'.isList; exact ⟨o, hk _ _ q, r⟩⟩
      have l1 := rv.length
      have l2 := rv2.length
      have hn : min xs.length ys.length = min its.toArray.size its2.toArray.size := by rw [List.size_toArray, List.size_toArray, l1, l2]
      have hN : h'.objs.size = s1.heap.objs.size + 5 := hsz
      refine call_list_zip (s := { s1 with heap := h' }) (I1.ok.hd hc) hn (by omega) D Z fun h2 acc2 c' ha2 hk2 hS hP => ?_
      have ea : acc2 = (refsTo (h'.objs.size + 1) (min xs.length ys.length)).toArray := by rw [← ha2]
      rw [ea] at hS
      have keep : ∀ b o, s1.heap.get? b = some o → h2.get? b = some o := fun b o e => by
        have := Heap.lt_size e
        exact hk2 b o (Nat.ne_of_lt (Nat.lt_add_right 4 this)) (Nat.ne_of_lt (Nat.lt_add_right 3 this)) (Nat.ne_of_lt this) (Nat.ne_of_lt (Nat.lt_add_right 1 this)) (hk b o e)
      have old : ∀ b o, H1 b = some o → zpH H1 h'.objs.size xs ys b = some o := fun b o e => by
        rw [zpH_old (Nat.lt_of_lt_of_le (I1.hok b o e).lt (by rw [hN]; exact Nat.le_add_right _ _))]; exact e
      have new : ∀ b, s1.heap.objs.size ≤ b → H1 b = none := fun b hb => I1.hok.fresh hb
      have ok : HOk X.prog X.w (zpH H1 h'.objs.size xs ys) h2 := fun b u e => by
        by_cases hb : b < h'.objs.size
        · rw [zpH_old hb] at e
          exact (I1.hok b u e).stay (fun c v _ q => keep c v q) (fun c q => old c _ q) (fun c ys q => old c _ q)
        · by_cases hS' : b = h'.objs.size
          · rw [hS', zpH_S] at e
            cases e
            rw [hS']
            exact ⟨by rw [List.length_map, List.length_range]; omega, _, _, vals_refs _ _, hS⟩
          · unfold zpH at e
            rw [if_neg hS'] at e
            by_cases hr : h'.objs.size + 1 ≤ b ∧ b < h'.objs.size + 1 + min xs.length ys.length
            · rw [if_pos hr] at e
              cases e
              have hj : b - (h'.objs.size + 1) < min xs.length ys.length := (nA2 hr).1
              have hx : xs[b - (h'.objs.size + 1)]? = some (xs.getD (b - (h'.objs.size + 1)) .non) := by rw [List.getD_eq_getElem?_getD, List.getElem?_eq_getElem (Nat.lt_of_lt_of_le hj (Nat.min_le_left _ _))]; rfl
              have hy : ys[b - (h'.objs.size + 1)]? = some (ys.getD (b - (h'.objs.size + 1)) .non) := by rw [List.getD_eq_getElem?_getD, List.getElem?_eq_getElem (Nat.lt_of_lt_of_le hj (Nat.min_le_right _ _))]; rfl
              obtain ⟨v, hv, rl⟩ := vals_get rv hx
              obtain ⟨v2, hv2, rl2⟩ := vals_get rv2 hy
              have ht := hP (b - (h'.objs.size + 1)) v v2 hj (by rw [List.getElem?_toArray]; exact hv) (by rw [List.getElem?_toArray]; exact hv2)
              have eb : h'.objs.size + 1 + (b - (h'.objs.size + 1)) = b := (nA2 hr).2
              rw [show ({ s1 with heap := h' } : Shared).heap.objs.size + 1 + (b - (h'.objs.size + 1)) = b from eb] at ht
              exact ⟨by show 2 ≤ sizeLine; decide, [v, v2], .cons rl (.cons rl2 .nil), ⟨_, ht, rfl, _, rfl⟩⟩
            · rw [if_neg hr] at e
              exact absurd (I1.hok b u e).lt (Nat.not_lt_of_le (Nat.le_trans (by rw [hN]; exact Nat.le_add_right _ _) (Nat.le_of_not_lt hb)))
      have un : Un X.fs [] H1 (zpH H1 h'.objs.size xs ys) s1.heap h2 :=
        ⟨fun b o q _ _ _ => keep b o q, fun b o q _ _ _ => ⟨o.slots, keep b o q⟩, fun b o q n _ => by rw [zpH_old (Nat.lt_of_lt_of_le (Heap.lt_size q) (by rw [hN]; exact Nat.le_add_right _ _))]; exact n,
          fun b o q _ => ⟨o, keep b o q⟩, fun b ys q => old b _ q, fun b o u q => old b _ q, fun b ps q => ⟨#[], by rw [old b _ q]; simp⟩⟩
      refine ⟨.ref h'.objs.size, zpH H1 h'.objs.size xs ys, I1.un (t' := s1.toks) un ok, rfl, ?_⟩
      refine q h'.objs.size ((List.range (min xs.length ys.length)).map fun j => h'.objs.size + 1 + j) _ (by rw [List.length_map, List.length_range]) (new _ (by omega)) old (by rw [zpH_S, List.map_map]; rfl) fun j x y hx hy => ?_
      have hj := (List.getElem?_eq_some_iff.mp hx).1
      have hj' := (List.getElem?_eq_some_iff.mp hy).1
      exact ⟨h'.objs.size + 1 + j, by rw [List.getElem?_map, List.getElem?_range (by omega)]; rfl, new _ (by omega), by show ¬ (h'.objs.size + 1 + j : Nat) = _; omega, zpH_T hx hy⟩
end
/-! ### xs[:0:-1] -/
theorem sl0_range (n : Nat) : sliceRange ((n : Int) - 1) 0 (-1) = (List.range (n - 1)).map fun k => n - 1 - k := by
  unfold sliceRange
  have h1 : ¬ ((-1 : Int) > 0) := by decide
  by_cases h : (n : Int) - 1 > 0
  · have e : ((n : Int) - 1 - 0 - -1 - 1) / (- -1) = ((n - 1 : Nat) : Int) := by
      rw [show (- -1 : Int) = 1 by decide, Int.ediv_one]
      omega
    simp only [h1, if_false, h, if_true, e, Int.toNat_natCast]
    apply List.map_congr_left
    intro k hk
    have := List.mem_range.mp hk
    omega
  · have e : n - 1 = 0 := by omega
    rw [e]
    simp only [h1, if_false, h]
    rfl
theorem fm_some {α β : Type} {f : α → Option β} {g : α → β} : ∀ {l : List α}, (∀ x, x ∈ l → f x = some (g x)) → l.filterMap f = l.map g
  | [], _ => rfl
  | x :: l, h => by rw [List.filterMap_cons, h x List.mem_cons_self, List.map_cons, fm_some fun y hy => h y (List.mem_cons_of_mem _ hy)]
theorem sl0_pick {items : Array Value} (h : 1 ≤ items.size) : slicePick items none (some 0) (some (-1)) = (items.toList.drop 1).reverse.toArray := by
  unfold slicePick
  have hb : sliceBounds none (some 0) (some (-1)) items.size = ((items.size : Int) - 1, 0, -1) := by
    simp [sliceBounds]
    omega
  rw [hb]
  show ((sliceRange ((items.size : Int) - 1) 0 (-1)).filterMap (items[·]?)).toArray = _
  rw [sl0_range, List.filterMap_map]
  congr 1
  have hc : ∀ k, k ∈ List.range (items.size - 1) → ((fun x => items[x]?) ∘ fun k => items.size - 1 - k) k = some (items.toList.getD (items.size - 1 - k) .none) := fun k hk => by
    have := List.mem_range.mp hk
    show items[items.size - 1 - k]? = _
    rw [List.getD_eq_getElem?_getD, Array.getElem?_toList, Array.getElem?_eq_getElem (by omega)]; rfl
  rw [fm_some hc]
  apply List.ext_getElem
  · simp
  · intro i h1 h2
    have h1' : i < items.size - 1 := by simpa using h1
    rw [List.getElem_map, List.getElem_range, List.getElem_reverse, List.getElem_drop, List.getD_eq_getElem?_getD, Array.getElem?_toList, Array.getElem?_eq_getElem (by omega)]
    simp only [Option.getD_some, Array.getElem_toList, List.length_drop, Array.length_toList]
    congr 1
    omega
def tRev0 (K : PySem.W.Frag) (te : TE) : TE := fun σ H Q => te σ H fun x H1 => ∃ a xs, x = .ref a ∧ SqL K H1 a xs ∧ 1 ≤ xs.length ∧ ∀ p, H1 p = none → Q (.ref p) (upd H1 p (.lst (xs.drop 1).reverse))
theorem vals_drop {xs : List V} {us : List Value} (h : Vals xs us) : ∀ k, Vals (xs.drop k) (us.drop k) := fun k => by
  induction h generalizing k with
  | nil => rw [List.drop_nil, List.drop_nil]; exact .nil
  | cons r t ih =>
    cases k with
    | zero => exact .cons r t
    | succ k => exact ih k
section
variable {X : Cx}
theorem pe_rev0 {e : Expr} {te : TE} {k k0 : Nat} {p0 p1 p2 p3 pos : Pos} (he : PE X e te) : PE X (.Subscript e (.Slice none (some (.Constant (.int 0) k0 p0)) (some (.UnaryOp .USub (.Constant (.int 1) k p1) p2)) p3) pos) (tRev0 X.K te) := by
  refine ⟨fun pins s σ H Q I h => ?_⟩
  refine Subscript_ (thn (he.run pins s σ H _ I h) fun v s1 ⟨x, H1, I1, r1, q1⟩ => ?_)
  obtain ⟨a, xs, ex, hx, hl, q⟩ := q1
  subst ex
  cases r1
  have hst : PO X (some (.UnaryOp .USub (.Constant (.int 1) k p1) p2)) (tPart (tUn (rU fun i => .int (-i)) (tC (.int 1)))) := po_some (pe_un un_neg pe_int)
  have hup : PO X (some (.Constant (.int 0) k0 p0)) (tPart (tC (.int 0))) := po_some pe_int
  refine wpAny_Slice (thn (po_none.run pins s1 σ H1 (fun o H2 => o = none ∧ H2 = H1) I1 ⟨rfl, rfl⟩) fun vl s2 ⟨l, H2, I2, pl, el, e2⟩ => ?_)
  subst el e2
  refine thn (hup.run pins s2 σ H2 (fun o H3 => o = some 0 ∧ H3 = H2) I2 ⟨0, rfl, rfl, rfl⟩) fun vu s3 ⟨u, H3, I3, pu, eu, e3⟩ => ?_
  subst eu e3
  refine thn (hst.run pins s3 σ H3 (fun o H4 => o = some (-1) ∧ H4 = H3) I3 ⟨1, rfl, -1, rfl, rfl, rfl⟩) fun vs s4 ⟨o, H4, I4, ps, eo, e4⟩ => ?_
  subst eo e4
  have I5 : Inv X pins σ H4 { s4 with heap := s4.heap.push { cls := .type "slice", data := .fields #[vl, vu, vs] } } := I4.kept (t' := s4.toks) fun b ob q => Heap.get?_push_of_some _ q
  obtain ⟨its, r, ht, hz⟩ := I5.list hx
  have hlen := r.length
  show wpAny (model X.prog X.w) X.A (subscriptTail e (.Slice none (some (.Constant (.int 0) k0 p0)) (some (.UnaryOp .USub (.Constant (.int 1) k p1) p2)) p3) (.ref a) (.ref s4.heap.objs.size)) (EP X pins σ Q) X.xe { s4 with heap := s4.heap.push { cls := .type "slice", data := .fields #[vl, vu, vs] } }
  refine tail_any (ops := [.ref a, .ref s4.heap.objs.size]) ht.isList.typeIs (PySem.slot_list_getitem.lookup) ?_ (by with_unfolding_all rfl)
  refine wpAny_getItem_list_slice ht.isList (Heap.IsSliceOf.new _ vl vu vs) pl pu ps (by decide) ?_ (by rw [List.size_toArray]; omega)
  rw [sl0_pick (by rw [List.size_toArray]; omega)]
  refine ⟨.ref _, _, I5.laid (t' := s4.toks) (o := .lst (xs.drop 1).reverse) (fun b ob q => Heap.get?_push_of_some _ q) (Nat.le_refl _) ?_, rfl, q _ (I5.hok.fresh (Nat.le_refl _))⟩
  exact ⟨by rw [List.length_reverse, List.length_drop]; omega, _, 0, (vals_drop r 1).reverse, Heap.get?_push_size _ rfl⟩
end
end KX

set_option Elab.async false
set_option linter.all false
set_option maxRecDepth 100000
set_option maxHeartbeats 4000000
set_option pp.maxSteps 400
namespace L
open PySem L2 KX
/-! letters made of pairs -/
abbrev sMx : Stmt := top 42
abbrev nMx : List Str := ["box", "letters", "left", "names", "k", "one"]
def mkL (ps : Ltt) : Ltt := ps.foldl (fun L q => putL L q.1 q.2) []
/-- what every pair is -/
structure Px (n : Nat) (L : Ltt) : Prop where
  mp : ∀ q, q ∈ L → Mp n q.2
  ss : ∀ q, q ∈ L → Ss 8 q.1
  nmk : ∀ q, q ∈ L → nm q.1 = true
theorem Px.of {n : Nat} {L : Ltt} (o : LOk n L) (no : NmOk L) : Px n L := ⟨o.mp, o.ss, no.nm⟩
theorem Px.put {n : Nat} {L : Ltt} {z : Str} {m : List Nat} (h : Px n L) (hz : Ss 8 z) (hn : nm z = true) (hm : Mp n m) : Px n (putL L z m) :=
  ⟨fun q hq => (putL_in q hq).elim (h.mp q) fun e => by rw [e.2]; exact hm, fun q hq => (putL_in q hq).elim (h.ss q) fun e => by rw [e.1]; exact hz, fun q hq => (putL_in q hq).elim (h.nmk q) fun e => by rw [e.1]; exact hn⟩
theorem fold_ok {n : Nat} : ∀ {ps L : Ltt}, Px n ps → Px n L → (L.map (·.1)).Nodup → Px n (ps.foldl (fun L q => putL L q.1 q.2) L) ∧ ((ps.foldl (fun L q => putL L q.1 q.2) L).map (·.1)).Nodup ∧ (ps.foldl (fun L q => putL L q.1 q.2) L).length ≤ L.length + ps.length ∧ (L ≠ [] ∨ ps ≠ [] → 1 ≤ (ps.foldl (fun L q => putL L q.1 q.2) L).length)
  | [], L, _, h, nd => ⟨h, nd, Nat.le_refl _, fun z => by
      rcases z with z | z
      · exact List.length_pos_iff.mpr z
      · exact absurd rfl z⟩
  | q :: ps, L, hp, h, nd => by
    have hq := List.mem_cons_self (a := q) (l := ps)
    obtain ⟨a, b, c, d⟩ := fold_ok (ps := ps) (L := putL L q.1 q.2) ⟨fun x hx => hp.mp x (List.mem_cons_of_mem _ hx), fun x hx => hp.ss x (List.mem_cons_of_mem _ hx), fun x hx => hp.nmk x (List.mem_cons_of_mem _ hx)⟩ (h.put (hp.ss q hq) (hp.nmk q hq) (hp.mp q hq)) (putL_nd nd)
    have := putL_len (L := L) (z := q.1) (m := q.2)
    exact ⟨a, b, by rw [List.length_cons]; exact Nat.le_trans c (by omega), fun _ => d (.inl (List.length_pos_iff.mp this.1))⟩
theorem mkL_ok {n : Nat} {ps : Ltt} (h : Px n ps) (l1 : 1 ≤ ps.length) (l4 : ps.length ≤ 4) (n1 : 1 ≤ n) (n5 : n ≤ 5) : LOk n (mkL ps) ∧ NmOk (mkL ps) := by
  obtain ⟨a, b, c, d⟩ := fold_ok (L := []) h ⟨fun _ z => (nomatch z), fun _ z => (nomatch z), fun _ z => (nomatch z)⟩ List.nodup_nil
  exact ⟨⟨d (.inr (List.length_pos_iff.mp l1)), Nat.le_trans c (by simpa using l4), n1, n5, a.mp, a.ss⟩, b, a.nmk⟩
theorem put_ok {n : Nat} {L : Ltt} {z : Str} {m : List Nat} (o : LOk n L) (no : NmOk L) (hz : z ∈ L.map (·.1)) (hm : Mp n m) : LOk n (putL L z m) ∧ NmOk (putL L z m) := by
  obtain ⟨q, hq, e⟩ := List.mem_map.mp hz
  have p := (Px.of o no).put (e ▸ o.ss q hq) (e ▸ no.nm q hq) hm
  have ln : (putL L z m).length = L.length := by unfold putL; rw [if_pos hz, List.length_map]
  exact ⟨⟨by rw [ln]; exact o.le, by rw [ln]; exact o.ge, o.n1, o.n5, p.mp, p.ss⟩, putL_nd no.nd, p.nmk⟩
theorem GvP.fold {H : Hp} : ∀ {more : List (Key × V)} {ps : Ltt} {acc : List (Key × V)} {L : Ltt}, GvP H more ps → GvP H acc L → GvP H (mergeK acc more) (ps.foldl (fun L q => putL L q.1 q.2) L)
  | [], [], acc, L, .nil, h => h
  | (k, v) :: more, q :: ps, acc, L, .cons h t, h' => by
    obtain ⟨h1, a, h2, h3⟩ := h
    dsimp only at h1 h2
    subst h1 h2
    exact GvP.fold (more := more) (ps := ps) (acc := putK acc (Sum.inr q.1) (.ref a)) t (GvP.put h' h3)
/-- a list of pairs of letters -/
def PrD (G : Hp) (D : Addr) (ps : Ltt) : Prop := ∃ as : List Addr, G D = some (.lst (as.map V.ref)) ∧ Paired (fun a (q : Str × List Nat) => a ≠ D ∧ ∃ t, G a = some (.tup [.str q.1, .ref t]) ∧ t ≠ D ∧ G t = some (.lst (nv q.2))) as ps
theorem PrD.nil {H : Hp} {D : Addr} : PrD (upd H D (.lst [])) D [] := ⟨[], upd_same, .nil⟩
theorem PrD.add {H G G' : Hp} {D T t : Addr} {ps : Ltt} {z : Str} {m : List Nat} (h : PrD G D ps) (s : Same G G') (hH : H D = none) (sH : Same H G') (hT : G' T = some (.tup [.str z, .ref t])) (ht : G' t = some (.lst (nv m))) (nt : t ≠ D) (l : ps.length < 1000) :
    ∃ acc, G' D = some (.lst acc) ∧ acc.length < sizeLine ∧ Same H (upd G' D (.lst (acc ++ [.ref T]))) ∧ PrD (upd G' D (.lst (acc ++ [.ref T]))) D (ps ++ [(z, m)]) := by
  obtain ⟨as, e, p⟩ := h
  have la : as.length = ps.length := p.length
  have e' := s _ _ e
  have nT : T ≠ D := ne_of hT e' fun z => nomatch z
  refine ⟨_, e', by rw [List.length_map, la]; exact small1000 (Nat.le_of_lt l), fun b o eb => by rw [upd_ne (ne_of_none eb hH)]; exact sH _ _ eb, as ++ [T], by rw [upd_same, List.map_append]; rfl, ?_⟩
  exact pair_app (L2.Paired.mapP p fun a q ⟨x1, t', x2, x3, x4⟩ => ⟨x1, t', by rw [upd_ne x1]; exact s _ _ x2, x3, by rw [upd_ne x3]; exact s _ _ x4⟩) ⟨nT, t, by rw [upd_ne nT]; exact hT, nt, by rw [upd_ne nt]; exact ht⟩
/-- the same beside the box -/
theorem PrD.addP {H G : Hp} {p D T t : Addr} {ps : Ltt} {z : Str} {m : List Nat} (h : PrD (mn p G) D ps) (nD : D ≠ p) (bG : Bx G p) (hH : H D = none) (sH : Same H G) (hT : G T = none) (ht : mn p G t = some (.lst (nv m))) (nt : t ≠ D) (l : ps.length < 1000) :
    ∃ acc, (upd G T (.tup [.str z, .ref t])) D = some (.lst acc) ∧ acc.length < sizeLine ∧ Same H (upd (upd G T (.tup [.str z, .ref t])) D (.lst (acc ++ [.ref T]))) ∧ PrD (mn p (upd (upd G T (.tup [.str z, .ref t])) D (.lst (acc ++ [.ref T])))) D (ps ++ [(z, m)]) := by
  have nTp : T ≠ p := bG.ne hT
  have hTm : mn p G T = none := by unfold mn; rw [if_neg nTp]; exact hT
  have s := Same.new hTm (.tup [.str z, .ref t])
  have hmH : mn p H D = none := by unfold mn; rw [if_neg nD]; exact hH
  obtain ⟨acc, a1, a2, a3, a4⟩ := h.add (T := T) (t := t) (z := z) (m := m) s hmH ((mn_mono sH).trans s) upd_same (s _ _ ht) nt l
  rw [← mn_out nTp] at a1 a4
  rw [← mn_out nD] at a4
  exact ⟨acc, mn_same _ _ a1, a2, fun b o e => by rw [upd_ne (ne_of_none e hH)]; exact Same.new hT _ _ _ (sH _ _ e), a4⟩
theorem PrD.to {G G' : Hp} {D : Addr} {ps : Ltt} (h : PrD G D ps) (s : Same G G') : PrD G' D ps := by
  obtain ⟨as, e, p⟩ := h
  exact ⟨as, s _ _ e, L2.Paired.mapP p fun a q ⟨x1, t', x2, x3, x4⟩ => ⟨x1, t', s _ _ x2, x3, s _ _ x4⟩⟩
/-- dict of it -/
theorem PrD.dict {K : PySem.W.Frag} {G G' : Hp} {D : Addr} {ps : Ltt} (h : PrD G D ps) (s : Same G G') : ∃ (as : List Addr) (lkv : List (Key × V)), SqL K G' D (as.map V.ref) ∧ Paired (fun p (kv : Key × V) => SqT K G' p [kV kv.1, kv.2]) as lkv ∧ GvP G lkv ps := by
  obtain ⟨as, e, p⟩ := h
  suffices h : ∃ lkv : List (Key × V), Paired (fun p (kv : Key × V) => SqT K G' p [kV kv.1, kv.2]) as lkv ∧ GvP G lkv ps by
    obtain ⟨lkv, h1, h2⟩ := h
    exact ⟨as, lkv, SqL.of (s _ _ e), h1, h2⟩
  clear e
  induction p with
  | nil => exact ⟨[], .nil, .nil⟩
  | @cons a q _ _ h _ ih =>
    obtain ⟨lkv, h1, h2⟩ := ih
    obtain ⟨_, t, e1, _, e2⟩ := h
    exact ⟨(Sum.inr q.1, .ref t) :: lkv, .cons (SqT.of (s _ _ e1)) h1, .cons ⟨rfl, t, rfl, e2⟩ h2⟩
theorem GvP.mk {G : Hp} {lkv : List (Key × V)} {ps : Ltt} (h : GvP G lkv ps) : GvP G (mergeK [] lkv) (mkL ps) := GvP.fold h .nil
/-- a letter of the letters -/
theorem gv_in {H : Hp} {l : Addr} {L : Ltt} (h : Gv H l L) (no : NmOk L) {z : Str} (hz : z ∈ L.map (·.1)) : ∃ b, (∀ G, Same H G → DGet G l (.str z) (some (.ref b))) ∧ H b = some (.lst (nv (tg L z))) := by
  obtain ⟨kvs, e, pr⟩ := h
  obtain ⟨b, h1, h2⟩ := gv_at pr no hz
  exact ⟨b, fun G s => .inl ⟨kvs, Sum.inr z, .inl (s _ _ e), rfl, h1.symm⟩, h2⟩
theorem tg_mp {n : Nat} {L : Ltt} (o : LOk n L) {z : Str} (hz : z ∈ L.map (·.1)) : Mp n (tg L z) ∧ Ss 8 z := by
  obtain ⟨q, h1, h2, h3⟩ := tg_in hz
  exact ⟨h3 ▸ o.mp q h1, h2 ▸ o.ss q h1⟩
theorem px_names {n : Nat} {L : Ltt} (o : LOk n L) (no : NmOk L) {zs : List Str} (hz : ∀ z, z ∈ zs → z ∈ L.map (·.1)) : Px n (zs.map fun z => (z, tg L z)) := by
  refine ⟨fun q hq => ?_, fun q hq => ?_, fun q hq => ?_⟩
  · obtain ⟨z, h, rfl⟩ := List.mem_map.mp hq
    exact (tg_mp o (hz z h)).1
  · obtain ⟨z, h, rfl⟩ := List.mem_map.mp hq
    exact (tg_mp o (hz z h)).2
  · obtain ⟨z, h, rfl⟩ := List.mem_map.mp hq
    obtain ⟨q, h1, h2, _⟩ := tg_in (hz z h)
    exact h2 ▸ no.nm q h1
theorem er_map {α β : Type} {f : α → β} : ∀ (l : List α) (k : Nat), (l.map f).eraseIdx k = (l.eraseIdx k).map f
  | [], _ => rfl
  | _ :: _, 0 => rfl
  | x :: l, k + 1 => by
    show f x :: (l.map f).eraseIdx k = f x :: (l.eraseIdx k).map f
    rw [er_map l k]
theorem gv_keys {H : Hp} {kvs : List (Key × V)} {L : Ltt} (pr : GvP H kvs L) : (kvs.map fun kv => kV kv.1) = L.map fun q => V.str q.1 := by
  have h := pr.keys
  have : (kvs.map fun kv => kV kv.1) = (kvs.map (·.1)).map kV := by rw [List.map_map]; rfl
  rw [this, h, List.map_map]; rfl
/-- new letters -/
def spMx (K : PySem.W.Frag) : Sp := fun vs H Q _ => ∃ (p l : Addr) (n : Nat) (L : Ltt), vs = [.ref p, .ref l] ∧ Bx H p ∧ LOk n L ∧ NmOk L ∧ Gv (mn p H) l L ∧ ∀ (D : Addr) (L' : Ltt) H', Bx H' p → Sx p H H' → H D = none → Gv (mn p H') D L' → LOk n L' → NmOk L' → Q (.ref D) H'
section
variable {P : Program} {w : World} {K : PySem.W.Frag} {mg : Str → Option Value} {base : Heap} {f f1 : Addr} {fd d1 : FuncData}
theorem scMx : FnScope nMx ["box", "letters"] (defScope sMx) := ⟨rfl, rfl, rfl, by decide +kernel, rfl, by decide +kernel, by decide +kernel⟩
theorem ok_mx (F : Fun K "_law_mixed" "_law_mixed" sMx f fd) (M : Mn mg)
    (G1 : FnOk P w K mg base CX0 1 f1 d1 ["box", "size"] spTake) (b1 : Binds K d1 ["box", "size"] []) (k1 : PySem.W.keepIn K (.ref f1) = true) (m1 : mg "_law_take" = some (.ref f1)) :
    FnOk P w K mg base CX0 2 f fd ["box", "letters"] (spMx K) := by
  refine F.ok scMx (fun vs H Q E h => ?_) (fun cdv A outer s H vs Q E hr h => ?_)
  · obtain ⟨p, l, n, L, rfl, _⟩ := h
    rfl
  obtain ⟨p, l, n, L, rfl, hb, o, no, hG, q⟩ := h
  have hr1 : Room 1 _ := hr.mono (by decide)
  have hu := hr.units
  have hu1 : (A.deeper (PyProof.Rows.envOfC "_law_mixed" (defScope sMx) s.heap.objs.size f cdv)).units + 1 < cLine := by omega
  refine ⟨_, (pss_cons (ps_set (i := 2) scMx.nd rfl (Or.inr rfl) (pe_callTy (call_listD rfl) (by rfl) M.list (by decide +kernel) (pa_cons (pv 1) pa_nil))) (pss_cons (ps_setLc (i := 3) (own := [("k", 4)]) (g := gName 4) (tt := tYes) rfl scMx.nd rfl rfl (sw_true rfl rfl rfl (by decide +kernel)) (pi_range1 (by rfl) M.range (pa_cons (pe_callB call_lenD (by rfl) M.len PySem.boot_len (pa_cons (pv 1) pa_nil)) pa_nil)) (blkOk_by (N := nMx) (sc := defScope sMx) (by decide +kernel)) (fun _ _ _ _ _ => (pg_name (i := 4) scMx.nd rfl (Or.inl rfl))) (fun _ _ _ _ _ => pts_nil) (fun _ _ _ _ _ => (pe_bK (K := K) rfl (pe_bm PySem.F.plainAttrs_list PySem.F.slot_list_pop PySem.F.type_list_pop mt_popAt (pv 2) (pa_cons (pe_call G1 hr1 (by rfl) m1 k1 b1 .nil pass0 (pa_cons (pv 0) (pa_cons (pe_callB (lenl (K := K) rfl) (by rfl) M.len PySem.boot_len (pa_cons (pv 2) pa_nil)) pa_nil))) pa_nil))))) (pss_one (ps_ret (pe_callTy (call_dictP rfl) (by rfl) M.dict (by decide +kernel) (pa_cons (pe_lc (own := [("one", 5)]) (g := gName 5) (tt := tYes) rfl scMx.nd (pil (K := K) rfl (pv 3)) (blkOk_by (N := nMx) (sc := defScope sMx) (by decide +kernel)) (fun _ _ _ _ _ => (pg_name (i := 5) scMx.nd rfl (Or.inl rfl))) (fun _ _ _ _ _ => pts_nil) (fun _ _ _ _ _ => (pe_tup (pa_cons (pv 5) (pa_cons (pe_dget (by exact hu1) (pv 1) (pv 5) (fun _ _ => rfl)) pa_nil))))) pa_nil)))))), ?_⟩
  obtain ⟨kvs, egF, prF⟩ := id hG
  have l1 := o.le
  have l4 := o.ge
  have eg := mn_same _ _ egF
  have nlp : l ≠ p := fun z => by rw [z, mn_p] at egF; cases egF
  have lkL : kvs.length = L.length := prF.length
  refine ⟨_, rfl, l, kvs, rfl, .inl eg, fun D0 hD0 => ?_⟩
  rw [gv_keys prF]
  have nD0 : D0 ≠ p := hb.ne hD0
  have b1 := hb.new (o := .lst (L.map fun q => V.str q.1)) hD0
  have x1 : Sx p H (upd H D0 (.lst (L.map fun q => V.str q.1))) := Sx.new hD0
  have e01 : (upd H D0 (.lst (L.map fun q => V.str q.1))) D0 = some (.lst ((L.map (·.1)).map V.str)) := by rw [upd_same, List.map_map]; rfl
  have eg1 := x1 _ _ nlp eg
  generalize upd H D0 (.lst (L.map fun q => V.str q.1)) = H1 at b1 x1 e01 eg1 ⊢
  refine ⟨_, rfl, l, kvs, rfl, eg1, _, rfl, by omega, by omega, fun D1 hD1 => ?_⟩
  have n01 : D0 ≠ D1 := ne_of_none e01 hD1
  have nD1 : D1 ≠ p := b1.ne hD1
  have hD1' : H D1 = none := x1.free b1 hD1
  refine lc_range (lo := 0) (n := Int.toNat (kvs.length : Int)) (fun j J => Bx J p ∧ Sx p H J ∧ ∃ zs rest : List Str, J D1 = some (.lst (zs.map V.str)) ∧ J D0 = some (.lst (rest.map V.str)) ∧ zs.length = j ∧ rest.length + j = L.length ∧ (∀ z, z ∈ zs → z ∈ L.map (·.1)) ∧ (∀ z, z ∈ rest → z ∈ L.map (·.1)))
    ⟨b1.new hD1, x1.trans (Sx.new hD1), [], L.map (·.1), upd_same, by rw [upd_ne n01]; exact e01, rfl, by rw [List.length_map]; rfl, fun _ z => (nomatch z), fun _ z => z⟩ ?_ ?_
  · rintro j J hj ⟨bJ, xJ, zs, rest, e1, e0, lz, lr, hz, hr'⟩
    have lpos : 0 < rest.length := by omega
    refine ⟨rfl, _, rfl, .inl ⟨rfl, _, SqL.of e0⟩, _, rfl, _, rfl, D0, _, rfl, .inl (SqL.of e0), ?_⟩
    rw [List.length_map]
    refine ⟨p, _, rfl, bJ, by omega, by omega, fun r J' r0 r1 bJ' xJ' => ?_⟩
    obtain ⟨rn, rfl⟩ := Int.eq_ofNat_of_zero_le r0
    have rl : rn < rest.length := by omega
    have e0' := xJ' _ _ nD0 e0
    have hget : (rest.map V.str)[rn]? = some (V.str rest[rn]) := by rw [List.getElem?_map, List.getElem?_eq_getElem rl]; rfl
    refine ⟨D0, _, _, rn, .str rest[rn], rfl, rfl, e0', by omega, by omega, by rw [List.length_map]; exact seqIndex_of r0 r1, hget, ?_⟩
    have e1' := xJ' _ _ nD1 e1
    refine ⟨_, by rw [upd_ne n01.symm]; exact e1', by rw [List.length_map]; exact small1000 (by omega), (bJ'.at_ne nD0).at_ne nD1, fun b u n e => ?_, zs ++ [rest[rn]], rest.eraseIdx rn, by rw [upd_same, List.map_append]; rfl, ?_, by rw [List.length_append, lz]; rfl, ?_, fun z hzm => ?_, fun z hzm => hr' z (List.mem_of_mem_eraseIdx hzm)⟩
    · have nb0 : b ≠ D0 := fun z => by rw [z] at e; rw [hD0] at e; cases e
      have nb1 : b ≠ D1 := fun z => by rw [z] at e; rw [hD1'] at e; cases e
      rw [upd_ne nb1, upd_ne nb0]
      exact xJ' _ _ n (xJ _ _ n e)
    · rw [upd_ne n01, upd_same, er_map]
    · rw [List.length_eraseIdx_of_lt rl]; omega
    · rcases List.mem_append.mp hzm with h | h
      · exact hz z h
      · rw [List.mem_singleton.mp h]; exact hr' _ (List.getElem_mem _)
  rintro J ⟨bJ, xJ, zs, rest, e1, e0, lz, lr, hz, hr'⟩
  have lz' : zs.length = L.length := by rw [lz]; exact lkL
  refine ⟨_, rfl, D1, rfl, ⟨_, SqL.of e1⟩, fun D2 hD2 => ?_⟩
  have nD2 : D2 ≠ p := bJ.ne hD2
  have s2 := Same.new hD2 (.lst [])
  have hGJ : Gv (mn p J) l L := by
    refine ⟨kvs, mn_sx _ _ nlp (xJ _ _ nlp eg), L2.Paired.mapP prF fun kv q ⟨y1, a, y2, y3⟩ => ⟨y1, a, y2, ?_⟩⟩
    have na : a ≠ p := fun z => by rw [z, mn_p] at y3; cases y3
    exact mn_sx _ _ na (xJ _ _ na (mn_same _ _ y3))
  refine lc_it (walk_list (xs := zs.map V.str)) (fun i G => Same J G ∧ PrD (mn p G) D2 ((zs.take i).map fun z => (z, tg L z))) ⟨s2, by rw [mn_out nD2]; exact PrD.nil⟩ (fun i G _ z => SqL.of (z.1 _ _ e1)) ?_ ?_
  · rintro i y G G' hi ⟨sG, pd⟩ ⟨rfl, hy⟩
    obtain ⟨z, hz1, rfl⟩ : ∃ z, zs[i]? = some z ∧ y = V.str z := by
      rw [List.getElem?_map] at hy
      obtain ⟨z, h1, h2⟩ := Option.map_eq_some_iff.mp hy
      exact ⟨z, h1, h2.symm⟩
    have hzk := hz z (List.mem_of_getElem? hz1)
    obtain ⟨b, hgd, eb⟩ := gv_in hGJ no hzk
    refine ⟨rfl, _, rfl, _, rfl, _, rfl, l, _, rfl, hgd _ ((mn_mono sG).trans mn_same), szl _ (by simp), fun T hT => ?_⟩
    have li : ((zs.take i).map fun z => (z, tg L z)).length < 1000 := by rw [List.length_map, List.length_take]; omega
    have tk : (zs.take (i + 1)).map (fun z => (z, tg L z)) = (zs.take i).map (fun z => (z, tg L z)) ++ [(z, tg L z)] := by rw [List.take_add_one, hz1, List.map_append]; rfl
    obtain ⟨acc, a1, a2, a3, a4⟩ := pd.addP (T := T) (t := b) (z := z) (m := tg L z) nD2 (bJ.same sG) hD2 sG hT (mn_mono sG _ _ eb) (ne_of_none (mn_same _ _ eb) hD2) li
    exact ⟨acc, a1, a2, a3, by rw [tk]; exact a4⟩
  rintro G ⟨sG, pd⟩
  rw [List.length_map, List.take_length] at pd
  obtain ⟨as, lkv, y1, y2, y3⟩ := PrD.dict (K := K) pd mn_same
  refine ⟨D2, as, lkv, rfl, y1, y2, fun D3 hD3 => ?_⟩
  have bG := bJ.same sG
  have n3 := bG.ne hD3
  have px := px_names o no hz
  obtain ⟨o', no'⟩ := mkL_ok px (by rw [List.length_map]; omega) (by rw [List.length_map]; omega) o.n1 o.n5
  have s3 := Same.new hD3 (.dK (mergeK [] lkv))
  have x3 : Sx p H (upd G D3 (.dK (mergeK [] lkv))) := fun b u n e => s3 _ _ (sG _ _ (xJ _ _ n e))
  refine q D3 (mkL (zs.map fun z => (z, tg L z))) _ (bG.new hD3) x3 (Sx.free (fun b u n e => sG _ _ (xJ _ _ n e)) bG hD3) ⟨_, mn_sx _ _ n3 upd_same, ?_⟩ o' no'
  · exact L2.Paired.mapP (GvP.mk y3) fun kv q ⟨c1, c2, c3, c4⟩ => ⟨c1, c2, c3, (mn_mono s3) _ _ c4⟩
end
end L

set_option Elab.async false
set_option linter.all false
set_option maxRecDepth 100000
set_option maxHeartbeats 4000000
set_option pp.maxSteps 400
namespace L
open PySem L2 KX
abbrev sEd : Stmt := top 44
abbrev nEd : List Str := ["box", "first", "names", "few", "more", "k"]
theorem pair_mk {α β : Type} {R : α → β → Prop} : ∀ {as : List α} {bs : List β}, as.length = bs.length → (∀ (i : Nat) a b, as[i]? = some a → bs[i]? = some b → R a b) → Paired R as bs
  | [], [], _, _ => .nil
  | [], _ :: _, h, _ => by cases h
  | _ :: _, [], h, _ => by cases h
  | a :: as, b :: bs, h, f => .cons (f 0 a b rfl rfl) (pair_mk (Nat.succ.inj h) fun i x y hx hy => f (i + 1) x y hx hy)
/-- letters' names and targets side by side -/
theorem zip_prd {H G : Hp} {p D : Addr} {ts as : List Addr} {zs : List Str} {ms : List (List Nat)} (hm : Paired (fun a m => mn p H a = some (.lst (nv m))) as ms) (b : Bx H p) (hD : H D = none) (s : Same H G) (eD : G D = some (.lst (ts.map V.ref))) (lt : ts.length = min zs.length ms.length)
    (h : ∀ (j : Nat) (x y : V), (zs.map V.str)[j]? = some x → (as.map V.ref)[j]? = some y → ∃ T : Addr, ts[j]? = some T ∧ H T = none ∧ T ≠ D ∧ G T = some (.tup [x, y])) : PrD (mn p G) D (zs.zip ms) := by
  refine ⟨ts, mn_sx _ _ (b.ne hD) eD, pair_mk (by rw [List.length_zip, lt]) fun i T q hT hq => ?_⟩
  obtain ⟨h1, h2⟩ := List.getElem?_zip_eq_some.mp hq
  obtain ⟨a, ha, ea⟩ := pair_to hm h2
  obtain ⟨T', k1, k2, k3, k4⟩ := h i (.str q.1) (.ref a) (by rw [List.getElem?_map, h1]; rfl) (by rw [List.getElem?_map, ha]; rfl)
  rw [hT] at k1
  cases k1
  exact ⟨k3, a, mn_sx _ _ (b.ne k2) k4, ne_of_none (mn_same _ _ ea) hD, mn_mono s _ _ ea⟩
theorem px_zip {n : Nat} {zs : List Str} {ms : List (List Nat)} (hz : ∀ z, z ∈ zs → nm z = true ∧ Ss 8 z) (hm : ∀ m, m ∈ ms → Mp n m) : Px n (zs.zip ms) := by
  refine ⟨fun q hq => hm _ (List.of_mem_zip hq).2, fun q hq => (hz _ (List.of_mem_zip hq).1).2, fun q hq => (hz _ (List.of_mem_zip hq).1).1⟩
def mp? (n : Nat) (m : List Nat) : Bool := decide (m.length = n) && m.all fun x => decide (x < n)
theorem mp_of {n : Nat} {m : List Nat} (h : mp? n m = true) : Mp n m := by
  unfold mp? at h
  obtain ⟨h1, h2⟩ := Bool.and_eq_true_iff.mp h
  exact ⟨of_decide_eq_true h1, fun x hx => of_decide_eq_true (List.all_eq_true.mp h2 x hx)⟩
/-- two letters' dicts, of four states and of five -/
def spEd : Sp := fun vs H Q _ => ∃ p : Addr, vs = [.ref p] ∧ Bx H p ∧ ∀ (D t1 t2 d1 d2 : Addr) (L1 L2' : Ltt) H', Bx H' p → Sx p H H' → H D = none → H' D = some (.lst [.ref t1, .ref t2]) → H' t1 = some (.tup [.int 4, .ref d1]) → H' t2 = some (.tup [.int 5, .ref d2]) →
  LOk 4 L1 → NmOk L1 → Gv (mn p H') d1 L1 → LOk 5 L2' → NmOk L2' → Gv (mn p H') d2 L2' → Q (.ref D) H'
section
variable {P : Program} {w : World} {K : PySem.W.Frag} {mg : Str → Option Value} {base : Heap} {f f1 : Addr} {fd d1 : FuncData}
theorem scEd : FnScope nEd ["box"] (defScope sEd) := ⟨rfl, rfl, rfl, by decide +kernel, rfl, by decide +kernel, by decide +kernel⟩
theorem ok_ed (F : Fun K "_law_edges" "_law_edges" sEd f fd) (M : Mn mg) (mZ : mg "zip" = none)
    (G1 : FnOk P w K mg base CX0 1 f1 d1 ["box", "size"] spTake) (b1 : Binds K d1 ["box", "size"] []) (k1 : PySem.W.keepIn K (.ref f1) = true) (m1 : mg "_law_take" = some (.ref f1)) :
    FnOk P w K mg base CX0 2 f fd ["box"] spEd := by
  refine F.ok scEd (fun vs H Q E h => ?_) (fun cdv A outer s H vs Q E hr h => ?_)
  · obtain ⟨p, rfl, _⟩ := h
    rfl
  obtain ⟨p, rfl, hb, q⟩ := h
  have hr1 : Room 1 _ := hr.mono (by decide)
  refine ⟨_, (pss_cons (ps_set (i := 1) scEd.nd rfl (Or.inr rfl) (pe_call G1 hr1 (by rfl) m1 k1 b1 .nil pass0 (pa_cons (pv 0) (pa_cons pe_int pa_nil)))) (pss_cons (ps_setLc (i := 2) (own := [("k", 5)]) (g := gName 5) (tt := tYes) rfl scEd.nd rfl rfl (sw_true rfl rfl rfl (by decide +kernel)) (pi_range1 (by rfl) M.range (pa_cons pe_int pa_nil)) (blkOk_by (N := nEd) (sc := defScope sEd) (by decide +kernel)) (fun _ _ _ _ _ => (pg_name (i := 5) scEd.nd rfl (Or.inl rfl))) (fun _ _ _ _ _ => pts_nil) (fun _ _ _ _ _ => (pe_ix ix_str pe_str (pe_op op_mod (pe_op op_add (pv 1) (pe_op op_mul pe_int (pv 5))) pe_int) (fun _ _ => rfl)))) (pss_cons (ps_set (i := 3) scEd.nd rfl (Or.inl rfl) (pe_lst (pa_cons (pe_lst (pa_cons pe_int (pa_cons pe_int (pa_cons pe_int (pa_cons pe_int pa_nil))))) (pa_cons (pe_lst (pa_cons pe_int (pa_cons pe_int (pa_cons pe_int (pa_cons pe_int pa_nil))))) (pa_cons (pe_op op_rep (pe_lst (pa_cons pe_int pa_nil)) pe_int) pa_nil))))) (pss_cons (ps_set (i := 4) scEd.nd rfl (Or.inl rfl) (pe_lst (pa_cons (pe_lst (pa_cons pe_int (pa_cons pe_int (pa_cons pe_int (pa_cons pe_int (pa_cons pe_int pa_nil)))))) (pa_cons (pe_lst (pa_cons pe_int (pa_cons pe_int (pa_cons pe_int (pa_cons pe_int (pa_cons pe_int pa_nil)))))) (pa_cons (pe_op op_rep (pe_lst (pa_cons pe_int pa_nil)) pe_int) (pa_cons (pe_op op_rep (pe_lst (pa_cons pe_int pa_nil)) pe_int) pa_nil)))))) (pss_one (ps_ret (pe_lst (pa_cons (pe_tup (pa_cons pe_int (pa_cons (pe_callTy (call_dictP rfl) (by rfl) M.dict (by decide +kernel) (pa_cons (pe_listZip (K := K) rfl rfl (by rfl) M.list (by rfl) mZ (pa_cons (pv 2) (pa_cons (pv 3) pa_nil))) pa_nil)) pa_nil))) (pa_cons (pe_tup (pa_cons pe_int (pa_cons (pe_callTy (call_dictP rfl) (by rfl) M.dict (by decide +kernel) (pa_cons (pe_listZip (K := K) rfl rfl (by rfl) M.list (by rfl) mZ (pa_cons (pv 2) (pa_cons (pv 4) pa_nil))) pa_nil)) pa_nil))) pa_nil))))))))), ?_⟩
  refine ⟨_, rfl, p, 26, rfl, hb, by decide, by decide, fun fr J0 f0 f1 b0 x0 => ?_⟩
  refine ⟨_, rfl, by decide, by decide, fun D hD => ?_⟩
  have nD : D ≠ p := b0.ne hD
  refine lc_range (lo := 0) (n := Int.toNat 4) (fun i J => Same J0 J ∧ ∃ zs : List Str, J D = some (.lst (zs.map V.str)) ∧ zs.length = i ∧ ∀ z, z ∈ zs → nm z = true ∧ Ss 8 z) ⟨Same.new hD _, [], upd_same, rfl, fun _ z => (nomatch z)⟩ ?_ ?_
  · rintro i J hi ⟨sJ, zs, eD, lz, hz⟩
    have hi4 : i < 4 := hi
    obtain ⟨c, hc3, hc⟩ := sgn_at (Int.emod_nonneg (fr + 5 * (0 + (i : Int))) (show (26 : Int) ≠ 0 by decide)) (Int.emod_lt_of_pos (fr + 5 * (0 + (i : Int))) (show (0 : Int) < 26 by decide))
    refine ⟨rfl, _, rfl, _, rfl, _, _, rfl, rfl, .inl ⟨by decide, by decide⟩, _, _, rfl, rfl, _, _, rfl, rfl, (show (0 : Int) < 26 by decide), _, _, c, rfl, rfl, by decide +kernel, hc3, _, eD, by rw [List.length_map, lz]; exact small1000 (by omega), fun b o e => by rw [upd_ne (ne_of_none e hD)]; exact sJ _ _ e, zs ++ [(⟨#[c]⟩ : Str)], by rw [upd_same, List.map_append]; rfl, by rw [List.length_append, lz]; rfl, fun z hz' => ?_⟩
    rcases List.mem_append.mp hz' with h | h
    · exact hz z h
    · rw [List.mem_singleton.mp h]
      have ha : Az (⟨#[c]⟩ : Str) := fun d hd => by rw [List.mem_singleton.mp hd]; exact hc
      exact ⟨nm_az ha (Nat.le_refl 1) (show 1 ≤ 8 by decide), ss_az ha (show 1 ≤ 8 by decide)⟩
  rintro J ⟨sJ, zs, eD, lz, hz⟩
  have bJ := b0.same sJ
  have xJ : Sx p H J := x0.trans (Sx.of sJ)
  have hD' : H D = none := x0.free b0 hD
  have lz4 : zs.length = 4 := lz
  clear lz
  refine ⟨szl _ (by simp), fun a1 ha1 => ⟨szl _ (by simp), fun a2 ha2 => ⟨szl _ (by simp), fun z3 hz3 => ⟨z3, _, _, rfl, rfl, upd_same, by decide, by decide, szl _ (by decide), fun a3 ha3 => ⟨szl _ (by simp), fun Fw hFw => ?_⟩⟩⟩⟩⟩
  have u0 := Same.new ha1 (.lst [V.int 1, V.int 2, V.int 0, V.int 3])
  have u1 := Same.new ha2 (.lst [V.int 1, V.int 0, V.int 3, V.int 2])
  have u2 := Same.new hz3 (.lst [V.int 0])
  have u3 := Same.new ha3 (.lst (List.replicate (Int.toNat 4) [V.int 0]).flatten)
  have u4 := Same.new hFw (.lst [.ref a1, .ref a2, .ref a3])
  have sF : Same J (upd (upd (upd (upd (upd J a1 (.lst [V.int 1, V.int 2, V.int 0, V.int 3])) a2 (.lst [V.int 1, V.int 0, V.int 3, V.int 2])) z3 (.lst [V.int 0])) a3 (.lst (List.replicate (Int.toNat 4) [V.int 0]).flatten)) Fw (.lst [.ref a1, .ref a2, .ref a3])) := (u0.trans (u1.trans (u2.trans (u3.trans u4))))
  have e_a1 : (upd (upd (upd (upd (upd J a1 (.lst [V.int 1, V.int 2, V.int 0, V.int 3])) a2 (.lst [V.int 1, V.int 0, V.int 3, V.int 2])) z3 (.lst [V.int 0])) a3 (.lst (List.replicate (Int.toNat 4) [V.int 0]).flatten)) Fw (.lst [.ref a1, .ref a2, .ref a3])) a1 = some (.lst (nv [1, 2, 0, 3])) := (u1.trans (u2.trans (u3.trans u4))) _ _ (upd_same (H := J) (a := a1) (o := (.lst [V.int 1, V.int 2, V.int 0, V.int 3])))
  have e_a2 : (upd (upd (upd (upd (upd J a1 (.lst [V.int 1, V.int 2, V.int 0, V.int 3])) a2 (.lst [V.int 1, V.int 0, V.int 3, V.int 2])) z3 (.lst [V.int 0])) a3 (.lst (List.replicate (Int.toNat 4) [V.int 0]).flatten)) Fw (.lst [.ref a1, .ref a2, .ref a3])) a2 = some (.lst (nv [1, 0, 3, 2])) := (u2.trans (u3.trans u4)) _ _ (upd_same (H := (upd J a1 (.lst [V.int 1, V.int 2, V.int 0, V.int 3]))) (a := a2) (o := (.lst [V.int 1, V.int 0, V.int 3, V.int 2])))
  have e_a3 : (upd (upd (upd (upd (upd J a1 (.lst [V.int 1, V.int 2, V.int 0, V.int 3])) a2 (.lst [V.int 1, V.int 0, V.int 3, V.int 2])) z3 (.lst [V.int 0])) a3 (.lst (List.replicate (Int.toNat 4) [V.int 0]).flatten)) Fw (.lst [.ref a1, .ref a2, .ref a3])) a3 = some (.lst (nv [0, 0, 0, 0])) := u4 _ _ (upd_same (H := (upd (upd (upd J a1 (.lst [V.int 1, V.int 2, V.int 0, V.int 3])) a2 (.lst [V.int 1, V.int 0, V.int 3, V.int 2])) z3 (.lst [V.int 0]))) (a := a3) (o := (.lst (List.replicate (Int.toNat 4) [V.int 0]).flatten)))
  have e_Fw := upd_same (H := (upd (upd (upd (upd J a1 (.lst [V.int 1, V.int 2, V.int 0, V.int 3])) a2 (.lst [V.int 1, V.int 0, V.int 3, V.int 2])) z3 (.lst [V.int 0])) a3 (.lst (List.replicate (Int.toNat 4) [V.int 0]).flatten))) (a := Fw) (o := (.lst [.ref a1, .ref a2, .ref a3]))
  have n_a1 : a1 ≠ p := bJ.ne ha1
  have n_a2 : a2 ≠ p := (bJ.same u0).ne ha2
  have n_a3 : a3 ≠ p := (((bJ.same u0).same u1).same u2).ne ha3
  generalize (upd (upd (upd (upd (upd J a1 (.lst [V.int 1, V.int 2, V.int 0, V.int 3])) a2 (.lst [V.int 1, V.int 0, V.int 3, V.int 2])) z3 (.lst [V.int 0])) a3 (.lst (List.replicate (Int.toNat 4) [V.int 0]).flatten)) Fw (.lst [.ref a1, .ref a2, .ref a3])) = J1 at sF e_a1 e_a2 e_a3 e_Fw ⊢
  clear u0 u1 u2 u3 u4
  have pm_Fw : Paired (fun a m => mn p J1 a = some (.lst (nv m))) [a1, a2, a3] [[1, 2, 0, 3], [1, 0, 3, 2], [0, 0, 0, 0]] := .cons (mn_sx _ _ n_a1 e_a1) (.cons (mn_sx _ _ n_a2 e_a2) (.cons (mn_sx _ _ n_a3 e_a3) (.nil)))
  have eD1 := sF _ _ eD
  have b1' := bJ.same sF
  have x1 : Sx p H J1 := xJ.trans (Sx.of sF)
  clear sF
  refine ⟨szl _ (by simp), fun c1 hc1 => ⟨szl _ (by simp), fun c2 hc2 => ⟨szl _ (by simp), fun y3 hy3 => ⟨y3, _, _, rfl, rfl, upd_same, by decide, by decide, szl _ (by decide), fun c3 hc3 => ⟨szl _ (by simp), fun y4 hy4 => ⟨y4, _, _, rfl, rfl, upd_same, by decide, by decide, szl _ (by decide), fun c4 hc4 => ⟨szl _ (by simp), fun Mo hMo => ?_⟩⟩⟩⟩⟩⟩⟩
  have u0 := Same.new hc1 (.lst [V.int 1, V.int 2, V.int 0, V.int 4, V.int 3])
  have u1 := Same.new hc2 (.lst [V.int 1, V.int 0, V.int 2, V.int 3, V.int 4])
  have u2 := Same.new hy3 (.lst [V.int 0])
  have u3 := Same.new hc3 (.lst (List.replicate (Int.toNat 5) [V.int 0]).flatten)
  have u4 := Same.new hy4 (.lst [V.int 3])
  have u5 := Same.new hc4 (.lst (List.replicate (Int.toNat 5) [V.int 3]).flatten)
  have u6 := Same.new hMo (.lst [.ref c1, .ref c2, .ref c3, .ref c4])
  have sF : Same J1 (upd (upd (upd (upd (upd (upd (upd J1 c1 (.lst [V.int 1, V.int 2, V.int 0, V.int 4, V.int 3])) c2 (.lst [V.int 1, V.int 0, V.int 2, V.int 3, V.int 4])) y3 (.lst [V.int 0])) c3 (.lst (List.replicate (Int.toNat 5) [V.int 0]).flatten)) y4 (.lst [V.int 3])) c4 (.lst (List.replicate (Int.toNat 5) [V.int 3]).flatten)) Mo (.lst [.ref c1, .ref c2, .ref c3, .ref c4])) := (u0.trans (u1.trans (u2.trans (u3.trans (u4.trans (u5.trans u6))))))
  have e_c1 : (upd (upd (upd (upd (upd (upd (upd J1 c1 (.lst [V.int 1, V.int 2, V.int 0, V.int 4, V.int 3])) c2 (.lst [V.int 1, V.int 0, V.int 2, V.int 3, V.int 4])) y3 (.lst [V.int 0])) c3 (.lst (List.replicate (Int.toNat 5) [V.int 0]).flatten)) y4 (.lst [V.int 3])) c4 (.lst (List.replicate (Int.toNat 5) [V.int 3]).flatten)) Mo (.lst [.ref c1, .ref c2, .ref c3, .ref c4])) c1 = some (.lst (nv [1, 2, 0, 4, 3])) := (u1.trans (u2.trans (u3.trans (u4.trans (u5.trans u6))))) _ _ (upd_same (H := J1) (a := c1) (o := (.lst [V.int 1, V.int 2, V.int 0, V.int 4, V.int 3])))
  have e_c2 : (upd (upd (upd (upd (upd (upd (upd J1 c1 (.lst [V.int 1, V.int 2, V.int 0, V.int 4, V.int 3])) c2 (.lst [V.int 1, V.int 0, V.int 2, V.int 3, V.int 4])) y3 (.lst [V.int 0])) c3 (.lst (List.replicate (Int.toNat 5) [V.int 0]).flatten)) y4 (.lst [V.int 3])) c4 (.lst (List.replicate (Int.toNat 5) [V.int 3]).flatten)) Mo (.lst [.ref c1, .ref c2, .ref c3, .ref c4])) c2 = some (.lst (nv [1, 0, 2, 3, 4])) := (u2.trans (u3.trans (u4.trans (u5.trans u6)))) _ _ (upd_same (H := (upd J1 c1 (.lst [V.int 1, V.int 2, V.int 0, V.int 4, V.int 3]))) (a := c2) (o := (.lst [V.int 1, V.int 0, V.int 2, V.int 3, V.int 4])))
  have e_c3 : (upd (upd (upd (upd (upd (upd (upd J1 c1 (.lst [V.int 1, V.int 2, V.int 0, V.int 4, V.int 3])) c2 (.lst [V.int 1, V.int 0, V.int 2, V.int 3, V.int 4])) y3 (.lst [V.int 0])) c3 (.lst (List.replicate (Int.toNat 5) [V.int 0]).flatten)) y4 (.lst [V.int 3])) c4 (.lst (List.replicate (Int.toNat 5) [V.int 3]).flatten)) Mo (.lst [.ref c1, .ref c2, .ref c3, .ref c4])) c3 = some (.lst (nv [0, 0, 0, 0, 0])) := (u4.trans (u5.trans u6)) _ _ (upd_same (H := (upd (upd (upd J1 c1 (.lst [V.int 1, V.int 2, V.int 0, V.int 4, V.int 3])) c2 (.lst [V.int 1, V.int 0, V.int 2, V.int 3, V.int 4])) y3 (.lst [V.int 0]))) (a := c3) (o := (.lst (List.replicate (Int.toNat 5) [V.int 0]).flatten)))
  have e_c4 : (upd (upd (upd (upd (upd (upd (upd J1 c1 (.lst [V.int 1, V.int 2, V.int 0, V.int 4, V.int 3])) c2 (.lst [V.int 1, V.int 0, V.int 2, V.int 3, V.int 4])) y3 (.lst [V.int 0])) c3 (.lst (List.replicate (Int.toNat 5) [V.int 0]).flatten)) y4 (.lst [V.int 3])) c4 (.lst (List.replicate (Int.toNat 5) [V.int 3]).flatten)) Mo (.lst [.ref c1, .ref c2, .ref c3, .ref c4])) c4 = some (.lst (nv [3, 3, 3, 3, 3])) := u6 _ _ (upd_same (H := (upd (upd (upd (upd (upd J1 c1 (.lst [V.int 1, V.int 2, V.int 0, V.int 4, V.int 3])) c2 (.lst [V.int 1, V.int 0, V.int 2, V.int 3, V.int 4])) y3 (.lst [V.int 0])) c3 (.lst (List.replicate (Int.toNat 5) [V.int 0]).flatten)) y4 (.lst [V.int 3]))) (a := c4) (o := (.lst (List.replicate (Int.toNat 5) [V.int 3]).flatten)))
  have e_Mo := upd_same (H := (upd (upd (upd (upd (upd (upd J1 c1 (.lst [V.int 1, V.int 2, V.int 0, V.int 4, V.int 3])) c2 (.lst [V.int 1, V.int 0, V.int 2, V.int 3, V.int 4])) y3 (.lst [V.int 0])) c3 (.lst (List.replicate (Int.toNat 5) [V.int 0]).flatten)) y4 (.lst [V.int 3])) c4 (.lst (List.replicate (Int.toNat 5) [V.int 3]).flatten))) (a := Mo) (o := (.lst [.ref c1, .ref c2, .ref c3, .ref c4]))
  have n_c1 : c1 ≠ p := b1'.ne hc1
  have n_c2 : c2 ≠ p := (b1'.same u0).ne hc2
  have n_c3 : c3 ≠ p := (((b1'.same u0).same u1).same u2).ne hc3
  have n_c4 : c4 ≠ p := (((((b1'.same u0).same u1).same u2).same u3).same u4).ne hc4
  generalize (upd (upd (upd (upd (upd (upd (upd J1 c1 (.lst [V.int 1, V.int 2, V.int 0, V.int 4, V.int 3])) c2 (.lst [V.int 1, V.int 0, V.int 2, V.int 3, V.int 4])) y3 (.lst [V.int 0])) c3 (.lst (List.replicate (Int.toNat 5) [V.int 0]).flatten)) y4 (.lst [V.int 3])) c4 (.lst (List.replicate (Int.toNat 5) [V.int 3]).flatten)) Mo (.lst [.ref c1, .ref c2, .ref c3, .ref c4])) = J2 at sF e_c1 e_c2 e_c3 e_c4 e_Mo ⊢
  clear u0 u1 u2 u3 u4 u5 u6
  have pm_Mo : Paired (fun a m => mn p J2 a = some (.lst (nv m))) [c1, c2, c3, c4] [[1, 2, 0, 4, 3], [1, 0, 2, 3, 4], [0, 0, 0, 0, 0], [3, 3, 3, 3, 3]] := .cons (mn_sx _ _ n_c1 e_c1) (.cons (mn_sx _ _ n_c2 e_c2) (.cons (mn_sx _ _ n_c3 e_c3) (.cons (mn_sx _ _ n_c4 e_c4) (.nil))))
  have eD2 := sF _ _ eD1
  have eF2 := sF _ _ e_Fw
  have b2' := b1'.same sF
  have x2 : Sx p H J2 := x1.trans (Sx.of sF)
  have pF2 : Paired (fun a m => mn p J2 a = some (.lst (nv m))) [a1, a2, a3] [[1, 2, 0, 3], [1, 0, 3, 2], [0, 0, 0, 0]] := L2.Paired.mapP pm_Fw fun a m z => mn_mono sF _ _ z
  clear sF
  refine ⟨_, rfl, _, rfl, D, Fw, _, _, rfl, SqL.of eD2, SqL.of eF2, fun P1 ts1 J3 lt1 hP1 s3 eP1 hts1 => ?_⟩
  have pd1 := zip_prd (p := p) (zs := zs) pF2 b2' hP1 s3 eP1 (by rw [lt1, List.length_map, lz4]; rfl) hts1
  obtain ⟨q1, lkv1, y1, y2, y3'⟩ := PrD.dict (K := K) pd1 mn_same
  have b3 := b2'.same s3
  refine ⟨P1, q1, lkv1, rfl, y1, y2, fun dA hdA => ⟨szl _ (by simp), fun T1 hT1 => ?_⟩⟩
  have v1 := Same.new hdA (.dK (mergeK [] lkv1))
  have v2 := Same.new hT1 (.tup [.int 4, .ref dA])
  have nA := b3.ne hdA
  have eA := v2 _ _ (upd_same (H := J3) (a := dA) (o := .dK (mergeK [] lkv1)))
  have eT1 := upd_same (H := upd J3 dA (.dK (mergeK [] lkv1))) (a := T1) (o := .tup [.int 4, .ref dA])
  have s4 := v1.trans v2
  generalize upd (upd J3 dA (.dK (mergeK [] lkv1))) T1 (.tup [.int 4, .ref dA]) = J4 at s4 eA eT1 ⊢
  have s24 := s3.trans s4
  have b4 := b3.same s4
  have gA : Gv (mn p J4) dA (mkL (zs.zip [[1, 2, 0, 3], [1, 0, 3, 2], [0, 0, 0, 0]])) := ⟨_, mn_sx _ _ nA eA, L2.Paired.mapP (GvP.mk y3') fun kv q ⟨c1, c2, c3, c4⟩ => ⟨c1, c2, c3, mn_mono s4 _ _ c4⟩⟩
  refine ⟨_, rfl, _, rfl, D, Mo, _, _, rfl, SqL.of (s24 _ _ eD2), SqL.of (s24 _ _ e_Mo), fun P2 ts2 J5 lt2 hP2 s5 eP2 hts2 => ?_⟩
  have pd2 := zip_prd (p := p) (zs := zs) (L2.Paired.mapP pm_Mo fun a m z => mn_mono s24 _ _ z) b4 hP2 s5 eP2 (by rw [lt2, List.length_map, lz4]; rfl) hts2
  obtain ⟨q2, lkv2, z1, z2, z3'⟩ := PrD.dict (K := K) pd2 mn_same
  have b5 := b4.same s5
  refine ⟨P2, q2, lkv2, rfl, z1, z2, fun dB hdB => ⟨szl _ (by simp), fun T2 hT2 => ⟨szl _ (by simp), fun R hR => ?_⟩⟩⟩
  have v1 := Same.new hdB (.dK (mergeK [] lkv2))
  have v2 := Same.new hT2 (.tup [.int 5, .ref dB])
  have v3 := Same.new hR (.lst [.ref T1, .ref T2])
  have nB := b5.ne hdB
  have eB := (v2.trans v3) _ _ (upd_same (H := J5) (a := dB) (o := .dK (mergeK [] lkv2)))
  have eT2 := v3 _ _ (upd_same (H := upd J5 dB (.dK (mergeK [] lkv2))) (a := T2) (o := .tup [.int 5, .ref dB]))
  have eR := upd_same (H := upd (upd J5 dB (.dK (mergeK [] lkv2))) T2 (.tup [.int 5, .ref dB])) (a := R) (o := .lst [.ref T1, .ref T2])
  have s6 := v1.trans (v2.trans v3)
  have hRJ := (v1.trans v2).free hR
  generalize upd (upd (upd J5 dB (.dK (mergeK [] lkv2))) T2 (.tup [.int 5, .ref dB])) R (.lst [.ref T1, .ref T2]) = J6 at s6 eB eT2 eR ⊢
  have gB : Gv (mn p J6) dB (mkL (zs.zip [[1, 2, 0, 4, 3], [1, 0, 2, 3, 4], [0, 0, 0, 0, 0], [3, 3, 3, 3, 3]])) := ⟨_, mn_sx _ _ nB eB, L2.Paired.mapP (GvP.mk z3') fun kv q ⟨c1, c2, c3, c4⟩ => ⟨c1, c2, c3, mn_mono s6 _ _ c4⟩⟩
  obtain ⟨o1, no1⟩ := mkL_ok (n := 4) (ps := zs.zip [[1, 2, 0, 3], [1, 0, 3, 2], [0, 0, 0, 0]]) (px_zip hz fun m hm => mp_of ((show ∀ m, m ∈ [[1, 2, 0, 3], [1, 0, 3, 2], [0, 0, 0, 0]] → mp? 4 m = true by decide) m hm)) (by rw [List.length_zip, lz4]; decide) (by rw [List.length_zip, lz4]; decide) (by decide) (by decide)
  obtain ⟨o2, no2⟩ := mkL_ok (n := 5) (ps := zs.zip [[1, 2, 0, 4, 3], [1, 0, 2, 3, 4], [0, 0, 0, 0, 0], [3, 3, 3, 3, 3]]) (px_zip hz fun m hm => mp_of ((show ∀ m, m ∈ [[1, 2, 0, 4, 3], [1, 0, 2, 3, 4], [0, 0, 0, 0, 0], [3, 3, 3, 3, 3]] → mp? 5 m = true by decide) m hm)) (by rw [List.length_zip, lz4]; decide) (by rw [List.length_zip, lz4]; decide) (by decide) (by decide)
  have s46 := s5.trans s6
  have x6 : Sx p H J6 := x2.trans (Sx.of (s24.trans s46))
  exact q R T1 T2 dA dB _ _ J6 (b5.same s6) x6 (Sx.free (x2.trans (Sx.of (s24.trans s5))) b5 hRJ) eR (s46 _ _ eT1) eT2 o1 no1 (gA.to (mn_mono s46)) o2 no2 gB
end
end L

set_option Elab.async false
set_option linter.all false
set_option maxRecDepth 100000
set_option maxHeartbeats 4000000
/-! Own layer: == of an instance with the text's own == and any value. -/
namespace KX
open PySem PySem.Spec PyProof.Rows L2
section
variable {X : Cx} {k : Nat} {C f : Addr} {fd : FuncData} {ps : List Str} {sp : Sp}
/-- x == y of an instance and any value whose class is no heir of the instance's -/
def rEqA (K : PySem.W.Frag) (C : Addr) (sp : Sp) : R2 := fun x y H Q => ∃ a dx fs t, x = .ref a ∧ H a = some (.ins C dx fs) ∧ TyX K H y t ∧ PySem.W.notFirst K C t = true ∧ sp [.ref a, y] H (fun v H1 => ∃ c, v = .bl c ∧ Q (.bl c) H1) (fun _ _ _ => False)
theorem op_eqA {K : PySem.W.Frag} (hK : X.K = K) (F : FnOk X.prog X.w X.K X.mg X.base CX0 k f fd ps sp) (hr : Room k X.A) (hs : PySem.W.findIn X.K (.ref C) "__eq__" = some (some (.ref f))) (hf : PySem.W.isFn X.K (.ref f) = true) (hb : Binds X.K fd ps []) : OpR X (compareOp .Eq) (rEqA K C sp) := by
  subst hK
  intro pins s σ H x y v u Q I rx ry h
  obtain ⟨a, dx, fs, t, rfl, ha, ty, hn, q⟩ := h
  cases rx
  obtain ⟨mA, J, _⟩ := ins_get I.hok ha
  obtain ⟨od, J, _⟩ := J.look
  obtain ⟨m, hF⟩ := I.fr
  obtain ⟨PP, Z, hP, _⟩ := kit_of I ry ty
  have hl := F.len _ _ _ _ q
  have r2 : Vals [V.ref a, y] [Value.ref a, u] := .cons rfl (.cons ry .nil)
  show wpAny (model X.prog X.w) X.A (richCompare .Eq (.ref a) u) (EP X pins σ Q) X.xe s
  refine PySem.W.cmp_K (op := .Eq) (tb := t) hr.units0 hF I.ok.mod.kin J (Z.ty _ _ I.kIn hP) hn hs hf ?_
  refine wpAny_call (codeAny_mono (F.run X.A X.stack s H ⟨[.ref a, u], []⟩ [.ref a, u] [.ref a, y] _ _ hr I.env0 (by
    have := hb s [.ref a, u] I.kIn (by simpa using hl)
    simpa using this) r2 q) fun o s' hq => ?_)
  match o, hq with
  | .error u, hq => exact hq.elim
  | .ok (.ret u), hq =>
    obtain ⟨v, H1, I1, rv, c, rfl, q'⟩ := I.after hq
    obtain rfl : u = Value.bool c := rv
    exact ⟨.bl c, H1, I1, rfl, q'⟩
  | .ok .next, hq => exact hq.elim
  | .ok .brk, hq => exact hq.elim
  | .ok .cont, hq => exact hq.elim
theorem notFirst_ty {K : PySem.W.Frag} {C : Addr} {T : String} (e : (fastBuiltinMro T).map (·.contains (.ref C)) = some false) : PySem.W.notFirst K C (.type T) = true := by
  unfold PySem.W.notFirst
  rw [show PySem.W.subIn K (.type T) (.ref C) = some false from e]
  rw [show ((Value.type T) == (Value.ref C)) = false from rfl]
  rfl
theorem notFirst_self {K : PySem.W.Frag} {C : Addr} : PySem.W.notFirst K C (.ref C) = true := by
  unfold PySem.W.notFirst
  rw [show ((Value.ref C) == (Value.ref C)) = true from beq_self_eq_true _]
  rfl
end
end KX

set_option Elab.async false
set_option linter.all false
set_option maxRecDepth 100000
set_option maxHeartbeats 8000000
set_option pp.maxSteps 400
namespace L
open PySem L2 KX
abbrev sEr : Stmt := top 43
abbrev nEr : List Str := ["box", "size", "letters", "made", "names", "letter", "others", "at", "bent", "targets", "turned", "swapped", "same", "told", "many", "other", "alike", "there", "one"]
def spEr (K : PySem.W.Frag) (CF : Addr) : Sp := fun vs H Q _ => ∃ (p l : Addr) (n : Nat) (L : Ltt) (S : List En), vs = [.ref p, .int (n : Int), .ref l] ∧ Bx H p ∧ LOk n L ∧ NmOk L ∧ Gv (mn p H) l L ∧ Res n L (some S) ∧ ∀ H', Bx H' p → Sx p H H' → Q (.bl true) H'
theorem mnS_p {p : Addr} {J : Hp} : mnS (fun b => b = p) J = mn p J := by
  funext b
  unfold mnS mn
  by_cases z : b = p
  · rw [if_pos z, if_pos z]
  · rw [if_neg z, if_neg z]
theorem TrA.mnp {CF : Addr} {H : Hp} {p a : Addr} {n : Nat} {L : Ltt} {S : List En} (b : Bx H p) (h : TrA CF H a n L S) : TrA CF (mn p H) a n L S := by
  rw [← mnS_p]
  obtain ⟨b0, b1, b2, e, _⟩ := b
  exact h.mnS fun x hx => by
    have hx : x = p := hx
    subst hx
    exact .inl ⟨_, _, e⟩
theorem mn_sxs {p : Addr} {J J' : Hp} (x : Sx p J J') : Same (mn p J) (mn p J') := fun b o e => by
  unfold mn at e ⊢
  by_cases c : b = p
  · rw [if_pos c] at e; cases e
  · rw [if_neg c] at e ⊢; exact x _ _ c e
theorem nv_refs {n : Nat} {m : List Nat} {ts : List Addr} (h : Mp n m) (n1 : 1 ≤ n) : nv m ≠ ts.map V.ref := fun e => by
  cases m with
  | nil => have := h.1; simp at this; omega
  | cons x m => cases ts <;> cases e
theorem gv_keep {G : Hp} {p d D6 : Addr} {n : Nat} {L' : Ltt} {ts : List Addr} {o : HO} (g : Gv (mn p G) d L') (ok : LOk n L') (e : G D6 = some (.lst (ts.map V.ref))) (n6 : D6 ≠ p) : Gv (mn p (upd G D6 o)) d L' := by
  obtain ⟨kvs, ed, pr⟩ := g
  rw [mn_out n6]
  refine ⟨kvs, by rw [upd_ne (ne_of (mn_same _ _ ed) e fun z => nomatch z)]; exact ed, ?_⟩
  unfold GvP at pr ⊢
  have hm : ∀ q, q ∈ L' → Mp n q.2 := ok.mp
  have n1 := ok.n1
  clear ok ed
  induction pr with
  | nil => exact .nil
  | @cons kv q _ _ h _ ih =>
    obtain ⟨x1, t, x2, x3⟩ := h
    have nt : t ≠ D6 := fun z => by
      have := mn_same _ _ x3
      rw [z, e] at this
      have this := (HO.lst.inj (Option.some.inj this)).symm
      have mq := hm q List.mem_cons_self
      exact nv_refs mq n1 this
    exact .cons ⟨x1, t, x2, by rw [upd_ne nt]; exact x3⟩ (ih fun q hq => hm q (List.mem_cons_of_mem _ hq))
/-- the others so far: pairs of a number of states and letters -/
structure Oi (B : Hp) (p D6 : Addr) (n k : Nat) (G : Hp) : Prop where
  bx : Bx G p
  sb : Same B G
  ts : ∃ ts : List Addr, G D6 = some (.lst (ts.map V.ref)) ∧ ts.length ≤ k ∧ ∀ t, t ∈ ts → ∃ d L', G t = some (.tup [.int (n : Int), .ref d]) ∧ Gv (mn p G) d L' ∧ LOk n L' ∧ NmOk L'
theorem Oi.same {B : Hp} {p D6 : Addr} {n k : Nat} {G G' : Hp} (h : Oi B p D6 n k G) (s : Same G G') : Oi B p D6 n k G' := by
  obtain ⟨b, sb, ts, e, l, ht⟩ := h
  exact ⟨b.same s, sb.trans s, ts, s _ _ e, l, fun t hm => by
    obtain ⟨d, L', x1, x2, x3⟩ := ht t hm
    exact ⟨d, L', s _ _ x1, x2.to (mn_mono s), x3⟩⟩
theorem Oi.sx {B : Hp} {p D6 : Addr} {n k : Nat} {G G' : Hp} (h : Oi B p D6 n k G) (nB : B p = none) (n6 : D6 ≠ p) (b' : Bx G' p) (x : Sx p G G') : Oi B p D6 n k G' := by
  obtain ⟨b, sb, ts, e, l, ht⟩ := h
  exact ⟨b', fx sb nB x, ts, x _ _ n6 e, l, fun t hm => by
    obtain ⟨d, L', x1, x2, x3⟩ := ht t hm
    exact ⟨d, L', x _ _ (b.ne_tup x1) x1, x2.to (mn_sxs x), x3⟩⟩
theorem Oi.start {B G : Hp} {p D6 T d : Addr} {n : Nat} {L' : Ltt} (b : Bx G p) (sb : Same B G) (h6 : G D6 = none) (e : G T = some (.tup [.int (n : Int), .ref d])) (g : Gv (mn p G) d L') (o : LOk n L') (no : NmOk L') : Oi B p D6 n 1 (upd G D6 (.lst [.ref T])) := by
  have s := Same.new h6 (.lst [.ref T])
  exact ⟨b.new h6, sb.trans s, [T], upd_same, Nat.le_refl _, fun t hm => by
    rw [List.mem_singleton.mp hm]
    exact ⟨d, L', s _ _ e, g.to (mn_mono s), o, no⟩⟩
theorem Oi.put {B G : Hp} {p D6 T d : Addr} {n k : Nat} {L' : Ltt} (h : Oi B p D6 n k G) (nB6 : B D6 = none) (n6 : D6 ≠ p) (hk : k ≤ 100) (hT : G T = none) (g : Gv (mn p G) d L') (o : LOk n L') (no : NmOk L') :
    ∃ ts : List Addr, (upd G T (.tup [.int (n : Int), .ref d])) D6 = some (.lst (ts.map V.ref)) ∧ (ts.map V.ref).length < sizeLine ∧ Oi B p D6 n (k + 1) (upd (upd G T (.tup [.int (n : Int), .ref d])) D6 (.lst (ts.map V.ref ++ [.ref T]))) := by
  have s := Same.new hT (.tup [.int (n : Int), .ref d])
  obtain ⟨b, sb, ts, e, l, ht⟩ := h.same s
  have eT := upd_same (H := G) (a := T) (o := .tup [.int (n : Int), .ref d])
  have g' := g.to (mn_mono s)
  generalize upd G T (.tup [.int (n : Int), .ref d]) = G' at b sb e ht eT g' ⊢
  refine ⟨ts, e, by rw [List.length_map]; exact small1000 (by omega), b.at_ne n6, fun c u ec => by rw [upd_ne (ne_of_none ec nB6)]; exact sb _ _ ec, ts ++ [T], by rw [upd_same, List.map_append]; rfl, by rw [List.length_append]; simp; omega, fun t hm => ?_⟩
  rcases List.mem_append.mp hm with hm | hm
  · obtain ⟨d', L'', x1, x2, x3, x4⟩ := ht t hm
    exact ⟨d', L'', by rw [upd_ne (ne_of x1 e fun z => nomatch z)]; exact x1, gv_keep x2 x3 e n6, x3, x4⟩
  · rw [List.mem_singleton.mp hm]
    exact ⟨d, L', by rw [upd_ne (ne_of eT e fun z => nomatch z)]; exact eT, gv_keep g' o e n6, o, no⟩
theorem pstep {J G : Hp} {p D T b : Addr} {g : Str → Str × List Nat} {zs : List Str} {i : Nat} {z : Str} (pd : PrD (mn p G) D ((zs.take i).map g)) (nD : D ≠ p) (bG : Bx G p) (hD : J D = none) (sG : Same J G) (hT : G T = none) (eb : mn p J b = some (.lst (nv (g z).2))) (hz1 : zs[i]? = some z) (l : zs.length ≤ 900) :
    ∃ acc, (upd G T (.tup [.str (g z).1, .ref b])) D = some (.lst acc) ∧ acc.length < sizeLine ∧ Same J (upd (upd G T (.tup [.str (g z).1, .ref b])) D (.lst (acc ++ [.ref T]))) ∧ PrD (mn p (upd (upd G T (.tup [.str (g z).1, .ref b])) D (.lst (acc ++ [.ref T])))) D ((zs.take (i + 1)).map g) := by
  have li : ((zs.take i).map g).length < 1000 := by rw [List.length_map, List.length_take]; omega
  have tk : (zs.take (i + 1)).map g = (zs.take i).map g ++ [((g z).1, (g z).2)] := by rw [List.take_add_one, hz1, List.map_append]; rfl
  obtain ⟨acc, a1, a2, a3, a4⟩ := pd.addP (T := T) (t := b) (z := (g z).1) (m := (g z).2) nD bG hD sG hT (mn_mono sG _ _ eb) (ne_of_none (mn_same _ _ eb) hD) li
  exact ⟨acc, a1, a2, a3, by rw [tk]; exact a4⟩
theorem PrD.dct {K : PySem.W.Frag} {G : Hp} {p D : Addr} {ps : Ltt} (pd : PrD (mn p G) D ps) (bG : Bx G p) : ∃ (as : List Addr) (lkv : List (Key × V)), SqL K G D (as.map V.ref) ∧ Paired (fun p (kv : Key × V) => SqT K G p [kV kv.1, kv.2]) as lkv ∧
    ∀ d, G d = none → Gv (mn p (upd G d (.dK (mergeK [] lkv)))) d (mkL ps) := by
  obtain ⟨as, lkv, y1, y2, y3⟩ := PrD.dict (K := K) pd mn_same
  exact ⟨as, lkv, y1, y2, fun d hd => ⟨_, mn_sx _ _ (bG.ne hd) upd_same, L2.Paired.mapP (GvP.mk y3) fun kv q ⟨c1, c2, c3, c4⟩ => ⟨c1, c2, c3, (mn_mono (Same.new hd _)) _ _ c4⟩⟩⟩
theorem ix_nat {n j : Nat} (h : j < n) : ixN n (j : Int) = some j := by
  unfold ixN
  rw [if_pos (by omega), if_pos (by omega)]; rfl
/-- letters changed at one letter -/
theorem gv_put {B G : Hp} {p d t : Addr} {kB : List (Key × V)} {L : Ltt} {z : Str} {m : List Nat} (pr : GvP B kB L) (s : Same B (mn p G)) (nd : d ≠ p) (nt : t ≠ p) (ed : G d = some (.dK (putK kB (Sum.inr z) (.ref t)))) (et : G t = some (.lst (nv m))) : Gv (mn p G) d (putL L z m) :=
  ⟨_, mn_sx _ _ nd ed, GvP.put (L2.Paired.mapP pr fun kv q ⟨x1, t, x2, x3⟩ => ⟨x1, t, x2, s _ _ x3⟩) (mn_sx _ _ nt et)⟩
theorem pair_comp {α β γ : Type} {R : α → β → Prop} {S : β → γ → Prop} : ∀ {as : List α} {bs : List β} {cs : List γ}, Paired R as bs → Paired S bs cs → Paired (fun a c => ∃ b, R a b ∧ S b c) as cs
  | _, _, _, .nil, .nil => .nil
  | _, _, _, .cons h t, .cons h' t' => .cons ⟨_, h, h'⟩ (pair_comp t t')
theorem pair_take {α β : Type} {R : α → β → Prop} : ∀ {as : List α} {bs : List β} (k : Nat), Paired R as bs → Paired R (as.take k) (bs.take k)
  | _, _, 0, _ => .nil
  | _, _, _ + 1, .nil => .nil
  | _, _, k + 1, .cons h t => .cons h (pair_take k t)
/-- a new list of pairs that are there -/
theorem prd_of {G : Hp} {p D : Addr} {as : List Addr} {ps : Ltt} (b : Bx G p) (hD : G D = none) (pr : Paired (fun a (q : Str × List Nat) => ∃ t, G a = some (.tup [.str q.1, .ref t]) ∧ mn p G t = some (.lst (nv q.2))) as ps) : PrD (mn p (upd G D (.lst (as.map V.ref)))) D ps := by
  have s := Same.new hD (.lst (as.map V.ref))
  refine ⟨as, mn_sx _ _ (b.ne hD) upd_same, L2.Paired.mapP pr fun a q ⟨t, x1, x2⟩ => ?_⟩
  exact ⟨ne_of_none x1 hD, t, mn_sx _ _ (b.ne_tup x1) (s _ _ x1), ne_of_none (mn_same _ _ x2) hD, mn_mono s _ _ x2⟩
theorem ix_last {n : Nat} (h : 1 ≤ n) : ixN n (-1) = some (n - 1) := by
  unfold ixN
  rw [if_neg (by omega), if_pos (by omega)]
  congr 1
  omega
theorem at_last {xs : List V} {v : V} (h : 1 ≤ xs.length) (e : xs[xs.length - 1]? = some v) : atI xs (-1) = some v := by
  unfold atI
  rw [ix_last h]; exact e
theorem cut_last (xs : List V) (h : 1 ≤ xs.length) : cutV xs none (some (-1)) = xs.take (xs.length - 1) := by
  unfold cutV
  rw [HT.sIx_none]
  have : HT.sIx xs.length xs.length (some (-1)) = xs.length - 1 := by
    show (if (-1 : Int) < 0 then ((-1 : Int) + (xs.length : Int)).toNat else min (-1 : Int).toNat xs.length) = _
    rw [if_pos (by decide)]; omega
  rw [this, List.drop_zero, Nat.sub_zero]
theorem cut_one (xs : List V) (h : 1 ≤ xs.length) : cutV xs none (some 1) = xs.take 1 := by
  unfold cutV
  rw [HT.sIx_none]
  have : HT.sIx xs.length xs.length (some 1) = 1 := by
    show (if (1 : Int) < 0 then ((1 : Int) + (xs.length : Int)).toNat else min (1 : Int).toNat xs.length) = _
    rw [if_neg (by decide)]; show min 1 xs.length = 1; omega
  rw [this, List.drop_zero, Nat.sub_zero]
theorem cut_from (xs : List V) (h : 1 ≤ xs.length) : cutV xs (some 1) none = xs.drop 1 := by
  unfold cutV
  rw [HT.sIx_none]
  have : HT.sIx xs.length 0 (some 1) = 1 := by
    show (if (1 : Int) < 0 then ((1 : Int) + (xs.length : Int)).toNat else min (1 : Int).toNat xs.length) = _
    rw [if_neg (by decide)]; show min 1 xs.length = 1; omega
  rw [this, List.take_of_length_le (by rw [List.length_drop]; omega)]
theorem zzz_ok : nm (Str.ofString "zzz") = true ∧ Ss 8 (Str.ofString "zzz") := by
  have h : Az (Str.ofString "zzz") := by unfold Az; decide +kernel
  exact ⟨nm_az h (by decide +kernel) (by decide +kernel), ss_az h (by decide +kernel)⟩
theorem Oi.ext2 {B G : Hp} {p D6 Ta Tb Le d1 d2 : Addr} {n k : Nat} {L1 L2' : Ltt} (h : Oi B p D6 n k G) (nB6 : B D6 = none) (n6 : D6 ≠ p) (hk : k ≤ 100) (hTa : G Ta = none) (hTb : (upd G Ta (.tup [.int (n : Int), .ref d1])) Tb = none) (hLe : (upd (upd G Ta (.tup [.int (n : Int), .ref d1])) Tb (.tup [.int (n : Int), .ref d2])) Le = none)
    (g1 : Gv (mn p G) d1 L1) (o1 : LOk n L1) (no1 : NmOk L1) (g2 : Gv (mn p G) d2 L2') (o2 : LOk n L2') (no2 : NmOk L2') :
    ∃ ts : List Addr, (upd (upd (upd G Ta (.tup [.int (n : Int), .ref d1])) Tb (.tup [.int (n : Int), .ref d2])) Le (.lst [.ref Ta, .ref Tb])) D6 = some (.lst (ts.map V.ref)) ∧ (ts.map V.ref).length + 2 ≤ sizeLine ∧
      Oi B p D6 n (k + 2) (upd (upd (upd (upd G Ta (.tup [.int (n : Int), .ref d1])) Tb (.tup [.int (n : Int), .ref d2])) Le (.lst [.ref Ta, .ref Tb])) D6 (.lst (ts.map V.ref ++ [.ref Ta, .ref Tb]))) := by
  have s1 := Same.new hTa (.tup [.int (n : Int), .ref d1])
  have s2 := Same.new hTb (.tup [.int (n : Int), .ref d2])
  have s3 := Same.new hLe (.lst [.ref Ta, .ref Tb])
  have s := s1.trans (s2.trans s3)
  obtain ⟨b, sb, ts, e, l, ht⟩ := h.same s
  have eTa := (s2.trans s3) _ _ (upd_same (H := G) (a := Ta) (o := .tup [.int (n : Int), .ref d1]))
  have eTb := s3 _ _ (upd_same (H := upd G Ta (.tup [.int (n : Int), .ref d1])) (a := Tb) (o := .tup [.int (n : Int), .ref d2]))
  have g1' := g1.to (mn_mono s)
  have g2' := g2.to (mn_mono s)
  generalize upd (upd (upd G Ta (.tup [.int (n : Int), .ref d1])) Tb (.tup [.int (n : Int), .ref d2])) Le (.lst [.ref Ta, .ref Tb]) = G' at b sb e ht eTa eTb g1' g2' ⊢
  refine ⟨ts, e, by rw [List.length_map]; exact szl _ (by omega), b.at_ne n6, fun c u ec => by rw [upd_ne (ne_of_none ec nB6)]; exact sb _ _ ec, ts ++ [Ta, Tb], by rw [upd_same, List.map_append]; rfl, by rw [List.length_append]; simp; omega, fun t hm => ?_⟩
  rcases List.mem_append.mp hm with hm | hm
  · obtain ⟨d', L'', x1, x2, x3, x4⟩ := ht t hm
    exact ⟨d', L'', by rw [upd_ne (ne_of x1 e fun z => nomatch z)]; exact x1, gv_keep x2 x3 e n6, x3, x4⟩
  · rcases List.mem_cons.mp hm with hm | hm
    · rw [hm]
      exact ⟨d1, L1, by rw [upd_ne (ne_of eTa e fun z => nomatch z)]; exact eTa, gv_keep g1' o1 e n6, o1, no1⟩
    · rw [List.mem_singleton.mp hm]
      exact ⟨d2, L2', by rw [upd_ne (ne_of eTb e fun z => nomatch z)]; exact eTb, gv_keep g2' o2 e n6, o2, no2⟩
theorem putL_keys {L : Ltt} {z : Str} {m : List Nat} (h : z ∈ L.map (·.1)) : (putL L z m).map (·.1) = L.map (·.1) := by
  unfold putL
  rw [if_pos h, List.map_map]
  refine List.map_congr_left fun q _ => ?_
  show (if q.1 = z then (q.1, m) else q).1 = q.1
  split <;> rfl
/-- what the def calls -/
structure ErH (P : Program) (w : World) (K : PySem.W.Frag) (mg : Str → Option Value) (base : Heap) (f1 f2 f3 f4 f5 f6 g1 : Addr) (d1 d2 d3 d4 d5 d6 e1 : FuncData) (C CF : Addr) : Prop where
  M : Mn mg
  U : TfX K CF
  Y : CTi K CF
  T : CTx K mg C
  YC : CTi K C
  NB : CNb K CF
  hS : ∃ o, base.get? sysModules = some o
  kT : PySem.W.kitOne K (.ref C) (.ref CF) = some false
  nT : PySem.W.notFirst K CF (.ref C) = true
  sI : PySem.W.subIn K (.ref CF) (.type "int") = some false
  hNe : PySem.W.findIn K (.ref CF) "__ne__" = some (some (.builtin "object.__ne__"))
  hEq : PySem.W.findIn K (.ref CF) "__eq__" = some (some (.ref g1))
  fEq : PySem.W.isFn K (.ref g1) = true
  GE : FnOk P w K mg base CX0 1 g1 e1 ["self", "other"] (spTeG K CF)
  bE : Binds K e1 ["self", "other"] []
  G1 : FnOk P w K mg base CX0 7 f1 d1 ["size", "letters"] (spLm CF)
  b1 : Binds K d1 ["size", "letters"] []
  k1 : PySem.W.keepIn K (.ref f1) = true
  m1 : mg "_law_made" = some (.ref f1)
  G2 : FnOk P w K mg base CX0 1 f2 d2 ["box", "size"] spTake
  b2 : Binds K d2 ["box", "size"] []
  k2 : PySem.W.keepIn K (.ref f2) = true
  m2 : mg "_law_take" = some (.ref f2)
  G3 : FnOk P w K mg base CX0 2 f3 d3 ["box", "letters"] (spMx K)
  b3 : Binds K d3 ["box", "letters"] []
  k3 : PySem.W.keepIn K (.ref f3) = true
  m3 : mg "_law_mixed" = some (.ref f3)
  G4 : FnOk P w K mg base CX0 1 f4 d4 ["self"] (spLs CF)
  b4 : Binds K d4 ["self"] []
  h4 : Meth K CF "letters" f4
  G5 : FnOk P w K mg base CX0 1 f5 d5 ["self"] (spCt CF)
  b5 : Binds K d5 ["self"] []
  h5 : Meth K CF "contents" f5
  G6 : FnOk P w K mg base CX0 7 f6 d6 ["self"] (spTt K C CF)
  b6 : Binds K d6 ["self"] []
  h6 : Meth K CF "table" f6
/-- what stays -/
structure ErB (CF : Addr) (B : Hp) (p l a D0 D6 : Addr) (n : Nat) (L : Ltt) (S : List En) (zs : List Str) : Prop where
  nBp : B p = none
  n6 : D6 ≠ p
  nB6 : B D6 = none
  o : LOk n L
  no : NmOk L
  rs : Res n L (some S)
  gB : Gv B l L
  tB : TrA CF B a n L S
  eB0 : B D0 = some (.lst (zs.map V.str))
  hzs : L.map (·.1) = zs
def erSt (p l a D0 D6 : Addr) (n : Nat) (x5 x7 x8 x9 x10 x11 x12 x13 x14 x15 x16 x17 x18 : Option V) : L2.St := [some (.ref p), some (.int (n : Int)), some (.ref l), some (.ref a), some (.ref D0), x5, some (.ref D6), x7, x8, x9, x10, x11, x12, x13, x14, x15, x16, x17, x18]
section
variable {P : Program} {w : World} {K : PySem.W.Frag} {mg : Str → Option Value} {base : Heap} {f f1 f2 f3 f4 f5 f6 g1 : Addr} {fd d1 d2 d3 d4 d5 d6 e1 : FuncData} {C CF CO : Addr}
theorem scEr : FnScope nEr ["box", "size", "letters"] (defScope sEr) := ⟨rfl, rfl, rfl, by decide +kernel, rfl, by decide +kernel, by decide +kernel⟩
end
end L

set_option Elab.async false
set_option linter.all false
set_option maxRecDepth 100000
set_option maxHeartbeats 8000000
set_option pp.maxSteps 400
namespace L
open PySem L2 KX
/-- the items of a dict of letters as data -/
def itD (L : Ltt) : List PyData := L.map fun q => .tuple [.str q.1, .list (nD q.2)]
theorem itD_lay : ∀ L : Ltt, (∀ q, q ∈ L → Ss 8 q.1) → PyData.canLayAll0 (itD L) = true ∧ PyData.depthAll (itD L) ≤ 2
  | [], _ => ⟨rfl, Nat.zero_le _⟩
  | q :: L, hs => by
    obtain ⟨h1, h2⟩ := itD_lay L fun q' hq => hs q' (List.mem_cons_of_mem _ hq)
    have e3 := ss_ok (hs q List.mem_cons_self)
    have e0 : PyData.depth (.list (nD q.2)) = 1 := by simp only [PyData.depth, nD_depth q.2]
    have e1 : PyData.canLay0 (.list (nD q.2)) = true := by simp only [PyData.canLay0]; exact nD_lay q.2
    refine ⟨?_, ?_⟩
    · show (PyData.canLay0 (.tuple [.str q.1, .list (nD q.2)]) && PyData.canLayAll0 (itD L)) = true
      rw [h1]
      have : PyData.canLay0 (.tuple [.str q.1, .list (nD q.2)]) = (PyData.canLay0 (.str q.1) && (PyData.canLay0 (.list (nD q.2)) && true)) := by simp only [PyData.canLay0, PyData.canLayAll0]
      rw [this, e1]
      simp [PyData.canLay0, e3]
    · show max (PyData.depth (.tuple [.str q.1, .list (nD q.2)])) (PyData.depthAll (itD L)) ≤ 2
      have : PyData.depth (.tuple [.str q.1, .list (nD q.2)]) = max (PyData.depth (.str q.1)) (max (PyData.depth (.list (nD q.2))) 0) + 1 := by simp only [PyData.depth, PyData.depthAll]
      rw [this, e0]
      have : PyData.depth (.str q.1) = 0 := by simp only [PyData.depth]
      omega
theorem itD_shaped {L : Ltt} (hs : ∀ q, q ∈ L → Ss 8 q.1) : SeqAt.shaped (.list (itD L)) = true := by
  obtain ⟨h1, h2⟩ := itD_lay L hs
  have c1 : PyData.canLay0 (.list (itD L)) = true := by simp only [PyData.canLay0]; exact h1
  have c2 : PyData.depth (.list (itD L)) ≤ 64 := by simp only [PyData.depth]; omega
  show (PyData.canLay0 (.list (itD L)) && decide (PyData.depth (.list (itD L)) ≤ 64)) = true
  rw [c1, decide_eq_true c2]; rfl
theorem itD_eqv : ∀ L M : Ltt, PyData.eqvAll (itD L) (itD M) = decide (L = M)
  | [], [] => rfl
  | [], _ :: _ => rfl
  | _ :: _, [] => rfl
  | q :: L, r :: M => by
    have h := itD_eqv L M
    show (PyData.eqv (.tuple [.str q.1, .list (nD q.2)]) (.tuple [.str r.1, .list (nD r.2)]) && PyData.eqvAll (itD L) (itD M)) = _
    have e2 : PyData.eqv (.list (nD q.2)) (.list (nD r.2)) = decide (q.2 = r.2) := by simp only [PyData.eqv]; exact nD_eqv _ _
    have e : PyData.eqv (.tuple [.str q.1, .list (nD q.2)]) (.tuple [.str r.1, .list (nD r.2)]) = (decide (q.1 = r.1) && decide (q.2 = r.2)) := by
      rw [← e2]
      simp only [PyData.eqv, PyData.eqvAll, Bool.and_true]
      congr 1
    rw [e, h, Bool.eq_iff_iff, Bool.and_eq_true, Bool.and_eq_true, decide_eq_true_iff, decide_eq_true_iff, decide_eq_true_iff, decide_eq_true_iff, List.cons.injEq]
    obtain ⟨a, b⟩ := q
    obtain ⟨c, d⟩ := r
    rw [Prod.mk.injEq]
/-- the pairs of a dict's items -/
theorem items_dp {K : PySem.W.Frag} {H : Hp} {ts : List Addr} {kvs : List (Key × V)} {L : Ltt} (pr : Paired (fun t (q : Key × V) => H t = some (.tup [kV q.1, q.2])) ts kvs) (g : GvP H kvs L) : DpAll K H (ts.map V.ref) (itD L) := by
  have := pair_comp pr g
  clear pr g
  induction this with
  | nil => exact .nil
  | @cons t q _ _ h _ ih =>
    obtain ⟨kv, x1, x2, b, x3, x4⟩ := h
    rw [x2, x3] at x1
    exact .cons (.tup (SqT.of x1) (.cons (.str _) (.cons (.lst (SqL.of x4) (dp_nv _)) .nil))) ih
section
variable {P : Program} {w : World} {K : PySem.W.Frag} {mg : Str → Option Value} {base : Heap} {f f1 f2 f3 f4 f5 f6 g1 : Addr} {fd d1 d2 d3 d4 d5 d6 e1 : FuncData} {C CF CO : Addr}
theorem er4 (Z : ErH P w K mg base f1 f2 f3 f4 f5 f6 g1 d1 d2 d3 d4 d5 d6 e1 C CF) {cdv : Value} {A : Around} {outer : List Env} {s : Shared} {H0 : Hp} {E : XK} (hr : Room 7 (A.deeper (PyProof.Rows.envOfC "_law_equal_right" (defScope sEr) s.heap.objs.size f cdv))) (hA : A.guards = some []) :
    ∃ t, PSs (cxOf CX0 P w K mg base nEr (Str.ofString "_law_equal_right") (defScope sEr) f cdv A outer s H0 E).nox ((defBody sEr).drop 22) t ∧ ∀ (D : Ends) (G B : Hp) (p l a D0 D6 : Addr) (n : Nat) (L : Ltt) (S : List En) (zs : List Str) (x5 x7 x8 x9 x10 x11 x12 x13 x14 x15 x16 x17 x18 : Option V), ErB CF B p l a D0 D6 n L S zs → Oi B p D6 n 9 G → (∀ H', Bx H' p → Same B H' → D.rt (.bl true) H') → t D [some (.ref p), some (.int (n : Int)), some (.ref l), some (.ref a), some (.ref D0), x5, some (.ref D6), x7, x8, x9, x10, x11, x12, x13, x14, x15, x16, x17, x18] G := by
  obtain ⟨M, U, Y, T, YC, NB, hS, kT, nT, sI, hNe, hEq, fEq, GE, bE, G1, b1, k1, m1, G2, b2, k2, m2, G3, b3, k3, m3, G4, b4, h4, G5, b5, h5, G6, b6, h6⟩ := Z
  have hmo := Y.hm
  have hr1 : Room 1 _ := hr.mono (by decide)
  have hr2 : Room 2 _ := hr.mono (by decide)
  have hr7 : Room 7 _ := hr
  have hu := hr.units
  have hu1 : (A.deeper (PyProof.Rows.envOfC "_law_equal_right" (defScope sEr) s.heap.objs.size f cdv)).units + 1 < cLine := by omega
  have rp := fun {X : Cx} (h1 : X.base = base) (h2 : X.A = (A.deeper (PyProof.Rows.envOfC "_law_equal_right" (defScope sEr) s.heap.objs.size f cdv))) => @call_repr_q X (by rw [h1]; exact hS) (by rw [h2]; exact hA) (by rw [h2]; exact hu)
  refine ⟨_, (pss_cons (ps_for PassesOwn.never rfl (pi_list (pv 6)) (pg_tup rfl (pgs_cons (pg_name (i := 14) scEr.nd rfl (Or.inl rfl)) (pgs_cons (pg_name (i := 15) scEr.nd rfl (Or.inl rfl)) pgs_nil))) (pss_cons (ps_set (i := 16) scEr.nd rfl (Or.inl rfl) (pe_cmpR (op_eqD hu) (LiI.pe_listItems rfl (pv 15) (by rfl) M.list (by decide +kernel)) (LiI.pe_listItems rfl (pv 2) (by rfl) M.list (by decide +kernel)) (nomark _))) (pss_cons (ps_set (i := 17) scEr.nd rfl (Or.inl rfl) (pe_call G1 hr7 (by rfl) m1 k1 b1 .nil pass0 (pa_cons (pv 14) (pa_cons (pv 15) pa_nil)))) (pss_one (ps_if (pw_and (pt_not (pt_val (pe_callB call_isi (by rfl) M.isin (by decide +kernel) (pa_cons (pv 17) (pa_cons (pe_bltn (v := .ty "int") (by rfl) M.int (by decide +kernel) rfl) pa_nil))))) (pw_and1 (pw_or (pt_cmpR op_ne (pe_cmpR (op_eqA (K := K) rfl GE hr1 hEq fEq bE) (pv 3) (pv 17) (nomark _)) (pv 16) (nomark _)) (pw_or1 (pt_cmpR op_ne (pe_cmpR (op_eqA (K := K) rfl GE hr1 hEq fEq bE) (pv 17) (pv 3) (nomark _)) (pv 16) (nomark _)))).pt)).pt (pss_one (ps_ret pe_bl)) pss_nil))))) (pss_one (ps_ret (pe_cmpR (op_eqD hu) (pe_lc (own := [("other", 15)]) (g := gName 15)  rfl scEr.nd (pil (K := K) rfl (pe_lst (pa_cons pe_non (pa_cons pe_int (pa_cons (pv 2) (pa_cons (pe_meth0 (pv 3) U.cl h5 G5 hr1 b5 .nil pass0) (pa_cons (pe_meth0 (pv 3) U.cl h6 G6 hr7 b6 .nil pass0) pa_nil))))))) (blkOk_by (N := nEr) (sc := defScope sEr) (by decide +kernel)) (fun _ _ _ _ _ => (pg_name (i := 15) scEr.nd rfl (Or.inl rfl))) (fun _ _ _ _ _ => (pts_one (pt_cmpR (op_eqA (K := K) rfl GE hr1 hEq fEq bE) (pv 3) (pv 15) (nomark _)))) (fun _ _ _ _ _ => pe_int)) (pe_lst pa_nil) (nomark _))))), ?_⟩
  intro D G B p l a D0 D6 n L S zs x5 x7 x8 x9 x10 x11 x12 x13 x14 x15 x16 x17 x18 hB I0 q
  obtain ⟨nBp, n6, nB6, o, no, rs, gB, tB, eB0, hzs⟩ := hB
  have n1 := o.n1
  have n5 := o.n5
  have l1 := o.le
  have l4 := o.ge
  have fn := Res.fnd o rs
  have s16 := fn.le
  have lzs : zs.length = L.length := by rw [← hzs, List.length_map]
  have hz : ∀ z, z ∈ zs → z ∈ L.map (·.1) := fun z h => by rw [hzs]; exact h
  have sBm : ∀ {J : Hp}, Same B J → Same B (mn p J) := fun s b u e => mn_sx _ _ (fun z => by rw [z, nBp] at e; cases e) (s _ _ e)
  have px : ∀ {zs' : List Str}, (∀ z, z ∈ zs' → z ∈ zs) → Px n (zs'.map fun z => (z, tg L z)) := fun h => px_names o no fun z hm => hz z (h z hm)
  obtain ⟨kB, eB, prB⟩ := id gB
  have lk : kB.length = L.length := prB.length
  obtain ⟨dx, _, _, _, ea, _⟩ := id tB.ob
  have kitI : PySem.W.kitOne K (.ref CF) (.type "int") = some false := by
    unfold PySem.W.kitOne PySem.W.kitCls
    rw [show ((Value.ref CF) == (Value.type "int")) = false from rfl, if_neg Bool.false_ne_true]
    show (if PySem.W.kitMeta "int" = true then PySem.W.subIn K (.ref CF) (.type "int") else none) = some false
    rw [if_pos (by rfl)]; exact sI
  obtain ⟨bG, sG, ts, e6, lts, hts⟩ := I0
  refine ⟨_, rfl, D6, rfl, ⟨_, SqL.of e6⟩, ?_⟩
  refine for_it (walk_list (xs := ts.map V.ref)) (fun i σ J => Same G J ∧ ∃ x14 x15 x16 x17, σ = [some (.ref p), some (.int (n : Int)), some (.ref l), some (.ref a), some (.ref D0), x5, some (.ref D6), x7, x8, x9, x10, x11, x12, x13, x14, x15, x16, x17, x18]) ⟨Same.refl _, _, _, _, _, rfl⟩ (fun i σ J _ z => SqL.of (z.1 _ _ e6)) ?_ ?_
  · rintro i y _ J J' hi ⟨sJ, x14, x15, x16, x17, rfl⟩ ⟨rfl, hy⟩
    obtain ⟨t, ht, rfl⟩ := ref_at hy
    obtain ⟨d, L', et, gd, o', no'⟩ := hts t (List.mem_of_getElem? ht)
    have gJ : Gv J' d L' := (gd.to mn_same).to sJ
    obtain ⟨kd, ed, prd⟩ := id gJ
    have sBJ := sG.trans sJ
    refine ⟨t, _, rfl, SqT.of (sJ _ _ et), rfl, _, _, rfl, _, _, rfl, rfl, ?_⟩
    refine ⟨_, rfl, d, kd, rfl, ed, fun J1 P1 ts1 s1 hP1 _ _ eP1 pr1 => ?_⟩
    refine ⟨_, rfl, l, kB, rfl, s1 _ _ (sBJ _ _ eB), fun J2 P2 ts2 s2 hP2 _ _ eP2 pr2 => ?_⟩
    have s02 : Same J' J2 := Same.trans s1 s2
    refine ⟨.list (itD L'), .list (itD L), .lst (SqL.of (s2 _ _ eP1)) (items_dp (L2.Paired.mapP pr1 fun _ _ z => s2 _ _ z) (L2.Paired.mapP prd fun kv q ⟨x1, t, x2, x3⟩ => ⟨x1, t, x2, s02 _ _ x3⟩)), .lst (SqL.of eP2) (items_dp pr2 (L2.Paired.mapP prB fun kv q ⟨x1, t, x2, x3⟩ => ⟨x1, t, x2, s02 _ _ (sBJ _ _ x3)⟩)), itD_shaped o'.ss, itD_shaped o.ss, ?_⟩
    rw [show PyData.eqv (.list (itD L')) (.list (itD L)) = decide (L' = L) by simp only [PyData.eqv]; exact itD_eqv _ _]
    have sB2 := sBJ.trans s02
    refine ⟨_, rfl, _, rfl, n, d, L', rfl, o', no', (gJ.to s02).t, fun S2 b J3 rs2 tb s3 hb => ?_, fun J3 rn s3 => ?_⟩
    · have tJ := tB.to (sB2.trans s3)
      have eaJ := (sB2.trans s3) _ _ ea
      obtain ⟨dxb, _, _, _, eb, _⟩ := id tb.ob
      refine ⟨_, rfl, _, .ty "int", .ref CF, .type "int", false, rfl, .ty _, .base (.ins eb U.cl Y.ha Y.hn Y.htk Y.hm), kitI, false, rfl, iteTt rfl ?_⟩
      have eb' := eb
      refine ⟨_, rfl, _, rfl, a, _, _, _, rfl, eaJ, .base (.ins eb U.cl Y.ha Y.hn Y.htk Y.hm), notFirst_self, a, n, L, S, .ref b, decide (L' = L), rfl, tJ, o, .inl ⟨b, n, L', S2, rfl, tb, o', by simp [eq_comm]⟩, _, rfl, _, rfl, rfl, _, rfl, iteFf (by simp) ?_⟩
      refine ⟨_, rfl, _, rfl, b, _, _, _, rfl, eb, .base (.ins eaJ U.cl Y.ha Y.hn Y.htk Y.hm), notFirst_self, b, n, L', S2, .ref a, decide (L' = L), rfl, tb, o', .inl ⟨a, n, L, S, rfl, tJ, o, by simp⟩, _, rfl, _, rfl, rfl, _, rfl, iteFf (by simp) ?_⟩
      exact ⟨sJ.trans (s02.trans s3), _, _, _, _, rfl⟩
    · refine ⟨_, rfl, _, .ty "int", .type "int", .type "int", true, rfl, .ty _, .base (.int _), kit_ty (by decide +kernel), true, rfl, iteFf rfl ?_⟩
      exact ⟨sJ.trans (s02.trans s3), _, _, _, _, rfl⟩
  rintro _ J ⟨sJ, x14', x15', x16', x17', rfl⟩
  have sBJ := sG.trans sJ
  refine ⟨_, rfl, _, rfl, a, _, _, rfl, sBJ _ _ ea, rfl, a, n, L, S, rfl, tB.to sBJ, fun Dc cs J1 s1 hDc eDc pDc => ⟨_, rfl, a, _, _, rfl, (sBJ.trans s1) _ _ ea, rfl, a, n, L, S, rfl, tB.to (sBJ.trans s1), o, fn, fun x J2 hx tx s2 => ⟨szl _ (by simp), fun W hW => ⟨W, rfl, ⟨_, SqL.of upd_same⟩, fun D1 hD1 => ?_⟩⟩⟩⟩
  have w := Same.new hW (.lst [.non, .int 7, .ref l, .ref Dc, .ref x])
  have eW := upd_same (H := J2) (a := W) (o := .lst [.non, .int 7, .ref l, .ref Dc, .ref x])
  have sB2 := (sBJ.trans s1).trans (s2.trans w)
  have bW := bG.same (sJ.trans (s1.trans (s2.trans w)))
  have eDc2 := (s2.trans w) _ _ eDc
  have tx2 := tx.to w
  generalize upd J2 W (.lst [.non, .int 7, .ref l, .ref Dc, .ref x]) = J3 at eW sB2 bW eDc2 tx2 hD1 ⊢
  clear w hW s1 s2 hDc eDc pDc hx tx
  have no1 : ∀ T : String, (fastBuiltinMro T).map (·.contains (.ref CF)) = some false → PySem.W.kitOne K (.type T) (.ref CF) = some false ∧ PySem.W.notFirst K CF (.type T) = true := fun T e => ⟨NB.no e, notFirst_ty e⟩
  have ty : ∀ y, y ∈ [V.non, V.int 7, V.ref l, V.ref Dc, V.ref x] → ∀ J', Same J3 J' → ∃ t, TyX K J' y t ∧ PySem.W.kitOne K t (.ref CF) = some false ∧ PySem.W.notFirst K CF t = true := fun y hy J' s => by
    simp only [List.mem_cons, List.not_mem_nil, or_false] at hy
    rcases hy with rfl | rfl | rfl | rfl | rfl
    · exact ⟨_, .base .non, no1 "NoneType" rfl⟩
    · exact ⟨_, .base (.int _), no1 "int" rfl⟩
    · exact ⟨_, .base (.dK (s _ _ (sB2 _ _ eB))), no1 "dict" rfl⟩
    · exact ⟨_, .base (.lst (s _ _ eDc2)), no1 "list" rfl⟩
    · exact ⟨_, (tx2.to s).ty T YC, kT, nT⟩
  refine lc_it (walk_list (xs := [V.non, V.int 7, V.ref l, V.ref Dc, V.ref x])) (fun i J => Same J3 J ∧ J D1 = some (.lst [])) ⟨Same.new hD1 _, upd_same⟩ (fun i J _ z => SqL.of (z.1 _ _ eW)) ?_ ?_
  · rintro i y J4 J5 hi ⟨s4, e4⟩ ⟨rfl, hy⟩
    obtain ⟨t, y1, y2, y3⟩ := ty y (List.mem_of_getElem? hy) _ s4
    have s5 := sB2.trans s4
    refine ⟨rfl, _, rfl, _, rfl, a, _, _, t, rfl, s5 _ _ ea, y1, y3, a, n, L, S, y, false, rfl, tB.to s5, o, .inr ⟨t, y1, y2, rfl⟩, false, rfl, _, rfl, ?_⟩
    exact iteF ⟨s4, e4⟩
  rintro J4 ⟨s4, e4⟩
  refine ⟨szl _ (by simp), fun w2 hw2 => ?_⟩
  have w3 := Same.new hw2 (.lst [])
  refine ⟨_, _, .lst (SqL.of (w3 _ _ e4)) .nil, .lst (SqL.of upd_same) .nil, rfl, rfl, ?_⟩
  have s6 := (sB2.trans s4).trans w3
  exact q _ ((bW.same s4).same w3) s6
end
end L

set_option Elab.async false
set_option linter.all false
set_option maxRecDepth 100000
set_option maxHeartbeats 8000000
set_option pp.maxSteps 400
namespace L
open PySem L2 KX
/-- a list of pairs whose targets are tuples -/
def PrT (G : Hp) (D : Addr) (ps : Ltt) : Prop := ∃ as : List Addr, G D = some (.lst (as.map V.ref)) ∧ Paired (fun a (q : Str × List Nat) => a ≠ D ∧ ∃ t, G a = some (.tup [.str q.1, .ref t]) ∧ t ≠ D ∧ G t = some (.tup (nv q.2))) as ps
theorem PrT.add {H G G' : Hp} {D T t : Addr} {ps : Ltt} {z : Str} {m : List Nat} (h : PrT G D ps) (s : Same G G') (hH : H D = none) (sH : Same H G') (hT : G' T = some (.tup [.str z, .ref t])) (ht : G' t = some (.tup (nv m))) (l : ps.length < 1000) :
    ∃ acc, G' D = some (.lst acc) ∧ acc.length < sizeLine ∧ Same H (upd G' D (.lst (acc ++ [.ref T]))) ∧ PrT (upd G' D (.lst (acc ++ [.ref T]))) D (ps ++ [(z, m)]) := by
  obtain ⟨as, e, p⟩ := h
  have la : as.length = ps.length := p.length
  have e' := s _ _ e
  have nT : T ≠ D := ne_of hT e' fun z => nomatch z
  have nt : t ≠ D := ne_of ht e' fun z => nomatch z
  refine ⟨_, e', by rw [List.length_map, la]; exact small1000 (Nat.le_of_lt l), fun b o eb => by rw [upd_ne (ne_of_none eb hH)]; exact sH _ _ eb, as ++ [T], by rw [upd_same, List.map_append]; rfl, ?_⟩
  exact pair_app (L2.Paired.mapP p fun a q ⟨x1, t', x2, x3, x4⟩ => ⟨x1, t', by rw [upd_ne x1]; exact s _ _ x2, x3, by rw [upd_ne x3]; exact s _ _ x4⟩) ⟨nT, t, by rw [upd_ne nT]; exact hT, nt, by rw [upd_ne nt]; exact ht⟩
theorem PrT.dict {K : PySem.W.Frag} {G : Hp} {D : Addr} {ps : Ltt} (h : PrT G D ps) : ∃ (as : List Addr) (lkv : List (Key × V)), SqL K G D (as.map V.ref) ∧ Paired (fun p (kv : Key × V) => SqT K G p [kV kv.1, kv.2]) as lkv ∧ GtP G lkv ps := by
  obtain ⟨as, e, p⟩ := h
  suffices h : ∃ lkv : List (Key × V), Paired (fun p (kv : Key × V) => SqT K G p [kV kv.1, kv.2]) as lkv ∧ GtP G lkv ps by
    obtain ⟨lkv, h1, h2⟩ := h
    exact ⟨as, lkv, SqL.of e, h1, h2⟩
  clear e
  induction p with
  | nil => exact ⟨[], .nil, .nil⟩
  | @cons a q _ _ h _ ih =>
    obtain ⟨lkv, h1, h2⟩ := ih
    obtain ⟨_, t, e1, _, e2⟩ := h
    exact ⟨(Sum.inr q.1, .ref t) :: lkv, .cons (SqT.of e1) h1, .cons ⟨rfl, t, rfl, .inr e2⟩ h2⟩
theorem names_L {L : Ltt} (no : NmOk L) : ((L.map (·.1)).map fun z => (z, tg L z)) = L := by
  rw [List.map_map]
  have : ∀ M : Ltt, (∀ q, q ∈ M → q ∈ L) → M.map ((fun z => (z, tg L z)) ∘ (·.1)) = M := fun M => by
    induction M with
    | nil => intro _; rfl
    | cons q M ih =>
      intro h
      rw [List.map_cons, ih fun x hx => h x (List.mem_cons_of_mem _ hx)]
      show (q.1, tg L q.1) :: M = q :: M
      rw [tg_of no (h q List.mem_cons_self)]
  exact this L fun _ h => h
section
variable {P : Program} {w : World} {K : PySem.W.Frag} {mg : Str → Option Value} {base : Heap} {f f1 f2 f3 f4 f5 f6 g1 : Addr} {fd d1 d2 d3 d4 d5 d6 e1 : FuncData} {C CF CO : Addr}
theorem er3 (Z : ErH P w K mg base f1 f2 f3 f4 f5 f6 g1 d1 d2 d3 d4 d5 d6 e1 C CF) {cdv : Value} {A : Around} {outer : List Env} {s : Shared} {H0 : Hp} {E : XK} (hr : Room 7 (A.deeper (PyProof.Rows.envOfC "_law_equal_right" (defScope sEr) s.heap.objs.size f cdv))) (hA : A.guards = some []) :
    ∃ t, PSs (cxOf CX0 P w K mg base nEr (Str.ofString "_law_equal_right") (defScope sEr) f cdv A outer s H0 E).nox ((defBody sEr).drop 18) t ∧ ∀ (D : Ends) (G B : Hp) (p l a D0 D6 : Addr) (n : Nat) (L : Ltt) (S : List En) (zs : List Str) (x5 x7 x8 x9 x10 x11 x12 x13 x14 x15 x16 x17 x18 : Option V), ErB CF B p l a D0 D6 n L S zs → Oi B p D6 n 7 G → (∀ H', Bx H' p → Same B H' → D.rt (.bl true) H') → t D [some (.ref p), some (.int (n : Int)), some (.ref l), some (.ref a), some (.ref D0), x5, some (.ref D6), x7, x8, x9, x10, x11, x12, x13, x14, x15, x16, x17, x18] G := by
  obtain ⟨M, U, Y, T, YC, NB, hS, kT, nT, sI, hNe, hEq, fEq, GE, bE, G1, b1, k1, m1, G2, b2, k2, m2, G3, b3, k3, m3, G4, b4, h4, G5, b5, h5, G6, b6, h6⟩ := Z
  have hmo := Y.hm
  have hr1 : Room 1 _ := hr.mono (by decide)
  have hr2 : Room 2 _ := hr.mono (by decide)
  have hr7 : Room 7 _ := hr
  have hu := hr.units
  have hu1 : (A.deeper (PyProof.Rows.envOfC "_law_equal_right" (defScope sEr) s.heap.objs.size f cdv)).units + 1 < cLine := by omega
  have rp := fun {X : Cx} (h1 : X.base = base) (h2 : X.A = (A.deeper (PyProof.Rows.envOfC "_law_equal_right" (defScope sEr) s.heap.objs.size f cdv))) => @call_repr_q X (by rw [h1]; exact hS) (by rw [h2]; exact hA) (by rw [h2]; exact hu)
  obtain ⟨t4, hs, h4'⟩ := er4 (f := f) (cdv := cdv) (A := A) (outer := outer) (s := s) (H0 := H0) (E := E) ⟨M, U, Y, T, YC, NB, hS, kT, nT, sI, hNe, hEq, fEq, GE, bE, G1, b1, k1, m1, G2, b2, k2, m2, G3, b3, k3, m3, G4, b4, h4, G5, b5, h5, G6, b6, h6⟩ hr hA
  refine ⟨_, (pss_cons (ps_cut (ps_if (pt_cmpR op_gt (pe_callB (lenl (K := K) rfl) (by rfl) M.len PySem.boot_len (pa_cons (pv 4) pa_nil)) pe_int (nomark _)) (pss_cons (ps_expr (pe_bm PySem.F.plainAttrs_list PySem.F.slot_list_append PySem.F.type_list_append mt_append (pv 6) (pa_cons (pe_tup (pa_cons (pv 1) (pa_cons (pe_callTy (call_dictP rfl) (by rfl) M.dict (by decide +kernel) (pa_cons (pe_lc (own := [("one", 18)]) (g := gName 18) (tt := tYes) rfl scEr.nd (pil (K := K) rfl (pe_slice sl_list (pv 4) po_none (po_some (pe_un un_neg pe_int)))) (blkOk_by (N := nEr) (sc := defScope sEr) (by decide +kernel)) (fun _ _ _ _ _ => (pg_name (i := 18) scEr.nd rfl (Or.inl rfl))) (fun _ _ _ _ _ => pts_nil) (fun _ _ _ _ _ => (pe_tup (pa_cons (pv 18) (pa_cons (pe_dget (by exact hu1) (pv 2) (pv 18) (fun _ _ => rfl)) pa_nil))))) pa_nil)) pa_nil))) pa_nil))) (pss_one (ps_expr (pe_bm PySem.F.plainAttrs_list PySem.F.slot_list_append PySem.F.type_list_append mt_append (pv 6) (pa_cons (pe_tup (pa_cons (pv 1) (pa_cons (pe_callTy (call_dictP rfl) (by rfl) M.dict (by decide +kernel) (pa_cons (pe_lc (own := [("one", 18)]) (g := gName 18) (tt := tYes) rfl scEr.nd (pil (K := K) rfl (pe_op op_cat (pe_slice sl_list (pv 4) po_none (po_some pe_int)) (pe_rev0 (pv 4)))) (blkOk_by (N := nEr) (sc := defScope sEr) (by decide +kernel)) (fun _ _ _ _ _ => (pg_name (i := 18) scEr.nd rfl (Or.inl rfl))) (fun _ _ _ _ _ => pts_nil) (fun _ _ _ _ _ => (pe_tup (pa_cons (pv 18) (pa_cons (pe_dget (by exact hu1) (pv 2) (pv 18) (fun _ _ => rfl)) pa_nil))))) pa_nil)) pa_nil))) pa_nil))))) pss_nil)) (pss_cons (ps_set (i := 12) scEr.nd rfl (Or.inl rfl) (pe_call G1 hr7 (by rfl) m1 k1 b1 .nil pass0 (pa_cons (pv 1) (pa_cons (pe_callTy (call_dictP rfl) (by rfl) M.dict (by decide +kernel) (pa_cons (pe_lc (own := [("one", 18)]) (g := gName 18) (tt := tYes) rfl scEr.nd (pil (K := K) rfl (pv 4)) (blkOk_by (N := nEr) (sc := defScope sEr) (by decide +kernel)) (fun _ _ _ _ _ => (pg_name (i := 18) scEr.nd rfl (Or.inl rfl))) (fun _ _ _ _ _ => pts_nil) (fun _ _ _ _ _ => (pe_tup (pa_cons (pv 18) (pa_cons (pe_callTy (ctu (K := K) rfl) (by rfl) M.tuple (by decide +kernel) (pa_cons (pe_dget (by exact hu1) (pv 2) (pv 18) (fun _ _ => rfl)) pa_nil)) pa_nil))))) pa_nil)) pa_nil)))) (pss_cons (ps_set (i := 13) scEr.nd rfl (Or.inl rfl) (pe_lst (pa_cons (pe_meth0 (pv 12) U.cl h4 G4 hr1 b4 .nil pass0) (pa_cons (pe_meth0 (pv 12) U.cl h5 G5 hr1 b5 .nil pass0) pa_nil)))) (pss_cons (ps_if (pw_or (pt_not (pt_cmpR (op_eqA (K := K) rfl GE hr1 hEq fEq bE) (pv 3) (pv 12) (nomark _))) (pw_or (pt_cmpR (op_neO GE hr2 hmo hNe hEq fEq bE) (pv 3) (pv 12) (nomark _)) (pw_or1 (pt_cmpR op_ne (pe_callB (rp rfl rfl) (by rfl) M.repr (by decide +kernel) (pa_cons (pv 13) pa_nil)) (pe_callB (rp rfl rfl) (by rfl) M.repr (by decide +kernel) (pa_cons (pe_lst (pa_cons (pv 2) (pa_cons (pe_meth0 (pv 3) U.cl h5 G5 hr1 b5 .nil pass0) pa_nil))) pa_nil)) (nomark _))))).pt (pss_one (ps_ret pe_bl)) pss_nil) hs)))), ?_⟩
  intro D G B p l a D0 D6 n L S zs x5 x7 x8 x9 x10 x11 x12 x13 x14 x15 x16 x17 x18 hB I0 q
  obtain ⟨nBp, n6, nB6, o, no, rs, gB, tB, eB0, hzs⟩ := hB
  have n1 := o.n1
  have n5 := o.n5
  have l1 := o.le
  have l4 := o.ge
  have fn := Res.fnd o rs
  have s16 := fn.le
  have lzs : zs.length = L.length := by rw [← hzs, List.length_map]
  have hz : ∀ z, z ∈ zs → z ∈ L.map (·.1) := fun z h => by rw [hzs]; exact h
  have sBm : ∀ {J : Hp}, Same B J → Same B (mn p J) := fun s b u e => mn_sx _ _ (fun z => by rw [z, nBp] at e; cases e) (s _ _ e)
  have px : ∀ {zs' : List Str}, (∀ z, z ∈ zs' → z ∈ zs) → Px n (zs'.map fun z => (z, tg L z)) := fun h => px_names o no fun z hm => hz z (h z hm)
  obtain ⟨kB, eB, prB⟩ := id gB
  have lk : kB.length = L.length := prB.length
  have hl1 : 1 ≤ (zs.map V.str).length := by rw [List.length_map]; omega
  have e00 := I0.sb _ _ eB0
  refine ⟨fun σ J => Oi B p D6 n 9 J ∧ σ = [some (.ref p), some (.int (n : Int)), some (.ref l), some (.ref a), some (.ref D0), x5, some (.ref D6), x7, x8, x9, x10, x11, x12, x13, x14, x15, x16, x17, x18], ⟨_, rfl, D0, _, rfl, .inl (SqL.of e00), _, _, rfl, rfl, _, rfl, ite2 (fun c => ?_) (fun c => ?_)⟩, ?_⟩
  rotate_left
  · obtain ⟨bx, sb, ts, e1, e2, e3⟩ := I0
    exact ⟨⟨bx, sb, ts, e1, by omega, e3⟩, rfl⟩
  rotate_left
  · rw [List.length_map] at c
    have c2 : 1 < zs.length := by have := of_decide_eq_true c; omega
    obtain ⟨ts0, e60, _⟩ := I0.ts
    refine ⟨_, rfl, .inl ⟨rfl, _, SqL.of e60⟩, _, rfl, _, rfl, _, rfl, _, rfl, D0, _, rfl, SqL.of e00, fun P1 hP1 => ?_⟩
    rw [cut_last _ hl1, List.length_map]
    have w1 := Same.new hP1 (.lst ((zs.map V.str).take (zs.length - 1)))
    have eP1 : (upd G P1 (.lst ((zs.map V.str).take (zs.length - 1)))) P1 = some (.lst ((zs.take (zs.length - 1)).map V.str)) := by rw [upd_same, List.map_take]
    have I1 := I0.same w1
    generalize upd G P1 (.lst ((zs.map V.str).take (zs.length - 1))) = G1 at eP1 I1 ⊢
    refine ⟨P1, rfl, ⟨_, SqL.of eP1⟩, fun D1 hD1 => ?_⟩
    have nD1 := I1.bx.ne hD1
    refine lc_it (walk_list (xs := (zs.take (zs.length - 1)).map V.str)) (fun i G => Same G1 G ∧ PrD (mn p G) D1 (((zs.take (zs.length - 1)).take i).map fun z => (z, tg L z))) ⟨Same.new hD1 _, by rw [mn_out nD1]; exact PrD.nil⟩ (fun i G _ z => SqL.of (z.1 _ _ eP1)) ?_ ?_
    · rintro i y G G' hi ⟨sG, pd⟩ ⟨rfl, hy⟩
      obtain ⟨z, hz1, rfl⟩ := str_at hy
      obtain ⟨b, hgd, eb⟩ := gv_in gB no (hz z (List.mem_of_mem_take (List.mem_of_getElem? hz1)))
      refine ⟨rfl, _, rfl, _, rfl, _, rfl, l, _, rfl, hgd _ (I1.sb.trans sG), szl _ (by simp), fun T hT => ?_⟩
      exact pstep (g := fun z => (z, tg L z)) pd nD1 (I1.bx.same sG) hD1 sG hT (sBm I1.sb _ _ eb) hz1 (by rw [List.length_take]; omega)
    rintro G2 ⟨sG, pd⟩
    rw [List.length_map, List.take_length] at pd
    have I2 := I1.same sG
    obtain ⟨as, lkv, y1, y2, y3⟩ := pd.dct (K := K) I2.bx
    refine ⟨D1, as, lkv, rfl, y1, y2, fun d hd => ⟨szl _ (by simp), fun T hT => ?_⟩⟩
    obtain ⟨o', no'⟩ := mkL_ok (px (zs' := zs.take (zs.length - 1)) fun z h => List.mem_of_mem_take h) (by rw [List.length_map, List.length_take]; omega) (by rw [List.length_map, List.length_take]; omega) n1 n5
    have g2 := y3 d hd
    have I3 := I2.same (Same.new hd (.dK (mergeK [] lkv)))
    generalize upd G2 d (.dK (mergeK [] lkv)) = G3 at g2 I3 hT ⊢
    obtain ⟨ts, c1, c3, I4⟩ := I3.put nB6 n6 (by decide) hT g2 o' no'
    refine ⟨D6, _, _, rfl, rfl, c1, c3, ?_⟩
    generalize upd (upd G3 T (.tup [.int (n : Int), .ref d])) D6 (.lst (ts.map V.ref ++ [.ref T])) = G4 at I4 ⊢
    clear I3 c1 c3 hT g2 hd o' no' y1 y2 y3 pd I2 sG hD1 nD1 I1 eP1 w1 hP1 e00 e60
    have e00 := I4.sb _ _ eB0
    obtain ⟨ts4, e64, _⟩ := I4.ts
    refine ⟨_, rfl, .inl ⟨rfl, _, SqL.of e64⟩, _, rfl, _, rfl, _, rfl, D0, _, rfl, SqL.of e00, fun P1 hP1 => ?_⟩
    rw [cut_one _ hl1]
    have w1 := Same.new hP1 (.lst ((zs.map V.str).take 1))
    refine ⟨_, rfl, D0, _, rfl, SqL.of (w1 _ _ e00), hl1, fun P2 hP2 => ?_⟩
    have w2 := Same.new hP2 (.lst ((zs.map V.str).drop 1).reverse)
    refine ⟨P1, P2, _, _, rfl, rfl, w2 _ _ upd_same, upd_same, szl _ (by rw [List.length_take, List.length_reverse, List.length_drop, List.length_map]; omega), fun P3 hP3 => ?_⟩
    have w3 := Same.new hP3 (.lst ((zs.map V.str).take 1 ++ ((zs.map V.str).drop 1).reverse))
    have eP3 : (upd (upd (upd G4 P1 (.lst ((zs.map V.str).take 1))) P2 (.lst ((zs.map V.str).drop 1).reverse)) P3 (.lst ((zs.map V.str).take 1 ++ ((zs.map V.str).drop 1).reverse))) P3 = some (.lst ((zs.take 1 ++ (zs.drop 1).reverse).map V.str)) := by
      rw [upd_same, List.map_append, List.map_take, List.map_reverse, List.map_drop]
    have I5 := I4.same (w1.trans (w2.trans w3))
    generalize upd (upd (upd G4 P1 (.lst ((zs.map V.str).take 1))) P2 (.lst ((zs.map V.str).drop 1).reverse)) P3 (.lst ((zs.map V.str).take 1 ++ ((zs.map V.str).drop 1).reverse)) = G5 at I5 eP3 ⊢
    have hq : ∀ z, z ∈ zs.take 1 ++ (zs.drop 1).reverse → z ∈ zs := fun z h => (List.mem_append.mp h).elim List.mem_of_mem_take fun h => List.mem_of_mem_drop (List.mem_reverse.mp h)
    have lq : (zs.take 1 ++ (zs.drop 1).reverse).length = zs.length := by rw [List.length_append, List.length_take, List.length_reverse, List.length_drop]; omega
    generalize zs.take 1 ++ (zs.drop 1).reverse = yq at eP3 hq lq
    clear w1 w2 w3 hP1 hP2 hP3
    refine ⟨P3, rfl, ⟨_, SqL.of eP3⟩, fun D1 hD1 => ?_⟩
    have nD1 := I5.bx.ne hD1
    refine lc_it (walk_list (xs := yq.map V.str)) (fun i G => Same G5 G ∧ PrD (mn p G) D1 ((yq.take i).map fun z => (z, tg L z))) ⟨Same.new hD1 _, by rw [mn_out nD1]; exact PrD.nil⟩ (fun i G _ z => SqL.of (z.1 _ _ eP3)) ?_ ?_
    · rintro i y G G' hi ⟨sG, pd⟩ ⟨rfl, hy⟩
      obtain ⟨z, hz1, rfl⟩ := str_at hy
      obtain ⟨b, hgd, eb⟩ := gv_in gB no (hz z (hq z (List.mem_of_getElem? hz1)))
      refine ⟨rfl, _, rfl, _, rfl, _, rfl, l, _, rfl, hgd _ (I5.sb.trans sG), szl _ (by simp), fun T hT => ?_⟩
      exact pstep (g := fun z => (z, tg L z)) pd nD1 (I5.bx.same sG) hD1 sG hT (sBm I5.sb _ _ eb) hz1 (by omega)
    rintro G6 ⟨sG, pd⟩
    rw [List.length_map, List.take_length] at pd
    have I6 := I5.same sG
    obtain ⟨as, lkv, y1, y2, y3⟩ := pd.dct (K := K) I6.bx
    refine ⟨D1, as, lkv, rfl, y1, y2, fun d hd => ⟨szl _ (by simp), fun T hT => ?_⟩⟩
    obtain ⟨o', no'⟩ := mkL_ok (px hq) (by rw [List.length_map]; omega) (by rw [List.length_map]; omega) n1 n5
    have g6 := y3 d hd
    have I7 := I6.same (Same.new hd (.dK (mergeK [] lkv)))
    generalize upd G6 d (.dK (mergeK [] lkv)) = G7 at g6 I7 hT ⊢
    obtain ⟨ts, c1, c3, I8⟩ := I7.put nB6 n6 (by decide) hT g6 o' no'
    exact ⟨D6, _, _, rfl, rfl, c1, c3, I8, rfl⟩
  clear e00 I0
  rintro _ G ⟨I0, rfl⟩
  have e00 := I0.sb _ _ eB0
  refine ⟨_, rfl, _, rfl, D0, rfl, ⟨_, SqL.of e00⟩, fun D1 hD1 => ?_⟩
  refine lc_it (walk_list (xs := zs.map V.str)) (fun i J => Same G J ∧ PrT J D1 ((zs.take i).map fun z => (z, tg L z))) ⟨Same.new hD1 _, [], upd_same, .nil⟩ (fun i J _ z => SqL.of (z.1 _ _ e00)) ?_ ?_
  · rintro i y J J' hi ⟨sG, pd⟩ ⟨rfl, hy⟩
    obtain ⟨z, hz1, rfl⟩ := str_at hy
    obtain ⟨b, hgd, eb⟩ := gv_in gB no (hz z (List.mem_of_getElem? hz1))
    have sJ := I0.sb.trans sG
    refine ⟨rfl, _, rfl, _, rfl, _, rfl, l, _, rfl, hgd _ sJ, b, _, rfl, .inl ⟨SqL.of (sJ _ _ eb), fun t ht => ⟨szl _ (by simp), fun T hT => ?_⟩⟩⟩
    have w1 := Same.new ht (.tup (nv (tg L z)))
    have w2 := Same.new hT (.tup [.str z, .ref t])
    have li : ((zs.take i).map fun z => (z, tg L z)).length < 1000 := by rw [List.length_map, List.length_take]; omega
    have tk : (zs.take (i + 1)).map (fun z => (z, tg L z)) = (zs.take i).map (fun z => (z, tg L z)) ++ [(z, tg L z)] := by rw [List.take_add_one, hz1, List.map_append]; rfl
    rw [tk]
    exact pd.add (w1.trans w2) hD1 (sG.trans (w1.trans w2)) upd_same (w2 _ _ upd_same) li
  rintro J ⟨sG, pd⟩
  rw [List.length_map, List.take_length, ← hzs, names_L no] at pd
  obtain ⟨as, lkv, y1, y2, y3⟩ := pd.dict (K := K)
  refine ⟨D1, as, lkv, rfl, y1, y2, fun dT hdT => ?_⟩
  rw [merge_app (acc := []) (by rw [List.nil_append]; exact GtP.nd y3 no), List.nil_append]
  have w1 := Same.new hdT (.dK lkv)
  have I1 := (I0.same sG).same w1
  refine ⟨n, dT, L, rfl, o, no, ⟨lkv, upd_same, L2.Paired.mapP y3 fun kv q ⟨a, b, c, d⟩ => ⟨a, b, c, d.imp (w1 _ _) (w1 _ _)⟩⟩, fun S' a2 G2 rs' ht2 s2 ha2 => ?_, fun G2 rn s2 => ?_⟩
  rotate_left
  · have e := Bf.det rs rn
    cases e
  have eS := Option.some.inj (Bf.det rs rs')
  subst eS
  have I2 := I1.same s2
  clear I1 w1 hdT y1 y2 y3 pd sG hD1 e00 I0
  obtain ⟨dx, _, _, _, ea, _⟩ := id tB.ob
  obtain ⟨dx2, _, _, _, ea2, _⟩ := id ht2.ob
  refine ⟨_, rfl, a2, _, _, rfl, ea2, rfl, a2, n, L, S, rfl, ht2, o, no, fun Dl kvl G3 q3 hDl eDl pDl nDl => ⟨_, rfl, a2, _, _, rfl, q3 _ _ ea2, rfl, a2, n, L, S, rfl, ht2.to q3, fun Dc cs G4 q4 hDc eDc pDc => ⟨szl _ (by simp), fun T0 hT0 => ?_⟩⟩⟩
  have w := Same.new hT0 (.lst [.ref Dl, .ref Dc])
  have eT0 := upd_same (H := G4) (a := T0) (o := .lst [.ref Dl, .ref Dc])
  have s5 := q3.trans (q4.trans w)
  have I5 := I2.same s5
  have h5 := ht2.to s5
  have d1 := ltD_dq ((q4.trans w) _ _ eDl) (L2.Paired.mapP pDl fun kv q ⟨x1, x2, x3, x4⟩ => ⟨x1, x2, x3, (q4.trans w) _ _ x4⟩)
  have d2 := ctD_dq (w _ _ eDc) (L2.Paired.mapP pDc fun b e z => (q4.trans w) _ _ z)
  generalize upd G4 T0 (.lst [.ref Dl, .ref Dc]) = G5 at eT0 I5 h5 d1 d2 ⊢
  clear w s5 I2 q3 q4 hDl hDc hT0 eDl eDc pDl pDc nDl s2 ht2 ea2
  obtain ⟨dx2, _, _, _, ea2, _⟩ := id h5.ob
  have h5' := tB.to I5.sb
  have ea5 := I5.sb _ _ ea
  refine ⟨_, rfl, _, rfl, a, _, _, _, rfl, ea5, .base (.ins ea2 U.cl Y.ha Y.hn Y.htk Y.hm), notFirst_self, a, n, L, S, .ref a2, true, rfl, h5', o, .inl ⟨a2, n, L, S, rfl, h5, o, by simp⟩, ?_⟩
  refine ⟨true, rfl, _, rfl, iteFf rfl ?_⟩
  refine ⟨_, rfl, _, rfl, a, a2, _, _, _, _, rfl, rfl, ea5, ea2, a, n, L, S, .ref a2, true, rfl, h5', o, .inl ⟨a2, n, L, S, rfl, h5, o, by simp⟩, true, rfl, _, rfl, iteFf rfl ?_⟩
  have okc := okCt (S := S) (fun e he => fn.cl.mp e.1 (List.mem_map.mpr ⟨e, he, rfl⟩)) n5 s16
  have okl := okLt o
  have ok2 := okL2 (okl.mono (m := 2) (U := 8096) (by decide) (by decide)) (okc.mono (by decide) (Nat.le_refl _))
  refine ⟨_, rfl, _, .list [ltD L, ctD S], rfl, .lst eT0 (.cons d1 (.cons d2 .nil)), ok2.shows, Nat.le_trans ok2.deep (by decide), ok2.len (by decide), ?_⟩
  refine ⟨_, rfl, _, rfl, a, _, _, rfl, ea5, rfl, a, n, L, S, rfl, h5', fun Dc cs G6 q6 hDc eDc pDc => ⟨szl _ (by simp), fun w hw => ?_⟩⟩
  have w1 := Same.new hw (.lst [.ref l, .ref Dc])
  have s6 := q6.trans w1
  have I6 := I5.same s6
  have eB6 := I6.sb _ _ eB
  have pB6 : GvP (upd G6 w (.lst [.ref l, .ref Dc])) kB L := L2.Paired.mapP prB fun kv q ⟨x1, x2, x3, x4⟩ => ⟨x1, x2, x3, I6.sb _ _ x4⟩
  refine ⟨_, .list [ltD L, ctD S], rfl, .lst upd_same (.cons (ltD_dq eB6 pB6) (.cons (ctD_dq (w1 _ _ eDc) (L2.Paired.mapP pDc fun b e z => s6 _ _ z)) .nil)), ok2.shows, Nat.le_trans ok2.deep (by decide), ok2.len (by decide), rfl, _, rfl, iteNS rfl ?_⟩
  exact h4' D _ B p l a D0 D6 n L S zs _ _ _ _ _ _ _ _ _ _ _ _ _ ⟨nBp, n6, nB6, o, no, rs, gB, tB, eB0, hzs⟩ I6 q
end
end L

set_option Elab.async false
set_option linter.all false
set_option maxRecDepth 100000
set_option maxHeartbeats 8000000
set_option pp.maxSteps 400
namespace L
open PySem L2 KX
section
variable {P : Program} {w : World} {K : PySem.W.Frag} {mg : Str → Option Value} {base : Heap} {f f1 f2 f3 f4 f5 f6 g1 : Addr} {fd d1 d2 d3 d4 d5 d6 e1 : FuncData} {C CF CO : Addr}
theorem er2 (Z : ErH P w K mg base f1 f2 f3 f4 f5 f6 g1 d1 d2 d3 d4 d5 d6 e1 C CF) {cdv : Value} {A : Around} {outer : List Env} {s : Shared} {H0 : Hp} {E : XK} (hr : Room 7 (A.deeper (PyProof.Rows.envOfC "_law_equal_right" (defScope sEr) s.heap.objs.size f cdv))) (hA : A.guards = some []) :
    ∃ t, PSs (cxOf CX0 P w K mg base nEr (Str.ofString "_law_equal_right") (defScope sEr) f cdv A outer s H0 E).nox ((defBody sEr).drop 10) t ∧ ∀ (D : Ends) (G B : Hp) (p l a D0 D6 : Addr) (n : Nat) (L : Ltt) (S : List En) (zs : List Str) (z0 : Str) (x7 x8 x9 x10 x11 x12 x13 x14 x15 x16 x17 x18 : Option V), ErB CF B p l a D0 D6 n L S zs → z0 ∈ zs → Oi B p D6 n 3 G → (∀ H', Bx H' p → Same B H' → D.rt (.bl true) H') → t D [some (.ref p), some (.int (n : Int)), some (.ref l), some (.ref a), some (.ref D0), some (.str z0), some (.ref D6), x7, x8, x9, x10, x11, x12, x13, x14, x15, x16, x17, x18] G := by
  obtain ⟨M, U, Y, T, YC, NB, hS, kT, nT, sI, hNe, hEq, fEq, GE, bE, G1, b1, k1, m1, G2, b2, k2, m2, G3, b3, k3, m3, G4, b4, h4, G5, b5, h5, G6, b6, h6⟩ := Z
  have hmo := Y.hm
  have hr1 : Room 1 _ := hr.mono (by decide)
  have hr2 : Room 2 _ := hr.mono (by decide)
  have hr7 : Room 7 _ := hr
  have hu := hr.units
  have hu1 : (A.deeper (PyProof.Rows.envOfC "_law_equal_right" (defScope sEr) s.heap.objs.size f cdv)).units + 1 < cLine := by omega
  have rp := fun {X : Cx} (h1 : X.base = base) (h2 : X.A = (A.deeper (PyProof.Rows.envOfC "_law_equal_right" (defScope sEr) s.heap.objs.size f cdv))) => @call_repr_q X (by rw [h1]; exact hS) (by rw [h2]; exact hA) (by rw [h2]; exact hu)
  obtain ⟨t3, hs, h3'⟩ := er3 (f := f) (cdv := cdv) (A := A) (outer := outer) (s := s) (H0 := H0) (E := E) ⟨M, U, Y, T, YC, NB, hS, kT, nT, sI, hNe, hEq, fEq, GE, bE, G1, b1, k1, m1, G2, b2, k2, m2, G3, b3, k3, m3, G4, b4, h4, G5, b5, h5, G6, b6, h6⟩ hr hA
  refine ⟨_, (pss_cons (ps_set (i := 10) scEr.nd rfl (Or.inl rfl) (pe_callTy call_dictD (by rfl) M.dict (by decide +kernel) (pa_cons (pv 2) pa_nil))) (pss_cons (ps_dput (by exact hu1) (pv 10) (pv 5) (pe_op op_cat (pe_slice sl_list (pe_dget (by exact hu1) (pv 2) (pv 5) (fun _ _ => rfl)) (po_some pe_int) po_none) (pe_slice sl_list (pe_dget (by exact hu1) (pv 2) (pv 5) (fun _ _ => rfl)) po_none (po_some pe_int))) rfl) (pss_cons (ps_set (i := 11) scEr.nd rfl (Or.inl rfl) (pe_callTy call_dictD (by rfl) M.dict (by decide +kernel) (pa_cons (pv 2) pa_nil))) (pss_cons (ps_dput (by exact hu1) (pv 11) (pe_ix (ixl (K := K) rfl) (pv 4) pe_int (fun _ _ => rfl)) (pe_dget (by exact hu1) (pv 2) (pe_ix (ixl (K := K) rfl) (pv 4) (pe_un un_neg pe_int) (fun _ _ => rfl)) (fun _ _ => rfl)) rfl) (pss_cons (ps_dput (by exact hu1) (pv 11) (pe_ix (ixl (K := K) rfl) (pv 4) (pe_un un_neg pe_int) (fun _ _ => rfl)) (pe_dget (by exact hu1) (pv 2) (pe_ix (ixl (K := K) rfl) (pv 4) pe_int (fun _ _ => rfl)) (fun _ _ => rfl)) rfl) (pss_cons (ps_expr (pe_bm PySem.F.plainAttrs_list PySem.F.slot_list_extend PySem.F.type_list_extend mt_extend (pv 6) (pa_cons (pe_lst (pa_cons (pe_tup (pa_cons (pv 1) (pa_cons (pv 10) pa_nil))) (pa_cons (pe_tup (pa_cons (pv 1) (pa_cons (pv 11) pa_nil))) pa_nil))) pa_nil))) (pss_cons (ps_expr (pe_bm PySem.F.plainAttrs_list PySem.F.slot_list_append PySem.F.type_list_append mt_append (pv 6) (pa_cons (pe_tup (pa_cons (pv 1) (pa_cons (pe_callTy (call_dictP rfl) (by rfl) M.dict (by decide +kernel) (pa_cons (pe_lc (own := [("one", 18)]) (g := gName 18) (tt := tYes) rfl scEr.nd (pil (K := K) rfl (pv 4)) (blkOk_by (N := nEr) (sc := defScope sEr) (by decide +kernel)) (fun _ _ _ _ _ => (pg_name (i := 18) scEr.nd rfl (Or.inl rfl))) (fun _ _ _ _ _ => pts_nil) (fun _ _ _ _ _ => (pe_tup (pa_cons (pe_ifExp (pt_cmpR op_eq (pv 18) (pv 5) (nomark _)) pe_str (pv 18)) (pa_cons (pe_dget (by exact hu1) (pv 2) (pv 18) (fun _ _ => rfl)) pa_nil))))) pa_nil)) pa_nil))) pa_nil))) (pss_cons (ps_expr (pe_bm PySem.F.plainAttrs_list PySem.F.slot_list_append PySem.F.type_list_append mt_append (pv 6) (pa_cons (pe_tup (pa_cons (pv 1) (pa_cons (pe_call G3 hr2 (by rfl) m3 k3 b3 .nil pass0 (pa_cons (pv 0) (pa_cons (pv 2) pa_nil))) pa_nil))) pa_nil))) hs)))))))), ?_⟩
  intro D G12 B p l a D0 D6 n L S zs z0 x7 x8 x9 x10 x11 x12 x13 x14 x15 x16 x17 x18 hB hz0 I12 q
  obtain ⟨nBp, n6, nB6, o, no, rs, gB, tB, eB0, hzs⟩ := hB
  have n1 := o.n1
  have n5 := o.n5
  have l1 := o.le
  have l4 := o.ge
  have fn := Res.fnd o rs
  have s16 := fn.le
  have lzs : zs.length = L.length := by rw [← hzs, List.length_map]
  have hz : ∀ z, z ∈ zs → z ∈ L.map (·.1) := fun z h => by rw [hzs]; exact h
  have sBm : ∀ {J : Hp}, Same B J → Same B (mn p J) := fun s b u e => mn_sx _ _ (fun z => by rw [z, nBp] at e; cases e) (s _ _ e)
  have px : ∀ {zs' : List Str}, (∀ z, z ∈ zs' → z ∈ zs) → Px n (zs'.map fun z => (z, tg L z)) := fun h => px_names o no fun z hm => hz z (h z hm)
  obtain ⟨kB, eB, prB⟩ := id gB
  have lk : kB.length = L.length := prB.length
  have hz0' := hz0
  have hz0 := hz z0 hz0'
  obtain ⟨b0, hgd0, eb0⟩ := gv_in gB no hz0
  have m0 := (tg_mp o hz0).1
  obtain ⟨zl, hzl, zlm⟩ : ∃ z, zs[zs.length - 1]? = some z ∧ z ∈ zs := ⟨zs[zs.length - 1], List.getElem?_eq_getElem (by omega), List.getElem_mem (by omega)⟩
  obtain ⟨bl, hgdl, ebl⟩ := gv_in gB no (hz zl zlm)
  have ml := (tg_mp o (hz zl zlm)).1
  have hzl' : (zs.map V.str)[(zs.map V.str).length - 1]? = some (.str zl) := by rw [List.getElem?_map, List.length_map, hzl]; rfl
  have hl1 : 1 ≤ (zs.map V.str).length := by rw [List.length_map]; omega
  -- turned
  have hmn : (nv (tg L z0)).length = n := by rw [nv_len]; exact m0.1
  refine ⟨_, rfl, l, kB, rfl, .inl (I12.sb _ _ eB), fun Dt hDt => ?_⟩
  have w1 := Same.new hDt (.dK kB)
  have sB1 := I12.sb.trans w1
  refine ⟨_, rfl, _, rfl, l, _, rfl, hgd0 _ sB1, _, rfl, b0, _, rfl, SqL.of (sB1 _ _ eb0), fun C1 hC1 => ?_⟩
  rw [cut_from _ (by omega)]
  have w2 := Same.new hC1 (.lst ((nv (tg L z0)).drop 1))
  have sB2 := sB1.trans w2
  refine ⟨_, rfl, _, rfl, l, _, rfl, hgd0 _ sB2, _, rfl, b0, _, rfl, SqL.of (sB2 _ _ eb0), fun C2 hC2 => ?_⟩
  rw [cut_one _ (by omega)]
  have w3 := Same.new hC2 (.lst ((nv (tg L z0)).take 1))
  refine ⟨C1, C2, _, _, rfl, rfl, w3 _ _ upd_same, upd_same, szl _ (by rw [List.length_drop, List.length_take]; omega), fun C3 hC3 => ?_⟩
  have et : (nv (tg L z0)).drop 1 ++ (nv (tg L z0)).take 1 = nv ((tg L z0).drop 1 ++ (tg L z0).take 1) := by unfold nv; rw [List.map_append, List.map_drop, List.map_take]
  rw [et]
  have w4 := Same.new hC3 (.lst (nv ((tg L z0).drop 1 ++ (tg L z0).take 1)))
  refine ⟨_, rfl, _, rfl, Dt, _, rfl, DPut.k (k := Sum.inr z0) (kvs := kB) ((w2.trans (w3.trans w4)) _ _ upd_same) (small1000 (by omega)), ?_⟩
  have eC3 := upd_same (H := upd (upd (upd G12 Dt (.dK kB)) C1 (.lst ((nv (tg L z0)).drop 1))) C2 (.lst ((nv (tg L z0)).take 1))) (a := C3) (o := .lst (nv ((tg L z0).drop 1 ++ (tg L z0).take 1)))
  have nDC : C3 ≠ Dt := (ne_of_none ((w2.trans w3) _ _ (upd_same (H := G12) (a := Dt) (o := .dK kB))) hC3).symm
  have nDt : Dt ≠ p := I12.bx.ne hDt
  have nC3 : C3 ≠ p := (((I12.bx.same w1).same w2).same w3).ne hC3
  have s13 : Same G12 (upd (upd (upd (upd (upd G12 Dt (.dK kB)) C1 (.lst ((nv (tg L z0)).drop 1))) C2 (.lst ((nv (tg L z0)).take 1))) C3 (.lst (nv ((tg L z0).drop 1 ++ (tg L z0).take 1)))) Dt (.dK (putK kB (Sum.inr z0) (.ref C3)))) := fun c u e => by
    rw [upd_ne (ne_of_none e hDt)]; exact (w1.trans (w2.trans (w3.trans w4))) _ _ e
  have I13 := I12.same s13
  have gT := gv_put (p := p) prB (sBm I13.sb) nDt nC3 upd_same (by rw [upd_ne nDC]; exact eC3)
  have mt : Mp n ((tg L z0).drop 1 ++ (tg L z0).take 1) := ⟨by rw [List.length_append, List.length_drop, List.length_take, m0.1]; omega, fun x hx => by
    rcases List.mem_append.mp hx with h | h
    · exact m0.2 x (List.mem_of_mem_drop h)
    · exact m0.2 x (List.mem_of_mem_take h)⟩
  obtain ⟨oT, noT⟩ := put_ok o no hz0 mt
  generalize upd (upd (upd (upd (upd G12 Dt (.dK kB)) C1 (.lst ((nv (tg L z0)).drop 1))) C2 (.lst ((nv (tg L z0)).take 1))) C3 (.lst (nv ((tg L z0).drop 1 ++ (tg L z0).take 1)))) Dt (.dK (putK kB (Sum.inr z0) (.ref C3))) = G13 at I13 gT ⊢
  clear s13 w1 w2 w3 w4 hDt hC1 hC2 hC3 eC3 sB1 sB2 nDC I12
  -- swapped
  obtain ⟨zf, hzf, zfm⟩ : ∃ z, zs[0]? = some z ∧ z ∈ zs := ⟨zs[0], List.getElem?_eq_getElem (by omega), List.getElem_mem (by omega)⟩
  obtain ⟨bf, hgdf, ebf⟩ := gv_in gB no (hz zf zfm)
  have mf := (tg_mp o (hz zf zfm)).1
  have hzf' : (zs.map V.str)[0]? = some (.str zf) := by rw [List.getElem?_map, hzf]; rfl
  refine ⟨_, rfl, l, kB, rfl, .inl (I13.sb _ _ eB), fun Ds hDs => ?_⟩
  have w1 := Same.new hDs (.dK kB)
  have sB1 := I13.sb.trans w1
  refine ⟨_, rfl, _, rfl, _, rfl, D0, _, _, _, rfl, rfl, SqL.of (sB1 _ _ eB0), at_last hl1 hzl', l, _, rfl, hgdl _ sB1, _, rfl, _, rfl, D0, _, _, _, rfl, rfl, SqL.of (sB1 _ _ eB0), at_of (j := 0) rfl hzf', Ds, _, rfl, DPut.k (k := Sum.inr zf) (kvs := kB) upd_same (small1000 (by omega)), ?_⟩
  have s15 : Same G13 (upd (upd G13 Ds (.dK kB)) Ds (.dK (putK kB (Sum.inr zf) (.ref bl)))) := fun c u e => by rw [upd_ne (ne_of_none e hDs)]; exact w1 _ _ e
  have sB5 := I13.sb.trans s15
  have lk2 : (putK kB (Sum.inr zf) (.ref bl)).length ≤ L.length + 1 := by
    have h1 : (putK kB (Sum.inr zf) (.ref bl)).length = (putL L zf (tg L zl)).length := (GvP.put prB ebl).length
    have := putL_len (L := L) (z := zf) (m := tg L zl)
    omega
  refine ⟨_, rfl, _, rfl, D0, _, _, _, rfl, rfl, SqL.of (sB5 _ _ eB0), at_of (j := 0) rfl hzf', l, _, rfl, hgdf _ sB5, _, rfl, _, rfl, _, rfl, D0, _, _, _, rfl, rfl, SqL.of (sB5 _ _ eB0), at_last hl1 hzl', Ds, _, rfl, DPut.k (k := Sum.inr zl) (kvs := putK kB (Sum.inr zf) (.ref bl)) upd_same (small1000 (by omega)), ?_⟩
  have s16 : Same G13 (upd (upd (upd G13 Ds (.dK kB)) Ds (.dK (putK kB (Sum.inr zf) (.ref bl)))) Ds (.dK (putK (putK kB (Sum.inr zf) (.ref bl)) (Sum.inr zl) (.ref bf)))) := fun c u e => by rw [upd_ne (ne_of_none e hDs)]; exact s15 _ _ e
  have nDs : Ds ≠ p := I13.bx.ne hDs
  have I16 := I13.same s16
  have gT' := gT.to (mn_mono s16)
  have gS : Gv (mn p (upd (upd (upd G13 Ds (.dK kB)) Ds (.dK (putK kB (Sum.inr zf) (.ref bl)))) Ds (.dK (putK (putK kB (Sum.inr zf) (.ref bl)) (Sum.inr zl) (.ref bf))))) Ds (putL (putL L zf (tg L zl)) zl (tg L zf)) :=
    ⟨_, mn_sx _ _ nDs upd_same, GvP.put (GvP.put (L2.Paired.mapP prB fun kv q ⟨x1, t, x2, x3⟩ => ⟨x1, t, x2, sBm I16.sb _ _ x3⟩) (sBm I16.sb _ _ ebl)) (sBm I16.sb _ _ ebf)⟩
  obtain ⟨oS1, noS1⟩ := put_ok o no (hz zf zfm) ml
  obtain ⟨oS, noS⟩ := put_ok oS1 noS1 (by rw [putL_keys (hz zf zfm)]; exact hz zl zlm) mf
  generalize upd (upd (upd G13 Ds (.dK kB)) Ds (.dK (putK kB (Sum.inr zf) (.ref bl)))) Ds (.dK (putK (putK kB (Sum.inr zf) (.ref bl)) (Sum.inr zl) (.ref bf))) = G16 at I16 gT' gS ⊢
  clear s15 s16 sB5 lk2 w1 sB1 hDs gT I13
  obtain ⟨ts16, e616, _⟩ := I16.ts
  refine ⟨_, rfl, .inl ⟨rfl, _, SqL.of e616⟩, _, rfl, _, rfl, szl _ (by simp), fun Ta hTa => ⟨_, rfl, _, rfl, szl _ (by simp), fun Tb hTb => ⟨szl _ (by simp), fun Le hLe => ?_⟩⟩⟩
  obtain ⟨ts, c1, c2, I18⟩ := I16.ext2 nB6 n6 (by decide) hTa hTb hLe gT' oT noT gS oS noS
  refine ⟨D6, Le, _, _, rfl, rfl, c1, upd_same, c2, ?_⟩
  generalize upd (upd (upd (upd G16 Ta (.tup [.int (n : Int), .ref Dt])) Tb (.tup [.int (n : Int), .ref Ds])) Le (.lst [.ref Ta, .ref Tb])) D6 (.lst (ts.map V.ref ++ [.ref Ta, .ref Tb])) = G18 at I18 ⊢
  clear c1 c2 hTa hTb hLe gT' oT noT gS oS noS oS1 noS1 I16
  -- the letter with another name
  obtain ⟨ts18, e618, _⟩ := I18.ts
  refine ⟨_, rfl, .inl ⟨rfl, _, SqL.of e618⟩, _, rfl, _, rfl, D0, rfl, ⟨_, SqL.of (I18.sb _ _ eB0)⟩, fun D1 hD1 => ?_⟩
  have nD1 := I18.bx.ne hD1
  let gz : Str → Str × List Nat := fun z => (if z = z0 then Str.ofString "zzz" else z, tg L z)
  refine lc_it (walk_list (xs := zs.map V.str)) (fun i G => Same G18 G ∧ PrD (mn p G) D1 ((zs.take i).map gz)) ⟨Same.new hD1 _, by rw [mn_out nD1]; exact PrD.nil⟩ (fun i G _ z => SqL.of (z.1 _ _ (I18.sb _ _ eB0))) ?_ ?_
  · rintro i y G G' hi ⟨sG, pd⟩ ⟨rfl, hy⟩
    obtain ⟨z, hz1, rfl⟩ := str_at hy
    obtain ⟨b, hgd, eb⟩ := gv_in gB no (hz z (List.mem_of_getElem? hz1))
    refine ⟨rfl, _, rfl, _, rfl, rfl, _, rfl, ite2 (fun c => ?_) (fun c => ?_)⟩
    · have ez : (gz z).1 = Str.ofString "zzz" := if_pos (V.str.inj (of_decide_eq_true c))
      refine ⟨_, rfl, _, rfl, l, _, rfl, hgd _ (I18.sb.trans sG), szl _ (by simp), fun T hT => ?_⟩
      have ps := pstep (g := gz) pd nD1 (I18.bx.same sG) hD1 sG hT (sBm I18.sb _ _ eb) hz1 (by omega)
      rw [ez] at ps
      exact ps
    · have ez : (gz z).1 = z := if_neg fun e => c (by rw [e]; exact decide_eq_true rfl)
      refine ⟨_, rfl, _, rfl, _, rfl, l, _, rfl, hgd _ (I18.sb.trans sG), szl _ (by simp), fun T hT => ?_⟩
      have ps := pstep (g := gz) pd nD1 (I18.bx.same sG) hD1 sG hT (sBm I18.sb _ _ eb) hz1 (by omega)
      rw [ez] at ps
      exact ps
  rintro G ⟨sG, pd⟩
  rw [List.length_map, List.take_length] at pd
  have I19 := I18.same sG
  obtain ⟨as, lkv, y1, y2, y3⟩ := pd.dct (K := K) I19.bx
  refine ⟨D1, as, lkv, rfl, y1, y2, fun d hd => ⟨szl _ (by simp), fun T hT => ?_⟩⟩
  have pxz : Px n (zs.map gz) := by
    have h0 := px (zs' := zs) fun z h => h
    refine ⟨fun q hq => ?_, fun q hq => ?_, fun q hq => ?_⟩ <;> obtain ⟨z, hm, rfl⟩ := List.mem_map.mp hq <;> have hq' := (List.mem_map (f := fun z => (z, tg L z)) (l := zs)).mpr ⟨z, hm, rfl⟩
    · exact (h0.mp (z, tg L z) hq' : Mp n (tg L z))
    · show Ss 8 (if z = z0 then Str.ofString "zzz" else z)
      split
      · exact zzz_ok.2
      · exact h0.ss _ hq'
    · show nm (if z = z0 then Str.ofString "zzz" else z) = true
      split
      · exact zzz_ok.1
      · exact h0.nmk _ hq'
  obtain ⟨o', no'⟩ := mkL_ok pxz (by rw [List.length_map]; omega) (by rw [List.length_map]; omega) n1 n5
  have g19 := y3 d hd
  have I20 := I19.same (Same.new hd (.dK (mergeK [] lkv)))
  generalize upd G d (.dK (mergeK [] lkv)) = G20 at g19 I20 hT ⊢
  obtain ⟨ts, c1, c2, I21⟩ := I20.put nB6 n6 (by decide) hT g19 o' no'
  refine ⟨D6, _, _, rfl, rfl, c1, c2, ?_⟩
  generalize upd (upd G20 T (.tup [.int (n : Int), .ref d])) D6 (.lst (ts.map V.ref ++ [.ref T])) = G21 at I21 ⊢
  clear I20 c1 c2 hT g19 hd pxz o' no' y1 y2 y3 pd I19 sG hD1 nD1
  -- the same letters, mixed
  obtain ⟨ts21, e621, _⟩ := I21.ts
  refine ⟨_, rfl, .inl ⟨rfl, _, SqL.of e621⟩, _, rfl, _, rfl, _, rfl, p, l, n, L, rfl, I21.bx, o, no, gB.to (sBm I21.sb), fun d L' G22 b22 x22 hd g22 o22 no22 => ⟨szl _ (by simp), fun T hT => ?_⟩⟩
  have I22 := I21.sx nBp n6 b22 x22
  obtain ⟨ts, c1, c2, I23⟩ := I22.put nB6 n6 (by decide) hT g22 o22 no22
  refine ⟨D6, _, _, rfl, rfl, c1, c2, ?_⟩
  generalize upd (upd G22 T (.tup [.int (n : Int), .ref d])) D6 (.lst (ts.map V.ref ++ [.ref T])) = G23 at I23 ⊢
  clear I22 c1 c2 hT g22 hd o22 no22 b22 x22 I21
  exact h3' D _ B p l a D0 D6 n L S zs _ _ _ _ _ _ _ _ _ _ _ _ _ ⟨nBp, n6, nB6, o, no, rs, gB, tB, eB0, hzs⟩ I23 q
end
end L

set_option Elab.async false
set_option linter.all false
set_option maxRecDepth 100000
set_option maxHeartbeats 8000000
set_option pp.maxSteps 400
namespace L
open PySem L2 KX
section
variable {P : Program} {w : World} {K : PySem.W.Frag} {mg : Str → Option Value} {base : Heap} {f f1 f2 f3 f4 f5 f6 g1 : Addr} {fd d1 d2 d3 d4 d5 d6 e1 : FuncData} {C CF CO : Addr}
theorem ok_er (F : Fun K "_law_equal_right" "_law_equal_right" sEr f fd) (Z : ErH P w K mg base f1 f2 f3 f4 f5 f6 g1 d1 d2 d3 d4 d5 d6 e1 C CF) :
    GOk P w K mg base CX0 8 f fd ["box", "size", "letters"] (spEr K CF) := by
  obtain ⟨M, U, Y, T, YC, NB, hS, kT, nT, sI, hNe, hEq, fEq, GE, bE, G1, b1, k1, m1, G2, b2, k2, m2, G3, b3, k3, m3, G4, b4, h4, G5, b5, h5, G6, b6, h6⟩ := Z
  have hmo := Y.hm
  refine gok F scEr (fun vs H Q E h => ?_) (fun cdv A outer s H vs Q E hr hA h => ?_)
  · obtain ⟨p, l, n, L, S, rfl, _⟩ := h
    rfl
  obtain ⟨p, l, n, L, S, rfl, hb, o, no, hG, rs, q⟩ := h
  obtain ⟨t2, hs, h2'⟩ := er2 (f := f) (cdv := cdv) (A := A) (outer := outer) (s := s) (H0 := H) (E := E) ⟨M, U, Y, T, YC, NB, hS, kT, nT, sI, hNe, hEq, fEq, GE, bE, G1, b1, k1, m1, G2, b2, k2, m2, G3, b3, k3, m3, G4, b4, h4, G5, b5, h5, G6, b6, h6⟩ hr hA
  have hr1 : Room 1 _ := hr.mono (by decide)
  have hr2 : Room 2 _ := hr.mono (by decide)
  have hr7 : Room 7 _ := hr
  have hu := hr.units
  have hu1 : (A.deeper (PyProof.Rows.envOfC "_law_equal_right" (defScope sEr) s.heap.objs.size f cdv)).units + 1 < cLine := by omega
  refine ⟨_, (pss_cons (ps_set (i := 3) scEr.nd rfl (Or.inr rfl) (pe_call G1 hr7 (by rfl) m1 k1 b1 .nil pass0 (pa_cons (pv 1) (pa_cons (pv 2) pa_nil)))) (pss_cons (ps_set (i := 4) scEr.nd rfl (Or.inl rfl) (pe_callTy (call_listD rfl) (by rfl) M.list (by decide +kernel) (pa_cons (pv 2) pa_nil))) (pss_cons (ps_set (i := 6) scEr.nd rfl (Or.inl rfl) (pe_lst (pa_cons (pe_tup (pa_cons (pv 1) (pa_cons (pe_callTy (call_dictP rfl) (by rfl) M.dict (by decide +kernel) (pa_cons (pe_lc (own := [("letter", 5)]) (g := gName 5) (tt := tYes) rfl scEr.nd (pil (K := K) rfl (pe_revL (pv 4))) (blkOk_by (N := nEr) (sc := defScope sEr) (by decide +kernel)) (fun _ _ _ _ _ => (pg_name (i := 5) scEr.nd rfl (Or.inl rfl))) (fun _ _ _ _ _ => pts_nil) (fun _ _ _ _ _ => (pe_tup (pa_cons (pv 5) (pa_cons (pe_dget (by exact hu1) (pv 2) (pv 5) (fun _ _ => rfl)) pa_nil))))) pa_nil)) pa_nil))) pa_nil))) (pss_cons (ps_asg (pe_tup (pa_cons (pe_ix (ixl (K := K) rfl) (pv 4) (pe_call G2 hr1 (by rfl) m2 k2 b2 .nil pass0 (pa_cons (pv 0) (pa_cons (pe_callB (lenl (K := K) rfl) (by rfl) M.len PySem.boot_len (pa_cons (pv 4) pa_nil)) pa_nil))) (fun _ _ => rfl)) (pa_cons (pe_call G2 hr1 (by rfl) m2 k2 b2 .nil pass0 (pa_cons (pv 0) (pa_cons (pv 1) pa_nil))) pa_nil))) (pg_tup rfl (pgs_cons (pg_name (i := 5) scEr.nd rfl (Or.inr rfl)) (pgs_cons (pg_name (i := 7) scEr.nd rfl (Or.inl rfl)) pgs_nil)))) (pss_cons (ps_set (i := 8) scEr.nd rfl (Or.inl rfl) (pe_callTy call_dictD (by rfl) M.dict (by decide +kernel) (pa_cons (pv 2) pa_nil))) (pss_cons (ps_set (i := 9) scEr.nd rfl (Or.inl rfl) (pe_callTy (clist (K := K) rfl) (by rfl) M.list (by decide +kernel) (pa_cons (pe_dget (by exact hu1) (pv 2) (pv 5) (fun _ _ => rfl)) pa_nil))) (pss_cons (ps_asg (pe_op op_mod (pe_op op_add (pe_ix (ixl (K := K) rfl) (pv 9) (pv 7) (fun _ _ => rfl)) pe_int) (pv 1)) (pg_sub (pv 9) (pv 7) set_list)) (pss_cons (ps_dput (by exact hu1) (pv 8) (pv 5) (pv 9) rfl) (pss_cons (ps_expr (pe_bm PySem.F.plainAttrs_list PySem.F.slot_list_append PySem.F.type_list_append mt_append (pv 6) (pa_cons (pe_tup (pa_cons (pv 1) (pa_cons (pv 8) pa_nil))) pa_nil))) (pss_cons (ps_expr (pe_bm PySem.F.plainAttrs_list PySem.F.slot_list_append PySem.F.type_list_append mt_append (pv 6) (pa_cons (pe_tup (pa_cons (pv 1) (pa_cons (pe_callTy (call_dictP rfl) (by rfl) M.dict (by decide +kernel) (pa_cons (pe_op op_cat (pe_slice sl_list (LiI.pe_listItems rfl (pv 2) (by rfl) M.list (by decide +kernel)) po_none (po_some (pe_un un_neg pe_int))) (pe_lst (pa_cons (pe_tup (pa_cons pe_str (pa_cons (pe_dget (by exact hu1) (pv 2) (pe_ix (ixl (K := K) rfl) (pv 4) (pe_un un_neg pe_int) (fun _ _ => rfl)) (fun _ _ => rfl)) pa_nil))) pa_nil))) pa_nil)) pa_nil))) pa_nil))) hs)))))))))), ?_⟩
  obtain ⟨kvs, egF, prF⟩ := id hG
  have n1 := o.n1
  have n5 := o.n5
  have l1 := o.le
  have l4 := o.ge
  have nlp : l ≠ p := fun z => by rw [z, mn_p] at egF; cases egF
  have lkL : kvs.length = L.length := prF.length
  have fn := Res.fnd o rs
  have s16 := fn.le
  refine ⟨_, rfl, _, rfl, n, l, L, rfl, o, no, (hG.to mn_same).t, fun S' a H1 rs' ht1 s1 ha => ?_, fun H1 rn s1 => ?_⟩
  rotate_left
  · have e := Bf.det rs rn
    cases e
  have eS := Option.some.inj (Bf.det rs rs')
  subst eS
  have bH1 := hb.same s1
  refine ⟨_, rfl, l, kvs, rfl, .inl (s1 _ _ (mn_same _ _ egF)), fun D0 hD0 => ?_⟩
  rw [gv_keys prF]
  have s2 := Same.new hD0 (.lst (L.map fun q => V.str q.1))
  have e02 : (upd H1 D0 (.lst (L.map fun q => V.str q.1))) D0 = some (.lst ((L.map (·.1)).map V.str)) := by rw [upd_same, List.map_map]; rfl
  have bG0 := bH1.same s2
  have tG0 := (ht1.to s2).mnp bG0
  have sHG := s1.trans s2
  have gG0 := hG.to (mn_mono sHG)
  have xHG : Sx p H (upd H1 D0 (.lst (L.map fun q => V.str q.1))) := Sx.of sHG
  have nD0 : D0 ≠ p := bH1.ne hD0
  generalize upd H1 D0 (.lst (L.map fun q => V.str q.1)) = G0 at e02 bG0 tG0 gG0 xHG ⊢
  clear s2 sHG s1 ht1 bH1 hD0
  generalize hzs : L.map (·.1) = zs at e02
  have lzs : zs.length = L.length := by rw [← hzs, List.length_map]
  have hz : ∀ z, z ∈ zs → z ∈ L.map (·.1) := fun z h => by rw [hzs]; exact h
  -- what stays
  obtain ⟨B, hB⟩ : ∃ B, B = mn p G0 := ⟨_, rfl⟩
  have nBp : B p = none := by rw [hB]; exact mn_p
  have sB0 : Same B G0 := by rw [hB]; exact mn_same
  have gB : Gv B l L := by rw [hB]; exact gG0
  have tB : TrA CF B a n L S := by rw [hB]; exact tG0
  have eB0 : B D0 = some (.lst (zs.map V.str)) := by rw [hB]; exact mn_sx _ _ nD0 e02
  have toX : ∀ {J : Hp}, Same B J → Sx p H J := fun s b u nb e => s _ _ (by rw [hB]; exact mn_sx _ _ nb (xHG _ _ nb e))
  have sBm : ∀ {J : Hp}, Same B J → Same B (mn p J) := fun s b u e => mn_sx _ _ (fun z => by rw [z, nBp] at e; cases e) (s _ _ e)
  clear hB tG0 gG0 xHG
  -- the letters the other way round
  refine ⟨_, rfl, _, rfl, D0, _, rfl, SqL.of e02, fun R hR => ⟨R, rfl, ⟨_, SqL.of upd_same⟩, fun D1 hD1 => ?_⟩⟩
  have sR := Same.new hR (.lst (zs.map V.str).reverse)
  have eR : (upd G0 R (.lst (zs.map V.str).reverse)) R = some (.lst (zs.reverse.map V.str)) := by rw [upd_same, List.map_reverse]
  have bJ := bG0.same sR
  have sBJ := sB0.trans sR
  generalize upd G0 R (.lst (zs.map V.str).reverse) = J at sR eR bJ sBJ hD1 ⊢
  have nD1 := bJ.ne hD1
  have px : ∀ {zs' : List Str}, (∀ z, z ∈ zs' → z ∈ zs) → Px n (zs'.map fun z => (z, tg L z)) := fun h => px_names o no fun z hm => hz z (h z hm)
  refine lc_it (walk_list (xs := zs.reverse.map V.str)) (fun i G => Same J G ∧ PrD (mn p G) D1 ((zs.reverse.take i).map fun z => (z, tg L z))) ⟨Same.new hD1 _, by rw [mn_out nD1]; exact PrD.nil⟩ (fun i G _ z => SqL.of (z.1 _ _ eR)) ?_ ?_
  · rintro i y G G' hi ⟨sG, pd⟩ ⟨rfl, hy⟩
    obtain ⟨z, hz1, rfl⟩ := str_at hy
    obtain ⟨b, hgd, eb⟩ := gv_in gB no (hz z (List.mem_reverse.mp (List.mem_of_getElem? hz1)))
    refine ⟨rfl, _, rfl, _, rfl, _, rfl, l, _, rfl, hgd _ (sBJ.trans sG), szl _ (by simp), fun T hT => ?_⟩
    exact pstep (g := fun z => (z, tg L z)) pd nD1 (bJ.same sG) hD1 sG hT (sBm sBJ _ _ eb) hz1 (by rw [List.length_reverse]; omega)
  rintro G ⟨sG, pd⟩
  rw [List.length_map, List.take_length] at pd
  have bG := bJ.same sG
  obtain ⟨as, lkv, y1, y2, y3⟩ := pd.dct (K := K) bG
  refine ⟨D1, as, lkv, rfl, y1, y2, fun d hd => ⟨szl _ (by simp), fun T hT => ⟨szl _ (by simp), fun D6 hD6 => ?_⟩⟩⟩
  have v1 := Same.new hd (.dK (mergeK [] lkv))
  have v2 := Same.new hT (.tup [.int (n : Int), .ref d])
  have b2 := (bG.same v1).same v2
  have s2 := sBJ.trans (sG.trans (v1.trans v2))
  have nB6 : B D6 = none := s2.free hD6
  have n6 : D6 ≠ p := b2.ne hD6
  obtain ⟨o', no'⟩ := mkL_ok (px fun z h => List.mem_reverse.mp h) (by rw [List.length_map, List.length_reverse]; omega) (by rw [List.length_map, List.length_reverse]; omega) n1 n5
  have I1 : Oi B p D6 n 1 _ := Oi.start b2 s2 hD6 upd_same ((y3 d hd).to (mn_mono v2)) o' no'
  generalize upd (upd (upd G d (.dK (mergeK [] lkv))) T (.tup [.int (n : Int), .ref d])) D6 (.lst [.ref T]) = G1 at I1 ⊢
  clear v1 v2 b2 s2 hd hT hD6 y1 y2 y3 pd sG bG hD1 nD1 sR eR bJ sBJ hR o' no'
  -- a letter and a state
  obtain ⟨kB, eB, prB⟩ := id gB
  have e01 := I1.sb _ _ eB0
  refine ⟨_, rfl, _, rfl, _, rfl, D0, _, rfl, .inl (SqL.of e01), ?_⟩
  rw [List.length_map]
  refine ⟨p, _, rfl, I1.bx, by omega, by omega, fun r G2 r0 r1 b2 x2 => ?_⟩
  have I2 := I1.sx nBp n6 b2 x2
  obtain ⟨rn, rfl⟩ := Int.eq_ofNat_of_zero_le r0
  have rl : rn < zs.length := by omega
  refine ⟨D0, _, _, .str zs[rn], rfl, rfl, SqL.of (I2.sb _ _ eB0), at_of (j := rn) rfl (by rw [List.getElem?_map, List.getElem?_eq_getElem rl]; rfl), _, rfl, _, rfl, p, _, rfl, b2, by omega, by omega, fun at_ G3 a0 a1 b3 x3 => ⟨szl _ (by simp), fun T hT => ⟨T, _, rfl, SqT.of upd_same, rfl, _, _, rfl, _, _, rfl, rfl, ?_⟩⟩⟩
  obtain ⟨an, rfl⟩ := Int.eq_ofNat_of_zero_le a0
  have al : an < n := by omega
  have hz0 := hz zs[rn] (List.getElem_mem rl)
  generalize zs[rn] = z0 at hz0 ⊢
  have I3 := (I2.sx nBp n6 b3 x3).same (Same.new hT (.tup [.str z0, .int (an : Int)]))
  generalize upd G3 T (.tup [.str z0, .int (an : Int)]) = G4 at I3 ⊢
  clear hT b3 x3 I2 b2 x2 I1 r0 r1 a0 a1 e01
  -- bent
  obtain ⟨b0, hgd0, eb0⟩ := gv_in gB no hz0
  have m0 := (tg_mp o hz0).1
  refine ⟨_, rfl, l, kB, rfl, .inl (I3.sb _ _ eB), fun Db hDb => ?_⟩
  have v1 := Same.new hDb (.dK kB)
  refine ⟨_, rfl, _, rfl, l, _, rfl, hgd0 _ (I3.sb.trans v1), b0, _, rfl, .inl (SqL.of ((I3.sb.trans v1) _ _ eb0)), fun Tg hTg => ?_⟩
  have v2 := Same.new hTg (.lst (nv (tg L z0)))
  have e1 := upd_same (H := upd G4 Db (.dK kB)) (a := Tg) (o := .lst (nv (tg L z0)))
  have hal : an < (tg L z0).length := by rw [m0.1]; exact al
  obtain ⟨x0, hx0⟩ : ∃ x, (tg L z0)[an]? = some x := ⟨_, List.getElem?_eq_getElem hal⟩
  have hnv : (nv (tg L z0))[an]? = some (.int (x0 : Int)) := by unfold nv; rw [List.getElem?_map, hx0]; rfl
  refine ⟨_, rfl, _, rfl, Tg, _, _, _, rfl, rfl, SqL.of e1, at_of (j := an) rfl hnv, _, _, rfl, rfl, _, rfl, _, _, rfl, rfl, (by omega), ?_⟩
  refine ⟨_, rfl, _, rfl, Tg, _, _, an, rfl, rfl, e1, by rw [nv_len]; exact ix_nat hal, ?_⟩
  obtain ⟨y0, hy0⟩ : ∃ y : Nat, ((x0 : Int) + 1) % (n : Int) = (y : Int) := Int.eq_ofNat_of_zero_le (Int.emod_nonneg _ (by omega))
  have hyn : y0 < n := by have := Int.emod_lt_of_pos ((x0 : Int) + 1) (show (0 : Int) < (n : Int) by omega); omega
  rw [show (nv (tg L z0)).set an (V.int (((x0 : Int) + 1) % (n : Int))) = nv ((tg L z0).set an y0) by unfold nv; rw [hy0, List.map_set]]
  have mb : Mp n ((tg L z0).set an y0) := ⟨by rw [List.length_set]; exact m0.1, fun x hx => (List.mem_or_eq_of_mem_set hx).elim (m0.2 x) fun e => by rw [e]; exact hyn⟩
  have lk : kB.length = L.length := prB.length
  refine ⟨_, rfl, _, rfl, _, rfl, Db, _, rfl, DPut.k (k := Sum.inr z0) (kvs := kB) ?_ (small1000 (by omega)), ?_⟩
  · rw [upd_ne (ne_of_none (upd_same (H := G4) (a := Db) (o := .dK kB)) hTg), upd_ne (ne_of_none (upd_same (H := G4) (a := Db) (o := .dK kB)) hTg)]; exact upd_same
  have nDT : Db ≠ Tg := ne_of_none (upd_same (H := G4) (a := Db) (o := .dK kB)) hTg
  have nDb : Db ≠ p := I3.bx.ne hDb
  have hTg4 := v1.free hTg
  have nTg : Tg ≠ p := I3.bx.ne hTg4
  have s5 : Same G4 (upd (upd (upd (upd G4 Db (.dK kB)) Tg (.lst (nv (tg L z0)))) Tg (.lst (nv ((tg L z0).set an y0)))) Db (.dK (putK kB (Sum.inr z0) (.ref Tg)))) := fun c u e => by
    rw [upd_ne (ne_of_none e hDb), upd_ne (ne_of_none e hTg4), upd_ne (ne_of_none e hTg4), upd_ne (ne_of_none e hDb)]; exact e
  have I5 := I3.same s5
  have g5 := gv_put (p := p) prB (sBm I5.sb) nDb nTg upd_same (by rw [upd_ne nDT.symm]; exact upd_same)
  obtain ⟨o5, no5⟩ := put_ok o no hz0 mb
  generalize upd (upd (upd (upd G4 Db (.dK kB)) Tg (.lst (nv (tg L z0)))) Tg (.lst (nv ((tg L z0).set an y0)))) Db (.dK (putK kB (Sum.inr z0) (.ref Tg))) = G5 at I5 g5 ⊢
  clear s5 I3 v1 v2 e1 hDb hTg hTg4
  obtain ⟨ts5, e65, _⟩ := I5.ts
  refine ⟨_, rfl, .inl ⟨rfl, _, SqL.of e65⟩, _, rfl, _, rfl, szl _ (by simp), fun T hT => ?_⟩
  obtain ⟨ts, c1, c2, I6⟩ := I5.put nB6 n6 (by decide) hT g5 o5 no5
  refine ⟨D6, _, _, rfl, rfl, c1, c2, ?_⟩
  generalize upd (upd G5 T (.tup [.int (n : Int), .ref Db])) D6 (.lst (ts.map V.ref ++ [.ref T])) = G6 at I6 ⊢
  clear I5 c1 c2 ts hT g5 o5 no5 nDT
  -- the last letter with another name
  obtain ⟨zl, hzl, zlm⟩ : ∃ z, zs[zs.length - 1]? = some z ∧ z ∈ zs := ⟨zs[zs.length - 1], List.getElem?_eq_getElem (by omega), List.getElem_mem (by omega)⟩
  obtain ⟨bl, hgdl, ebl⟩ := gv_in gB no (hz zl zlm)
  have ml := (tg_mp o (hz zl zlm)).1
  have hzl' : (zs.map V.str)[(zs.map V.str).length - 1]? = some (.str zl) := by rw [List.getElem?_map, List.length_map, hzl]; rfl
  have hl1 : 1 ≤ (zs.map V.str).length := by rw [List.length_map]; omega
  obtain ⟨ts6, e66, _⟩ := I6.ts
  refine ⟨_, rfl, .inl ⟨rfl, _, SqL.of e66⟩, _, rfl, _, rfl, l, kB, rfl, I6.sb _ _ eB, fun G7 P0 ts0 s7 hP0 hts0 _ eP0 pr0 => ?_⟩
  refine ⟨_, rfl, _, rfl, P0, _, rfl, SqL.of eP0, fun P1 hP1 => ?_⟩
  have w1 := Same.new hP1 (.lst (cutV (ts0.map V.ref) none (some (-1))))
  have e1 := upd_same (H := G7) (a := P1) (o := .lst (cutV (ts0.map V.ref) none (some (-1))))
  have s17 : Same B (upd G7 P1 (.lst (cutV (ts0.map V.ref) none (some (-1))))) := I6.sb.trans (Same.trans s7 w1)
  generalize upd G7 P1 (.lst (cutV (ts0.map V.ref) none (some (-1)))) = G8 at w1 e1 s17 ⊢
  refine ⟨_, rfl, _, rfl, _, rfl, D0, _, _, _, rfl, rfl, SqL.of (s17 _ _ eB0), at_last hl1 hzl', l, _, rfl, hgdl _ s17, szl _ (by simp), fun T1 hT1 => ⟨szl _ (by simp), fun P2 hP2 => ?_⟩⟩
  have w2 := Same.new hT1 (.tup [.str (Str.ofString "zzz"), .ref bl])
  have w3 := Same.new hP2 (.lst [.ref T1])
  have e2 := w3 _ _ (upd_same (H := G8) (a := T1) (o := .tup [.str (Str.ofString "zzz"), .ref bl]))
  have e3 := upd_same (H := upd G8 T1 (.tup [.str (Str.ofString "zzz"), .ref bl])) (a := P2) (o := .lst [.ref T1])
  have e1' := (w2.trans w3) _ _ e1
  have s69 : Same G6 (upd (upd G8 T1 (.tup [.str (Str.ofString "zzz"), .ref bl])) P2 (.lst [.ref T1])) := Same.trans s7 (w1.trans (w2.trans w3))
  have w79 := w1.trans (w2.trans w3)
  have I9 := I6.same s69
  generalize upd (upd G8 T1 (.tup [.str (Str.ofString "zzz"), .ref bl])) P2 (.lst [.ref T1]) = G9 at e2 e3 e1' I9 w79 ⊢
  have lts0 : ts0.length = L.length := (Paired.length pr0).trans prB.length
  refine ⟨P1, P2, _, _, rfl, rfl, e1', e3, szl _ (by have := cutV_length (ts0.map V.ref) none (some (-1)); rw [List.length_map] at this; simp; omega), fun P3 hP3 => ?_⟩
  have ec : cutV (ts0.map V.ref) none (some (-1)) ++ [V.ref T1] = (ts0.take (L.length - 1) ++ [T1]).map V.ref := by
    rw [cut_last _ (by rw [List.length_map]; omega), List.length_map, lts0, List.map_append, List.map_take]; rfl
  rw [ec]
  have pA : Paired (fun a (q : Str × List Nat) => ∃ t, G9 a = some (.tup [.str q.1, .ref t]) ∧ mn p G9 t = some (.lst (nv q.2))) (ts0.take (L.length - 1) ++ [T1]) (L.take (L.length - 1) ++ [(Str.ofString "zzz", tg L zl)]) := by
    refine pair_app (L2.Paired.mapP (pair_take (L.length - 1) (pair_comp pr0 prB)) fun a q ⟨kv, x1, x2, t, x3, x4⟩ => ⟨t, ?_, sBm I9.sb _ _ x4⟩) ⟨bl, e2, sBm I9.sb _ _ ebl⟩
    rw [x2, x3] at x1
    exact w79 _ _ x1
  have pd := prd_of I9.bx hP3 pA
  have sP := Same.new hP3 (.lst ((ts0.take (L.length - 1) ++ [T1]).map V.ref))
  have I10 := I9.same sP
  generalize upd G9 P3 (.lst ((ts0.take (L.length - 1) ++ [T1]).map V.ref)) = G10 at pd I10 sP ⊢
  obtain ⟨as, lkv, y1, y2, y3⟩ := pd.dct (K := K) I10.bx
  refine ⟨P3, as, lkv, rfl, y1, y2, fun d hd => ⟨szl _ (by simp), fun T hT => ?_⟩⟩
  have pxl : Px n (L.take (L.length - 1) ++ [(Str.ofString "zzz", tg L zl)]) := by
    refine ⟨fun q hq => ?_, fun q hq => ?_, fun q hq => ?_⟩ <;> rcases List.mem_append.mp hq with h | h
    · exact o.mp q (List.mem_of_mem_take h)
    · rw [List.mem_singleton.mp h]; exact ml
    · exact o.ss q (List.mem_of_mem_take h)
    · rw [List.mem_singleton.mp h]; exact zzz_ok.2
    · exact no.nm q (List.mem_of_mem_take h)
    · rw [List.mem_singleton.mp h]; exact zzz_ok.1
  obtain ⟨o', no'⟩ := mkL_ok pxl (by rw [List.length_append]; simp) (by rw [List.length_append, List.length_take]; simp; omega) n1 n5
  have g10 := y3 d hd
  have I11 := I10.same (Same.new hd (.dK (mergeK [] lkv)))
  generalize upd G10 d (.dK (mergeK [] lkv)) = G11 at g10 I11 hT ⊢
  obtain ⟨ts, c1, c2, I12⟩ := I11.put nB6 n6 (by decide) hT g10 o' no'
  refine ⟨D6, _, _, rfl, rfl, c1, c2, ?_⟩
  generalize upd (upd G11 T (.tup [.int (n : Int), .ref d])) D6 (.lst (ts.map V.ref ++ [.ref T])) = G12 at I12 ⊢
  exact h2' _ _ B p l a D0 D6 n L S zs z0 _ _ _ _ _ _ _ _ _ _ _ _ ⟨nBp, n6, nB6, o, no, rs, gB, tB, eB0, hzs⟩ (by rw [← hzs]; exact hz0) I12 fun H' b' s' => q H' b' (toX s')
end
end L

set_option Elab.async false
set_option linter.all false
set_option maxRecDepth 100000
set_option maxHeartbeats 4000000
set_option pp.maxSteps 400
namespace L
open PySem L2 KX
abbrev sLaw : Stmt := top 45
abbrev nLaw : List Str := ["script", "k", "box", "size", "letters", "turn"]
theorem inn_len {st : En} : ∀ {L : Ltt} {S lg S' lg' : List En}, inn st L S lg = some (S', lg') → S'.length + lg.length = S.length + lg'.length
  | [], S, lg, S', lg', e => by
    obtain ⟨rfl, rfl⟩ := Prod.mk.inj (Option.some.inj e)
    rfl
  | q :: L, S, lg, S', lg', e => by
    rw [inn_cons] at e
    by_cases c : cmp st.1 q.2 ∈ keys S
    · rw [if_pos c] at e
      exact inn_len e
    · rw [if_neg c] at e
      by_cases c2 : S.length = 16
      · rw [if_pos c2] at e; cases e
      · rw [if_neg c2] at e
        have := inn_len e
        rw [List.length_append, List.length_append] at this
        simp at this
        omega
theorem lay_len {L : Ltt} : ∀ {lr S lg S' lg' : List En}, lay L lr S lg = some (S', lg') → S'.length + lg.length = S.length + lg'.length
  | [], S, lg, S', lg', e => by
    obtain ⟨rfl, rfl⟩ := Prod.mk.inj (Option.some.inj e)
    rfl
  | st :: lr, S, lg, S', lg', e => by
    rw [lay_cons] at e
    cases hi : inn st L S lg with
    | none => rw [hi] at e; cases e
    | some p =>
      rw [hi] at e
      have h1 := inn_len (S' := p.1) (lg' := p.2) hi
      have h2 := lay_len (lr := lr) (S := p.1) (lg := p.2) e
      omega
theorem bf_ex (L : Ltt) : ∀ (k : Nat) (S lr : List En), (17 - S.length) * 2 + min 1 lr.length ≤ k → S.length ≤ 16 → ∃ r, Bf L S lr r
  | 0, S, lr, h, h2 => by omega
  | k + 1, S, lr, h, h2 => by
    cases lr with
    | nil => exact ⟨_, .done S⟩
    | cons e lr =>
      cases hl : lay L (e :: lr) S [] with
      | none => exact ⟨_, .over (by simp) hl⟩
      | some p =>
        obtain ⟨S', lg⟩ := p
        have h3 := lay_len hl
        have h4 := ((layU_of L (e :: lr) S [] h2).1 _ hl).2
        dsimp only at h4
        simp only [List.length_nil, Nat.add_zero, List.length_cons] at h3 h
        obtain ⟨r, hr⟩ := bf_ex L k S' lg (by omega) h4
        exact ⟨r, .next (by simp) hl hr⟩
theorem res_ex (n : Nat) (L : Ltt) : ∃ r, Res n L r := bf_ex L _ [] _ (Nat.le_refl _) (Nat.zero_le _)
theorem kT_of {K : PySem.W.Frag} {C CF : Addr} (NB : CNb K CF) (sN : PySem.W.subIn K (.ref C) (.ref CF) = some false) (sS : PySem.W.subIn K (.ref CF) (.ref CF) = some true) : PySem.W.kitOne K (.ref C) (.ref CF) = some false ∧ PySem.W.notFirst K CF (.ref C) = true := by
  have ne : ((Value.ref C) == (Value.ref CF)) = false := by
    cases h : ((Value.ref C) == (Value.ref CF)) with
    | false => rfl
    | true =>
      have e := beq_iff_eq.mp h
      rw [e, sS] at sN
      cases sN
  refine ⟨?_, ?_⟩
  · unfold PySem.W.kitOne
    rw [ne, if_neg Bool.false_ne_true]
    show (if ((PySem.W.clsIn K CF).isSome && PySem.W.typeIn K (.ref CF) == some (.type "type")) = true then PySem.W.subIn K (.ref C) (.ref CF) else none) = some false
    rw [NB.cl, NB.tt, sN]
    rfl
  · unfold PySem.W.notFirst
    rw [sN, ne]
    rfl
def spLaw (K : PySem.W.Frag) : Sp := fun vs H Q _ => ∃ (a : Addr) (ns : List Int), vs = [.ref a] ∧ SqL K H a (ns.map V.int) ∧ ns.length ≤ 63 ∧ ∀ H', Q (.bl true) H'
section
variable {P : Program} {w : World} {K : PySem.W.Frag} {mg : Str → Option Value} {base : Heap} {f f1 f2 f3 f4 f5 f6 f7 : Addr} {fd d1 d2 d3 d4 d5 d6 d7 : FuncData} {C CF : Addr}
theorem scLaw : FnScope nLaw ["script"] (defScope sLaw) := ⟨rfl, rfl, rfl, by decide +kernel, rfl, by decide +kernel, by decide +kernel⟩
theorem ok_law (F : Fun K "law" "law" sLaw f fd) (M : Mn mg) (U : TfX K CF) (Y : CTi K CF) (sCi : PySem.W.subIn K (.ref CF) (.type "int") = some false)
    (G1 : FnOk P w K mg base CX0 1 f1 d1 ["script", "k"] (spCell K)) (b1 : Binds K d1 ["script", "k"] []) (k1 : PySem.W.keepIn K (.ref f1) = true) (m1 : mg "_law_cell" = some (.ref f1))
    (G2 : FnOk P w K mg base CX0 1 f2 d2 ["cell"] spBox) (b2 : Binds K d2 ["cell"] []) (k2 : PySem.W.keepIn K (.ref f2) = true) (m2 : mg "_law_box" = some (.ref f2))
    (G3 : FnOk P w K mg base CX0 3 f3 d3 ["box"] spLt) (b3 : Binds K d3 ["box"] []) (k3 : PySem.W.keepIn K (.ref f3) = true) (m3 : mg "_law_letters" = some (.ref f3))
    (G4 : FnOk P w K mg base CX0 7 f4 d4 ["size", "letters"] (spLm CF)) (b4 : Binds K d4 ["size", "letters"] []) (k4 : PySem.W.keepIn K (.ref f4) = true) (m4 : mg "_law_made" = some (.ref f4))
    (G5 : GOk P w K mg base CX0 8 f5 d5 ["size", "letters"] spRg) (b5 : Binds K d5 ["size", "letters"] []) (k5 : PySem.W.keepIn K (.ref f5) = true) (m5 : mg "_law_right" = some (.ref f5))
    (G6 : FnOk P w K mg base CX0 2 f6 d6 ["box"] spEd) (b6 : Binds K d6 ["box"] []) (k6 : PySem.W.keepIn K (.ref f6) = true) (m6 : mg "_law_edges" = some (.ref f6))
    (G7 : GOk P w K mg base CX0 8 f7 d7 ["box", "size", "letters"] (spEr K CF)) (b7 : Binds K d7 ["box", "size", "letters"] []) (k7 : PySem.W.keepIn K (.ref f7) = true) (m7 : mg "_law_equal_right" = some (.ref f7)) :
    GOk P w K mg base CX0 10 f fd ["script"] (spLaw K) := by
  refine gok F scLaw (fun vs H Q E h => ?_) (fun cdv A outer s H vs Q E hr hA h => ?_)
  · obtain ⟨a, ns, rfl, _⟩ := h
    rfl
  obtain ⟨a0, ns, rfl, hN, h63, q⟩ := h
  have hr1 : Room 1 _ := hr.mono (by decide)
  have hr2 : Room 2 _ := hr.mono (by decide)
  have hr3 : Room 3 _ := hr.mono (by decide)
  have hr7 : Room 7 _ := hr.mono (by decide)
  have hr8 : Room 8 _ := hr.mono (by decide)
  have kitI : PySem.W.kitOne K (.ref CF) (.type "int") = some false := by
    unfold PySem.W.kitOne PySem.W.kitCls
    rw [show ((Value.ref CF) == (Value.type "int")) = false from rfl, if_neg Bool.false_ne_true]
    show (if PySem.W.kitMeta "int" = true then PySem.W.subIn K (.ref CF) (.type "int") else none) = some false
    rw [if_pos (by rfl)]; exact sCi
  refine ⟨_, (pss_cons (ps_for PassesOwn.never rfl (pi_range1 (by rfl) M.range (pa_cons (pe_callB (call_max2 rfl) (by rfl) M.max (by decide +kernel) (pa_cons pe_int (pa_cons (pe_callB (call_min2 rfl) (by rfl) M.min (by decide +kernel) (pa_cons pe_int (pa_cons (pe_callB call_len_seq (by rfl) M.len PySem.boot_len (pa_cons (pv 0) pa_nil)) pa_nil))) pa_nil))) pa_nil)) (pg_name (i := 1) scLaw.nd rfl (Or.inl rfl)) (pss_cons (ps_set (i := 2) scLaw.nd rfl (Or.inl rfl) (pe_call G2 hr1 (by rfl) m2 k2 b2 .nil pass0 (pa_cons (pe_call G1 hr1 (by rfl) m1 k1 b1 .nil pass0 (pa_cons (pv 0) (pa_cons (pv 1) pa_nil))) pa_nil))) (pss_cons (ps_for PassesOwn.never rfl (pi_list (pe_call G6 hr2 (by rfl) m6 k6 b6 .nil pass0 (pa_cons (pv 2) pa_nil))) (pg_tup rfl (pgs_cons (pg_name (i := 3) scLaw.nd rfl (Or.inl rfl)) (pgs_cons (pg_name (i := 4) scLaw.nd rfl (Or.inl rfl)) pgs_nil))) (pss_one (ps_if (pt_not (pt_val (pe_g G5 hA hr8 (by rfl) m5 k5 b5 .nil pass0 (pa_cons (pv 3) (pa_cons (pv 4) pa_nil))))) (pss_one (ps_ret pe_bl)) pss_nil))) (pss_one (ps_for PassesOwn.never rfl (pi_range1 (by rfl) M.range (pa_cons pe_int pa_nil)) (pg_name (i := 5) scLaw.nd rfl (Or.inl rfl)) (pss_cons (ps_asg (pe_call G3 hr3 (by rfl) m3 k3 b3 .nil pass0 (pa_cons (pv 2) pa_nil)) (pg_tup rfl (pgs_cons (pg_name (i := 3) scLaw.nd rfl (Or.inl rfl)) (pgs_cons (pg_name (i := 4) scLaw.nd rfl (Or.inl rfl)) pgs_nil)))) (pss_cons (ps_if (pt_not (pt_val (pe_g G5 hA hr8 (by rfl) m5 k5 b5 .nil pass0 (pa_cons (pv 3) (pa_cons (pv 4) pa_nil))))) (pss_one (ps_ret pe_bl)) pss_nil) (pss_one (ps_if (pw_and (pt_not (pt_val (pe_callB call_isi (by rfl) M.isin (by decide +kernel) (pa_cons (pe_call G4 hr7 (by rfl) m4 k4 b4 .nil pass0 (pa_cons (pv 3) (pa_cons (pv 4) pa_nil))) (pa_cons (pe_bltn (v := .ty "int") (by rfl) M.int (by decide +kernel) rfl) pa_nil))))) (pw_and1 (pt_not (pt_val (pe_g G7 hA hr8 (by rfl) m7 k7 b7 .nil pass0 (pa_cons (pv 2) (pa_cons (pv 3) (pa_cons (pv 4) pa_nil)))))))).pt (pss_one (ps_ret pe_bl)) pss_nil))))))))) (pss_one (ps_ret pe_bl))), ?_⟩
  have len : (ns.map V.int).length = ns.length := List.length_map _
  refine ⟨_, rfl, a0, _, rfl, .inl hN, _, _, rfl, _, _, rfl, _, rfl, ?_⟩
  rw [len]
  generalize hm : (if (if (ns.length : Int) < 8 then (ns.length : Int) else 8) > 2 then (if (ns.length : Int) < 8 then (ns.length : Int) else 8) else 2) = m
  have hm8 : 0 ≤ m ∧ m ≤ 8 := by rw [← hm]; split <;> split <;> omega
  refine ⟨by omega, by omega, ?_⟩
  refine for_range (lo := 0) (n := m.toNat) (fun _ σ J => Same H J ∧ ∃ x1 x2 x3 x4 x5, σ = [some (.ref a0), x1, x2, x3, x4, x5]) ⟨Same.refl H, _, _, _, _, _, rfl⟩ ?_ ?_
  rotate_left
  · rintro _ J ⟨sJ, x1, x2, x3, x4, x5, rfl⟩
    exact q J
  rintro k _ J hk ⟨sJ, x1, x2, x3, x4, x5, rfl⟩
  refine ⟨_, rfl, _, rfl, a0, ns, _, rfl, sJ.seq hN, by omega, fun c => ⟨c, rfl, fun p J1 sJ1 hp0 bx1 => ?_⟩⟩
  have np : H p = none := sJ.free hp0
  have sH1 : Same H J1 := sJ.trans sJ1
  refine ⟨_, rfl, p, rfl, bx1, fun D t1 t2 dA dB L1 L2' J2 b2 x2 hD eD e1 e2 o1 no1 g1 o2 no2 g2 => ?_⟩
  have sH2 : Same H J2 := fx sH1 np x2
  refine ⟨D, rfl, ⟨_, SqL.of eD⟩, ?_⟩
  refine for_it (walk_list (xs := [V.ref t1, V.ref t2])) (fun i σ G => Same J2 G ∧ ∃ x3 x4 x5, σ = [some (.ref a0), some (.int (0 + (k : Int))), some (.ref p), x3, x4, x5]) ⟨Same.refl _, _, _, _, rfl⟩ (fun i σ G _ z => SqL.of (z.1 _ _ eD)) ?_ ?_
  · rintro i y _ G G' hi ⟨sG, x3, x4, x5, rfl⟩ ⟨rfl, hy⟩
    have key : ∀ (t d : Addr) (n : Nat) (L : Ltt), J2 t = some (.tup [.int (n : Int), .ref d]) → LOk n L → NmOk L → Gv (mn p J2) d L → y = V.ref t → True := fun _ _ _ _ _ _ _ _ _ => trivial
    obtain ⟨t, d, n, L, rfl, et, o, no, g⟩ : ∃ t d n L, y = V.ref t ∧ J2 t = some (.tup [.int ((n : Nat) : Int), .ref d]) ∧ LOk n L ∧ NmOk L ∧ Gv (mn p J2) d L := by
      have hm := List.mem_of_getElem? hy
      simp only [List.mem_cons, List.not_mem_nil, or_false] at hm
      rcases hm with rfl | rfl
      · exact ⟨t1, dA, 4, L1, rfl, e1, o1, no1, g1⟩
      · exact ⟨t2, dB, 5, L2', rfl, e2, o2, no2, g2⟩
    obtain ⟨r, hres⟩ := res_ex n L
    refine ⟨t, _, rfl, SqT.of (sG _ _ et), rfl, _, _, rfl, _, _, rfl, rfl, ?_⟩
    refine ⟨_, rfl, _, rfl, n, d, L, r, rfl, o, no, (g.to mn_same).to sG, hres, fun G2 s2 => ⟨_, rfl, iteF ?_⟩⟩
    exact ⟨sG.trans s2, _, _, _, rfl⟩
  rintro _ G ⟨sG, x3, x4, x5, rfl⟩
  have sHG := sH2.trans sG
  have bG := b2.same sG
  clear e1 e2 g1 g2 eD hD
  refine ⟨_, rfl, by decide, by decide, ?_⟩
  refine for_range (lo := 0) (n := Int.toNat 8) (fun _ σ G => Same H G ∧ Bx G p ∧ ∃ x3 x4 x5, σ = [some (.ref a0), some (.int (0 + (k : Int))), some (.ref p), x3, x4, x5]) ⟨sHG, bG, _, _, _, rfl⟩ ?_ ?_
  rotate_left
  · rintro _ G ⟨sG, bG, y3, y4, y5, rfl⟩
    exact ⟨sG, _, _, _, _, _, rfl⟩
  clear sG sHG bG
  rintro i _ G hi ⟨sG, bG, x3, x4, x5, rfl⟩
  refine ⟨_, rfl, p, rfl, bG, fun t gl n L G1 bG1 xG1 et lo no hGv => ⟨t, _, rfl, SqT.of et, rfl, _, _, rfl, _, _, rfl, rfl, ?_⟩⟩
  have sG1 : Same H G1 := fx sG np xG1
  obtain ⟨r, hres⟩ := res_ex n L
  refine ⟨_, rfl, _, rfl, n, gl, L, r, rfl, lo, no, hGv.to mn_same, hres, fun G2 s2 => ⟨_, rfl, iteF ?_⟩⟩
  have sG2 := sG1.trans s2
  have b2' := bG1.same s2
  have gv2 := hGv.to (mn_mono s2)
  refine ⟨_, rfl, _, rfl, n, gl, L, rfl, lo, no, (gv2.to mn_same).t, fun S a G3 rs ht s3 ha => ?_, fun G3 rn s3 => ?_⟩
  · have sG3 := sG2.trans s3
    have b3 := b2'.same s3
    obtain ⟨dx, tl, cl, wl, ea, _⟩ := id ht.ob
    refine ⟨_, .ty "int", .ref CF, .type "int", false, rfl, .ty _, .base (.ins ea U.cl Y.ha Y.hn Y.htk Y.hm), kitI, false, rfl, iteTt rfl ?_⟩
    exact ⟨_, rfl, _, rfl, _, rfl, p, gl, n, L, S, rfl, b3, lo, no, gv2.to (mn_mono s3), rs, fun J bJ xJ => ⟨_, rfl, iteF ⟨fx sG3 np xJ, bJ, _, _, _, rfl⟩⟩⟩
  · refine ⟨_, .ty "int", .type "int", .type "int", true, rfl, .ty _, .base (.int _), kit_ty (by decide +kernel), true, rfl, iteFf rfl ?_⟩
    exact ⟨sG2.trans s3, b2'.same s3, _, _, _, rfl⟩
end
end L

set_option Elab.async false
set_option linter.all false
set_option maxRecDepth 100000
set_option maxHeartbeats 4000000
namespace L
open PySem L2 KX
theorem all_mk {l : PySem.W.OpenLaw} {w : World} {K : PySem.W.Frag} {h : Heap} {mg : Str → Option Value} {fa : Addr} (X : K.In h) (G : h.Ns mainGlobals mg) (hfa : mg "law" = some (.ref fa))
    {f0 : Addr} {od0 an0 : Option Addr} {sl0 : Array (Option Value)} {oc0 kV0 dc0 pm0 cd0 ct0 : Value}
    {f1 : Addr} {od1 an1 : Option Addr} {sl1 : Array (Option Value)} {oc1 kV1 dc1 pm1 cd1 ct1 : Value}
    {f2 : Addr} {od2 an2 : Option Addr} {sl2 : Array (Option Value)} {oc2 kV2 dc2 pm2 cd2 ct2 : Value}
    {f3 : Addr} {od3 an3 : Option Addr} {sl3 : Array (Option Value)} {oc3 kV3 dc3 pm3 cd3 ct3 : Value}
    {f4 : Addr} {od4 an4 : Option Addr} {sl4 : Array (Option Value)} {oc4 kV4 dc4 pm4 cd4 ct4 : Value}
    {f5 : Addr} {od5 an5 : Option Addr} {sl5 : Array (Option Value)} {oc5 kV5 dc5 pm5 cd5 ct5 : Value}
    {f6 : Addr} {od6 an6 : Option Addr} {sl6 : Array (Option Value)} {oc6 kV6 dc6 pm6 cd6 ct6 : Value}
    {f7 : Addr} {od7 an7 : Option Addr} {sl7 : Array (Option Value)} {oc7 kV7 dc7 pm7 cd7 ct7 : Value}
    {f8 : Addr} {od8 an8 : Option Addr} {sl8 : Array (Option Value)} {oc8 kV8 dc8 pm8 cd8 ct8 : Value}
    {f9 : Addr} {od9 an9 : Option Addr} {sl9 : Array (Option Value)} {oc9 kV9 dc9 pm9 cd9 ct9 : Value}
    {f10 : Addr} {od10 an10 : Option Addr} {sl10 : Array (Option Value)} {oc10 kV10 dc10 pm10 cd10 ct10 : Value}
    {f11 : Addr} {od11 an11 : Option Addr} {sl11 : Array (Option Value)} {oc11 kV11 dc11 pm11 cd11 ct11 : Value}
    {f12 : Addr} {od12 an12 : Option Addr} {sl12 : Array (Option Value)} {oc12 kV12 dc12 pm12 cd12 ct12 : Value}
    {f13 : Addr} {od13 an13 : Option Addr} {sl13 : Array (Option Value)} {oc13 kV13 dc13 pm13 cd13 ct13 : Value}
    {f14 : Addr} {od14 an14 : Option Addr} {sl14 : Array (Option Value)} {oc14 kV14 dc14 pm14 cd14 ct14 : Value}
    {f15 : Addr} {od15 an15 : Option Addr} {sl15 : Array (Option Value)} {oc15 kV15 dc15 pm15 cd15 ct15 : Value}
    {f16 : Addr} {od16 an16 : Option Addr} {sl16 : Array (Option Value)} {oc16 kV16 dc16 pm16 cd16 ct16 : Value}
    {f17 : Addr} {od17 an17 : Option Addr} {sl17 : Array (Option Value)} {oc17 kV17 dc17 pm17 cd17 ct17 : Value}
    {f18 : Addr} {od18 an18 : Option Addr} {sl18 : Array (Option Value)} {oc18 kV18 dc18 pm18 cd18 ct18 : Value}
    {f19 : Addr} {od19 an19 : Option Addr} {sl19 : Array (Option Value)} {oc19 kV19 dc19 pm19 cd19 ct19 : Value}
    {f20 : Addr} {od20 an20 : Option Addr} {sl20 : Array (Option Value)} {oc20 kV20 dc20 pm20 cd20 ct20 : Value}
    {f21 : Addr} {od21 an21 : Option Addr} {sl21 : Array (Option Value)} {oc21 kV21 dc21 pm21 cd21 ct21 : Value}
    {f22 : Addr} {od22 an22 : Option Addr} {sl22 : Array (Option Value)} {oc22 kV22 dc22 pm22 cd22 ct22 : Value}
    {f23 : Addr} {od23 an23 : Option Addr} {sl23 : Array (Option Value)} {oc23 kV23 dc23 pm23 cd23 ct23 : Value}
    {f24 : Addr} {od24 an24 : Option Addr} {sl24 : Array (Option Value)} {oc24 kV24 dc24 pm24 cd24 ct24 : Value}
    {f25 : Addr} {od25 an25 : Option Addr} {sl25 : Array (Option Value)} {oc25 kV25 dc25 pm25 cd25 ct25 : Value}
    {f26 : Addr} {od26 an26 : Option Addr} {sl26 : Array (Option Value)} {oc26 kV26 dc26 pm26 cd26 ct26 : Value}
    {f27 : Addr} {od27 an27 : Option Addr} {sl27 : Array (Option Value)} {oc27 kV27 dc27 pm27 cd27 ct27 : Value}
    {f28 : Addr} {od28 an28 : Option Addr} {sl28 : Array (Option Value)} {oc28 kV28 dc28 pm28 cd28 ct28 : Value}
    {f29 : Addr} {od29 an29 : Option Addr} {sl29 : Array (Option Value)} {oc29 kV29 dc29 pm29 cd29 ct29 : Value}
    {f30 : Addr} {od30 an30 : Option Addr} {sl30 : Array (Option Value)} {oc30 kV30 dc30 pm30 cd30 ct30 : Value}
    {f31 : Addr} {od31 an31 : Option Addr} {sl31 : Array (Option Value)} {oc31 kV31 dc31 pm31 cd31 ct31 : Value}
    {f32 : Addr} {od32 an32 : Option Addr} {sl32 : Array (Option Value)} {oc32 kV32 dc32 pm32 cd32 ct32 : Value}
    {f33 : Addr} {od33 an33 : Option Addr} {sl33 : Array (Option Value)} {oc33 kV33 dc33 pm33 cd33 ct33 : Value}
    {f34 : Addr} {od34 an34 : Option Addr} {sl34 : Array (Option Value)} {oc34 kV34 dc34 pm34 cd34 ct34 : Value}
    {f35 : Addr} {od35 an35 : Option Addr} {sl35 : Array (Option Value)} {oc35 kV35 dc35 pm35 cd35 ct35 : Value}
    {C : Addr}
    {CF : Addr}
    {CO : Addr}
    {tk0 : Tok}
    {tk1 : Tok}
    {tk2 : Tok}
    {tk3 : Tok}
    {tk4 : Tok}
    (aC : PySem.W.nsIn K mainGlobals "ProductTable" = some (some (.ref C)))
    (pg : PySem.W.plainGet K C Str.empty = true)
    (hd : PySem.W.hasDictIn K C = true)
    (po : PySem.W.plainOver K C = true)
    (sa : PySem.W.findIn K (.ref C) "__setattr__" = some (some (.builtin "object.__setattr__")))
    (mk : PySem.W.makesIn K C = true)
    (kc : PySem.W.keepIn K (.ref C) = true)
    (nR : PySem.W.findIn K (.ref C) "_rows" = some none)
    (ya : PySem.W.findIn K (.ref C) "__class__" = some (some (.builtin "object.__class__")))
    (yn : PySem.W.specialIn K (.builtin "object.__class__") "__get__" = some (some (.builtin "getset_descriptor.__get__")))
    (yt : PySem.W.takesIn K (.builtin "object.__class__") = some true)
    (ym : PySem.W.mroIn K C (.type "object") = some true)
    (au : PySem.W.nsIn K mainGlobals "Transformations" = some (some (.ref CF)))
    (pgu : PySem.W.plainGet K CF Str.empty = true)
    (hdu : PySem.W.hasDictIn K CF = true)
    (pou : PySem.W.plainOver K CF = true)
    (sau : PySem.W.findIn K (.ref CF) "__setattr__" = some (some (.builtin "object.__setattr__")))
    (mku : PySem.W.makesIn K CF = true)
    (kcu : PySem.W.keepIn K (.ref CF) = true)
    (yau : PySem.W.findIn K (.ref CF) "__class__" = some (some (.builtin "object.__class__")))
    (ymu : PySem.W.mroIn K CF (.type "object") = some true)
    (n1u : PySem.W.findIn K (.ref CF) "_states" = some none)
    (n2u : PySem.W.findIn K (.ref CF) "_letters" = some none)
    (n3u : PySem.W.findIn K (.ref CF) "_contents" = some none)
    (n4u : PySem.W.findIn K (.ref CF) "_words" = some none)
    (aCO : PySem.W.nsIn K mainGlobals "TooMany" = some (some (.ref CO)))
    (clCO : ∃ nm q N bs bm sn sub ab col dd k0 k1 k2 k3 k5, K.lookup CO = some (excClassObj nm q CO N bs bm true sn sub ab col dd k0 k1 k2 k3 k5 "ValueError.__new__") ∧ PySem.HandSPX.refsVE bm = true)
    (saCO : PySem.W.findIn K (.ref CO) "__setattr__" = some (some (.builtin "object.__setattr__")))
    (exCO : PySem.W.subIn K (.ref CO) (.type "BaseException") = some true)
    (tyCO : PySem.W.typeIn K (.ref CO) = some (.type "type"))
    (kCO : PySem.W.keepIn K (.ref CO) = true)
    (gaCO : PySem.W.findIn K (.ref CO) "__getattribute__" = some (some (.builtin "BaseException.__getattribute__")))
    (ggCO : PySem.W.findIn K (.ref CO) "__getattr__" = some none)
    (hdCO : PySem.W.hasDictIn K CO = true)
    (suCO : PySem.W.subIn K (.ref CO) (.ref CO) = some true)
    (nvCO : PySem.W.findIn K (.ref CO) "count" = some none)
    (a0 : PySem.W.nsIn K mainGlobals "is_integer" = some (some (.ref f0)))
    (l0 : K.lookup f0 = some ⟨oc0, od0, .func (PySem.W.fnOf "is_integer" "is_integer" (defArgs sIsInt) (defBody sIsInt) (defScope sIsInt) .none kV0 dc0 pm0 an0 cd0 ct0), sl0⟩)
    (c0 : PySem.W.codeIn K cd0 "is_integer" = true)
    (k0 : PySem.W.keepIn K (.ref f0) = true)
    (a1 : PySem.W.nsIn K mainGlobals "is_list" = some (some (.ref f1)))
    (l1 : K.lookup f1 = some ⟨oc1, od1, .func (PySem.W.fnOf "is_list" "is_list" (defArgs sIsList) (defBody sIsList) (defScope sIsList) .none kV1 dc1 pm1 an1 cd1 ct1), sl1⟩)
    (c1 : PySem.W.codeIn K cd1 "is_list" = true)
    (k1 : PySem.W.keepIn K (.ref f1) = true)
    (a2 : PySem.W.nsIn K mainGlobals "is_number_below" = some (some (.ref f2)))
    (l2 : K.lookup f2 = some ⟨oc2, od2, .func (PySem.W.fnOf "is_number_below" "is_number_below" (defArgs sBelow) (defBody sBelow) (defScope sBelow) .none kV2 dc2 pm2 an2 cd2 ct2), sl2⟩)
    (c2 : PySem.W.codeIn K cd2 "is_number_below" = true)
    (k2 : PySem.W.keepIn K (.ref f2) = true)
    (a3 : PySem.W.nsIn K mainGlobals "is_number_list" = some (some (.ref f3)))
    (l3 : K.lookup f3 = some ⟨oc3, od3, .func (PySem.W.fnOf "is_number_list" "is_number_list" (defArgs sNumList) (defBody sNumList) (defScope sNumList) .none kV3 dc3 pm3 an3 cd3 ct3), sl3⟩)
    (c3 : PySem.W.codeIn K cd3 "is_number_list" = true)
    (k3 : PySem.W.keepIn K (.ref f3) = true)
    (a4 : PySem.W.nsIn K mainGlobals "_are_rows" = some (some (.ref f4)))
    (l4 : K.lookup f4 = some ⟨oc4, od4, .func (PySem.W.fnOf "_are_rows" "_are_rows" (defArgs sAreRows) (defBody sAreRows) (defScope sAreRows) .none kV4 dc4 pm4 an4 cd4 ct4), sl4⟩)
    (c4 : PySem.W.codeIn K cd4 "_are_rows" = true)
    (k4 : PySem.W.keepIn K (.ref f4) = true)
    (a5 : PySem.W.nsIn K mainGlobals "_first_wrong_triple" = some (some (.ref f5)))
    (l5 : K.lookup f5 = some ⟨oc5, od5, .func (PySem.W.fnOf "_first_wrong_triple" "_first_wrong_triple" (defArgs sWrong) (defBody sWrong) (defScope sWrong) .none kV5 dc5 pm5 an5 cd5 ct5), sl5⟩)
    (c5 : PySem.W.codeIn K cd5 "_first_wrong_triple" = true)
    (k5 : PySem.W.keepIn K (.ref f5) = true)
    (a6 : PySem.W.findIn K (.ref C) "__init__" = some (some (.ref f6)))
    (i6 : PySem.W.isFn K (.ref f6) = true)
    (l6 : K.lookup f6 = some ⟨oc6, od6, .func (PySem.W.fnOf "__init__" "ProductTable.__init__" (defArgs sInit) (defBody sInit) (defScope sInit) .none kV6 dc6 pm6 an6 cd6 ct6), sl6⟩)
    (c6 : PySem.W.codeIn K cd6 "ProductTable.__init__" = true)
    (k6 : PySem.W.keepIn K (.ref f6) = true)
    (a7 : PySem.W.findIn K (.ref C) "__len__" = some (some (.ref f7)))
    (i7 : PySem.W.isFn K (.ref f7) = true)
    (l7 : K.lookup f7 = some ⟨oc7, od7, .func (PySem.W.fnOf "__len__" "ProductTable.__len__" (defArgs sLen) (defBody sLen) (defScope sLen) .none kV7 dc7 pm7 an7 cd7 ct7), sl7⟩)
    (c7 : PySem.W.codeIn K cd7 "ProductTable.__len__" = true)
    (k7 : PySem.W.keepIn K (.ref f7) = true)
    (a8 : PySem.W.findIn K (.ref C) "rows" = some (some (.ref f8)))
    (i8 : PySem.W.isFn K (.ref f8) = true)
    (l8 : K.lookup f8 = some ⟨oc8, od8, .func (PySem.W.fnOf "rows" "ProductTable.rows" (defArgs sRowsM) (defBody sRowsM) (defScope sRowsM) .none kV8 dc8 pm8 an8 cd8 ct8), sl8⟩)
    (c8 : PySem.W.codeIn K cd8 "ProductTable.rows" = true)
    (k8 : PySem.W.keepIn K (.ref f8) = true)
    (a9 : PySem.W.nsIn K mainGlobals "_law_cell" = some (some (.ref f9)))
    (l9 : K.lookup f9 = some ⟨oc9, od9, .func (PySem.W.fnOf "_law_cell" "_law_cell" (defArgs sCell) (defBody sCell) (defScope sCell) .none kV9 dc9 pm9 an9 cd9 ct9), sl9⟩)
    (c9 : PySem.W.codeIn K cd9 "_law_cell" = true)
    (k9 : PySem.W.keepIn K (.ref f9) = true)
    (a10 : PySem.W.nsIn K mainGlobals "_law_box" = some (some (.ref f10)))
    (l10 : K.lookup f10 = some ⟨oc10, od10, .func (PySem.W.fnOf "_law_box" "_law_box" (defArgs sBox) (defBody sBox) (defScope sBox) .none kV10 dc10 pm10 an10 cd10 ct10), sl10⟩)
    (c10 : PySem.W.codeIn K cd10 "_law_box" = true)
    (k10 : PySem.W.keepIn K (.ref f10) = true)
    (a11 : PySem.W.nsIn K mainGlobals "_law_take" = some (some (.ref f11)))
    (l11 : K.lookup f11 = some ⟨oc11, od11, .func (PySem.W.fnOf "_law_take" "_law_take" (defArgs sTake) (defBody sTake) (defScope sTake) .none kV11 dc11 pm11 an11 cd11 ct11), sl11⟩)
    (c11 : PySem.W.codeIn K cd11 "_law_take" = true)
    (k11 : PySem.W.keepIn K (.ref f11) = true)
    (a12 : PySem.W.findIn K (.ref CO) "__init__" = some (some (.ref f12)))
    (t12 : PySem.W.typeIn K (.ref f12) = some (.type "function"))
    (l12 : K.lookup f12 = some ⟨oc12, od12, .func (PySem.W.fnOf "__init__" "TooMany.__init__" (defArgs sEiM) (defBody sEiM) (defScope sEiM) .none kV12 dc12 pm12 an12 cd12 ct12), sl12⟩)
    (c12 : PySem.W.codeIn K cd12 "TooMany.__init__" = true)
    (k12 : PySem.W.keepIn K (.ref f12) = true)
    (a13 : PySem.W.nsIn K mainGlobals "is_name" = some (some (.ref f13)))
    (l13 : K.lookup f13 = some ⟨oc13, od13, .func (PySem.W.fnOf "is_name" "is_name" (defArgs sIsName) (defBody sIsName) (defScope sIsName) .none kV13 dc13 pm13 an13 cd13 ct13), sl13⟩)
    (c13 : PySem.W.codeIn K cd13 "is_name" = true)
    (k13 : PySem.W.keepIn K (.ref f13) = true)
    (a14 : PySem.W.nsIn K mainGlobals "_composed" = some (some (.ref f14)))
    (l14 : K.lookup f14 = some ⟨oc14, od14, .func (PySem.W.fnOf "_composed" "_composed" (defArgs sCd) (defBody sCd) (defScope sCd) .none kV14 dc14 pm14 an14 cd14 ct14), sl14⟩)
    (c14 : PySem.W.codeIn K cd14 "_composed" = true)
    (k14 : PySem.W.keepIn K (.ref f14) = true)
    (a15 : PySem.W.nsIn K mainGlobals "_shortest_words" = some (some (.ref f15)))
    (l15 : K.lookup f15 = some ⟨oc15, od15, .func (PySem.W.fnOf "_shortest_words" "_shortest_words" (defArgs sSw) (defBody sSw) (defScope sSw) .none kV15 dc15 pm15 an15 cd15 ct15), sl15⟩)
    (c15 : PySem.W.codeIn K cd15 "_shortest_words" = true)
    (k15 : PySem.W.keepIn K (.ref f15) = true)
    (a16 : PySem.W.nsIn K mainGlobals "_are_letters" = some (some (.ref f16)))
    (l16 : K.lookup f16 = some ⟨oc16, od16, .func (PySem.W.fnOf "_are_letters" "_are_letters" (defArgs sAl) (defBody sAl) (defScope sAl) .none kV16 dc16 pm16 an16 cd16 ct16), sl16⟩)
    (c16 : PySem.W.codeIn K cd16 "_are_letters" = true)
    (k16 : PySem.W.keepIn K (.ref f16) = true)
    (a17 : PySem.W.findIn K (.ref CF) "__init__" = some (some (.ref f17)))
    (i17 : PySem.W.isFn K (.ref f17) = true)
    (l17 : K.lookup f17 = some ⟨oc17, od17, .func (PySem.W.fnOf "__init__" "Transformations.__init__" (defArgs sTi) (defBody sTi) (defScope sTi) .none kV17 dc17 pm17 an17 cd17 ct17), sl17⟩)
    (c17 : PySem.W.codeIn K cd17 "Transformations.__init__" = true)
    (k17 : PySem.W.keepIn K (.ref f17) = true)
    (a18 : PySem.W.findIn K (.ref CF) "__len__" = some (some (.ref f18)))
    (i18 : PySem.W.isFn K (.ref f18) = true)
    (l18 : K.lookup f18 = some ⟨oc18, od18, .func (PySem.W.fnOf "__len__" "Transformations.__len__" (defArgs sTl) (defBody sTl) (defScope sTl) .none kV18 dc18 pm18 an18 cd18 ct18), sl18⟩)
    (c18 : PySem.W.codeIn K cd18 "Transformations.__len__" = true)
    (k18 : PySem.W.keepIn K (.ref f18) = true)
    (a19 : PySem.W.findIn K (.ref CF) "__eq__" = some (some (.ref f19)))
    (i19 : PySem.W.isFn K (.ref f19) = true)
    (l19 : K.lookup f19 = some ⟨oc19, od19, .func (PySem.W.fnOf "__eq__" "Transformations.__eq__" (defArgs sTe) (defBody sTe) (defScope sTe) .none kV19 dc19 pm19 an19 cd19 ct19), sl19⟩)
    (c19 : PySem.W.codeIn K cd19 "Transformations.__eq__" = true)
    (k19 : PySem.W.keepIn K (.ref f19) = true)
    (a20 : PySem.W.findIn K (.ref CF) "contents" = some (some (.ref f20)))
    (i20 : PySem.W.isFn K (.ref f20) = true)
    (l20 : K.lookup f20 = some ⟨oc20, od20, .func (PySem.W.fnOf "contents" "Transformations.contents" (defArgs sCt) (defBody sCt) (defScope sCt) .none kV20 dc20 pm20 an20 cd20 ct20), sl20⟩)
    (c20 : PySem.W.codeIn K cd20 "Transformations.contents" = true)
    (k20 : PySem.W.keepIn K (.ref f20) = true)
    (a21 : PySem.W.findIn K (.ref CF) "table" = some (some (.ref f21)))
    (i21 : PySem.W.isFn K (.ref f21) = true)
    (l21 : K.lookup f21 = some ⟨oc21, od21, .func (PySem.W.fnOf "table" "Transformations.table" (defArgs sTt) (defBody sTt) (defScope sTt) .none kV21 dc21 pm21 an21 cd21 ct21), sl21⟩)
    (c21 : PySem.W.codeIn K cd21 "Transformations.table" = true)
    (k21 : PySem.W.keepIn K (.ref f21) = true)
    (a22 : PySem.W.findIn K (.ref CF) "_map_of" = some (some (.ref f22)))
    (i22 : PySem.W.isFn K (.ref f22) = true)
    (l22 : K.lookup f22 = some ⟨oc22, od22, .func (PySem.W.fnOf "_map_of" "Transformations._map_of" (defArgs sMo) (defBody sMo) (defScope sMo) .none kV22 dc22 pm22 an22 cd22 ct22), sl22⟩)
    (c22 : PySem.W.codeIn K cd22 "Transformations._map_of" = true)
    (k22 : PySem.W.keepIn K (.ref f22) = true)
    (a23 : PySem.W.findIn K (.ref CF) "element_of" = some (some (.ref f23)))
    (i23 : PySem.W.isFn K (.ref f23) = true)
    (l23 : K.lookup f23 = some ⟨oc23, od23, .func (PySem.W.fnOf "element_of" "Transformations.element_of" (defArgs sEo) (defBody sEo) (defScope sEo) .none kV23 dc23 pm23 an23 cd23 ct23), sl23⟩)
    (c23 : PySem.W.codeIn K cd23 "Transformations.element_of" = true)
    (k23 : PySem.W.keepIn K (.ref f23) = true)
    (a24 : PySem.W.findIn K (.ref CF) "run" = some (some (.ref f24)))
    (i24 : PySem.W.isFn K (.ref f24) = true)
    (l24 : K.lookup f24 = some ⟨oc24, od24, .func (PySem.W.fnOf "run" "Transformations.run" (defArgs sRu) (defBody sRu) (defScope sRu) .none kV24 dc24 pm24 an24 cd24 ct24), sl24⟩)
    (c24 : PySem.W.codeIn K cd24 "Transformations.run" = true)
    (k24 : PySem.W.keepIn K (.ref f24) = true)
    (a25 : PySem.W.nsIn K mainGlobals "_law_letter_names" = some (some (.ref f25)))
    (l25 : K.lookup f25 = some ⟨oc25, od25, .func (PySem.W.fnOf "_law_letter_names" "_law_letter_names" (defArgs sNa) (defBody sNa) (defScope sNa) .none kV25 dc25 pm25 an25 cd25 ct25), sl25⟩)
    (c25 : PySem.W.codeIn K cd25 "_law_letter_names" = true)
    (k25 : PySem.W.keepIn K (.ref f25) = true)
    (a26 : PySem.W.nsIn K mainGlobals "_law_letters" = some (some (.ref f26)))
    (l26 : K.lookup f26 = some ⟨oc26, od26, .func (PySem.W.fnOf "_law_letters" "_law_letters" (defArgs sLt) (defBody sLt) (defScope sLt) .none kV26 dc26 pm26 an26 cd26 ct26), sl26⟩)
    (c26 : PySem.W.codeIn K cd26 "_law_letters" = true)
    (k26 : PySem.W.keepIn K (.ref f26) = true)
    (a27 : PySem.W.findIn K (.ref CF) "states" = some (some (.ref f27)))
    (i27 : PySem.W.isFn K (.ref f27) = true)
    (l27 : K.lookup f27 = some ⟨oc27, od27, .func (PySem.W.fnOf "states" "Transformations.states" (defArgs sSt) (defBody sSt) (defScope sSt) .none kV27 dc27 pm27 an27 cd27 ct27), sl27⟩)
    (c27 : PySem.W.codeIn K cd27 "Transformations.states" = true)
    (k27 : PySem.W.keepIn K (.ref f27) = true)
    (a28 : PySem.W.findIn K (.ref CF) "letters" = some (some (.ref f28)))
    (i28 : PySem.W.isFn K (.ref f28) = true)
    (l28 : K.lookup f28 = some ⟨oc28, od28, .func (PySem.W.fnOf "letters" "Transformations.letters" (defArgs sLs) (defBody sLs) (defScope sLs) .none kV28 dc28 pm28 an28 cd28 ct28), sl28⟩)
    (c28 : PySem.W.codeIn K cd28 "Transformations.letters" = true)
    (k28 : PySem.W.keepIn K (.ref f28) = true)
    (a29 : PySem.W.nsIn K mainGlobals "_law_made" = some (some (.ref f29)))
    (l29 : K.lookup f29 = some ⟨oc29, od29, .func (PySem.W.fnOf "_law_made" "_law_made" (defArgs sLm) (defBody sLm) (defScope sLm) .none kV29 dc29 pm29 an29 cd29 ct29), sl29⟩)
    (c29 : PySem.W.codeIn K cd29 "_law_made" = true)
    (k29 : PySem.W.keepIn K (.ref f29) = true)
    (a30 : PySem.W.nsIn K mainGlobals "_law_contents" = some (some (.ref f30)))
    (l30 : K.lookup f30 = some ⟨oc30, od30, .func (PySem.W.fnOf "_law_contents" "_law_contents" (defArgs sLc) (defBody sLc) (defScope sLc) .none kV30 dc30 pm30 an30 cd30 ct30), sl30⟩)
    (c30 : PySem.W.codeIn K cd30 "_law_contents" = true)
    (k30 : PySem.W.keepIn K (.ref f30) = true)
    (a31 : PySem.W.nsIn K mainGlobals "_law_right" = some (some (.ref f31)))
    (l31 : K.lookup f31 = some ⟨oc31, od31, .func (PySem.W.fnOf "_law_right" "_law_right" (defArgs sRg) (defBody sRg) (defScope sRg) .none kV31 dc31 pm31 an31 cd31 ct31), sl31⟩)
    (c31 : PySem.W.codeIn K cd31 "_law_right" = true)
    (k31 : PySem.W.keepIn K (.ref f31) = true)
    (a32 : PySem.W.nsIn K mainGlobals "_law_mixed" = some (some (.ref f32)))
    (l32 : K.lookup f32 = some ⟨oc32, od32, .func (PySem.W.fnOf "_law_mixed" "_law_mixed" (defArgs sMx) (defBody sMx) (defScope sMx) .none kV32 dc32 pm32 an32 cd32 ct32), sl32⟩)
    (c32 : PySem.W.codeIn K cd32 "_law_mixed" = true)
    (k32 : PySem.W.keepIn K (.ref f32) = true)
    (a33 : PySem.W.nsIn K mainGlobals "_law_edges" = some (some (.ref f33)))
    (l33 : K.lookup f33 = some ⟨oc33, od33, .func (PySem.W.fnOf "_law_edges" "_law_edges" (defArgs sEd) (defBody sEd) (defScope sEd) .none kV33 dc33 pm33 an33 cd33 ct33), sl33⟩)
    (c33 : PySem.W.codeIn K cd33 "_law_edges" = true)
    (k33 : PySem.W.keepIn K (.ref f33) = true)
    (a34 : PySem.W.nsIn K mainGlobals "_law_equal_right" = some (some (.ref f34)))
    (l34 : K.lookup f34 = some ⟨oc34, od34, .func (PySem.W.fnOf "_law_equal_right" "_law_equal_right" (defArgs sEr) (defBody sEr) (defScope sEr) .none kV34 dc34 pm34 an34 cd34 ct34), sl34⟩)
    (c34 : PySem.W.codeIn K cd34 "_law_equal_right" = true)
    (k34 : PySem.W.keepIn K (.ref f34) = true)
    (a35 : PySem.W.nsIn K mainGlobals "law" = some (some (.ref f35)))
    (l35 : K.lookup f35 = some ⟨oc35, od35, .func (PySem.W.fnOf "law" "law" (defArgs sLaw) (defBody sLaw) (defScope sLaw) .none kV35 dc35 pm35 an35 cd35 ct35), sl35⟩)
    (c35 : PySem.W.codeIn K cd35 "law" = true)
    (k35 : PySem.W.keepIn K (.ref f35) = true)
    (q0 : PySem.W.nsIn K mainGlobals "LARGEST_TABLE" = some (some (.int 16 tk0)))
    (q1 : PySem.W.nsIn K mainGlobals "MOST_STATES" = some (some (.int 5 tk1)))
    (q2 : PySem.W.nsIn K mainGlobals "MOST_LETTERS" = some (some (.int 4 tk2)))
    (q3 : PySem.W.nsIn K mainGlobals "_LONGEST_WORD" = some (some (.int 60 tk3)))
    (q4 : PySem.W.nsIn K mainGlobals "_MOST_LETTERS" = some (some (.int 8 tk4)))
    (z_max : PySem.W.nsIn K mainGlobals "max" = some none)
    (z_min : PySem.W.nsIn K mainGlobals "min" = some none)
    (z_len : PySem.W.nsIn K mainGlobals "len" = some none)
    (z_range : PySem.W.nsIn K mainGlobals "range" = some none)
    (z_repr : PySem.W.nsIn K mainGlobals "repr" = some none)
    (z_isinstance : PySem.W.nsIn K mainGlobals "isinstance" = some none)
    (z_all : PySem.W.nsIn K mainGlobals "all" = some none)
    (z_enumerate : PySem.W.nsIn K mainGlobals "enumerate" = some none)
    (z_tuple : PySem.W.nsIn K mainGlobals "tuple" = some none)
    (z_dict : PySem.W.nsIn K mainGlobals "dict" = some none)
    (z_str : PySem.W.nsIn K mainGlobals "str" = some none)
    (z_int : PySem.W.nsIn K mainGlobals "int" = some none)
    (z_bool : PySem.W.nsIn K mainGlobals "bool" = some none)
    (z_list : PySem.W.nsIn K mainGlobals "list" = some none)
    (z_zip : PySem.W.nsIn K mainGlobals "zip" = some none)
    (tL : PySem.W.typeIn K (.ref f7) = some (.type "function"))
    (sCi : PySem.W.subIn K (.ref CF) (.type "int") = some false)
    (tyCF : PySem.W.typeIn K (.ref CF) = some (.type "type"))
    (sN : PySem.W.subIn K (.ref C) (.ref CF) = some false)
    (sS : PySem.W.subIn K (.ref CF) (.ref CF) = some true)
    (nNu : PySem.W.findIn K (.ref CF) "__ne__" = some (some (.builtin "object.__ne__")))
    (tL2 : PySem.W.typeIn K (.ref f18) = some (.type "function"))
    : ∃ fd : FuncData, (∀ (s : Shared) (v : Value), BindsTo s fd ⟨[v], []⟩ [("script", v)]) ∧ ∀ base : Heap, K.In base → base.Ns mainGlobals mg → (∃ o, base.get? sysModules = some o) → GOk l.prog w K mg base CX0 10 fa fd ["script"] (spLaw K) := by
  have e := hfa.symm.trans (PySem.W.mg_of X G a35)
  cases e
  have F0 := fun_mk (st := sIsInt) l0 c0 k0
  have b0 := F0.binds (ps := ["value"]) fun _ _ _ _ _ _ us hl => match us, hl with | [_], _ => rfl
  have m0 := PySem.W.mg_of X G a0
  have F1 := fun_mk (st := sIsList) l1 c1 k1
  have b1 := F1.binds (ps := ["value", "least", "most"]) fun _ _ _ _ _ _ us hl => match us, hl with | [_, _, _], _ => rfl
  have m1 := PySem.W.mg_of X G a1
  have F2 := fun_mk (st := sBelow) l2 c2 k2
  have b2 := F2.binds (ps := ["value", "limit"]) fun _ _ _ _ _ _ us hl => match us, hl with | [_, _], _ => rfl
  have m2 := PySem.W.mg_of X G a2
  have F3 := fun_mk (st := sNumList) l3 c3 k3
  have b3 := F3.binds (ps := ["value", "least", "most", "limit"]) fun _ _ _ _ _ _ us hl => match us, hl with | [_, _, _, _], _ => rfl
  have m3 := PySem.W.mg_of X G a3
  have F4 := fun_mk (st := sAreRows) l4 c4 k4
  have b4 := F4.binds (ps := ["rows"]) fun _ _ _ _ _ _ us hl => match us, hl with | [_], _ => rfl
  have m4 := PySem.W.mg_of X G a4
  have F5 := fun_mk (st := sWrong) l5 c5 k5
  have b5 := F5.binds (ps := ["rows"]) fun _ _ _ _ _ _ us hl => match us, hl with | [_], _ => rfl
  have m5 := PySem.W.mg_of X G a5
  have F6 := fun_mk (st := sInit) l6 c6 k6
  have b6 := F6.binds (ps := ["self", "rows"]) fun _ _ _ _ _ _ us hl => match us, hl with | [_, _], _ => rfl
  have F7 := fun_mk (st := sLen) l7 c7 k7
  have b7 := F7.binds (ps := ["self"]) fun _ _ _ _ _ _ us hl => match us, hl with | [_], _ => rfl
  have F8 := fun_mk (st := sRowsM) l8 c8 k8
  have b8 := F8.binds (ps := ["self"]) fun _ _ _ _ _ _ us hl => match us, hl with | [_], _ => rfl
  have F9 := fun_mk (st := sCell) l9 c9 k9
  have b9 := F9.binds (ps := ["script", "k"]) fun _ _ _ _ _ _ us hl => match us, hl with | [_, _], _ => rfl
  have m9 := PySem.W.mg_of X G a9
  have F10 := fun_mk (st := sBox) l10 c10 k10
  have b10 := F10.binds (ps := ["cell"]) fun _ _ _ _ _ _ us hl => match us, hl with | [_], _ => rfl
  have m10 := PySem.W.mg_of X G a10
  have F11 := fun_mk (st := sTake) l11 c11 k11
  have b11 := F11.binds (ps := ["box", "size"]) fun _ _ _ _ _ _ us hl => match us, hl with | [_, _], _ => rfl
  have m11 := PySem.W.mg_of X G a11
  have F12 := fun_mk (st := sEiM) l12 c12 k12
  have b12 := F12.binds (ps := ["self", "count"]) fun _ _ _ _ _ _ us hl => match us, hl with | [_, _], _ => rfl
  have F13 := fun_mk (st := sIsName) l13 c13 k13
  have b13 := F13.binds (ps := ["value"]) fun _ _ _ _ _ _ us hl => match us, hl with | [_], _ => rfl
  have m13 := PySem.W.mg_of X G a13
  have F14 := fun_mk (st := sCd) l14 c14 k14
  have b14 := F14.binds (ps := ["first", "second"]) fun _ _ _ _ _ _ us hl => match us, hl with | [_, _], _ => rfl
  have m14 := PySem.W.mg_of X G a14
  have F15 := fun_mk (st := sSw) l15 c15 k15
  have b15 := F15.binds (ps := ["states", "letters"]) fun _ _ _ _ _ _ us hl => match us, hl with | [_, _], _ => rfl
  have m15 := PySem.W.mg_of X G a15
  have F16 := fun_mk (st := sAl) l16 c16 k16
  have b16 := F16.binds (ps := ["states", "letters"]) fun _ _ _ _ _ _ us hl => match us, hl with | [_, _], _ => rfl
  have m16 := PySem.W.mg_of X G a16
  have F17 := fun_mk (st := sTi) l17 c17 k17
  have b17 := F17.binds (ps := ["self", "states", "letters"]) fun _ _ _ _ _ _ us hl => match us, hl with | [_, _, _], _ => rfl
  have F18 := fun_mk (st := sTl) l18 c18 k18
  have b18 := F18.binds (ps := ["self"]) fun _ _ _ _ _ _ us hl => match us, hl with | [_], _ => rfl
  have F19 := fun_mk (st := sTe) l19 c19 k19
  have b19 := F19.binds (ps := ["self", "other"]) fun _ _ _ _ _ _ us hl => match us, hl with | [_, _], _ => rfl
  have F20 := fun_mk (st := sCt) l20 c20 k20
  have b20 := F20.binds (ps := ["self"]) fun _ _ _ _ _ _ us hl => match us, hl with | [_], _ => rfl
  have F21 := fun_mk (st := sTt) l21 c21 k21
  have b21 := F21.binds (ps := ["self"]) fun _ _ _ _ _ _ us hl => match us, hl with | [_], _ => rfl
  have F22 := fun_mk (st := sMo) l22 c22 k22
  have b22 := F22.binds (ps := ["self", "word"]) fun _ _ _ _ _ _ us hl => match us, hl with | [_, _], _ => rfl
  have F23 := fun_mk (st := sEo) l23 c23 k23
  have b23 := F23.binds (ps := ["self", "word"]) fun _ _ _ _ _ _ us hl => match us, hl with | [_, _], _ => rfl
  have F24 := fun_mk (st := sRu) l24 c24 k24
  have b24 := F24.binds (ps := ["self", "state", "word"]) fun _ _ _ _ _ _ us hl => match us, hl with | [_, _, _], _ => rfl
  have F25 := fun_mk (st := sNa) l25 c25 k25
  have b25 := F25.binds (ps := ["box"]) fun _ _ _ _ _ _ us hl => match us, hl with | [_], _ => rfl
  have m25 := PySem.W.mg_of X G a25
  have F26 := fun_mk (st := sLt) l26 c26 k26
  have b26 := F26.binds (ps := ["box"]) fun _ _ _ _ _ _ us hl => match us, hl with | [_], _ => rfl
  have m26 := PySem.W.mg_of X G a26
  have F27 := fun_mk (st := sSt) l27 c27 k27
  have b27 := F27.binds (ps := ["self"]) fun _ _ _ _ _ _ us hl => match us, hl with | [_], _ => rfl
  have F28 := fun_mk (st := sLs) l28 c28 k28
  have b28 := F28.binds (ps := ["self"]) fun _ _ _ _ _ _ us hl => match us, hl with | [_], _ => rfl
  have F29 := fun_mk (st := sLm) l29 c29 k29
  have b29 := F29.binds (ps := ["size", "letters"]) fun _ _ _ _ _ _ us hl => match us, hl with | [_, _], _ => rfl
  have m29 := PySem.W.mg_of X G a29
  have F30 := fun_mk (st := sLc) l30 c30 k30
  have b30 := F30.binds (ps := ["size", "letters"]) fun _ _ _ _ _ _ us hl => match us, hl with | [_, _], _ => rfl
  have m30 := PySem.W.mg_of X G a30
  have F31 := fun_mk (st := sRg) l31 c31 k31
  have b31 := F31.binds (ps := ["size", "letters"]) fun _ _ _ _ _ _ us hl => match us, hl with | [_, _], _ => rfl
  have m31 := PySem.W.mg_of X G a31
  have F32 := fun_mk (st := sMx) l32 c32 k32
  have b32 := F32.binds (ps := ["box", "letters"]) fun _ _ _ _ _ _ us hl => match us, hl with | [_, _], _ => rfl
  have m32 := PySem.W.mg_of X G a32
  have F33 := fun_mk (st := sEd) l33 c33 k33
  have b33 := F33.binds (ps := ["box"]) fun _ _ _ _ _ _ us hl => match us, hl with | [_], _ => rfl
  have m33 := PySem.W.mg_of X G a33
  have F34 := fun_mk (st := sEr) l34 c34 k34
  have b34 := F34.binds (ps := ["box", "size", "letters"]) fun _ _ _ _ _ _ us hl => match us, hl with | [_, _, _], _ => rfl
  have m34 := PySem.W.mg_of X G a34
  have F35 := fun_mk (st := sLaw) l35 c35 k35
  have b35 := F35.binds (ps := ["script"]) fun _ _ _ _ _ _ us hl => match us, hl with | [_], _ => rfl
  have m35 := PySem.W.mg_of X G a35
  have M : Mn mg := ⟨PySem.W.mg_none_of X G z_max, PySem.W.mg_none_of X G z_min, PySem.W.mg_none_of X G z_len, PySem.W.mg_none_of X G z_range, PySem.W.mg_none_of X G z_repr, PySem.W.mg_none_of X G z_isinstance, PySem.W.mg_none_of X G z_all, PySem.W.mg_none_of X G z_enumerate, PySem.W.mg_none_of X G z_tuple, PySem.W.mg_none_of X G z_dict, PySem.W.mg_none_of X G z_str, PySem.W.mg_none_of X G z_int, PySem.W.mg_none_of X G z_bool, PySem.W.mg_none_of X G z_list⟩
  refine ⟨PySem.W.fnOf "law" "law" (defArgs sLaw) (defBody sLaw) (defScope sLaw) .none kV35 dc35 pm35 an35 cd35 ct35, fun s v => .of_eq rfl, fun base _ _ hS => ?_⟩
  have T : CTx K mg C := ⟨⟨pg, hd, po, sa⟩, nR, PySem.W.mg_of X G aC⟩
  have Y : CTi K C := ⟨ya, yn, yt, ym⟩
  have EO : ETx K mg "TooMany" "count" CO f12 := ⟨⟨clCO, saCO, exCO, tyCO, kCO⟩, ⟨gaCO, ggCO, exCO, hdCO⟩, a12, t12, nvCO, PySem.W.mg_of X G aCO⟩
  have UF : TfX K CF := ⟨⟨pgu, hdu, pou, sau⟩, n1u, n2u, n3u, n4u⟩
  have YF : CTi K CF := ⟨yau, yn, yt, ymu⟩
  have NB : CNb K CF := ⟨mku, tyCF⟩
  have mCF := PySem.W.mg_of X G au
  have G0 := ok_isint (P := l.prog) (w := w) (base := base) F0 M
  have G1 := ok_islist (P := l.prog) (w := w) (base := base) F1 M
  have G2 := ok_below F2 G0 b0 k0 m0
  have G3 := ok_numlist F3 M G1 b1 k1 m1 G2 b2 k2 m2
  have G4 := ok_arerows F4 M ⟨_, PySem.W.mg_of X G q0⟩ G1 b1 k1 m1 G3 b3 k3 m3
  have G5 := ok_wrong (P := l.prog) (w := w) (base := base) F5 M
  have G6 := ok_init F6 M T G4 b4 k4 m4 G5 b5 k5 m5
  have G7 := ok_len (P := l.prog) (w := w) (base := base) F7 M T
  have G8 := ok_rowsM (P := l.prog) (w := w) (base := base) F8 M T
  have h_rows : Meth K C "rows" f8 := ⟨a8, i8, k8⟩
  have G9 := ok_cell (P := l.prog) (w := w) (base := base) F9 M
  have G10 := ok_box (P := l.prog) (w := w) (base := base) F10 M
  have G11 := ok_take (P := l.prog) (w := w) (base := base) F11 M
  have G12 := ok_eiM (P := l.prog) (w := w) (base := base) (mg := mg) (C := CO) F12
  have G13 := ok_isname (P := l.prog) (w := w) (base := base) F13 M ⟨_, PySem.W.mg_of X G q4⟩
  have G14 := ok_cd (P := l.prog) (w := w) (base := base) F14 M
  have G15 := ok_sw F15 M ⟨_, PySem.W.mg_of X G q0⟩ EO G12 b12 G14 b14 k14 m14
  have G16 := ok_al F16 M ⟨_, PySem.W.mg_of X G q2⟩ G13 b13 k13 m13 G3 b3 k3 m3
  have G17 := ok_ti F17 M UF ⟨_, PySem.W.mg_of X G q1⟩ G0 b0 k0 m0 G16 b16 k16 m16 G15 b15 k15 m15
  have G18 := ok_tl (P := l.prog) (w := w) (base := base) F18 M UF
  have G19 := ok_teG (P := l.prog) (w := w) (base := base) F19 M UF YF mCF
  have G20 := ok_ct (P := l.prog) (w := w) (base := base) F20 M UF
  have G21 := ok_tt F21 M T UF ⟨mk, a6, i6, kc⟩ G6 b6 G14 b14 k14 m14
  have G22 := ok_mo F22 M UF ⟨_, PySem.W.mg_of X G q3⟩ G1 b1 k1 m1 G13 b13 k13 m13 G14 b14 k14 m14
  have G23 := ok_eo F23 M UF G22 b22 ⟨a22, i22, k22⟩
  have G24 := ok_ru F24 M UF G22 b22 ⟨a22, i22, k22⟩ G2 b2 k2 m2
  have G25 := ok_na F25 M G11 b11 k11 m11
  have G26 := ok_lt F26 M G11 b11 k11 m11 G25 b25 k25 m25
  have G27 := ok_st (P := l.prog) (w := w) (base := base) (mg := mg) F27 UF
  have G28 := ok_ls (P := l.prog) (w := w) (base := base) F28 M UF
  have G29 := ok_lm F29 EO (exm_mk EO.ox suCO) mCF ⟨mku, a17, i17, kcu⟩ G17 b17
  have G30 := ok_lc (P := l.prog) (w := w) (base := base) F30 M
  have G31 := ok_rg F31 M UF hS G29 b29 k29 m29 G30 b30 k30 m30 G23 b23 ⟨a23, i23, k23⟩ G24 b24 ⟨a24, i24, k24⟩ G20 b20 ⟨a20, i20, k20⟩ G28 b28 ⟨a28, i28, k28⟩ G27 b27 ⟨a27, i27, k27⟩ a18 tL2 G18 b18
  have G32 := ok_mx F32 M G11 b11 k11 m11
  have G33 := ok_ed F33 M (PySem.W.mg_none_of X G z_zip) G11 b11 k11 m11
  have G34 := ok_er F34 (ErH.mk M UF YF T Y NB hS (kT_of NB sN sS).1 (kT_of NB sN sS).2 sCi nNu a19 i19 G19 b19 G29 b29 k29 m29 G11 b11 k11 m11 G32 b32 k32 m32 G28 b28 ⟨a28, i28, k28⟩ G20 b20 ⟨a20, i20, k20⟩ G21 b21 ⟨a21, i21, k21⟩)
  exact ok_law F35 M UF YF sCi G9 b9 k9 m9 G10 b10 k10 m10 G26 b26 k26 m26 G29 b29 k29 m29 G31 b31 k31 m31 G33 b33 k33 m33 G34 b34 k34 m34
theorem walk {l : PySem.W.OpenLaw} {q : Program} {loose : List Str} {XP : (Str → Option Value) → Heap → Prop} {YP : World → Heap → Prop} {d : DefRec} {K : Params → PySem.W.Frag} (hn : l.most = some 63) (hdf : d.params.defaults = []) (him : PyProof.Rows.importsNone q = true)
    (hY : ∀ (w : World) (h : Heap), YP w h → (K w.params).In h)
    (F : ∀ (w : World) (mg : Str → Option Value) (fa : Addr) (h : Heap), (K w.params).In h → h.Ns mainGlobals mg → mg d.name = some (.ref fa) →
      ∃ fd : FuncData, (∀ (s : Shared) (u : Value), BindsTo s fd ⟨[u], []⟩ [("script", u)]) ∧ ∀ base : Heap, (K w.params).In base → base.Ns mainGlobals mg → (∃ o, base.get? sysModules = some o) → GOk l.prog w (K w.params) mg base CX0 10 fa fd ["script"] (spLaw (K w.params))) :
    PySem.W.WalkO q loose XP YP l.row.toRowW d [] (fun f vs => PySem.call f vs) :=
  walk_g (n := 63) (k := 10) (x := "script") (sp := spLaw) hn (by decide) hdf ⟨rfl, by decide, by decide⟩ him hY F fun _ _ a ns hl _ hS => ⟨a, ns, rfl, hS, hl, fun _ => rfl⟩
end L
open PySem PySem.W PyProof.Rows
set_option maxRecDepth 100000 in
set_option pp.maxSteps 400 in
set_option maxHeartbeats 0 in
theorem PySem.Challenge.cw_producttrees_k11_numbered_transformation_holds : PySem.Challenge.rw_producttrees_k11_numbered_transformation.Holds := by
  w_on; o_law; k_head; (case hw => w_witness2)
  k_fill
  refine L.walk (l := PySem.Challenge.rw_producttrees_k11_numbered_transformation) rfl rfl (by decide +kernel) (fun w h Y => PySem.W.kIn_of Y) ?F
  case F =>
    intro w mg fa h KX G hmg
    refine' L.all_mk KX G hmg ?aC ?pg ?hd ?po ?sa ?mk ?kc ?nR ?ya ?yn ?yt ?ym ?au ?pgu ?hdu ?pou ?sau ?mku ?kcu ?yau ?ymu ?n1u ?n2u ?n3u ?n4u ?aCO ?clCO ?saCO ?exCO ?tyCO ?kCO ?gaCO ?ggCO ?hdCO ?suCO ?nvCO ?a0 ?l0 ?c0 ?k0 ?a1 ?l1 ?c1 ?k1 ?a2 ?l2 ?c2 ?k2 ?a3 ?l3 ?c3 ?k3 ?a4 ?l4 ?c4 ?k4 ?a5 ?l5 ?c5 ?k5 ?a6 ?i6 ?l6 ?c6 ?k6 ?a7 ?i7 ?l7 ?c7 ?k7 ?a8 ?i8 ?l8 ?c8 ?k8 ?a9 ?l9 ?c9 ?k9 ?a10 ?l10 ?c10 ?k10 ?a11 ?l11 ?c11 ?k11 ?a12 ?t12 ?l12 ?c12 ?k12 ?a13 ?l13 ?c13 ?k13 ?a14 ?l14 ?c14 ?k14 ?a15 ?l15 ?c15 ?k15 ?a16 ?l16 ?c16 ?k16 ?a17 ?i17 ?l17 ?c17 ?k17 ?a18 ?i18 ?l18 ?c18 ?k18 ?a19 ?i19 ?l19 ?c19 ?k19 ?a20 ?i20 ?l20 ?c20 ?k20 ?a21 ?i21 ?l21 ?c21 ?k21 ?a22 ?i22 ?l22 ?c22 ?k22 ?a23 ?i23 ?l23 ?c23 ?k23 ?a24 ?i24 ?l24 ?c24 ?k24 ?a25 ?l25 ?c25 ?k25 ?a26 ?l26 ?c26 ?k26 ?a27 ?i27 ?l27 ?c27 ?k27 ?a28 ?i28 ?l28 ?c28 ?k28 ?a29 ?l29 ?c29 ?k29 ?a30 ?l30 ?c30 ?k30 ?a31 ?l31 ?c31 ?k31 ?a32 ?l32 ?c32 ?k32 ?a33 ?l33 ?c33 ?k33 ?a34 ?l34 ?c34 ?k34 ?a35 ?l35 ?c35 ?k35 ?q0 ?q1 ?q2 ?q3 ?q4 ?z_max ?z_min ?z_len ?z_range ?z_repr ?z_isinstance ?z_all ?z_enumerate ?z_tuple ?z_dict ?z_str ?z_int ?z_bool ?z_list ?z_zip ?tL ?sCi ?tyCF ?sN ?sS ?nNu ?tL2
    (case aC => k_is)
    (case pg => k_is)
    (case hd => k_is)
    (case po => k_is)
    (case sa => k_is)
    (case mk => k_is)
    (case kc => k_is)
    (case nR => k_is)
    (case ya => k_is)
    (case yn => k_is)
    (case yt => k_is)
    (case ym => k_is)
    (case au => k_is)
    (case pgu => k_is)
    (case hdu => k_is)
    (case pou => k_is)
    (case sau => k_is)
    (case mku => k_is)
    (case kcu => k_is)
    (case yau => k_is)
    (case ymu => k_is)
    (case n1u => k_is)
    (case n2u => k_is)
    (case n3u => k_is)
    (case n4u => k_is)
    (case aCO => k_is)
    (case clCO => exact ⟨_, _, _, _, _, _, _, _, _, _, _, _, _, _, _, by k_is, by decide +kernel⟩)
    (case saCO => k_is)
    (case exCO => k_is)
    (case tyCO => k_is)
    (case kCO => k_is)
    (case gaCO => k_is)
    (case ggCO => k_is)
    (case hdCO => k_is)
    (case suCO => k_is)
    (case nvCO => k_is)
    (case a0 => k_is)
    (case l0 => k_is)
    (case c0 => k_is)
    (case k0 => k_is)
    (case a1 => k_is)
    (case l1 => k_is)
    (case c1 => k_is)
    (case k1 => k_is)
    (case a2 => k_is)
    (case l2 => k_is)
    (case c2 => k_is)
    (case k2 => k_is)
    (case a3 => k_is)
    (case l3 => k_is)
    (case c3 => k_is)
    (case k3 => k_is)
    (case a4 => k_is)
    (case l4 => k_is)
    (case c4 => k_is)
    (case k4 => k_is)
    (case a5 => k_is)
    (case l5 => k_is)
    (case c5 => k_is)
    (case k5 => k_is)
    (case a6 => k_is)
    (case i6 => k_is)
    (case l6 => k_is)
    (case c6 => k_is)
    (case k6 => k_is)
    (case a7 => k_is)
    (case i7 => k_is)
    (case l7 => k_is)
    (case c7 => k_is)
    (case k7 => k_is)
    (case a8 => k_is)
    (case i8 => k_is)
    (case l8 => k_is)
    (case c8 => k_is)
    (case k8 => k_is)
    (case a9 => k_is)
    (case l9 => k_is)
    (case c9 => k_is)
    (case k9 => k_is)
    (case a10 => k_is)
    (case l10 => k_is)
    (case c10 => k_is)
    (case k10 => k_is)
    (case a11 => k_is)
    (case l11 => k_is)
    (case c11 => k_is)
    (case k11 => k_is)
    (case a12 => k_is)
    (case t12 => k_is)
    (case l12 => k_is)
    (case c12 => k_is)
    (case k12 => k_is)
    (case a13 => k_is)
    (case l13 => k_is)
    (case c13 => k_is)
    (case k13 => k_is)
    (case a14 => k_is)
    (case l14 => k_is)
    (case c14 => k_is)
    (case k14 => k_is)
    (case a15 => k_is)
    (case l15 => k_is)
    (case c15 => k_is)
    (case k15 => k_is)
    (case a16 => k_is)
    (case l16 => k_is)
    (case c16 => k_is)
    (case k16 => k_is)
    (case a17 => k_is)
    (case i17 => k_is)
    (case l17 => k_is)
    (case c17 => k_is)
    (case k17 => k_is)
    (case a18 => k_is)
    (case i18 => k_is)
    (case l18 => k_is)
    (case c18 => k_is)
    (case k18 => k_is)
    (case a19 => k_is)
    (case i19 => k_is)
    (case l19 => k_is)
    (case c19 => k_is)
    (case k19 => k_is)
    (case a20 => k_is)
    (case i20 => k_is)
    (case l20 => k_is)
    (case c20 => k_is)
    (case k20 => k_is)
    (case a21 => k_is)
    (case i21 => k_is)
    (case l21 => k_is)
    (case c21 => k_is)
    (case k21 => k_is)
    (case a22 => k_is)
    (case i22 => k_is)
    (case l22 => k_is)
    (case c22 => k_is)
    (case k22 => k_is)
    (case a23 => k_is)
    (case i23 => k_is)
    (case l23 => k_is)
    (case c23 => k_is)
    (case k23 => k_is)
    (case a24 => k_is)
    (case i24 => k_is)
    (case l24 => k_is)
    (case c24 => k_is)
    (case k24 => k_is)
    (case a25 => k_is)
    (case l25 => k_is)
    (case c25 => k_is)
    (case k25 => k_is)
    (case a26 => k_is)
    (case l26 => k_is)
    (case c26 => k_is)
    (case k26 => k_is)
    (case a27 => k_is)
    (case i27 => k_is)
    (case l27 => k_is)
    (case c27 => k_is)
    (case k27 => k_is)
    (case a28 => k_is)
    (case i28 => k_is)
    (case l28 => k_is)
    (case c28 => k_is)
    (case k28 => k_is)
    (case a29 => k_is)
    (case l29 => k_is)
    (case c29 => k_is)
    (case k29 => k_is)
    (case a30 => k_is)
    (case l30 => k_is)
    (case c30 => k_is)
    (case k30 => k_is)
    (case a31 => k_is)
    (case l31 => k_is)
    (case c31 => k_is)
    (case k31 => k_is)
    (case a32 => k_is)
    (case l32 => k_is)
    (case c32 => k_is)
    (case k32 => k_is)
    (case a33 => k_is)
    (case l33 => k_is)
    (case c33 => k_is)
    (case k33 => k_is)
    (case a34 => k_is)
    (case l34 => k_is)
    (case c34 => k_is)
    (case k34 => k_is)
    (case a35 => k_is)
    (case l35 => k_is)
    (case c35 => k_is)
    (case k35 => k_is)
    (case q0 => k_is)
    (case q1 => k_is)
    (case q2 => k_is)
    (case q3 => k_is)
    (case q4 => k_is)
    (case z_max => k_is)
    (case z_min => k_is)
    (case z_len => k_is)
    (case z_range => k_is)
    (case z_repr => k_is)
    (case z_isinstance => k_is)
    (case z_all => k_is)
    (case z_enumerate => k_is)
    (case z_tuple => k_is)
    (case z_dict => k_is)
    (case z_str => k_is)
    (case z_int => k_is)
    (case z_bool => k_is)
    (case z_list => k_is)
    (case z_zip => k_is)
    (case tL => k_is)
    (case sCi => k_is)
    (case tyCF => k_is)
    (case sN => k_is)
    (case sS => k_is)
    (case nNu => k_is)
    (case tL2 => k_is)

