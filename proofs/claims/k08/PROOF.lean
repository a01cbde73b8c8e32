import PyProof.Rows.All
import Wide.All
import OpenK.AllK
import Wide.FinOn
import HandS.ForMost
import HandS.IsInst
import HandS.RaiseMore
import HandS.Defaults
import HandS.Wide
import HandS.Walk
import KE.IntTextLaws
import KE.OsScanText
import HandS.StrMore
import HandS.ForExc
import HandS.ExcInit
import HandS.ExcField
import HandS.ExcOwn
import PyProof.StrOps2
import HandS.Deep
import HandS.Conv
import HandS.OwnEq
import HandS.NamedTupGet
import HandS.Strs
import HandS.SetFor
import HandS.TupAny
import PyProof.InstNe
import PyProof.NeKinds
import HandS.More
import HandS.Style
import KE.GoesMore
import PyProof.Draws
import HandS.WordsDict
import KE.KDictZip
import PySem.Challenge.RW_producttrees_k08_renumbered_tables
set_option Elab.async false
set_option linter.all false
set_option maxRecDepth 100000
set_option maxHeartbeats 4000000
/-! Own layer: data trees with dicts (Dq), repr of them, defs that know that no repr runs (GOk). -/
namespace KX
open PySem PySem.Spec PyProof.Rows L2
/-- a dict's key as data -/
def kD : Key → PyData
  | .inl i => .int i
  | .inr x => .str x
mutual
/-- the value x stands for the data d in the abstract heap -/
inductive Dq (H : Hp) : V → PyData → Prop
  | non : Dq H .non .none
  | bl (b : Bool) : Dq H (.bl b) (.bool b)
  | int (i : Int) : Dq H (.int i) (.int i)
  | str (x : Str) : Dq H (.str x) (.str x)
  | lst {a : Addr} {xs : List V} {ds : List PyData} : H a = some (.lst xs) → DqAll H xs ds → Dq H (.ref a) (.list ds)
  | tup {a : Addr} {xs : List V} {ds : List PyData} : H a = some (.tup xs) → DqAll H xs ds → Dq H (.ref a) (.tuple ds)
  | dct {a : Addr} {kvs : List (Key × V)} {ds : List (PyData × PyData)} : H a = some (.dK kvs) → DqKv H kvs ds → Dq H (.ref a) (.dict ds)
inductive DqAll (H : Hp) : List V → List PyData → Prop
  | nil : DqAll H [] []
  | cons {v : V} {vs : List V} {d : PyData} {ds : List PyData} : Dq H v d → DqAll H vs ds → DqAll H (v :: vs) (d :: ds)
inductive DqKv (H : Hp) : List (Key × V) → List (PyData × PyData) → Prop
  | nil : DqKv H [] []
  | cons {k : Key} {v : V} {r : List (Key × V)} {d : PyData} {ds : List (PyData × PyData)} : Dq H v d → DqKv H r ds → DqKv H ((k, v) :: r) ((kD k, d) :: ds)
end
def Trk (H : Hp) (as : List Addr) : Prop := ∀ a, a ∈ as → H a ≠ none
theorem Trk.nil {H : Hp} : Trk H [] := fun _ h => nomatch h
theorem Trk.app {H : Hp} {as bs : List Addr} (h1 : Trk H as) (h2 : Trk H bs) : Trk H (as ++ bs) := fun a h => (List.mem_append.mp h).elim (h1 a) (h2 a)
theorem Trk.one {H : Hp} {a : Addr} {o : HO} {as : List Addr} (h : H a = some o) (h2 : Trk H as) : Trk H (a :: as) := fun b hb => by
  rcases List.mem_cons.mp hb with e | hb
  · subst e; rw [h]; simp
  · exact h2 b hb
section
variable {X : Cx} {pins : List (Addr × Obj)} {σ : L2.St} {H : Hp} {s : Shared}
mutual
theorem Dq.reads (I : Inv X pins σ H s) : ∀ (d : PyData) (v : V) (u : Value), Dq H v d → RelV v u → ∃ as, Reads s.heap u d as ∧ Trk H as
  | .none, _, _, h, r => by cases h; cases r; exact ⟨_, Reads.none, Trk.nil⟩
  | .bool b, _, _, h, r => by cases h; cases r; exact ⟨_, Reads.bool b, Trk.nil⟩
  | .int i, _, _, h, r => by cases h; obtain ⟨t, rfl⟩ := r; exact ⟨_, Reads.int i t, Trk.nil⟩
  | .str x, _, _, h, r => by cases h; obtain ⟨t, rfl⟩ := r; exact ⟨_, Reads.str x t, Trk.nil⟩
  | .list ds, _, _, h, r => by
    cases h with
    | @lst a xs _ hs ha =>
      cases r
      obtain ⟨_, its, n, rv, ho⟩ := (show ObjOk X.prog X.w H s.heap a (.lst xs) from I.hok _ _ hs)
      obtain ⟨as, hr, tr⟩ := Dq.readsAll I ds _ its ha rv
      exact ⟨_, Reads.list ho rfl rfl (by simpa using hr), Trk.one hs tr⟩
  | .tuple ds, _, _, h, r => by
    cases h with
    | @tup a xs _ hs ha =>
      cases r
      obtain ⟨_, its, rv, o, ho, hc, n, hd⟩ := (show ObjOk X.prog X.w H s.heap a (.tup xs) from I.hok _ _ hs)
      obtain ⟨as, hr, tr⟩ := Dq.readsAll I ds _ its ha rv
      exact ⟨_, Reads.tuple ho hc hd (by simpa using hr), tr⟩
  | .dict ds, _, _, h, r => by
    cases h with
    | @dct a kvs _ hs ha =>
      cases r
      obtain ⟨_, _, vs, rv, o, es, ep, ho, hx, hd, _, hp, _⟩ := (show ObjOk X.prog X.w H s.heap a (.dK kvs) from I.hok _ _ hs)
      obtain ⟨as, bs, h1, h2, t1, t2⟩ := Dq.readsKv I ds kvs vs es.toList ha rv hp
      exact ⟨_, Reads.dict ho hx.1 hd h1 h2, Trk.app (Trk.one hs t1) t2⟩
theorem Dq.readsAll (I : Inv X pins σ H s) : ∀ (ds : List PyData) (vs : List V) (us : List Value), DqAll H vs ds → Vals vs us → ∃ as, ReadsAll s.heap us ds as ∧ Trk H as
  | [], _, _, h, r => by cases h; cases r; exact ⟨_, ReadsAll.nil, Trk.nil⟩
  | d :: ds, _, _, h, r => by
    cases h with
    | cons h1 h2 =>
      cases r with
      | cons r1 r2 =>
        obtain ⟨as, q1, t1⟩ := Dq.reads I d _ _ h1 r1
        obtain ⟨bs, q2, t2⟩ := Dq.readsAll I ds _ _ h2 r2
        exact ⟨_, ReadsAll.cons q1 q2, Trk.app t1 t2⟩
theorem Dq.readsKv (I : Inv X pins σ H s) : ∀ (ds : List (PyData × PyData)) (kvs : List (Key × V)) (vs : List (Key × Value)) (es : List DictEntry), DqKv H kvs ds → KV kvs vs → Pairs (mixKind X.prog X.w) es vs →
    ∃ as bs, ReadsAll s.heap (es.map (·.key)) (ds.map (·.1)) as ∧ ReadsAll s.heap (es.map (·.val)) (ds.map (·.2)) bs ∧ Trk H as ∧ Trk H bs
  | [], _, _, _, h, r, p => by cases h; cases r; cases p; exact ⟨_, _, ReadsAll.nil, ReadsAll.nil, Trk.nil, Trk.nil⟩
  | (_, d) :: ds, _, _, _, h, r, p => by
    cases h with
    | @cons k v _ _ _ h1 h2 =>
      cases r with
      | cons r1 r2 =>
        cases p with
        | cons p1 p2 p3 =>
          obtain ⟨as, bs, q1, q2, t1, t2⟩ := Dq.readsKv I ds _ _ _ h2 r2 p3
          obtain ⟨e1, rv⟩ := r1
          rw [← e1] at p1
          rw [← p2] at rv
          obtain ⟨cs, q3, t3⟩ := Dq.reads I d _ _ h1 rv
          rcases keyIs_shape (show keyIs k _ = true from p1) with ⟨i, t, rfl, e⟩ | ⟨x, t, rfl, e⟩
          · exact ⟨_, _, ReadsAll.cons (by show Reads s.heap (DictEntry.key _) (.int i) []; rw [e]; exact Reads.int i t) q1, ReadsAll.cons q3 q2, Trk.app Trk.nil t1, Trk.app t3 t2⟩
          · exact ⟨_, _, ReadsAll.cons (by show Reads s.heap (DictEntry.key _) (.str x) []; rw [e]; exact Reads.str x t) q1, ReadsAll.cons q3 q2, Trk.app Trk.nil t1, Trk.app t3 t2⟩
end
end
section
variable {X : Cx}
/-- repr of a value without parts -/
theorem call_repr_b : CallR X (.builtin "repr") (fun xs H Q => ∃ b : Bool, xs = [.bl b] ∧ Q (.str (PyData.bool b).shown) H) := by
  intro pins s σ H xs us Q I r h
  obtain ⟨b, rfl, q⟩ := h
  obtain ⟨u, rfl, rx⟩ := vals1 r
  cases rx
  exact PySem.P.repr_of_bool ⟨.str _, H, I.tok _, ⟨_, rfl⟩, q⟩
/-- repr of data of any depth, where no repr runs further out -/
def rRepr : List V → Hp → VK → Prop := fun xs H Q => ∃ (x : V) (d : PyData), xs = [x] ∧ Dq H x d ∧ d.showable = true ∧ d.depth ≤ 60 ∧ d.shown.length ≤ sizeLine ∧ Q (.str d.shown) H
theorem call_repr_q (hS : ∃ o, X.base.get? sysModules = some o) (hg : X.A.guards = some []) (hu : X.A.units + 64 < cLine) : CallR X (.builtin "repr") rRepr := by
  intro pins s σ H xs us Q I r h
  obtain ⟨x, d, rfl, hd, hs, hdp, hl, q⟩ := h
  obtain ⟨u, rfl, rx⟩ := vals1 r
  obtain ⟨as, hr, tr⟩ := Dq.reads I d x u hd rx
  obtain ⟨o, ho⟩ := hS
  have hsm : sysModules ∉ as := fun hm => tr _ hm (I.bs _ _ ho).2
  cases hr with
  | none => exact PySem.P.repr_of_none ⟨.str _, H, I.tok _, ⟨_, rfl⟩, q⟩
  | bool b => exact PySem.P.repr_of_bool ⟨.str _, H, I.tok _, ⟨_, rfl⟩, q⟩
  | int i t => exact PySem.P.repr_of_int (by simpa [PyData.showable] using hs) ⟨.str _, H, I.tok _, ⟨_, rfl⟩, q⟩
  | str y t => exact PySem.P.repr_of_str ⟨.str _, H, I.tok _, ⟨_, rfl⟩, q⟩ hl
  | list h1 h2 h3 h4 => exact repr_of_reads' (.list h1 h2 h3 h4) hs (fun _ => hsm) hg (by omega) (fun _ _ e => e) (fun h' u tk hk => ⟨.str _, H, I.kept hk, ⟨u, rfl⟩, q⟩) hl
  | tuple h1 h2 h3 h4 => exact repr_of_reads' (.tuple h1 h2 h3 h4) hs (fun _ => hsm) hg (by omega) (fun _ _ e => e) (fun h' u tk hk => ⟨.str _, H, I.kept hk, ⟨u, rfl⟩, q⟩) hl
  | dict h1 h2 h3 h4 h5 => exact repr_of_reads' (.dict h1 h2 h3 h4 h5) hs (fun _ => hsm) hg (by omega) (fun _ _ e => e) (fun h' u tk hk => ⟨.str _, H, I.kept hk, ⟨u, rfl⟩, q⟩) hl
/-- an expression by what is known of its value -/
theorem pe_mo {e : Expr} {t : TE} (he : PE X e t) : PE X e (fun σ H Q => ∃ R : VK, t σ H R ∧ ∀ x H1, R x H1 → Q x H1) :=
  ⟨fun pins s σ H Q I ⟨R, h, k⟩ => thn (he.run pins s σ H R I h) fun u s1 ⟨x, H1, I1, r, q⟩ => ⟨x, H1, I1, r, k x H1 q⟩⟩
/-- a test by what is known of its answer -/
theorem pt_mo {e : Expr} {t : TT} (he : PT X e t) : PT X e (fun σ H Q => ∃ R : Bool → Hp → Prop, t σ H R ∧ ∀ b H1, R b H1 → Q b H1) :=
  ⟨fun pins s σ H Q I ⟨R, h, k⟩ => thn (he.run pins s σ H R I h) fun b s1 ⟨H1, I1, q⟩ => ⟨H1, I1, k b H1 q⟩⟩
/-- a statement that is never come to -/
theorem ps_dead {st : Stmt} : PS X st (fun _ _ _ => False) := ⟨fun _ _ _ _ _ _ h => h.elim⟩
theorem pss_dead {st : List Stmt} : PSs X st (fun _ _ _ => False) := ⟨fun _ _ _ _ _ _ h => h.elim⟩
end
end KX

set_option Elab.async false
set_option linter.all false
set_option maxRecDepth 100000
set_option maxHeartbeats 4000000
/-! Defs that may use that no repr runs further out (GOk), their calls, and the law's entry for them. -/
namespace KX
open PySem PySem.Spec PyProof.Rows L2
/-- as FnOk, of calls in whose surroundings no container's repr runs -/
structure GOk (P : Program) (w : World) (K : PySem.W.Frag) (mg : Str → Option Value) (base : Heap) (CX : CXT) (k : Nat) (f : Addr) (fd : FuncData) (ps : List Str) (sp : Sp) : Prop where
  arity : ∀ vs H Q E, sp vs H Q E → vs.length = ps.length
  go : ∀ (A : Around) (out : List Env) (s : Shared) (H : Hp) (args : Args) (us : List Value) (vs : List V) (Q : VK) (E : XK),
    Room k A → A.guards = some [] → Env0 P w K mg base A out s H → BindsTo s fd args (ps.zip us) → Vals vs us → sp vs H Q E →
    codeAny (model P w) A (.call (.ref f) args) (CR CX out P w H s Q E) s
theorem FnOk.g {P : Program} {w : World} {K : PySem.W.Frag} {mg : Str → Option Value} {base : Heap} {CX : CXT} {k : Nat} {f : Addr} {fd : FuncData} {ps : List Str} {sp : Sp}
    (F : FnOk P w K mg base CX k f fd ps sp) : GOk P w K mg base CX k f fd ps sp := ⟨F.len, fun A out s H args us vs Q E hr _ => F.run A out s H args us vs Q E hr⟩
section
variable {P : Program} {w : World} {K : PySem.W.Frag} {mg : Str → Option Value} {base : Heap}
/-- a def of the text, by its body, where no repr runs further out -/
theorem gok {CX : CXT} {x qual : Str} {st : Stmt} {f : Addr} {fd : FuncData} {N ps : List Str} {k : Nat} {sp : Sp} (F : Fun K x qual st f fd) (S : FnScope N ps (defScope st))
    (ar : ∀ vs H Q E, sp vs H Q E → vs.length = ps.length)
    (body : ∀ (cdv : Value) (A : Around) (out : List Env) (s : Shared) (H : Hp) (vs : List V) (Q : VK) (E : XK),
      Room k (A.deeper (envOfC qual (defScope st) s.heap.objs.size f cdv)) → A.guards = some [] → sp vs H Q E →
      ∃ t, PSs (cxOf CX P w K mg base N qual (defScope st) f cdv A out s H E).nox (defBody st) t ∧ t { nx := fun _ H' => Q .non H', rt := Q } (start N vs) H) :
    GOk P w K mg base CX (k + 1) f fd ps sp := by
  obtain ⟨oc, od, kV, doc, pm, an, cdv, ct, osl, rfl, lk, hcd⟩ := F.ex
  refine ⟨ar, fun A out s H args us vs Q E hr hA e0 hb r hsp => ?_⟩
  -- the library's rule for a def is about every surroundings: it is asked for a promise that carries this one's guards along
  have hl := ar _ _ _ _ hsp
  have kin : K.In s.heap := e0.mod.kin.keeps fun b o e => (e0.bs b o e).1
  have par : ∀ y ∈ ps.zip us, (defScope st).names.lookup y.1 = some .local ∨
      ((defScope st).names.lookup y.1 = some .cell ∧ ((cellsFrom (s.heap.objs.size + 1) (defScope st).names []).lookup y.1).isSome = true) := by
    rintro ⟨n, v⟩ hy
    exact (S.par n (List.of_mem_zip hy).1).imp id fun q => ⟨q, PySem.W.cellsFrom_some _ _ _ (.inl q)⟩
  refine codeAny_call_function hr.depth (kin _ _ lk) rfl S.co S.gen rfl (PySem.W.codeRec_of kin hcd) (hb _ _ _ _ (wpAny_newFunctionEnv_cells S.kind par ?_))
  rintro _ rfl s1 x
  refine ⟨(e0.mod.nolimit.keeps fun b o e => (e0.bs b o e).1).keeps x.toInCall.keep, codeAny_func ?_⟩
  obtain ⟨t, ht, hq⟩ := body cdv A out s H vs Q E (hr.deeper _) hA hsp
  have I := inv_start (P := P) (w := w) (mg := mg) (CX := CX) (E := E) S hr.hd e0 hl r x
  refine wpAny_mono (ht.nox.run [] s1 _ H _ I hq) (fun fl s' hs => ?_) fun _ _ hs => hs
  match fl, hs with
  | .ret u, ⟨v, _, H', J, rv, q⟩ => exact ⟨v, H', J.os, J.bare, J.base, J.hok, rv, q⟩
  | .next, ⟨_, H', J, q⟩ => exact ⟨V.non, H', J.os, J.bare, J.base, J.hok, rfl, q⟩
  | .brk, ⟨_, _, _, q⟩ => exact q.elim
  | .cont, ⟨_, _, _, q⟩ => exact q.elim
end
section
variable {X : Cx} {CX : CXT} {k : Nat} {f : Addr} {fd : FuncData} {ps : List Str} {sp : Sp} {dvs : List V} {ds : List Value} {E : XK} {x : Str} {p pos : Pos} {e : Expr} {es : List Expr} {t : TA}
/-- the call of such a def where no repr runs further out -/
theorem pe_g (F : GOk X.prog X.w X.K X.mg X.base CX k f fd ps sp) (hA : X.A.guards = some []) (hr : Room k X.A) (hg : Gl X x) (hm : X.mg x = some (.ref f)) (hk : PySem.W.keepIn X.K (.ref f) = true)
    (hb : Binds X.K fd ps ds) (hd : Vals dvs ds) (hx : Passes CX X E) (ha : PA X (e :: es) t) (hdb : (x == ("__debug__" : Str)) = false := by decide)
    (he : starEach (e :: es) X.env = (false, eval e X.env) :: starEach es X.env := by rfl) (hpl : (backTo pos (starEach es X.env)).any (·.1) = false := by rfl) :
    PE X (.Call (.Name x p) (e :: es) [] pos) (tCall sp dvs E t) := ⟨fun pins s σ H Q I h => by
  refine wpAny_Call_Name_kw (ld_glob I hg hm (PySem.W.callWith_K (h₀ := X.base) I.ok.mod.kin hk (thn (ha.run pos pins s σ H _ I h) ?_) he hpl) hdb)
  rintro us s1 ⟨vs, H1, I1, r, q⟩
  have r2 : Vals (vs ++ dvs) (us ++ ds) := r.append hd
  have hl : (us ++ ds).length = ps.length := by rw [← r2.length]; exact F.arity _ _ _ _ q
  refine ⟨I1.kIn, wpAny_call (codeAny_mono (F.go X.A X.stack s1 H1 ⟨us, []⟩ (us ++ ds) (vs ++ dvs) Q E hr hA I1.env0 (hb s1 us I1.kIn hl) r2 q) fun r s' hq => ?_)⟩
  match r, hq with
  | .error e, hq => exact hx pins σ H1 s1 e s' I1 hq
  | .ok (.ret u), hq => exact I1.after hq⟩
end
section
variable {X : Cx} {CX : CXT} {k : Nat} {f : Addr} {fd : FuncData} {ps ks : List Str} {sp : Sp} {E : XK} {x : Str} {p pos : Pos} {kws : List Keyword} {tk : TA} {g : List Value → List Value → List Value} {gV : List V → List V → List V}
/-- f(k = v, ..), every argument by its name -/
theorem pe_kw0 (F : FnOk X.prog X.w X.K X.mg X.base CX k f fd ps sp) (hr : Room k X.A) (hg : Gl X x) (hm : X.mg x = some (.ref f)) (hk : PySem.W.keepIn X.K (.ref f) = true) (hb : KBinds X.K fd ps ks g gV) (hx : Passes CX X E)
    (hkw : PK X kws tk) (hall : (backToKw pos (keywordEach kws X.env)).all (·.1.isSome) = true := by rfl) (hks : (backToKw pos (keywordEach kws X.env)).filterMap (·.1) = ks := by rfl) (hdb : (x == ("__debug__" : Str)) = false := by decide)
    (hpl : ((backTo pos (starEach [] X.env)).any (·.1) || (backToKw pos (keywordEach kws X.env)).any (·.1.isNone)) = false := by rfl) :
    PE X (.Call (.Name x p) [] kws pos) (tCallK sp gV E tNil tk) := ⟨fun pins s σ H Q I h => by
  refine wpAny_Call_Name_kw (ld_glob I hg hm (PySem.W.callWith_KW0 (h₀ := X.base) I.ok.mod.kin hk hall (thn (hkw.run pos pins s σ H _ I h) ?_) hpl) hdb)
  rintro ws s2 ⟨zs, H2, I2, rz, q2⟩
  rw [hks]
  exact ⟨I2.kIn, run_fnk (us := []) (vs := []) F hr hb hx I2 .nil rz q2⟩⟩
end
/-- one parameter, by its place or by its name -/
theorem kb1 {K : PySem.W.Frag} {fd : FuncData} {a : Str} (h : ∀ u : Value, bindArgs fd ⟨[u], []⟩ = pure [(a, u)]) (h2 : ∀ u : Value, bindArgs fd ⟨[], [(a, u)]⟩ = pure [(a, u)]) : KBinds K fd [a] [a] (fun us ws => us ++ ws) (fun us ws => us ++ ws) where
  to := fun s us ws _ hl => by
    match us, ws, hl with
    | [], [w], _ => exact .of_eq (h2 w)
    | [u], [], _ => exact .of_eq (h u)
  rel := fun r q => r.append q
/-- what the law's def is called with: base holds sys.modules, and no repr runs -/
theorem law_g {P : Program} {w : World} {K : PySem.W.Frag} {mg mb : Str → Option Value} {k : Nat} {fa a : Addr} {fd : FuncData} {x : Str} {sp : Sp} {s₁ : Shared} {vs : List Value} {ns : List Int}
    (kin : K.In s₁.heap) (hns : s₁.heap.Ns mainGlobals mg) (hb : s₁.heap.Ns builtinsNs mb) (hbb : ∀ x : Str, x ≠ "__name__" → mb x = bootBuiltins x) (hlim : s₁.heap.NoLimit) (hsys : ∃ mm, s₁.heap.Ns sysModules mm) (hg : s₁.gens = #[])
    (ha : s₁.heap.get? a = some { cls := .type "list", data := .seq vs.toArray }) (hi : IntsAre vs ns) (hl : ns.length ≤ sizeLine) (hr : Room k callerA)
    (F : ∀ base : Heap, K.In base → base.Ns mainGlobals mg → (∃ o, base.get? sysModules = some o) → GOk P w K mg base CX0 k fa fd [x] sp) (hbind : ∀ (s : Shared) (u : Value), BindsTo s fd ⟨[u], []⟩ [(x, u)])
    (hsp : ∀ H : Hp, Only H → SqL K H a (ns.map V.int) → sp [.ref a] H (fun v _ => v = .bl true) fun _ _ _ => False) :
    codeAny (model P w) callerA (.call (.ref fa) ⟨[.ref a], []⟩) (fun r s' => r = .ok (.ret (.bool true)) ∧ OldK s₁.heap s'.heap ∧ s'.os = s₁.os ∧ AllBare s'.gens) s₁ := by
  have rv := vals_ints hi
  have nV := hi.length
  let ob : Obj := { cls := .type "list", data := .seq vs.toArray }
  suffices core : ∀ H : Hp, Only H → SqL K H a (ns.map V.int) → HOk P w H s₁.heap → (∀ b, H b ≠ none → b = a ∧ K.lookup a = none) →
      codeAny (model P w) callerA (.call (.ref fa) ⟨[.ref a], []⟩) (fun r s' => r = .ok (.ret (.bool true)) ∧ OldK s₁.heap s'.heap ∧ s'.os = s₁.os ∧ AllBare s'.gens) s₁ by
    cases hk : K.lookup a with
    | some o =>
      have e := kin a o hk
      rw [ha] at e
      cases e
      exact core (fun _ => none) (fun _ => .inl rfl) (.inr ⟨_, vs.toArray, _, hk, rfl, rfl, rfl, by rw [List.size_toArray, nV]; exact hl, by simpa using rv⟩) (fun _ _ z => nomatch z) fun _ z => absurd rfl z
    | none =>
      refine core (fun b => if b = a then some (.frz ob (.lst (ns.map V.int))) else none) (fun b => ?_) (.inl (.inr ⟨ob, if_pos rfl⟩)) (fun b u z => ?_) (fun b z => ?_)
      · by_cases hb : b = a
        · exact .inr ⟨_, _, if_pos hb⟩
        · exact .inl (if_neg hb)
      · by_cases hb : b = a
        · have z' := (if_pos hb).symm.trans z
          cases z'; subst hb
          exact ⟨ha, by rw [List.length_map]; exact hl, vs, _, rv, ha⟩
        · exact nomatch (if_neg hb).symm.trans z
      · by_cases hb : b = a
        · exact ⟨hb, hk⟩
        · exact absurd (if_neg hb) z
  intro H hO hS hok hA
  have keep : ∀ {b : Addr} {o : Obj}, s₁.heap.get? b = some o → H b = none → (hidT s₁.heap H).get? b = some o := fun e n => hidT_get e n
  have free : ∀ {b : Addr} {o : Obj}, s₁.heap.get? b = some o → (∀ es ep, o.data = .dict es ep → H b = none) := fun {b o} e es ep d => by
    refine Classical.byContradiction fun q => ?_
    obtain ⟨e', _⟩ := hA b q
    rw [e', ha] at e; cases e
    exact nomatch d
  have ns2 : ∀ {b : Addr} {m : Str → Option Value}, s₁.heap.Ns b m → (hidT s₁.heap H).Ns b m := fun {b m} ⟨o, es, ep, e, d, r⟩ => ⟨o, es, ep, keep e (free e _ _ d), d, r⟩
  have kb : K.In (hidT s₁.heap H) := fun b o e => keep (kin b o e) <| Classical.byContradiction fun q => by
    obtain ⟨e', n⟩ := hA b q
    rw [e', n] at e; cases e
  have M : Mod K mg (hidT s₁.heap H) := ⟨kb, ns2 hns, ⟨mb, ns2 hb, hbb⟩, hlim.elim fun mc h => ⟨mc, ns2 h.1, h.2⟩⟩
  have e0 : Env0 P w K mg (hidT s₁.heap H) callerA [] s₁ H := ⟨rfl, M, fun b o e => of_hidT e, Nat.le_of_eq (hidT_size _ _), trivial, fun _ hb => (nomatch hb), hok, .of_eq hg⟩
  have sys : ∃ o, (hidT s₁.heap H).get? sysModules = some o := hsys.elim fun mm h => (ns2 h).elim fun o h => h.elim fun _ h => h.elim fun _ h => ⟨o, h.1⟩
  refine codeAny_mono ((F _ kb (ns2 hns) sys).go callerA [] s₁ H ⟨[.ref a], []⟩ [.ref a] [.ref a] _ _ hr rfl e0 (hbind s₁ (.ref a)) (.cons rfl .nil) (hsp H hO hS)) fun r s' h => ?_
  match r, h with
  | .error e, h => exact h.elim
  | .ok (.ret u), ⟨v, H', os, bare, un, hok', r', q⟩ =>
    have q' : v = .bl true := q
    subst q'
    obtain rfl : u = Value.bool true := r'
    refine ⟨rfl, OldK.of_keep fun b o e => ?_, os, bare⟩
    cases q : H b with
    | none => exact un.keep b o e q (fun z => nomatch z) (fun z => nomatch z)
    | some u =>
      rcases hO b with z | ⟨_, xs, z⟩
      · rw [q] at z; cases z
      · obtain ⟨e1, _⟩ := hok b _ z
        obtain ⟨e2, _⟩ := hok' b _ (un.frzs b _ _ z)
        rw [e] at e1; cases e1
        exact e2
/-- the goal that k_head leaves, by the law's promise -/
theorem walk_g {l : PySem.W.OpenLaw} {n k : Nat} {q : Program} {loose : List Str} {XP : (Str → Option Value) → Heap → Prop} {YP : World → Heap → Prop} {d : DefRec} {K : Params → PySem.W.Frag} {sp : PySem.W.Frag → Sp} {x : Str}
    (hn : l.most = some n) (hn2 : n ≤ sizeLine) (hdf : d.params.defaults = []) (hr : Room k callerA) (him : importsNone q = true) (hY : ∀ (w : World) (h : Heap), YP w h → (K w.params).In h)
    (F : ∀ (w : World) (mg : Str → Option Value) (fa : Addr) (h : Heap), (K w.params).In h → h.Ns mainGlobals mg → mg d.name = some (.ref fa) →
      ∃ fd : FuncData, (∀ (s : Shared) (u : Value), BindsTo s fd ⟨[u], []⟩ [(x, u)]) ∧
        ∀ base : Heap, (K w.params).In base → base.Ns mainGlobals mg → (∃ o, base.get? sysModules = some o) → GOk l.prog w (K w.params) mg base CX0 k fa fd [x] (sp (K w.params)))
    (hsp : ∀ (K : PySem.W.Frag) (H : Hp) (a : Addr) (ns : List Int), ns.length ≤ n → Only H → SqL K H a (ns.map V.int) → sp K [.ref a] H (fun v _ => v = .bl true) fun _ _ _ => False) :
    PySem.W.WalkO q loose XP YP l.row.toRowW d [] (fun f vs => PySem.call f vs) := by
  refine Att.attach_call hn hdf fun w s₀ s₁ mg mb fa o pm cd doc a vs ns G Y ho hd hcd hmg hobj hints hlen hg => ?_
  obtain ⟨fd, hb, hF⟩ := F w mg fa _ (hY w _ Y) G.T.g hmg
  obtain ⟨mm, hmm, _⟩ := (G.T.seer him).mods
  exact law_g (hY w _ Y) G.T.g G.T.b G.T.builtins G.T.nolimit ⟨mm, hmm⟩ hg hobj hints (Nat.le_trans hlen hn2) hr hF hb fun H hO hS => hsp _ H a ns hlen hO hS
end KX

set_option Elab.async false
set_option linter.all false
set_option maxRecDepth 100000
set_option maxHeartbeats 4000000
/-! Own layer: short texts, picks by a drawn index. -/
namespace KX
open PySem PySem.Spec PyProof.Rows L2
/-- a short text of codes that repr shows in at most ten signs each -/
def Ss (n : Nat) (z : Str) : Prop := z.length ≤ n ∧ ∀ c, c ∈ z.cps.toList → c < 1114112
theorem Ss.mono {n m : Nat} {z : Str} (h : Ss n z) (l : n ≤ m) : Ss m z := ⟨Nat.le_trans h.1 l, h.2⟩
theorem Ss.app {n m : Nat} {a b : Str} (h : Ss n a) (g : Ss m b) : Ss (n + m) (a ++ b) := by
  refine ⟨by rw [strLen_append]; exact Nat.add_le_add h.1 g.1, fun c hc => ?_⟩
  have e : (a ++ b).cps.toList = a.cps.toList ++ b.cps.toList := Array.toList_append
  rw [e] at hc
  exact (List.mem_append.mp hc).elim (h.2 c) (g.2 c)
theorem Ss.cut {n : Nat} {a : Str} (h : Ss n a) (lo hi : Option Int) : Ss n (cutS a lo hi) := by
  refine ⟨Nat.le_trans (cutS_length a lo hi) h.1, fun c hc => h.2 c ?_⟩
  have hc' : c ∈ (a.cps.toList.drop (HT.sIx a.length 0 lo)).take (HT.sIx a.length a.length hi - HT.sIx a.length 0 lo) := by simpa [cutS] using hc
  exact List.mem_of_mem_drop (List.mem_of_mem_take hc')
theorem Ss.sign {c : Nat} (h : c < 1114112) : Ss 1 ⟨#[c]⟩ := ⟨Nat.le_refl 1, fun d hd => by simp at hd; subst hd; exact h⟩
theorem Ss.nil : Ss 0 (Str.ofString "") := ⟨by decide, by decide⟩
theorem Ss.join {m : Nat} : ∀ {ys : List Str}, (∀ y, y ∈ ys → Ss m y) → Ss (ys.length * m) (Str.join (Str.ofString "") ys)
  | [], _ => by rw [List.length_nil, Nat.zero_mul]; exact Ss.nil
  | [x], h => by rw [List.length_singleton, Nat.one_mul]; exact h x (List.mem_singleton.mpr rfl)
  | x :: z :: r, h => by
    have h1 := h x List.mem_cons_self
    have h2 := Ss.join (ys := z :: r) fun y hy => h y (List.mem_cons_of_mem _ hy)
    have h3 := (h1.app Ss.nil).app h2
    refine Ss.mono (show Ss _ (x ++ Str.ofString "" ++ Str.join (Str.ofString "") (z :: r)) from h3) ?_
    simp only [List.length_cons]
    rw [Nat.succ_mul (r.length + 1) m]
    omega
theorem Ss.joinT {m : Nat} {ys : List Str} (h : ∀ y, y ∈ ys → Ss m y) : Ss (ys.length * m) (Txt.join (Str.ofString "") ys) := by
  rw [show Txt.join (Str.ofString "") ys = Str.join (Str.ofString "") ys from StrLaws.glued_eq_join _ ys]; exact Ss.join h
theorem Ss.sum {m : Nat} : ∀ {ys : List Str}, (∀ y, y ∈ ys → Ss m y) → (ys.map (·.length)).sum ≤ ys.length * m
  | [], _ => by simp
  | x :: r, h => by
    have h1 := (h x List.mem_cons_self).1
    have h2 := Ss.sum (ys := r) fun y hy => h y (List.mem_cons_of_mem _ hy)
    simp only [List.map_cons, List.sum_cons, List.length_cons, Nat.succ_mul]
    omega
/-- an item by an index in bounds -/
theorem pick {α : Type} {xs : List α} {i : Int} (h0 : 0 ≤ i) (h1 : i < (xs.length : Int)) : ∃ (j : Nat) (v : α), xs[j]? = some v ∧ v ∈ xs ∧ i = (j : Int) ∧ atI xs i = some v := by
  have hj : i.toNat < xs.length := by omega
  have e : i = ((i.toNat : Nat) : Int) := by omega
  refine ⟨i.toNat, xs[i.toNat], List.getElem?_eq_getElem hj, List.getElem_mem hj, e, ?_⟩
  have q : atI xs ((i.toNat : Nat) : Int) = some xs[i.toNat] := atI_nat (List.getElem?_eq_getElem hj)
  rw [← e] at q
  exact q
theorem pickI {xs : List Int} {i : Int} (h0 : 0 ≤ i) (h1 : i < (xs.length : Int)) : ∃ m, m ∈ xs ∧ atI (xs.map V.int) i = some (.int m) := by
  obtain ⟨j, v, h2, h3, h4, h5⟩ := pick (xs := xs.map V.int) h0 (by rw [List.length_map]; exact h1)
  obtain ⟨m, hm, rfl⟩ := List.mem_map.mp h3
  exact ⟨m, hm, h5⟩
/-- data that repr shows in few signs -/
structure OkD (n W : Nat) (d : PyData) : Prop where
  short : d.leavesShort 110 = true
  shows : d.showable = true
  deep : d.depth ≤ n
  wt : d.weight ≤ W
theorem OkD.mono {n m W U : Nat} {d : PyData} (h : OkD n W d) (h1 : n ≤ m) (h2 : W ≤ U) : OkD m U d := ⟨h.short, h.shows, Nat.le_trans h.deep h1, Nat.le_trans h.wt h2⟩
theorem OkD.len {n W : Nat} {d : PyData} (h : OkD n W d) (hW : W ≤ 100000) : d.shown.length ≤ sizeLine := by
  have h1 := PyData.shown_le 110 (by decide) d h.short
  have h2 := h.wt
  rw [sizeLine_eq]
  have h3 : (110 + 2) * d.weight ≤ 112 * 100000 := Nat.mul_le_mul_left 112 (by omega)
  omega
theorem OkD.none : OkD 0 0 .none := ⟨rfl, rfl, Nat.le_refl _, Nat.le_refl _⟩
theorem OkD.bool (b : Bool) : OkD 0 0 (.bool b) := ⟨rfl, rfl, Nat.le_refl _, Nat.le_refl _⟩
theorem OkD.str {n : Nat} {z : Str} (h : Ss n z) : OkD 0 n (.str z) := by
  refine ⟨?_, rfl, Nat.le_refl _, h.1⟩
  simp only [PyData.leavesShort, List.all_eq_true, decide_eq_true_eq]
  exact fun c hc => Nat.lt_trans (h.2 c hc) (by decide)
theorem OkD.int {i : Int} (h : i.natAbs < 2 ^ 98) : OkD 0 100 (.int i) := by
  have hl : i.natAbs.log2 < 98 := by
    by_cases z : i.natAbs = 0
    · rw [z]; decide
    · exact (Nat.log2_lt z).mpr h
  refine ⟨?_, ?_, Nat.le_refl _, ?_⟩
  · have q := int_text_length_le (a := i) (k := 98) (by decide) hl
    have e : (PyData.shown (.int i)).length = (toString i).length := PySem.ofString_length _
    simp only [PyData.leavesShort, decide_eq_true_eq]
    omega
  · simp only [PyData.showable, decide_eq_true_eq]; omega
  · simp only [PyData.weight]; split <;> omega
theorem OkD.intB {i : Int} (h : i.natAbs < 2 ^ 104) : OkD 0 106 (.int i) := by
  have hl : i.natAbs.log2 < 104 := by
    by_cases z : i.natAbs = 0
    · rw [z]; decide
    · exact (Nat.log2_lt z).mpr h
  refine ⟨?_, ?_, Nat.le_refl _, ?_⟩
  · have q := int_text_length_le (a := i) (k := 104) (by decide) hl
    have e : (PyData.shown (.int i)).length = (toString i).length := PySem.ofString_length _
    simp only [PyData.leavesShort, decide_eq_true_eq]
    omega
  · simp only [PyData.showable, decide_eq_true_eq]; omega
  · simp only [PyData.weight]; split <;> omega
/-- what is new in H', behind H -/
def nw (H H' : Hp) : Hp := fun b => match H b with
  | none => H' b
  | some _ => none
theorem nw_at {H H' : Hp} {b : Addr} (h : H b = none) : nw H H' b = H' b := by unfold nw; rw [h]
theorem nw_some {H H' : Hp} {b : Addr} {o : HO} (h : nw H H' b = some o) : H b = none ∧ H' b = some o := by
  unfold nw at h
  cases e : H b with
  | none => rw [e] at h; exact ⟨rfl, h⟩
  | some u => rw [e] at h; cases h
theorem nw_same {H H' : Hp} : Same (nw H H') H' := fun b o h => (nw_some h).2
mutual
theorem Dq.same {H G : Hp} (s : Same H G) : ∀ (d : PyData) (v : V), Dq H v d → Dq G v d
  | .none, _, h => by cases h; exact .non
  | .bool b, _, h => by cases h; exact .bl b
  | .int i, _, h => by cases h; exact .int i
  | .str x, _, h => by cases h; exact .str x
  | .list ds, _, h => by cases h with | lst h1 h2 => exact .lst (s _ _ h1) (DqAll.same s ds _ h2)
  | .tuple ds, _, h => by cases h with | tup h1 h2 => exact .tup (s _ _ h1) (DqAll.same s ds _ h2)
  | .dict ds, _, h => by cases h with | dct h1 h2 => exact .dct (s _ _ h1) (DqKv.same s ds _ h2)
theorem DqAll.same {H G : Hp} (s : Same H G) : ∀ (ds : List PyData) (vs : List V), DqAll H vs ds → DqAll G vs ds
  | [], _, h => by cases h; exact .nil
  | d :: ds, _, h => by cases h with | cons h1 h2 => exact .cons (Dq.same s d _ h1) (DqAll.same s ds _ h2)
theorem DqKv.same {H G : Hp} (s : Same H G) : ∀ (ds : List (PyData × PyData)) (kvs : List (Key × V)), DqKv H kvs ds → DqKv G kvs ds
  | [], _, h => by cases h; exact .nil
  | (_, d) :: ds, _, h => by cases h with | cons h1 h2 => exact .cons (Dq.same s d _ h1) (DqKv.same s ds _ h2)
end
/-- the value stands for some data of at most this depth and weight -/
def Dd (n W : Nat) (H : Hp) (v : V) : Prop := ∃ d, Dq H v d ∧ OkD n W d
theorem Dd.same {n W : Nat} {H G : Hp} {v : V} (h : Dd n W H v) (s : Same H G) : Dd n W G v := let ⟨d, a, b⟩ := h; ⟨d, Dq.same s d v a, b⟩
theorem Dd.mono {n m W U : Nat} {H : Hp} {v : V} (h : Dd n W H v) (h1 : n ≤ m) (h2 : W ≤ U) : Dd m U H v := let ⟨d, a, b⟩ := h; ⟨d, a, b.mono h1 h2⟩
theorem Dd.items {n W : Nat} {H : Hp} : ∀ {vs : List V}, (∀ v, v ∈ vs → Dd n W H v) → ∃ ds, DqAll H vs ds ∧ PyData.leavesShortAll 110 ds = true ∧ PyData.showableAll ds = true ∧ PyData.depthAll ds ≤ n ∧ PyData.weightAll ds ≤ vs.length * (W + 1)
  | [], _ => ⟨[], .nil, rfl, rfl, Nat.zero_le _, Nat.zero_le _⟩
  | v :: r, h => by
    obtain ⟨d, h1, h2⟩ := h v List.mem_cons_self
    obtain ⟨ds, g1, g2, g3, g4, g5⟩ := Dd.items (vs := r) fun u hu => h u (List.mem_cons_of_mem _ hu)
    refine ⟨d :: ds, .cons h1 g1, ?_, ?_, ?_, ?_⟩
    · simp only [PyData.leavesShortAll, h2.short, g2, Bool.and_self]
    · simp only [PyData.showableAll, h2.shows, g3, Bool.and_self]
    · have := h2.deep
      simp only [PyData.depthAll]; omega
    · have := h2.wt
      simp only [PyData.weightAll, List.length_cons, Nat.succ_mul]; omega
theorem Dd.lst {n W m : Nat} {H : Hp} {a : Addr} {vs : List V} (h : H a = some (.lst vs)) (l : vs.length ≤ m) (hv : ∀ v, v ∈ vs → Dd n W H v) : Dd (n + 1) (m * (W + 1)) H (.ref a) := by
  obtain ⟨ds, g1, g2, g3, g4, g5⟩ := Dd.items hv
  refine ⟨.list ds, .lst h g1, ⟨by simpa only [PyData.leavesShort] using g2, by simpa only [PyData.showable] using g3, by simp only [PyData.depth]; omega, ?_⟩⟩
  have := Nat.mul_le_mul_right (W + 1) l
  simp only [PyData.weight]; omega
theorem Dd.tup {n W m : Nat} {H : Hp} {a : Addr} {vs : List V} (h : H a = some (.tup vs)) (l : vs.length ≤ m) (hv : ∀ v, v ∈ vs → Dd n W H v) : Dd (n + 1) (m * (W + 1)) H (.ref a) := by
  obtain ⟨ds, g1, g2, g3, g4, g5⟩ := Dd.items hv
  refine ⟨.tuple ds, .tup h g1, ⟨by simpa only [PyData.leavesShort] using g2, by simpa only [PyData.showable] using g3, by simp only [PyData.depth]; omega, ?_⟩⟩
  have := Nat.mul_le_mul_right (W + 1) l
  simp only [PyData.weight]; omega
/-- a key is a short text -/
def KeyS (k : Key) : Prop := ∃ z, k = Sum.inr z ∧ Ss 9 z
theorem Dd.pairs {n W : Nat} {H : Hp} : ∀ {kvs : List (Key × V)}, (∀ kv, kv ∈ kvs → KeyS kv.1 ∧ Dd n W H kv.2) → ∃ ds, DqKv H kvs ds ∧ PyData.leavesShortKv 110 ds = true ∧ PyData.showableKv ds = true ∧ PyData.depthKv ds ≤ n ∧ PyData.weightKv ds ≤ kvs.length * (W + 11)
  | [], _ => ⟨[], .nil, rfl, rfl, Nat.zero_le _, Nat.zero_le _⟩
  | (k, v) :: r, h => by
    obtain ⟨⟨z, e, hz⟩, d, h1, h2⟩ := h (k, v) List.mem_cons_self
    obtain ⟨ds, g1, g2, g3, g4, g5⟩ := Dd.pairs (kvs := r) fun u hu => h u (List.mem_cons_of_mem _ hu)
    have e' : k = Sum.inr z := e
    subst e'
    have hk := OkD.str hz
    refine ⟨(kD (Sum.inr z), d) :: ds, .cons h1 g1, ?_, ?_, ?_, ?_⟩
    · show (PyData.leavesShort 110 (.str z) && d.leavesShort 110 && PyData.leavesShortKv 110 ds) = true
      rw [hk.short, h2.short, g2]; rfl
    · show (PyData.showable (.str z) && d.showable && PyData.showableKv ds) = true
      rw [hk.shows, h2.shows, g3]; rfl
    · have := h2.deep
      show max (max (PyData.depth (.str z)) d.depth) (PyData.depthKv ds) ≤ n
      have e0 : PyData.depth (.str z) = 0 := rfl
      omega
    · have w1 := h2.wt
      have w2 := hk.wt
      show PyData.weight (.str z) + d.weight + 2 + PyData.weightKv ds ≤ _
      simp only [List.length_cons, Nat.succ_mul]; omega
theorem Dd.dct {n W m : Nat} {H : Hp} {a : Addr} {kvs : List (Key × V)} (h : H a = some (.dK kvs)) (l : kvs.length ≤ m) (hv : ∀ kv, kv ∈ kvs → KeyS kv.1 ∧ Dd n W H kv.2) : Dd (n + 1) (m * (W + 11)) H (.ref a) := by
  obtain ⟨ds, g1, g2, g3, g4, g5⟩ := Dd.pairs hv
  refine ⟨.dict ds, .dct h g1, ⟨by simpa only [PyData.leavesShort] using g2, by simpa only [PyData.showable] using g3, by simp only [PyData.depth]; omega, ?_⟩⟩
  have := Nat.mul_le_mul_right (W + 11) l
  simp only [PyData.weight]; omega
theorem putK_all {p : Key × V → Prop} {k : Key} {v : V} (hv : p (k, v)) {kvs : List (Key × V)} (h : ∀ kv, kv ∈ kvs → p kv) : (∀ kv, kv ∈ putK kvs k v → p kv) ∧ (putK kvs k v).length ≤ kvs.length + 1 := by
  unfold putK
  split
  · refine ⟨fun kv hm => ?_, by rw [List.length_map]; omega⟩
    obtain ⟨x, hx, rfl⟩ := List.mem_map.mp hm
    by_cases e : x.1 = k
    · rw [if_pos e, e]; exact hv
    · rw [if_neg e]; exact h x hx
  · refine ⟨fun kv hm => ?_, by rw [List.length_append]; exact Nat.le_refl _⟩
    rcases List.mem_append.mp hm with q | q
    · exact h kv q
    · rw [List.mem_singleton.mp q]; exact hv
theorem mergeK_all {p : Key × V → Prop} : ∀ {more kvs : List (Key × V)}, (∀ kv, kv ∈ more → p kv) → (∀ kv, kv ∈ kvs → p kv) → (∀ kv, kv ∈ mergeK kvs more → p kv) ∧ (mergeK kvs more).length ≤ kvs.length + more.length
  | [], _, _, h => ⟨h, Nat.le_refl _⟩
  | (k, v) :: r, kvs, hm, h => by
    have h1 := putK_all (hm (k, v) List.mem_cons_self) h
    have h2 := mergeK_all (more := r) (kvs := putK kvs k v) (fun kv q => hm kv (List.mem_cons_of_mem _ q)) h1.1
    refine ⟨h2.1, ?_⟩
    have := h1.2
    have := h2.2
    show (mergeK (putK kvs k v) r).length ≤ kvs.length + (r.length + 1)
    omega
theorem KeyS.num {i : Nat} (h : i < 10) : KeyS (Sum.inr (Str.ofString (toString (i : Int)))) := by
  refine ⟨_, rfl, ?_⟩
  have hd : ∀ j : Fin 10, (Str.ofString (toString ((j.val : Nat) : Int))).length ≤ 9 ∧ ∀ c, c ∈ (Str.ofString (toString ((j.val : Nat) : Int))).cps.toList → c < 1114112 := by decide +kernel
  exact hd ⟨i, h⟩
end KX

set_option Elab.async false
set_option linter.all false
set_option maxRecDepth 100000
set_option maxHeartbeats 4000000
/-! Own layer: texts of digits. -/
namespace KX
open PySem
/-- the signs of a text -/
def cs (z : Str) : List Nat := z.cps.toList
theorem cs_len (z : Str) : (cs z).length = z.length := by unfold cs; rw [Array.length_toList]; rfl
theorem str_ext {y z : Str} (h : cs y = cs z) : y = z := by
  obtain ⟨⟨a⟩⟩ := y
  obtain ⟨⟨b⟩⟩ := z
  exact congrArg (fun l => (⟨⟨l⟩⟩ : Str)) h
def dg (c : Nat) : Bool := decide (48 ≤ c) && decide (c ≤ 57)
/-- behind a minus -/
def ab : List Nat → List Nat
  | 45 :: r => r
  | l => l
/-- a decimal number of at most thirty digits -/
def dec (l : List Nat) : Bool := decide (l = [48]) || (decide (ab l ≠ []) && (ab l).all dg && decide ((ab l).head? ≠ some 48) && decide ((ab l).length ≤ 30))
def nval (l : List Nat) : Int := match l with
  | 45 :: r => -((NumText.digitsVal r : Nat) : Int)
  | l => ((NumText.digitsVal l : Nat) : Int)
theorem all_dg {l : List Nat} (h : l.all dg = true) : NumText.AllDigits l := fun c hc => by
  have := List.all_eq_true.mp h c hc
  unfold dg at this
  obtain ⟨h1, h2⟩ := Bool.and_eq_true_iff.mp this
  exact ⟨of_decide_eq_true h1, of_decide_eq_true h2⟩
theorem uni_dg {c : Nat} (h : c < 128) : Unicode.isDigit c = dg c := by
  have e : Txt.isdigit ⟨#[c]⟩ = dg c := PySem.W.os_isdigit h
  have e2 : Txt.isdigit ⟨#[c]⟩ = (Unicode.isDigit c) := by
    show (decide ((⟨#[c]⟩ : Str).length > 0) && (#[c] : Array Nat).all Unicode.isDigit) = _
    simp [Str.length]
  rw [← e2, e]
theorem asc_cs (z : Str) : Txt.isascii z = (cs z).all (fun c => decide (c < 128)) := by
  unfold Txt.isascii cs
  rw [Array.all_toList]
theorem dig_cs {z : Str} (h : Txt.isascii z = true) : Txt.isdigit z = (decide (cs z ≠ []) && (cs z).all dg) := by
  rw [asc_cs] at h
  unfold Txt.isdigit
  have e : z.cps.all Unicode.isDigit = (cs z).all dg := by
    rw [← Array.all_toList]
    show (cs z).all Unicode.isDigit = _
    rw [Bool.eq_iff_iff, List.all_eq_true, List.all_eq_true]
    exact ⟨fun k c hc => by rw [← uni_dg (of_decide_eq_true (List.all_eq_true.mp h c hc))]; exact k c hc, fun k c hc => by rw [uni_dg (of_decide_eq_true (List.all_eq_true.mp h c hc))]; exact k c hc⟩
  rw [e]
  refine congrArg (· && _) ?_
  rw [Bool.eq_iff_iff, decide_eq_true_iff, decide_eq_true_iff, ← cs_len]
  exact ⟨fun k n => by rw [n] at k; exact absurd k (Nat.lt_irrefl 0), fun k => List.length_pos_iff.mpr k⟩
/-- dg signs are below 128 -/
theorem dg_asc {l : List Nat} (h : l.all dg = true) : l.all (fun c => decide (c < 128)) = true := by
  refine List.all_eq_true.mpr fun c hc => ?_
  have := all_dg h c hc
  exact decide_eq_true (by omega)
theorem int_cs {z : Str} (h : dec (cs z) = true) : intText? z = some (nval (cs z)) := by
  unfold dec at h
  rcases Bool.or_eq_true_iff.mp h with h | h
  · have e : cs z = [48] := of_decide_eq_true h
    rw [e]
    have ez : z = ⟨#[48]⟩ := str_ext e
    rw [ez]
    exact PySem.intText_digits (x := ⟨#[48]⟩) (fun c hc => by cases List.mem_singleton.mp hc; decide) (List.cons_ne_nil _ _) (by decide)
  · obtain ⟨h, h4⟩ := Bool.and_eq_true_iff.mp h
    obtain ⟨h, h3⟩ := Bool.and_eq_true_iff.mp h
    obtain ⟨h1, h2⟩ := Bool.and_eq_true_iff.mp h
    have n0 : ab (cs z) ≠ [] := of_decide_eq_true h1
    have l30 : (ab (cs z)).length ≤ 30 := of_decide_eq_true h4
    have ad := all_dg h2
    match hz : cs z with
    | 45 :: r =>
      rw [hz] at n0 l30 ad
      have hl : z.length ≤ 4300 := by rw [← cs_len, hz]; have : r.length ≤ 30 := l30; simp; omega
      exact PySem.intText_neg (x := z) hz ad n0 hl
    | [] => rw [hz] at n0; exact absurd rfl n0
    | c :: r =>
      by_cases hc : c = 45
      · subst hc
        rw [hz] at n0 l30 ad
        have hl : z.length ≤ 4300 := by rw [← cs_len, hz]; have : r.length ≤ 30 := l30; simp; omega
        exact PySem.intText_neg (x := z) hz ad n0 hl
      · have ea : ab (c :: r) = c :: r := by
          unfold ab
          split
          · rename_i q; exact absurd (List.cons.inj q).1 hc
          · rfl
        have ev : nval (c :: r) = ((NumText.digitsVal (c :: r) : Nat) : Int) := by
          unfold nval
          split
          · rename_i q; exact absurd (List.cons.inj q).1 hc
          · rfl
        rw [hz, ea] at n0 l30 ad
        have hl : z.length ≤ 4300 := by rw [← cs_len, hz]; omega
        rw [ev, ← hz]
        exact PySem.intText_digits (x := z) (by show NumText.AllDigits (cs z); rw [hz]; exact ad) (by show cs z ≠ []; rw [hz]; exact n0) hl
/-- text.removeprefix('-') -/
theorem rp_cs (z : Str) : cs (Txt.removeprefix z ⟨#[45]⟩) = ab (cs z) := by
  rw [StrLaws.removeprefix_eq, StrLaws.subAt_eq]
  have l1 : (⟨#[45]⟩ : Str).length = 1 := rfl
  have e1 : (⟨#[45]⟩ : Str).cps.toList = [45] := rfl
  rw [l1, e1]
  have hc : z.cps.toList = cs z := rfl
  have hn := cs_len z
  rw [hc]
  match hz : cs z with
  | [] =>
    rw [if_neg (by rw [Bool.and_eq_true]; rintro ⟨_, q⟩; exact absurd q (by decide))]
    exact hz
  | c :: r =>
    have hl : z.length = r.length + 1 := by rw [← hn, hz]; rfl
    by_cases h : c = 45
    · subst h
      rw [if_pos (by rw [Bool.and_eq_true]; exact ⟨decide_eq_true (by omega), rfl⟩)]
      show ((List.drop 1 (45 :: r)).take (z.length - 1)).toArray.toList = r
      rw [hl]
      show r.take (r.length + 1 - 1) = r
      rw [Nat.add_sub_cancel]
      exact List.take_length
    · rw [if_neg (by
        rw [Bool.and_eq_true]; rintro ⟨_, q⟩
        have q' : ([c] == [45]) = true := q
        exact h (List.cons.inj (eq_of_beq q')).1)]
      have ea : ab (c :: r) = c :: r := by
        unfold ab
        split
        · rename_i q; exact absurd (List.cons.inj q).1 h
        · rfl
      rw [ea]; exact hz
end KX

set_option Elab.async false
set_option linter.all false
set_option maxRecDepth 100000
set_option maxHeartbeats 4000000
/-! Own layer: try with several clauses «except C as n», each of them the only one that takes the error; the clauses behind are never looked at. -/
namespace KX
open PySem PySem.Spec PyProof.Rows L2
abbrev Cla := Value × Nat × (Addr → Value → Option Addr → TS)
/-- behind a suite the clause's name is gone -/
def gone (D : Ends) (i : Nat) : Ends := { nx := fun τ G => D.nx (τ.set i none) G, rt := D.rt, bk := fun τ G => D.bk (τ.set i none) G, ct := fun τ G => D.ct (τ.set i none) G }
def wTo (K : PySem.W.Frag) (D : Ends) : List Cla → WX
  | [] => fun _ _ _ _ => False
  | (c, i, ts) :: r => fun cls d σ H => ∃ b, PySem.W.exmOne K cls c = some b ∧ (b = true → ∀ a, H a = none → ts a cls d (gone D i) (σ.set i (some (.ref a))) H) ∧ (b = false → wTo K D r cls d σ H)
inductive Clauses (X : Cx) : List ExceptHandler → List Cla → Prop
  | rest {hds : List ExceptHandler} : Clauses X hds []
  | cons {x n : Str} {c : Value} {i : Nat} {ts : Addr → Value → Option Addr → TS} {st : Stmt} {more : List Stmt} {np pos' : Pos} {hds : List ExceptHandler} {l : List Cla} (hc : Names X x c) (hi : X.N[i]? = some n) (hl : X.env.kindOf n = some .local)
      (su : ∀ (a : Addr) (oe : Obj) (cls : Value) (d : Option Addr) (pn : List (Addr × Obj)), Zc cls d oe → (∃ vs, oe.data = .fields vs) → PSs (X.suite a ((a, oe) :: pn)) (st :: more) (ts a cls d)) (r : Clauses X hds l) :
      Clauses X (.ExceptHandler (some (.Name x np)) (some n) (st :: more) pos' :: hds) ((c, i, ts) :: l)
section
variable {X : Cx} {body : List Stmt} {h0 : ExceptHandler} {hds : List ExceptHandler} {l : List Cla} {pos : Pos} {tb : WX → TS}
theorem ps_try_to (hs : X.stack = X.env :: X.outer) (hf : X.env.frame = some X.env.locals) (nd : X.N.Nodup) (cl : Clauses X (h0 :: hds) l)
    (hb : ∀ (W : WX) (pn : List (Addr × Obj)) (xe : Value → Shared → Prop), Takes (X.tr pn xe) W → PassesOwn (model X.prog X.w) X.A X.env xe → PSs (X.tr pn xe) body (tb W)) :
    PS X (.Try body (h0 :: hds) [] [] pos) (fun D σ H => tb (wTo X.K D l) D σ H) := ⟨fun pins s σ H D I h => by
  have ok := I.ok
  have fr : X.A.frames = some (X.env :: X.outer) := ok.frames.trans (congrArg some hs)
  let after : Value → Shared → Prop := fun e s1 => wpAny (model X.prog X.w) X.A (noteFrame e X.env) (fun _ s2 =>
    wpAny (model X.prog X.w) X.A (setFlight e none) (fun _ s3 => wpAny (model X.prog X.w) X.A (handleBy e X.env (h0 :: hds)) (SP X pins D) X.xe s3) X.xe s2) X.xe s1
  refine wpAny_Try_except (wpAny_mono ((hb (wTo X.K D l) (X.pn ++ pins) after (fun u s1 z => ?_) PassesOwn.looking).run [] s σ H D (I.toTry _) h) (fun fl s1 z => ?_) fun _ _ z => z)
  · obtain ⟨a, B, s0, pins1, σ1, H1, cls, d, rfl, J0, nb, up, sky, na, os, ag, wish⟩ := z
    have J : Inv X pins σ1 H1 s0 := J0.ofTry ok
    show wpAny (model X.prog X.w) X.A (noteFrame (.ref a) X.env) _ _ _
    refine Sky.land Zc.steady fr hf (by rw [← hs]; exact sky) fun h3 fl3 up3 => ?_
    have J3 : Inv X pins σ1 H1 { s1 with heap := h3 } := J.landed nb fl3.1 (up.trans up3) os ag
    obtain ⟨oe, vs, he, hz, hd⟩ := fl3.there
    have off : a ∉ frs (X.env :: X.outer) := fun m => by
      obtain ⟨_, o1, e1, nf⟩ := fl3.2.2.1.mem m
      exact nf _ ((Option.some.inj (e1.symm.trans he)) ▸ hd)
    have offL : a ≠ X.env.locals := fun e => off (List.mem_filterMap.mpr ⟨X.env, List.mem_cons_self, by rw [hf, e]⟩)
    have offF : a ∉ X.fs := fun m => by
      obtain ⟨en, m1, m2⟩ := List.mem_filterMap.mp m
      exact off (List.mem_filterMap.mpr ⟨en, List.mem_cons_of_mem _ m1, m2⟩)
    have S3 := J3.suite he hd na offL offF
    have ty : PySem.W.Looks (model X.prog X.w) h3 (typeOf (.ref a)) cls := fun A' Q' E' t k q => wpAny_typeOf_ref (k _ _ he) (hz.1 ▸ q)
    clear h
    revert cl wish
    generalize h0 :: hds = all
    intro cl
    induction cl with
    | rest => exact fun z => z.elim
    | @cons x n c i ts st more np pos' hds' l' hc hi hl su r ih =>
      rintro ⟨b, hb1, yes, no⟩
      refine wpAny_handleBy_cons (codeAny_handlers_test ?_) (by intro e; cases e)
      have name : ∀ {Q' : Value → Shared → Prop} {E' : Value → Shared → Prop}, Q' c { s1 with heap := h3 } → wpAny (model X.prog X.w) (X.A.mark (some (.ref a))) (eval (.Name x np) X.env) Q' E' { s1 with heap := h3 } := fun q => by
        obtain ⟨g, db, m | ⟨m, bt, nn⟩⟩ := hc
        · exact ld_glob (X := X.suite a ((a, oe) :: (X.pn ++ pins))) S3 g m q db
        · exact ld_blt (X := X.suite a ((a, oe) :: (X.pn ++ pins))) S3 g m bt q nn db
      refine name ((PySem.W.exm_one J3.kIn ty hb1).here ?_)
      cases b with
      | false => exact ih (no rfl)
      | true =>
        refine codeAny_handlers_suite_as (HandSPX.lands_againZ fl3 fun h4 fl4 up4 => ?_)
        have J4 : Inv X pins σ1 H1 { s1 with heap := h4 } := J.landed nb fl4.1 ((up.trans up3).trans up4) os ag
        obtain ⟨oe4, vs4, he4, hz4, hd4⟩ := fl4.there
        refine store_ok (X := X.suite a ((a, oe4) :: (X.pn ++ pins))) (v := .ref a) (J4.suite he4 hd4 na offL offF) nd hi (.inl hl) rfl (fun s5 S5 => ?_) (.inr hl)
        refine wpAny_mono ((su a oe4 cls d (X.pn ++ pins) hz4 ⟨_, hd4⟩).run [] s5 _ H1 _ S5 (yes rfl a na)) (fun fl s6 z => ?_) fun _ _ z => z.elim
        have leave : ∀ {τ : L2.St} {G : Hp} {R : Shared → Prop}, Inv (X.suite a ((a, oe4) :: (X.pn ++ pins))) [] τ G s6 → (∀ s7, Inv X pins (τ.set i none) G s7 → R s7) →
            wpAny (model X.prog X.w) X.A (do bindName X.env n .none; unbindBehindTheSuite X.env n pos') (fun _ s7 => R s7) X.xe s6 := fun S hq => gone_ok (S.unsuite ok) nd hi hl hq
        match fl, z with
        | .next, ⟨_, _, S, q⟩ => exact leave S fun _ K7 => ⟨_, _, K7, q⟩
        | .brk, ⟨_, _, S, q⟩ => exact leave S fun _ K7 => ⟨_, _, K7, q⟩
        | .cont, ⟨_, _, S, q⟩ => exact leave S fun _ K7 => ⟨_, _, K7, q⟩
        | .ret u, ⟨_, _, _, S, rv, q⟩ => exact leave S fun _ K7 => ⟨_, _, _, K7, rv, q⟩
  · match fl, z with
    | .next, ⟨_, _, K7, q⟩ => exact wpAny_execs_nil ⟨_, _, K7.ofTry ok, q⟩
    | .brk, ⟨_, _, K7, q⟩ => exact ⟨_, _, K7.ofTry ok, q⟩
    | .cont, ⟨_, _, K7, q⟩ => exact ⟨_, _, K7.ofTry ok, q⟩
    | .ret u, ⟨_, _, _, K7, rv, q⟩ => exact ⟨_, _, _, K7.ofTry ok, rv, q⟩⟩
end
end KX

set_option Elab.async false
set_option linter.all false
set_option maxRecDepth 100000
set_option maxHeartbeats 4000000
/-! Own layer: exception classes «class C(..): def __init__(self, f): self.f = f»: made, raised, read in the suite. -/
namespace KX
open PySem PySem.Spec PyProof.Rows L2
/-- __init__ of such a class -/
def spEi (K : PySem.W.Frag) (C : Addr) (f : Str) : Sp := fun vs H Q _ => ∃ (a : Addr) (v : V), vs = [.ref a, v] ∧ H a = some (exo a C none) ∧ OexC K C ∧ PySem.W.findIn K (.ref C) f = some none ∧
  ∀ dx, H dx = none → dx ≠ a → Q .non (upd (upd H dx (exd dx [(f, v)])) a (exo a C (some dx)))
theorem exo_ne {e C d : Addr} (H : Hp) {o : HO} : (upd H e o) d = none → d ≠ e := fun h z => by rw [z, upd_same] at h; cases h
theorem made_heap {H : Hp} {a C dx : Addr} {o1 o2 o3 o4 : HO} (ha : H a = none) (n : dx ≠ a) : upd (del (upd (upd (upd H a o1) dx o2) a o3) a) dx o4 = upd H dx o4 := by
  funext b
  by_cases h1 : b = dx
  · subst h1; rw [upd_same, upd_same]
  · rw [upd_ne h1, upd_ne h1]
    by_cases h2 : b = a
    · subst h2; rw [del_same, ha]
    · rw [del_ne h2, upd_ne h2, upd_ne h1, upd_ne h2]
section
variable {X : Cx}
/-- arguments by what is known of them -/
def tMoA (ta : TA) : TA := fun σ H Q => ∃ R : List V → Hp → Prop, ta σ H R ∧ ∀ vs H1, R vs H1 → Q vs H1
theorem pa_mo {es : List Expr} {ta : TA} (h : PA X es ta) : PA X es (tMoA ta) :=
  ⟨fun pos pins s σ H Q I ⟨R, h1, k⟩ => thn (h.run pos pins s σ H R I h1) fun us s1 ⟨vs, H1, I1, r, q⟩ => ⟨vs, H1, I1, r, k vs H1 q⟩⟩
/-- C(e) -/
def tMkV (C : Addr) (f : Str) (ta : TA) : L2.St → Hp → XK → Prop := fun σ H Q => ∃ R : List V → Hp → Prop, ta σ H R ∧ ∀ vs H1, R vs H1 → ∃ v, vs = [v] ∧ ∀ d, H1 d = none → Q (.ref C) (some d) (upd H1 d (.xd [(f, v)]))
theorem pmk_val {x f ps1 ps2 : Str} {C fI : Addr} {k : Nat} {fd : FuncData} {e : Expr} {ta : TA} {p pos : Pos} (T : OexC X.K C) (iC : PySem.W.findIn X.K (.ref C) "__init__" = some (some (.ref fI))) (tI : PySem.W.typeIn X.K (.ref fI) = some (.type "function"))
    (noF : PySem.W.findIn X.K (.ref C) f = some none) (F1 : FnOk X.prog X.w X.K X.mg X.base CX0 k fI fd [ps1, ps2] (spEi X.K C f)) (hr : Room (k + 1) X.A) (hb : Binds X.K fd [ps1, ps2] []) (hg : Gl X x) (hm : X.mg x = some (.ref C)) (ha : PA X [e] ta)
    (hdb : (x == ("__debug__" : Str)) = false := by decide) (he : starEach [e] X.env = (false, eval e X.env) :: starEach [] X.env := by rfl) (hpl : (backTo pos (starEach [] X.env)).any (·.1) = false := by rfl) :
    PMk X (.Call (.Name x p) [e] [] pos) (tMkV C f ta) := by
  intro pins s σ H Q I h
  obtain ⟨R, h1, kk⟩ := h
  refine pmk_oex T iC tI F1 hr hb .nil (fun _ _ _ _ _ _ _ z => z.elim) hg hm (pa_mo ha) hdb he hpl pins s σ H Q I ⟨R, h1, fun vs H1 r => ?_⟩
  obtain ⟨v, rfl, q⟩ := kk vs H1 r
  refine ⟨(by show 1 ≤ 1000; decide), fun a hn => ⟨a, v, rfl, upd_same, T, noF, fun dx hdx nd => ⟨rfl, dx, [(f, v)], upd_same, by rw [upd_ne nd]; exact upd_same, ?_, ?_⟩⟩⟩
  · rw [upd_ne nd] at hdx; exact hdx
  · rw [made_heap (C := C) hn nd]
    refine q dx ?_
    rw [upd_ne nd] at hdx; exact hdx
end
section
variable {X : Cx} {k : Nat} {f : Addr} {fd : FuncData} {ps ks : List Str} {sp : Sp} {E : L2.St → XK} {x : Str} {p pos : Pos} {e : Expr} {es : List Expr} {kws : List Keyword} {t tk : TA} {g : List Value → List Value → List Value} {gV : List V → List V → List V}
/-- f(e, .., k = v, ..) in a try: what it raises is taken with the slots as they are -/
def tCallKS (sp : Sp) (gV : List V → List V → List V) (E : L2.St → XK) (t tk : TA) : TE := fun σ H Q => t σ H fun vs H1 => tk σ H1 fun zs H2 => sp (gV vs zs) H2 Q (E σ)
theorem pe_callKS (F : FnOk X.prog X.w X.K X.mg X.base (L2.CX X.prog X.w) k f fd ps sp) (hr : Room k X.A) (hg : Gl X x) (hm : X.mg x = some (.ref f)) (hk : PySem.W.keepIn X.K (.ref f) = true) (hb : KBinds X.K fd ps ks g gV) (hx : ∀ σ, PassesAt (L2.CX X.prog X.w) X σ (E σ))
    (ha : PA X (e :: es) t) (hkw : PK X kws tk) (hall : (backToKw pos (keywordEach kws X.env)).all (·.1.isSome) = true := by rfl) (hks : (backToKw pos (keywordEach kws X.env)).filterMap (·.1) = ks := by rfl) (hdb : (x == ("__debug__" : Str)) = false := by decide)
    (he : starEach (e :: es) X.env = (false, eval e X.env) :: starEach es X.env := by rfl) (hpl : ((backTo pos (starEach (e :: es) X.env)).any (·.1) || (backToKw pos (keywordEach kws X.env)).any (·.1.isNone)) = false := by rfl) :
    PE X (.Call (.Name x p) (e :: es) kws pos) (tCallKS sp gV E t tk) := ⟨fun pins s σ H Q I h => by
  refine wpAny_Call_Name_kw (ld_glob I hg hm (PySem.W.callWith_KW (h₀ := X.base) I.ok.mod.kin hk hall (thn (ha.run pos pins s σ H _ I h) ?_) hpl he) hdb)
  rintro us s1 ⟨vs, H1, I1, r, q⟩
  refine thn (hkw.run pos pins s1 σ H1 _ I1 q) ?_
  rintro ws s2 ⟨zs, H2, I2, rz, q2⟩
  rw [hks]
  refine ⟨I2.kIn, ?_⟩
  have r2 := hb.rel r rz
  have hl : (g us ws).length = ps.length := by rw [← r2.length]; exact F.len _ _ _ _ q2
  refine wpAny_call (codeAny_mono (F.run X.A X.stack s2 H2 ⟨us, ks.zip ws⟩ (g us ws) (gV vs zs) Q (E σ) hr I2.env0 (hb.to s2 us ws I2.kIn hl) r2 q2) fun o s' hq => ?_)
  match o, hq with
  | .error u, hq => exact hx σ pins H2 s2 u s' I2 hq
  | .ok (.ret u), hq => exact I2.after hq
  | .ok .next, hq => exact hq.elim
  | .ok .brk, hq => exact hq.elim
  | .ok .cont, hq => exact hq.elim⟩
end
/-- what an exception class's makers and readers need of it -/
structure ETx (K : PySem.W.Frag) (mg : Str → Option Value) (x f : Str) (C fI : Addr) : Prop where
  ox : OexC K C
  xf : XfC K C
  iC : PySem.W.findIn K (.ref C) "__init__" = some (some (.ref fI))
  tI : PySem.W.typeIn K (.ref fI) = some (.type "function")
  noF : PySem.W.findIn K (.ref C) f = some none
  mgC : mg x = some (.ref C)
end KX

set_option Elab.async false
set_option linter.all false
set_option maxRecDepth 100000
set_option maxHeartbeats 4000000
/-! Own layer: a text times a number; a call that raises nothing. -/
namespace KX
open PySem PySem.Spec PyProof.Rows L2
def repS (z : Str) (k : Int) : Str := ⟨(List.replicate k.toNat z.cps).foldl (fun a b => a ++ b) #[]⟩
theorem foldl_app (z : Array Nat) : ∀ (n : Nat) (acc : Array Nat), ((List.replicate n z).foldl (fun a b => a ++ b) acc).toList = acc.toList ++ (List.replicate n z.toList).flatten
  | 0, acc => by simp
  | n + 1, acc => by
    rw [List.replicate_succ, List.foldl_cons, foldl_app z n, Array.toList_append, List.replicate_succ, List.flatten_cons, List.append_assoc]
theorem repS_cs (z : Str) (k : Int) : cs (repS z k) = (List.replicate k.toNat (cs z)).flatten := by
  show ((List.replicate k.toNat z.cps).foldl (fun a b => a ++ b) #[]).toList = _
  rw [foldl_app]; rfl
theorem repS_len (z : Str) (k : Int) : (repS z k).length = k.toNat * z.length := by
  rw [← cs_len, repS_cs, List.length_flatten, List.map_replicate, List.sum_replicate_nat, cs_len]
theorem repS_mem {z : Str} {k : Int} {c : Nat} (h : c ∈ cs (repS z k)) : c ∈ cs z := by
  rw [repS_cs] at h
  obtain ⟨l, h1, h2⟩ := List.mem_flatten.mp h
  rw [(List.mem_replicate.mp h1).2] at h2
  exact h2
section
variable {X : Cx}
theorem op_mulS : OpR X (binaryOp .Mult) (fun x y H Q => ∃ z k, x = .str z ∧ y = .int k ∧ 2 ≤ k ∧ k ≤ 10000 ∧ z.length = 1 ∧ Q (.str (repS z k)) H) := by
  intro pins s σ H x y v u Q I rx ry h
  obtain ⟨z, k, rfl, rfl, h1, h2, h3, q⟩ := h
  obtain ⟨t, rfl⟩ := rx
  obtain ⟨t', rfl⟩ := ry
  have n1 : ¬ k < 1 := by omega
  have n2 : (k == 1 || z.length == 0) = false := by
    rw [h3]
    have : (k == 1) = false := by rw [beq_eq_false_iff_ne]; omega
    rw [this]; rfl
  have hl : (repS z k).length ≤ sizeLine := by rw [repS_len, h3, sizeLine_eq]; omega
  refine P.mul_str ?_ (fun _ _ => ?_) (fun _ _ => ?_) ?_
  · rw [decide_eq_false (by omega), decide_eq_false (by omega)]; rfl
  · rw [h3]
    have : (1 : Int) ≤ (2 ^ 63 - 1) / k := Int.le_ediv_of_mul_le (by omega) (by omega)
    exact fun z => absurd this (Int.not_le.mpr z)
  · have : z.length * k.toNat ≤ sizeLine := by rw [h3, sizeLine_eq]; omega
    unfold Builtin.Str.tooLong
    exact decide_eq_false (by omega)
  · rw [if_neg n1, n2, if_neg Bool.false_ne_true]
    exact ⟨hl, .str (repS z k), H, I.tok _, ⟨_, rfl⟩, q⟩
/-- a def that may raise, called where it raises nothing -/
theorem passF {P : Program} {w : World} : Passes (L2.CX P w) X (fun _ _ _ => False) := fun _ _ _ _ _ _ _ h => by
  obtain ⟨_, _, _, _, _, _, _, _, _, _, _, _, h⟩ := h
  exact h.elim
end
section
variable {X : Cx} {CX : CXT} {k : Nat} {f : Addr} {fd : FuncData} {ps ks : List Str} {sp : Sp} {E : XK} {x : Str} {p pos : Pos} {kws : List Keyword} {tk : TA} {g : List Value → List Value → List Value} {gV : List V → List V → List V}
/-- f(k = v, ..), defaults fill up -/
theorem pe_kwN (F : FnOk X.prog X.w X.K X.mg X.base CX k f fd ps sp) (hr : Room k X.A) (hg : Gl X x) (hm : X.mg x = some (.ref f)) (hk : PySem.W.keepIn X.K (.ref f) = true) (hb : KBn X.K fd ps 0 ks g gV) (hx : Passes CX X E)
    (hkw : PK X kws tk) (hall : (backToKw pos (keywordEach kws X.env)).all (·.1.isSome) = true := by rfl) (hks : (backToKw pos (keywordEach kws X.env)).filterMap (·.1) = ks := by rfl) (hdb : (x == ("__debug__" : Str)) = false := by decide)
    (hpl : ((backTo pos (starEach [] X.env)).any (·.1) || (backToKw pos (keywordEach kws X.env)).any (·.1.isNone)) = false := by rfl) :
    PE X (.Call (.Name x p) [] kws pos) (tCallN 0 ks.length sp gV E tNil tk) := ⟨fun pins s σ H Q I h => by
  refine wpAny_Call_Name_kw (ld_glob I hg hm (PySem.W.callWith_KW0 (h₀ := X.base) I.ok.mod.kin hk hall (thn (hkw.run pos pins s σ H _ I h) ?_) hpl) hdb)
  rintro ws s2 ⟨zs, H2, I2, rz, l1, l2, q2⟩
  rw [hks]
  exact ⟨I2.kIn, run_fnN (us := []) (vs := []) F hr hb hx I2 .nil rz l1 l2 q2⟩⟩
end
section
variable {X : Cx} {k n : Nat} {f : Addr} {fd : FuncData} {ps ks : List Str} {sp : Sp} {E : L2.St → XK} {x : Str} {p pos : Pos} {e : Expr} {es : List Expr} {kws : List Keyword} {t tk : TA} {g : List Value → List Value → List Value} {gV : List V → List V → List V}
/-- f(e, .., k = v, ..) in a try, n places and the keywords ks, the other defaults fill up -/
def tCallNS (n m : Nat) (sp : Sp) (gV : List V → List V → List V) (E : L2.St → XK) (t tk : TA) : TE := fun σ H Q => t σ H fun vs H1 => tk σ H1 fun zs H2 => vs.length = n ∧ zs.length = m ∧ sp (gV vs zs) H2 Q (E σ)
theorem pe_callNS (F : FnOk X.prog X.w X.K X.mg X.base (L2.CX X.prog X.w) k f fd ps sp) (hr : Room k X.A) (hg : Gl X x) (hm : X.mg x = some (.ref f)) (hk : PySem.W.keepIn X.K (.ref f) = true) (hb : KBn X.K fd ps n ks g gV) (hx : ∀ σ, PassesAt (L2.CX X.prog X.w) X σ (E σ))
    (ha : PA X (e :: es) t) (hkw : PK X kws tk) (hall : (backToKw pos (keywordEach kws X.env)).all (·.1.isSome) = true := by rfl) (hks : (backToKw pos (keywordEach kws X.env)).filterMap (·.1) = ks := by rfl) (hdb : (x == ("__debug__" : Str)) = false := by decide)
    (he : starEach (e :: es) X.env = (false, eval e X.env) :: starEach es X.env := by rfl) (hpl : ((backTo pos (starEach (e :: es) X.env)).any (·.1) || (backToKw pos (keywordEach kws X.env)).any (·.1.isNone)) = false := by rfl) :
    PE X (.Call (.Name x p) (e :: es) kws pos) (tCallNS n ks.length sp gV E t tk) := ⟨fun pins s σ H Q I h => by
  refine wpAny_Call_Name_kw (ld_glob I hg hm (PySem.W.callWith_KW (h₀ := X.base) I.ok.mod.kin hk hall (thn (ha.run pos pins s σ H _ I h) ?_) hpl he) hdb)
  rintro us s1 ⟨vs, H1, I1, r, q⟩
  refine thn (hkw.run pos pins s1 σ H1 _ I1 q) ?_
  rintro ws s2 ⟨zs, H2, I2, rz, l1, l2, q2⟩
  rw [hks]
  refine ⟨I2.kIn, ?_⟩
  have r2 := hb.rel r rz
  refine wpAny_call (codeAny_mono (F.run X.A X.stack s2 H2 ⟨us, ks.zip ws⟩ (g us ws) (gV vs zs) Q (E σ) hr I2.env0 (hb.to s2 us ws I2.kIn (r.length.symm.trans l1) (rz.length.symm.trans l2)) r2 q2) fun o s' hq => ?_)
  match o, hq with
  | .error u, hq => exact hx σ pins H2 s2 u s' I2 hq
  | .ok (.ret u), hq => exact I2.after hq
  | .ok .next, hq => exact hq.elim
  | .ok .brk, hq => exact hq.elim
  | .ok .cont, hq => exact hq.elim⟩
end
/-- an except of a class -/
theorem exm_mk2 {K : PySem.W.Frag} {C D : Addr} {v : Bool} (o : OexC K C) (s : PySem.W.subIn K (.ref D) (.ref C) = some v) : PySem.W.exmOne K (.ref D) (.ref C) = some v := by
  obtain ⟨⟨_, _, _, _, _, _, _, _, _, _, _, _, _, _, _, hC, _⟩, _, b, t, _⟩ := o
  have hcl : (PySem.W.clsIn K C).isSome = true := by unfold PySem.W.clsIn; rw [hC]; rfl
  unfold PySem.W.exmOne PySem.W.kitCls
  rw [b]
  show (if (some true == some true) = true then (if ((PySem.W.clsIn K C).isSome && PySem.W.typeIn K (.ref C) == some (.type "type")) = true then PySem.W.subIn K (.ref D) (.ref C) else none) else none) = some v
  rw [hcl, t, s]
  have e : (some (Value.type "type") == some (Value.type "type")) = true := by rfl
  rw [e]; rfl
theorem exm_mk {K : PySem.W.Frag} {C : Addr} (o : OexC K C) (s : PySem.W.subIn K (.ref C) (.ref C) = some true) : PySem.W.exmOne K (.ref C) (.ref C) = some true := exm_mk2 o s
end KX

set_option Elab.async false
set_option linter.all false
set_option maxRecDepth 100000
set_option maxHeartbeats 4000000
/-! Own layer: the tables that the laws draw are associative. Plain lists and numbers. -/
namespace KX
/-- the product of a and b by the rows -/
def mu (tb : List (List Int)) (a b : Nat) : Int := (tb.getD a []).getD b 0
/-- a square of elements -/
structure Sqr (tb : List (List Int)) : Prop where
  le : 1 ≤ tb.length
  ge : tb.length ≤ 16
  row : ∀ r, r ∈ tb → r.length = tb.length
  el : ∀ a b, a < tb.length → b < tb.length → 0 ≤ mu tb a b ∧ mu tb a b < (tb.length : Int)
/-- (a*b)*c is a*(b*c) -/
def rt (tb : List (List Int)) (a b c : Nat) : Prop := mu tb (mu tb a b).toNat c = mu tb a (mu tb b c).toNat
/-- an associative table -/
structure Tb (tb : List (List Int)) : Prop where
  sq : Sqr tb
  as : ∀ a b c, a < tb.length → b < tb.length → c < tb.length → rt tb a b c
/-- the table of a function -/
def tab (n : Nat) (f : Nat → Nat → Nat) : List (List Int) := (List.range n).map fun a => (List.range n).map fun b => ((f a b : Nat) : Int)
theorem tab_len (n : Nat) (f : Nat → Nat → Nat) : (tab n f).length = n := by unfold tab; rw [List.length_map, List.length_range]
theorem tab_row {n : Nat} {f : Nat → Nat → Nat} {a : Nat} (h : a < n) : (tab n f)[a]? = some ((List.range n).map fun b => ((f a b : Nat) : Int)) := by
  unfold tab
  rw [List.getElem?_map, List.getElem?_range h]; rfl
theorem tab_mu {n : Nat} {f : Nat → Nat → Nat} {a b : Nat} (ha : a < n) (hb : b < n) : mu (tab n f) a b = (f a b : Int) := by
  have e : (tab n f).getD a [] = (List.range n).map fun b => ((f a b : Nat) : Int) := by rw [List.getD_eq_getElem?_getD, tab_row ha]; rfl
  unfold mu
  rw [e, List.getD_eq_getElem?_getD, List.getElem?_map, List.getElem?_range hb]; rfl
/-- a function below n that is associative there -/
structure Asf (n : Nat) (f : Nat → Nat → Nat) : Prop where
  lt : ∀ a b, a < n → b < n → f a b < n
  as : ∀ a b c, a < n → b < n → c < n → f (f a b) c = f a (f b c)
theorem tab_tb {n : Nat} {f : Nat → Nat → Nat} (h1 : 1 ≤ n) (h16 : n ≤ 16) (F : Asf n f) : Tb (tab n f) := by
  have L := tab_len n f
  refine ⟨⟨by rw [L]; exact h1, by rw [L]; exact h16, fun r hr => ?_, fun a b ha hb => ?_⟩, fun a b c ha hb hc => ?_⟩
  · rw [L]
    obtain ⟨a, _, rfl⟩ := List.mem_map.mp hr
    rw [List.length_map, List.length_range]
  · rw [L] at *
    rw [tab_mu ha hb]
    have := F.lt a b ha hb
    omega
  · rw [L] at ha hb hc
    unfold rt
    rw [tab_mu ha hb, tab_mu hb hc, Int.toNat_natCast, Int.toNat_natCast, tab_mu (F.lt a b ha hb) hc, tab_mu ha (F.lt b c hb hc), F.as a b c ha hb hc]
/-- every square table is the table of its own function -/
theorem tab_of {tb : List (List Int)} (S : Sqr tb) : tb = tab tb.length fun a b => (mu tb a b).toNat := by
  refine List.ext_getElem? fun a => ?_
  by_cases ha : a < tb.length
  · rw [tab_row ha, List.getElem?_eq_getElem ha]
    refine congrArg some (List.ext_getElem? fun b => ?_)
    have hl := S.row tb[a] (List.getElem_mem ha)
    by_cases hb : b < tb.length
    · have e := S.el a b ha hb
      have em : mu tb a b = tb[a][b] := by
        unfold mu
        rw [List.getD_eq_getElem?_getD, List.getD_eq_getElem?_getD, List.getElem?_eq_getElem ha]
        show (tb[a][b]?).getD 0 = _
        rw [List.getElem?_eq_getElem (by omega)]; rfl
      rw [List.getElem?_map, List.getElem?_range hb, List.getElem?_eq_getElem (by omega)]
      show some tb[a][b] = some (((mu tb a b).toNat : Nat) : Int)
      rw [Int.toNat_of_nonneg e.1, em]
    · rw [List.getElem?_eq_none (by omega), List.getElem?_eq_none (by rw [List.length_map, List.length_range]; omega)]
  · rw [List.getElem?_eq_none (by omega), List.getElem?_eq_none (by rw [tab_len]; omega)]
theorem asf_of {tb : List (List Int)} (T : Tb tb) : Asf tb.length fun a b => (mu tb a b).toNat := by
  have lt : ∀ a b, a < tb.length → b < tb.length → (mu tb a b).toNat < tb.length := fun a b ha hb => by
    have := T.sq.el a b ha hb; omega
  refine ⟨lt, fun a b c ha hb hc => ?_⟩
  have h := T.as a b c ha hb hc
  unfold rt at h
  show (mu tb (mu tb a b).toNat c).toNat = (mu tb a (mu tb b c).toNat).toNat
  rw [h]
/-! ### the drawn tables -/
/-- _law_plain -/
def fpl (kind n a b : Nat) : Nat := match kind with
  | 0 => a
  | 1 => b
  | 2 => min a b
  | 3 => (a + b) % n
  | 4 => min (a + b) (n - 1)
  | _ => if 0 < a then a else b
theorem asf_plain (kind n : Nat) (h : 1 ≤ n) : Asf n (fpl kind n) := by
  match kind with
  | 0 => exact ⟨fun a b ha hb => ha, fun a b c ha hb hc => rfl⟩
  | 1 => exact ⟨fun a b ha hb => hb, fun a b c ha hb hc => rfl⟩
  | 2 => exact ⟨fun a b ha hb => by show min a b < n; omega, fun a b c ha hb hc => by show min (min a b) c = min a (min b c); omega⟩
  | 3 => exact ⟨fun a b ha hb => Nat.mod_lt _ (by omega), fun a b c ha hb hc => by show ((a + b) % n + c) % n = (a + (b + c) % n) % n; rw [Nat.mod_add_mod, Nat.add_mod_mod, Nat.add_assoc]⟩
  | 4 => exact ⟨fun a b ha hb => by show min (a + b) (n - 1) < n; omega, fun a b c ha hb hc => by show min (min (a + b) (n - 1) + c) (n - 1) = min (a + min (b + c) (n - 1)) (n - 1); omega⟩
  | k + 5 =>
    refine ⟨fun a b ha hb => ?_, fun a b c ha hb hc => ?_⟩
    · show (if 0 < a then a else b) < n
      split <;> omega
    · show (if 0 < (if 0 < a then a else b) then (if 0 < a then a else b) else c) = (if 0 < a then a else (if 0 < b then b else c))
      by_cases h1 : 0 < a
      · simp only [if_pos h1]
      · simp only [if_neg h1]
/-- _law_extended -/
def fex (kind n : Nat) (f : Nat → Nat → Nat) (a b : Nat) : Nat := if a < n ∧ b < n then f a b else if kind = 0 then n else if a < n then a else b
theorem asf_extended {kind n : Nat} {f : Nat → Nat → Nat} (F : Asf n f) : Asf (n + 1) (fex kind n f) := by
  have lt := F.lt
  refine ⟨fun a b ha hb => ?_, fun a b c ha hb hc => ?_⟩
  · unfold fex
    split
    · rename_i h; have := lt a b h.1 h.2; omega
    · split
      · omega
      · split <;> omega
  · by_cases h1 : a < n
    · by_cases h2 : b < n
      · have hab := lt a b h1 h2
        by_cases h3 : c < n
        · have hbc := lt b c h2 h3
          unfold fex
          rw [if_pos (show a < n ∧ b < n from ⟨h1, h2⟩), if_pos (show b < n ∧ c < n from ⟨h2, h3⟩), if_pos ⟨hab, h3⟩, if_pos ⟨h1, hbc⟩]
          exact F.as a b c h1 h2 h3
        · have ec : c = n := by omega
          subst ec
          unfold fex
          rw [if_pos (show a < c ∧ b < c from ⟨h1, h2⟩), if_neg (show ¬ (f a b < c ∧ c < c) by omega), if_neg (show ¬ (b < c ∧ c < c) by omega)]
          by_cases k0 : kind = 0
          · rw [if_pos k0, if_pos k0, if_neg (show ¬ (a < c ∧ c < c) by omega), if_pos k0]
          · rw [if_neg k0, if_neg k0, if_pos hab, if_pos h2, if_pos ⟨h1, h2⟩]
      · have eb : b = n := by omega
        subst eb
        by_cases k0 : kind = 0
        · have e1 : ∀ x, fex kind b f x b = b := fun x => by unfold fex; rw [if_neg (by omega), if_pos k0]
          have e2 : ∀ x, fex kind b f b x = b := fun x => by unfold fex; rw [if_neg (by omega), if_pos k0]
          rw [e1, e2, e1]
        · have e1 : fex kind b f a b = a := by unfold fex; rw [if_neg (by omega), if_neg k0, if_pos h1]
          have e2 : fex kind b f b c = c := by unfold fex; rw [if_neg (by omega), if_neg k0, if_neg (by omega)]
          rw [e1, e2]
    · have ea : a = n := by omega
      subst ea
      by_cases k0 : kind = 0
      · have e2 : ∀ x, fex kind a f a x = a := fun x => by unfold fex; rw [if_neg (by omega), if_pos k0]
        rw [e2, e2, e2]
      · have e2 : ∀ x, fex kind a f a x = x := fun x => by unfold fex; rw [if_neg (by omega), if_neg k0, if_neg (by omega)]
        rw [e2, e2]
/-- _law_pairs -/
def fpr (n : Nat) (f g : Nat → Nat → Nat) (a b : Nat) : Nat := f (a / n) (b / n) * n + g (a % n) (b % n)
theorem asf_pairs {m n : Nat} {f g : Nat → Nat → Nat} (hn : 1 ≤ n) (F : Asf m f) (G : Asf n g) : Asf (m * n) (fpr n f g) := by
  have dv : ∀ a, a < m * n → a / n < m := fun a h => (Nat.div_lt_iff_lt_mul (by omega)).mpr h
  have md : ∀ a, a % n < n := fun a => Nat.mod_lt _ (by omega)
  have d1 : ∀ x y, y < n → (x * n + y) / n = x := fun x y h => by rw [Nat.add_comm, Nat.add_mul_div_right _ _ (by omega), Nat.div_eq_of_lt h, Nat.zero_add]
  have d2 : ∀ x y, y < n → (x * n + y) % n = y := fun x y h => by rw [Nat.add_comm, Nat.add_mul_mod_self_right, Nat.mod_eq_of_lt h]
  refine ⟨fun a b ha hb => ?_, fun a b c ha hb hc => ?_⟩
  · have h1 := F.lt _ _ (dv a ha) (dv b hb)
    have h2 := G.lt _ _ (md a) (md b)
    unfold fpr
    have h3 : (f (a / n) (b / n) + 1) * n ≤ m * n := Nat.mul_le_mul_right n h1
    rw [Nat.succ_mul] at h3
    omega
  · unfold fpr
    rw [d1 _ _ (G.lt _ _ (md a) (md b)), d2 _ _ (G.lt _ _ (md a) (md b)), d1 _ _ (G.lt _ _ (md b) (md c)), d2 _ _ (G.lt _ _ (md b) (md c)), F.as _ _ _ (dv a ha) (dv b hb) (dv c hc), G.as _ _ _ (md a) (md b) (md c)]
/-- _law_grid -/
def fgr (s : Nat → Nat) (a b : Nat) : Nat := a / 4 * 4 + (a / 2 + b / 2 + s (a % 2 * 2 + b / 4)) % 2 * 2 + b % 2
theorem asf_grid (s : Nat → Nat) (hs : ∀ i, s i < 2) : Asf 8 (fgr s) := by
  have key : ∀ p q r t : Fin 2, ∀ a b c : Fin 8,
      fgr (fun i => [p.val, q.val, r.val, t.val].getD i 0) a.val b.val < 8 ∧
      fgr (fun i => [p.val, q.val, r.val, t.val].getD i 0) (fgr (fun i => [p.val, q.val, r.val, t.val].getD i 0) a.val b.val) c.val = fgr (fun i => [p.val, q.val, r.val, t.val].getD i 0) a.val (fgr (fun i => [p.val, q.val, r.val, t.val].getD i 0) b.val c.val) := by decide +kernel
  have e : ∀ a b, a < 8 → b < 8 → fgr s a b = fgr (fun i => [s 0, s 1, s 2, s 3].getD i 0) a b := fun a b ha hb => by
    unfold fgr
    have h4 : a % 2 * 2 + b / 4 < 4 := by omega
    have : s (a % 2 * 2 + b / 4) = [s 0, s 1, s 2, s 3].getD (a % 2 * 2 + b / 4) 0 := by
      generalize a % 2 * 2 + b / 4 = i at h4
      match i, h4 with
      | 0, _ => rfl
      | 1, _ => rfl
      | 2, _ => rfl
      | 3, _ => rfl
    rw [this]
  have k := key ⟨s 0, hs 0⟩ ⟨s 1, hs 1⟩ ⟨s 2, hs 2⟩ ⟨s 3, hs 3⟩
  refine ⟨fun a b ha hb => ?_, fun a b c ha hb hc => ?_⟩
  · rw [e a b ha hb]; exact (k ⟨a, ha⟩ ⟨b, hb⟩ ⟨0, by decide⟩).1
  · have hab := (k ⟨a, ha⟩ ⟨b, hb⟩ ⟨0, by decide⟩).1
    have hbc := (k ⟨b, hb⟩ ⟨c, hc⟩ ⟨0, by decide⟩).1
    rw [e a b ha hb, e b c hb hc, e _ c hab hc, e a _ ha hbc]
    exact (k ⟨a, ha⟩ ⟨b, hb⟩ ⟨c, hc⟩).2
/-! ### other numbers of the elements -/
/-- the place of x in the order -/
def plc (o : List Nat) (x : Nat) : Nat := o.idxOf x
def frn (o : List Nat) (f : Nat → Nat → Nat) (i j : Nat) : Nat := plc o (f (o.getD i 0) (o.getD j 0))
theorem asf_renum {n : Nat} {f : Nat → Nat → Nat} {o : List Nat} (F : Asf n f) (hp : o.Perm (List.range n)) : Asf n (frn o f) := by
  have hl : o.length = n := by rw [hp.length_eq, List.length_range]
  have hm : ∀ x, x ∈ o ↔ x < n := fun x => by rw [hp.mem_iff, List.mem_range]
  have at_ : ∀ i, i < n → o.getD i 0 < n := fun i hi => by
    rw [List.getD_eq_getElem?_getD, List.getElem?_eq_getElem (by omega)]
    exact (hm _).mp (List.getElem_mem _)
  have pl : ∀ x, x < n → plc o x < n := fun x hx => by
    have := List.idxOf_lt_length_of_mem ((hm x).mpr hx); unfold plc; omega
  have back : ∀ x, x < n → o.getD (plc o x) 0 = x := fun x hx => by
    have h := List.idxOf_lt_length_of_mem ((hm x).mpr hx)
    unfold plc
    rw [List.getD_eq_getElem?_getD, List.getElem?_eq_getElem h, Option.getD_some]
    exact List.getElem_idxOf h
  refine ⟨fun a b ha hb => pl _ (F.lt _ _ (at_ a ha) (at_ b hb)), fun a b c ha hb hc => ?_⟩
  have h1 := F.lt _ _ (at_ a ha) (at_ b hb)
  have h2 := F.lt _ _ (at_ b hb) (at_ c hc)
  unfold frn
  rw [back _ h1, back _ h2, F.as _ _ _ (at_ a ha) (at_ b hb) (at_ c hc)]
end KX

set_option Elab.async false
set_option linter.all false
set_option maxRecDepth 100000
set_option maxHeartbeats 4000000
namespace L
open PySem L2 KX

def top (i : Nat) : Stmt := PySem.Challenge.pw_producttrees_k08_renumbered_tables.main.body.getD i (.Pass ⟨0, 0, 0, 0⟩)
abbrev sCell : Stmt := top 21
abbrev sBox : Stmt := top 22
abbrev sTake : Stmt := top 23
/-- the names of built-ins are the built-ins' -/
structure Mn (mg : Str → Option Value) : Prop where
  max : mg "max" = none
  min : mg "min" = none
  len : mg "len" = none
  range : mg "range" = none
  repr : mg "repr" = none
  isin : mg "isinstance" = none
  all : mg "all" = none
  enum : mg "enumerate" = none
  tuple : mg "tuple" = none
  dict : mg "dict" = none
  str : mg "str" = none
  int : mg "int" = none
  bool : mg "bool" = none
  list : mg "list" = none
/-- the box of a cell stands at p -/
def Bx (H : Hp) (p : Addr) : Prop := ∃ b0 b1 b2 : Int, H p = some (.lst [.int b0, .int b1, .int b2]) ∧ 0 ≤ b0 ∧ 0 ≤ b1 ∧ b1 < 2147483647 ∧ 0 ≤ b2
/-- all but what stands at p is as it was -/
def Sx (p : Addr) (H H' : Hp) : Prop := ∀ b o, b ≠ p → H b = some o → H' b = some o
def spCell (K : PySem.W.Frag) : Sp := fun vs H Q _ => ∃ (a : Addr) (ns : List Int) (k : Int), vs = [.ref a, .int k] ∧ SqL K H a (ns.map V.int) ∧ 0 ≤ k ∧ ∀ c : Int, Q (.int c) H
def spBox : Sp := fun vs H Q _ => ∃ c : Int, vs = [.int c] ∧ ∀ p H', Same H H' → H p = none → Bx H' p → Q (.ref p) H'
def spTake : Sp := fun vs H Q _ => ∃ (p : Addr) (n : Int), vs = [.ref p, .int n] ∧ Bx H p ∧ 0 < n ∧ n < 316912650057057350374175801344 ∧ ∀ (r : Int) H', 0 ≤ r → r < n → Bx H' p → Sx p H H' → Q (.int r) H'
section
variable {P : Program} {w : World} {K : PySem.W.Frag} {mg : Str → Option Value} {base : Heap} {f : Addr} {fd : FuncData}
theorem scCell : FnScope ["script", "k"] ["script", "k"] (defScope sCell) := ⟨rfl, rfl, rfl, by decide +kernel, rfl, by decide +kernel, by decide +kernel⟩
theorem ok_cell (F : Fun K "_law_cell" "_law_cell" sCell f fd) (M : Mn mg) : FnOk P w K mg base CX0 1 f fd ["script", "k"] (spCell K) := by
  refine F.ok scCell (fun vs H Q E h => ?_) (fun cdv A outer s H vs Q E hr h => ?_)
  · obtain ⟨a, ns, k, rfl, _⟩ := h
    rfl
  obtain ⟨a, ns, k, rfl, hS, hk, q⟩ := h
  refine ⟨_, pss_cons (ps_if (pt_cmpR op_lt (pv 1) (pe_callB call_len_seq (by rfl) M.len PySem.boot_len (pa_cons (pv 0) pa_nil)) (nomark _)) (pss_one (ps_ret (pe_ix ix_list (pv 0) (pv 1) (fun _ _ => rfl)))) pss_nil)
    (pss_one (ps_ret (pe_op op_add (pe_op op_mul pe_int (pv 1)) pe_int))), ?_⟩
  refine ⟨_, rfl, _, rfl, a, _, rfl, .inl hS, _, _, rfl, rfl, _, rfl, ?_⟩
  refine ite2 (fun c => ?_) (fun c => ?_)
  · have c' : k < (((ns.map V.int).length : Nat) : Int) := of_decide_eq_true c
    rw [List.length_map] at c'
    have hlt : k.toNat < ns.length := by omega
    refine ⟨_, rfl, _, rfl, a, _, _, V.int ns[k.toNat], rfl, rfl, hS, at_of (j := k.toNat) (by omega) (by rw [List.getElem?_map, List.getElem?_eq_getElem hlt]; rfl), q _⟩
  · exact ⟨_, rfl, _, _, rfl, rfl, .inl ⟨by decide, by decide⟩, _, _, rfl, rfl, q _⟩
theorem scBox : FnScope ["cell"] ["cell"] (defScope sBox) := ⟨rfl, rfl, rfl, by decide +kernel, rfl, by decide +kernel, by decide +kernel⟩
theorem ok_box (F : Fun K "_law_box" "_law_box" sBox f fd) (M : Mn mg) : FnOk P w K mg base CX0 1 f fd ["cell"] spBox := by
  refine F.ok scBox (fun vs H Q E h => ?_) (fun cdv A outer s H vs Q E hr h => ?_)
  · obtain ⟨c, rfl, _⟩ := h
    rfl
  obtain ⟨c, rfl, q⟩ := h
  refine ⟨_, pss_one (ps_ret (pe_lst (pa_cons (pe_callB (call_max2 rfl) (by rfl) M.max (by decide +kernel) (pa_cons pe_int (pa_cons (pe_op op_sub (pv 0) (pe_op op_pow pe_int pe_int)) pa_nil)))
    (pa_cons (pe_op op_mod (pv 0) pe_int) (pa_cons pe_int pa_nil))))), ?_⟩
  refine ⟨_, rfl, _, _, rfl, rfl, ⟨by decide, by decide, by decide⟩, _, _, rfl, rfl, _, _, rfl, _, rfl, _, _, rfl, rfl, (by show (0 : Int) < 2147483629; decide), (by show 3 ≤ sizeLine; decide), fun p hp => ?_⟩
  refine q p _ (fun b o e => by rw [upd_ne (ne_of_none e hp)]; exact e) hp ⟨_, _, _, upd_same, ?_, Int.emod_nonneg _ (by decide), ?_, Int.le_refl 0⟩
  · split <;> omega
  · have := Int.emod_lt_of_pos c (show (0 : Int) < 2147483629 by decide)
    omega
theorem scTake : FnScope ["box", "size", "digit", "mixed"] ["box", "size"] (defScope sTake) := ⟨rfl, rfl, rfl, by decide +kernel, rfl, by decide +kernel, by decide +kernel⟩
theorem ok_take (F : Fun K "_law_take" "_law_take" sTake f fd) (M : Mn mg) : FnOk P w K mg base CX0 1 f fd ["box", "size"] spTake := by
  refine F.ok scTake (fun vs H Q E h => ?_) (fun cdv A outer s H vs Q E hr h => ?_)
  · obtain ⟨p, n, rfl, _⟩ := h
    rfl
  obtain ⟨p, n, rfl, ⟨b0, b1, b2, hp, z0, z1, z1', z2⟩, n0, n1, q⟩ := h
  refine ⟨_, pss_cons (ps_if (pt_cmpR op_gt (pe_ix ix_list (pv 0) pe_int (fun _ _ => rfl)) pe_int (nomark _))
      (pss_cons (ps_set (i := 2) scTake.nd rfl (Or.inl rfl) (pe_op op_mod (pe_ix ix_list (pv 0) pe_int (fun _ _ => rfl)) (pv 1)))
      (pss_cons (ps_asg (pe_op op_fdivW (pe_ix ix_list (pv 0) pe_int (fun _ _ => rfl)) (pv 1)) (pg_sub (pv 0) pe_int set_list))
      (pss_one (ps_ret (pv 2))))) pss_nil)
    (pss_cons (ps_asg (pe_op op_add (pe_ix ix_list (pv 0) pe_int (fun _ _ => rfl)) pe_int) (pg_sub (pv 0) pe_int set_list))
    (pss_cons (ps_set (i := 3) scTake.nd rfl (Or.inl rfl) (pe_op op_mod (pe_op op_add (pe_op op_add (pe_op op_mul (pe_ix ix_list (pv 0) pe_int (fun _ _ => rfl)) pe_int) (pe_op op_mul pe_int (pe_ix ix_list (pv 0) pe_int (fun _ _ => rfl)))) pe_int) pe_int))
    (pss_cons (ps_asg (pe_op op_mod (pe_op op_add (pe_op op_pow (pv 3) pe_int) (pe_op op_mul pe_int (pe_ix ix_list (pv 0) pe_int (fun _ _ => rfl)))) pe_int) (pg_sub (pv 0) pe_int set_list))
    (pss_one (ps_ret (pe_op op_mod (pe_op op_fdiv (pe_ix ix_list (pv 0) pe_int (fun _ _ => rfl)) pe_int) (pv 1))))))), ?_⟩
  refine ⟨_, rfl, p, _, _, _, rfl, rfl, SqL.of hp, rfl, _, _, rfl, rfl, _, rfl, ?_⟩
  refine ite2 (fun c => ?_) (fun c => ?_)
  · refine ⟨_, rfl, p, _, _, _, rfl, rfl, SqL.of hp, rfl, _, rfl, _, _, rfl, rfl, n0, ?_⟩
    refine ⟨_, rfl, p, _, _, _, rfl, rfl, SqL.of hp, rfl, _, rfl, _, _, rfl, rfl, wide_div (b := 98) n0 (by omega) (by decide) (by decide), _, rfl, p, _, _, 0, rfl, rfl, hp, rfl, ?_⟩
    refine ⟨_, rfl, q _ _ (Int.emod_nonneg _ (by omega)) (Int.emod_lt_of_pos _ n0) ⟨_, _, _, upd_same, Int.ediv_nonneg z0 (by omega), z1, z1', z2⟩ fun b o hb e => by rw [upd_ne hb]; exact e⟩
  · refine ⟨_, rfl, p, _, _, _, rfl, rfl, SqL.of hp, rfl, _, _, rfl, rfl, _, rfl, p, _, _, 2, rfl, rfl, hp, rfl, ?_⟩
    have h1 : ∀ o, (upd H p o) p = some o := fun o => upd_same
    refine ⟨_, rfl, p, _, _, _, rfl, rfl, SqL.of (h1 _), rfl, _, _, rfl, rfl, .inr ⟨by decide, by decide⟩, _, rfl, p, _, _, _, rfl, rfl, SqL.of (h1 _), rfl, _, _, rfl, rfl, .inl ⟨by decide, by decide⟩, _, _, rfl, rfl, _, _, rfl, rfl, _, _, rfl, rfl, (by show (0 : Int) < 2147483647; decide), ?_⟩
    have m0 : ∀ x : Int, 0 ≤ x % 2147483647 := fun x => Int.emod_nonneg _ (by decide)
    have m1 : ∀ x : Int, x % 2147483647 < 2147483647 := fun x => Int.emod_lt_of_pos _ (by decide)
    refine ⟨_, rfl, _, _, rfl, rfl, ⟨by decide, by decide, ?_⟩, _, rfl, p, _, _, _, rfl, rfl, SqL.of (h1 _), rfl, _, _, rfl, rfl, .inl ⟨by decide, by decide⟩, _, _, rfl, rfl, _, _, rfl, rfl, (by show (0 : Int) < 2147483647; decide), _, rfl, p, _, _, 1, rfl, rfl, (h1 _), rfl, ?_⟩
    · have a0 := m0 (b1 * 48271 + 69621 * (b2 + 1) + 7)
      have a1 := m1 (b1 * 48271 + 69621 * (b2 + 1) + 7)
      omega
    · refine ⟨_, rfl, p, _, _, _, rfl, rfl, SqL.of upd_same, rfl, _, _, rfl, rfl, ⟨by decide, by decide⟩, _, rfl, _, _, rfl, rfl, n0, ?_⟩
      refine q _ _ (Int.emod_nonneg _ (by omega)) (Int.emod_lt_of_pos _ n0) ⟨_, _, _, upd_same, z0, m0 _, m1 _, (by omega)⟩ fun b o hb e => by rw [upd_ne hb, upd_ne hb]; exact e
end
theorem Sx.refl {p : Addr} (H : Hp) : Sx p H H := fun _ _ _ e => e
theorem Sx.trans {p : Addr} {H G J : Hp} (a : Sx p H G) (b : Sx p G J) : Sx p H J := fun c o n e => b c o n (a c o n e)
theorem Sx.of {p : Addr} {H G : Hp} (a : Same H G) : Sx p H G := fun c o _ e => a c o e
theorem Sx.new {p q : Addr} {H : Hp} {o : HO} (h : H q = none) : Sx p H (upd H q o) := fun c u _ e => by rw [upd_ne (ne_of_none e h)]; exact e
theorem Bx.new {p q : Addr} {H : Hp} {o : HO} (b : Bx H p) (h : H q = none) : Bx (upd H q o) p := by
  obtain ⟨b0, b1, b2, e, r⟩ := b
  exact ⟨b0, b1, b2, by rw [upd_ne (ne_of_none e h)]; exact e, r⟩
theorem Bx.ne {p q : Addr} {H : Hp} (b : Bx H p) (h : H q = none) : q ≠ p := by
  obtain ⟨b0, b1, b2, e, r⟩ := b
  exact (ne_of_none e h).symm
theorem Bx.at_ne {p q : Addr} {H : Hp} {o : HO} (b : Bx H p) (h : q ≠ p) : Bx (upd H q o) p := by
  obtain ⟨b0, b1, b2, e, r⟩ := b
  exact ⟨b0, b1, b2, by rw [upd_ne h.symm]; exact e, r⟩
theorem Sx.free {p q : Addr} {H G : Hp} (s : Sx p H G) (b : Bx G p) (h : G q = none) : H q = none := by
  cases e : H q with
  | none => rfl
  | some o =>
    have n := b.ne h
    rw [s q o n e] at h
    cases h
theorem Bx.nn {p : Addr} {H : Hp} (b : Bx H p) : H p ≠ none := by
  obtain ⟨b0, b1, b2, e, r⟩ := b
  rw [e]; exact fun z => nomatch z
/-- what was new stays, where only p changes -/
theorem nw_step {p : Addr} {H G J : Hp} (b : Bx H p) (s : Sx p G J) : Same (nw H G) (nw H J) := fun c o h => by
  obtain ⟨h1, h2⟩ := nw_some h
  rw [nw_at h1]
  exact s c o (fun z => b.nn (z ▸ h1)) h2
/-- what is new behind a later heap is new behind an earlier one -/
theorem nw_back {p : Addr} {H G J : Hp} (s : Sx p H G) (b : Bx G p) : Same (nw G J) (nw H J) := fun c o h => by
  obtain ⟨h1, h2⟩ := nw_some h
  rw [nw_at (s.free b h1)]
  exact h2
end L

set_option Elab.async false
set_option linter.all false
set_option maxRecDepth 100000
set_option maxHeartbeats 4000000
namespace L
open PySem L2 KX
abbrev sIsInt : Stmt := top 10
/-- what isinstance tells of a value -/
def Isi (K : PySem.W.Frag) (H : Hp) (v : V) (b1 b2 : Bool) : Prop := ∃ t, TyX K H v t ∧ PySem.W.kitOne K t (.type "int") = some b1 ∧ PySem.W.kitOne K t (.type "bool") = some b2
def spIsInt (K : PySem.W.Frag) : Sp := fun vs H Q _ => ∃ v b1 b2, vs = [v] ∧ Isi K H v b1 b2 ∧ Q (.bl (b1 && !b2)) H
section
variable {P : Program} {w : World} {K : PySem.W.Frag} {mg : Str → Option Value} {base : Heap} {f g gn : Addr} {fd gd gnd : FuncData}
theorem scIsInt : FnScope ["value"] ["value"] (defScope sIsInt) := ⟨rfl, rfl, rfl, by decide +kernel, rfl, by decide +kernel, by decide +kernel⟩
theorem ok_isint (F : Fun K "is_integer" "is_integer" sIsInt f fd) (M : Mn mg) : FnOk P w K mg base CX0 1 f fd ["value"] (spIsInt K) := by
  refine F.ok scIsInt (fun vs H Q E h => ?_) (fun cdv A outer s H vs Q E hr h => ?_)
  · obtain ⟨v, b1, b2, rfl, _⟩ := h
    rfl
  obtain ⟨v, b1, b2, rfl, ⟨t, ty, k1, k2⟩, q⟩ := h
  refine ⟨_, pss_one (ps_ret (pe_and (pe_callB call_isi (by rfl) M.isin (by decide +kernel) (pa_cons (pv 0) (pa_cons (pe_bltn (v := .ty "int") (by rfl) M.int (by decide +kernel) rfl) pa_nil)))
    (pe_one (pe_not (pe_callB call_isi (by rfl) M.isin (by decide +kernel) (pa_cons (pv 0) (pa_cons (pe_bltn (v := .ty "bool") (by rfl) M.bool (by decide +kernel) rfl) pa_nil))))))), ?_⟩
  refine ⟨_, rfl, v, .ty "int", t, .type "int", b1, rfl, .ty _, ty, k1, b1, rfl, ?_⟩
  cases b1 with
  | false => exact iteF q
  | true => exact iteT ⟨_, rfl, v, .ty "bool", t, .type "bool", b2, rfl, .ty _, ty, k2, b2, rfl, q⟩
end

abbrev sIsList : Stmt := top 11
abbrev sBelow : Stmt := top 12
abbrev sNumList : Stmt := top 13
abbrev sAreRows : Stmt := top 18
abbrev sWrong : Stmt := top 19
theorem TyX.same {K : PySem.W.Frag} {H G : Hp} (s : Same H G) {v : V} {t : Value} (h : TyX K H v t) : TyX K G v t := by
  cases h with
  | base b =>
    cases b with
    | non => exact .base .non
    | bl b => exact .base (.bl b)
    | int i => exact .base (.int i)
    | str x => exact .base (.str x)
    | flt x => exact .base (.flt x)
    | lst e => exact .base (.lst (s _ _ e))
    | frz e => exact .base (.frz (s _ _ e))
    | tup e => exact .base (.tup (s _ _ e))
    | dK e => exact .base (.dK (s _ _ e))
    | dT e => exact .base (.dT (s _ _ e))
    | ins e a b c d f => exact .base (.ins (s _ _ e) a b c d f)
  | byt b => exact .byt b
  | set e => exact .set (s _ _ e)
  | kList e c => exact .kList e c
  | kTuple e c => exact .kTuple e c
  | kDict e c => exact .kDict e c
  | fTuple e => exact .fTuple (s _ _ e)
  | fDict e => exact .fDict (s _ _ e)
theorem Isi.same {K : PySem.W.Frag} {H G : Hp} (s : Same H G) {v : V} {a b : Bool} (h : Isi K H v a b) : Isi K G v a b := let ⟨t, h1, h2, h3⟩ := h; ⟨t, TyX.same s h1, h2, h3⟩
theorem Same.tup {K : PySem.W.Frag} {H H' : Hp} {a : Addr} {xs : List V} (e : Same H H') (h : SqT K H a xs) : SqT K H' a xs := by
  rcases h with (h | ⟨o, h⟩) | h
  · exact .inl (.inl (e _ _ h))
  · exact .inl (.inr ⟨o, e _ _ h⟩)
  · exact .inr h
theorem Same.new {H : Hp} {p : Addr} (h : H p = none) (o : HO) : Same H (upd H p o) := fun b u e => by rw [upd_ne (ne_of_none e h)]; exact e
/-- a list or a tuple is to be read at v -/
def Sq (K : PySem.W.Frag) (H : Hp) (v : V) (xs : List V) : Prop := ∃ a, v = .ref a ∧ (SqL K H a xs ∨ SqT K H a xs)
theorem Sq.same {K : PySem.W.Frag} {H G : Hp} {v : V} {xs : List V} (s : Same H G) (h : Sq K H v xs) : Sq K G v xs := let ⟨a, e, h⟩ := h; ⟨a, e, h.imp (fun z => Same.seq s z) (fun z => Same.tup s z)⟩
theorem SqL.ty {K : PySem.W.Frag} {H : Hp} {a : Addr} {xs : List V} (h : SqL K H a xs) : TyX K H (.ref a) (.type "list") := by
  rcases h with (h | ⟨o, h⟩) | ⟨o, its, n, h, c, _⟩
  · exact .base (.lst h)
  · exact .base (.frz h)
  · exact .kList h c
theorem SqT.ty {K : PySem.W.Frag} {H : Hp} {a : Addr} {xs : List V} (h : SqT K H a xs) : TyX K H (.ref a) (.type "tuple") := by
  rcases h with (h | ⟨o, h⟩) | ⟨o, its, n, h, c, _⟩
  · exact .base (.tup h)
  · exact .fTuple h
  · exact .kTuple h c
theorem Sq.ty {K : PySem.W.Frag} {H : Hp} {v : V} {xs : List V} (h : Sq K H v xs) : ∃ t, TyX K H v t ∧ PySem.W.kitAny K t [.type "list", .type "tuple"] = some true := by
  obtain ⟨a, rfl, h | h⟩ := h
  · exact ⟨_, SqL.ty h, kitAny_cons (b := true) (kit_ty (by decide +kernel)) (fun z => nomatch z) fun _ => rfl⟩
  · exact ⟨_, SqT.ty h, kitAny_cons (b := false) (kit_ty (by decide +kernel)) (fun _ => kitAny_cons (b := true) (kit_ty (by decide +kernel)) (fun z => nomatch z) fun _ => rfl) fun z => nomatch z⟩
/-- no list and no tuple -/
def NoSq (K : PySem.W.Frag) (H : Hp) (v : V) : Prop := ∃ t, TyX K H v t ∧ PySem.W.kitAny K t [.type "list", .type "tuple"] = some false
theorem NoSq.same {K : PySem.W.Frag} {H G : Hp} {v : V} (s : Same H G) (h : NoSq K H v) : NoSq K G v := let ⟨t, a, b⟩ := h; ⟨t, TyX.same s a, b⟩
/-- an item: an int, or something that is_integer refuses -/
def Itm (K : PySem.W.Frag) (H : Hp) (v : V) : Prop := (∃ i, v = .int i) ∨ ((∀ i, v ≠ .int i) ∧ ∃ b1 b2, Isi K H v b1 b2 ∧ (b1 && !b2) = false)
theorem Itm.same {K : PySem.W.Frag} {H G : Hp} {v : V} (s : Same H G) (h : Itm K H v) : Itm K G v := h.imp id fun ⟨a, b1, b2, c, d⟩ => ⟨a, b1, b2, c.same s, d⟩
def nb (lim : Int) : V → Bool
  | .int i => decide (0 ≤ i) && decide (i < lim)
  | _ => false
def spIsList (K : PySem.W.Frag) : Sp := fun vs H Q _ => ∃ v lo hi, vs = [v, .int lo, .int hi] ∧
  ((∃ xs, Sq K H v xs ∧ ∀ H', Same H H' → Q (.bl (decide (lo ≤ (xs.length : Int)) && decide ((xs.length : Int) ≤ hi))) H') ∨ (NoSq K H v ∧ ∀ H', Same H H' → Q (.bl false) H'))
def spBelow (K : PySem.W.Frag) : Sp := fun vs H Q _ => ∃ v lim, vs = [v, .int lim] ∧ Itm K H v ∧ Q (.bl (nb lim v)) H
def spNumList (K : PySem.W.Frag) : Sp := fun vs H Q _ => ∃ v lo hi lim, vs = [v, .int lo, .int hi, .int lim] ∧
  ((∃ xs, Sq K H v xs ∧ (∀ x, x ∈ xs → Itm K H x) ∧ xs.length < 1000000 ∧ ∀ H', Same H H' → Q (.bl (decide (lo ≤ (xs.length : Int)) && decide ((xs.length : Int) ≤ hi) && xs.all (nb lim))) H') ∨ (NoSq K H v ∧ ∀ H', Same H H' → Q (.bl false) H'))
section
variable {P : Program} {w : World} {K : PySem.W.Frag} {mg : Str → Option Value} {base : Heap} {f g gn : Addr} {fd gd gnd : FuncData}
theorem scIsList : FnScope ["value", "least", "most"] ["value", "least", "most"] (defScope sIsList) := ⟨rfl, rfl, rfl, by decide +kernel, rfl, by decide +kernel, by decide +kernel⟩
theorem ok_islist (F : Fun K "is_list" "is_list" sIsList f fd) (M : Mn mg) : FnOk P w K mg base CX0 1 f fd ["value", "least", "most"] (spIsList K) := by
  refine F.ok scIsList (fun vs H Q E h => ?_) (fun cdv A outer s H vs Q E hr h => ?_)
  · obtain ⟨v, lo, hi, rfl, _⟩ := h
    rfl
  obtain ⟨v, lo, hi, rfl, h⟩ := h
  refine ⟨_, pss_one (ps_ret (pe_and (pe_callB call_isiT (by rfl) M.isin (by decide +kernel) (pa_cons (pv 0) (pa_cons (pe_tup (pa_cons (pe_bltn (v := .ty "list") (by rfl) M.list (by decide +kernel) rfl)
      (pa_cons (pe_bltn (v := .ty "tuple") (by rfl) M.tuple (by decide +kernel) rfl) pa_nil))) pa_nil)))
    (pe_one (pe_chain op_le op_le (pv 1) (pe_callB call_len_seq (by rfl) M.len PySem.boot_len (pa_cons (pv 0) pa_nil)) (pv 2))))), ?_⟩
  refine ⟨_, rfl, (by show 2 ≤ sizeLine; decide), fun tp htp => ?_⟩
  have ss := Same.new htp (.tup [V.ty "list", V.ty "tuple"])
  rcases h with ⟨xs, hs, q⟩ | ⟨hs, q⟩
  · obtain ⟨t, ty, kt⟩ := (hs.same ss).ty
    refine ⟨v, tp, _, t, _, true, rfl, upd_same, .cons (.ty _) (.cons (.ty _) .nil), ty, kt, true, rfl, iteT ?_⟩
    obtain ⟨a, rfl, hs2⟩ := hs.same ss
    refine ⟨_, rfl, _, rfl, a, xs, rfl, hs2, _, _, rfl, rfl, _, rfl, ?_⟩
    refine ite2 (fun c => ⟨_, rfl, _, _, rfl, rfl, ?_⟩) (fun c => ?_)
    · have q' := q _ ss
      rw [c] at q'
      exact q'
    · have q' := q _ ss
      rw [Bool.eq_false_iff.mpr c] at q'
      exact q'
  · obtain ⟨t, ty, kt⟩ := hs.same ss
    exact ⟨v, tp, _, t, _, false, rfl, upd_same, .cons (.ty _) (.cons (.ty _) .nil), ty, kt, false, rfl, iteF (q _ ss)⟩
theorem scBelow : FnScope ["value", "limit"] ["value", "limit"] (defScope sBelow) := ⟨rfl, rfl, rfl, by decide +kernel, rfl, by decide +kernel, by decide +kernel⟩
theorem ok_below (F : Fun K "is_number_below" "is_number_below" sBelow f fd) (G : FnOk P w K mg base CX0 1 g gd ["value"] (spIsInt K)) (bG : Binds K gd ["value"] []) (kG : PySem.W.keepIn K (.ref g) = true) (mG : mg "is_integer" = some (.ref g)) :
    FnOk P w K mg base CX0 2 f fd ["value", "limit"] (spBelow K) := by
  refine F.ok scBelow (fun vs H Q E h => ?_) (fun cdv A outer s H vs Q E hr h => ?_)
  · obtain ⟨v, lim, rfl, _⟩ := h
    rfl
  obtain ⟨v, lim, rfl, h, q⟩ := h
  refine ⟨_, pss_one (ps_ret (pe_and (pe_call G hr rfl mG kG bG .nil pass0 (pa_cons (pv 0) pa_nil)) (pe_one (pe_chain op_le op_lt pe_int (pv 0) (pv 1))))), ?_⟩
  rcases h with ⟨i, rfl⟩ | ⟨ni, b1, b2, hi, hb⟩
  · refine ⟨_, rfl, _, true, false, rfl, ⟨_, .base (.int i), kit_ty (by decide +kernel), kit_ty (by decide +kernel)⟩, true, rfl, iteT ⟨_, rfl, _, _, rfl, rfl, _, rfl, ?_⟩⟩
    refine ite2 (fun c => ⟨_, rfl, _, _, rfl, rfl, ?_⟩) (fun c => ?_)
    · have e : nb lim (.int i) = decide (i < lim) := by show (decide (0 ≤ i) && decide (i < lim)) = _; rw [c]; rfl
      rw [e] at q
      exact q
    · have e : nb lim (.int i) = false := by show (decide (0 ≤ i) && decide (i < lim)) = _; rw [Bool.eq_false_iff.mpr c]; rfl
      rw [e] at q
      exact q
  · refine ⟨_, rfl, v, b1, b2, rfl, hi, _, rfl, ?_⟩
    rw [hb]
    have e : nb lim v = false := by
      cases v with
      | int i => exact absurd rfl (ni i)
      | _ => rfl
    rw [e] at q
    exact iteF q
theorem scNumList : FnScope ["value", "least", "most", "limit", "item"] ["value", "least", "most", "limit"] (defScope sNumList) := ⟨rfl, rfl, rfl, by decide +kernel, rfl, by decide +kernel, by decide +kernel⟩
theorem ok_numlist (F : Fun K "is_number_list" "is_number_list" sNumList f fd) (M : Mn mg)
    (G : FnOk P w K mg base CX0 1 g gd ["value", "least", "most"] (spIsList K)) (bG : Binds K gd ["value", "least", "most"] []) (kG : PySem.W.keepIn K (.ref g) = true) (mG : mg "is_list" = some (.ref g))
    (N : FnOk P w K mg base CX0 2 gn gnd ["value", "limit"] (spBelow K)) (bN : Binds K gnd ["value", "limit"] []) (kN : PySem.W.keepIn K (.ref gn) = true) (mN : mg "is_number_below" = some (.ref gn)) :
    FnOk P w K mg base CX0 3 f fd ["value", "least", "most", "limit"] (spNumList K) := by
  refine F.ok scNumList (fun vs H Q E h => ?_) (fun cdv A outer s H vs Q E hr h => ?_)
  · obtain ⟨v, lo, hi, lim, rfl, _⟩ := h
    rfl
  obtain ⟨v, lo, hi, lim, rfl, h⟩ := h
  have hr1 : Room 1 _ := hr.mono (by decide)
  rcases h with ⟨xs, hs, ht, hz, q⟩ | ⟨hs, q⟩
  · -- a list or a tuple: the walk over it is one of two
    have key : ∀ (D : Addr) (G : Hp), Same H G → G D = none → ∀ (i : Nat) (J : Hp), (Same H J ∧ J D = some (.lst (((xs.take i).map (nb lim)).map V.bl))) → ∀ x, xs[i]? = some x → Itm K J x ∧
        ∃ acc, J D = some (.lst acc) ∧ acc.length < sizeLine ∧ (Same H (upd J D (.lst (acc ++ [V.bl (nb lim x)]))) ∧ (upd J D (.lst (acc ++ [V.bl (nb lim x)]))) D = some (.lst (((xs.take (i + 1)).map (nb lim)).map V.bl))) := by
      intro D G sG hD i J ⟨sJ, eD⟩ x hx
      have hD0 : H D = none := sG.free hD
      refine ⟨(ht x (List.mem_of_getElem? hx)).same sJ, _, eD, ?_, fun b o e => by rw [upd_ne (ne_of_none e hD0)]; exact sJ b o e, ?_⟩
      · rw [List.length_map, List.length_map, List.length_take, sizeLine_eq]; omega
      · rw [upd_same, List.take_add_one, hx, List.map_append, List.map_append]; rfl
    have fin : ∀ (D : Addr) (J : Hp), (Same H J ∧ J D = some (.lst (((xs.take xs.length).map (nb lim)).map V.bl))) → (decide (lo ≤ (xs.length : Int)) && decide ((xs.length : Int) ≤ hi)) = true → rAll K [.ref D] J Q := by
      intro D J ⟨sJ, eD⟩ hc
      rw [List.take_length] at eD
      refine ⟨D, _, rfl, SqL.of eD, ?_⟩
      have e2 : (xs.map (nb lim)).all id = xs.all (nb lim) := by rw [List.all_map]; rfl
      have q' := q J sJ
      rw [hc] at q'
      rw [e2]
      exact q'
    obtain ⟨a, rfl, hl | hl⟩ := id hs
    · refine ⟨_, pss_one (ps_ret (pe_and (pe_call G hr1 rfl mG kG bG .nil pass0 (pa_cons (pv 0) (pa_cons (pv 1) (pa_cons (pv 2) pa_nil))))
        (pe_one (pe_callB (cr_all rfl) (by rfl) M.all (by decide +kernel) (pa_cons (pe_lc (own := [("item", 4)]) (g := gName 4) (tt := tYes) rfl scNumList.nd (pi_list (pv 0))
          (blkOk_by (N := ["value", "least", "most", "limit", "item"]) (sc := defScope sNumList) (by decide +kernel)) (fun _ _ _ _ _ => pg_name (i := 4) scNumList.nd rfl (Or.inl rfl)) (fun _ _ _ _ _ => pts_nil)
          (fun _ _ _ _ _ => pe_call N hr rfl mN kN bN .nil pass0 (pa_cons (pv 4) (pa_cons (pv 3) pa_nil)))) pa_nil))))), ?_⟩
      refine ⟨_, rfl, _, rfl, _, rfl, _, lo, hi, rfl, .inl ⟨xs, hs, fun G sG => ⟨_, rfl, ite2 (fun c => ?_) (fun c => ?_)⟩⟩⟩
      · refine ⟨_, rfl, a, rfl, ⟨_, sG.seq hl⟩, fun D hD => lc_list (xs := xs) (fun i J => Same H J ∧ J D = some (.lst (((xs.take i).map (nb lim)).map V.bl)))
          ⟨fun b o e => by rw [upd_ne (ne_of_none (sG b o e) hD)]; exact sG b o e, upd_same⟩ (fun i J _ z => z.1.seq hl) (fun i x J hx z => ?_) fun J z => fin D J z c⟩
        obtain ⟨k1, k2⟩ := key D G sG hD i J z x hx
        exact ⟨rfl, _, rfl, _, rfl, x, lim, rfl, k1, k2⟩
      · have q' := q G sG
        rw [Bool.eq_false_iff.mpr c] at q'
        exact q'
    · refine ⟨_, pss_one (ps_ret (pe_and (pe_call G hr1 rfl mG kG bG .nil pass0 (pa_cons (pv 0) (pa_cons (pv 1) (pa_cons (pv 2) pa_nil))))
        (pe_one (pe_callB (cr_all rfl) (by rfl) M.all (by decide +kernel) (pa_cons (pe_lc (own := [("item", 4)]) (g := gName 4) (tt := tYes) rfl scNumList.nd (pi_tup (pv 0))
          (blkOk_by (N := ["value", "least", "most", "limit", "item"]) (sc := defScope sNumList) (by decide +kernel)) (fun _ _ _ _ _ => pg_name (i := 4) scNumList.nd rfl (Or.inl rfl)) (fun _ _ _ _ _ => pts_nil)
          (fun _ _ _ _ _ => pe_call N hr rfl mN kN bN .nil pass0 (pa_cons (pv 4) (pa_cons (pv 3) pa_nil)))) pa_nil))))), ?_⟩
      refine ⟨_, rfl, _, rfl, _, rfl, _, lo, hi, rfl, .inl ⟨xs, hs, fun G sG => ⟨_, rfl, ite2 (fun c => ?_) (fun c => ?_)⟩⟩⟩
      · refine ⟨_, rfl, a, rfl, ⟨_, Same.tup sG hl⟩, fun D hD => lc_tup (xs := xs) (fun i J => Same H J ∧ J D = some (.lst (((xs.take i).map (nb lim)).map V.bl)))
          ⟨fun b o e => by rw [upd_ne (ne_of_none (sG b o e) hD)]; exact sG b o e, upd_same⟩ (fun i J _ z => Same.tup z.1 hl) (fun i x J hx z => ?_) fun J z => fin D J z c⟩
        obtain ⟨k1, k2⟩ := key D G sG hD i J z x hx
        exact ⟨rfl, _, rfl, _, rfl, x, lim, rfl, k1, k2⟩
      · have q' := q G sG
        rw [Bool.eq_false_iff.mpr c] at q'
        exact q'
  · refine ⟨_, pss_one (ps_ret (pe_and (pe_call G hr1 rfl mG kG bG .nil pass0 (pa_cons (pv 0) (pa_cons (pv 1) (pa_cons (pv 2) pa_nil))))
        (pe_one (pe_callB (cr_all rfl) (by rfl) M.all (by decide +kernel) (pa_cons (pe_lc (own := [("item", 4)]) (g := gName 4) (tt := tYes) rfl scNumList.nd (pi_list (pv 0))
          (blkOk_by (N := ["value", "least", "most", "limit", "item"]) (sc := defScope sNumList) (by decide +kernel)) (fun _ _ _ _ _ => pg_name (i := 4) scNumList.nd rfl (Or.inl rfl)) (fun _ _ _ _ _ => pts_nil)
          (fun _ _ _ _ _ => pe_call N hr rfl mN kN bN .nil pass0 (pa_cons (pv 4) (pa_cons (pv 3) pa_nil)))) pa_nil))))), ?_⟩
    exact ⟨_, rfl, _, rfl, _, rfl, v, lo, hi, rfl, .inr ⟨hs, fun G sG => ⟨_, rfl, iteF (q G sG)⟩⟩⟩
end

abbrev sInit : Stmt := inClass (top 16) 0
section
variable {X : Cx}
/-- what a for walks: a list or a tuple -/
def iSq (K : PySem.W.Frag) (tl : TE) : TI := fun σ H R => iList K tl σ H R ∨ iTup K tl σ H R
theorem pi_sq {tg l : Expr} {tl : TE} (h : PE X l tl) : PI X tg l (iSq X.K tl) := ⟨fun pins s σ H R I q => q.elim (fun z => (pi_list h).run pins s σ H R I z) fun z => (pi_tup h).run pins s σ H R I z⟩
theorem isq_of {K : PySem.W.Frag} {i : Nat} {σ : L2.St} {H : Hp} {v : V} {xs : List V} {R : It → Hp → Prop} (e : σ[i]? = some (some v)) (h : Sq K H v xs) (k : ∀ J, Walk J xs.length (Same H) (YAt xs) → R J H) : iSq K (tVar i) σ H R := by
  obtain ⟨a, rfl, h | h⟩ := h
  · exact .inl ⟨_, e, a, rfl, ⟨_, h⟩, k _ (walk_list.mono (fun G s => s.seq h) fun _ _ _ _ _ _ y => y)⟩
  · exact .inr ⟨_, e, a, rfl, ⟨_, h⟩, k _ (walk_tup.mono (fun G s => Same.tup s h) fun _ _ _ _ _ _ y => y)⟩
theorem rix_of {K : PySem.W.Frag} {H : Hp} {v x : V} {xs : List V} {z : Int} {i : Nat} {Q : VK} (h : Sq K H v xs) (ez : z = (i : Int)) (hx : xs[i]? = some x) (q : Q x H) : rIx K v (.int z) H Q := by
  obtain ⟨a, rfl, h | h⟩ := h
  · exact .inl ⟨a, xs, z, x, rfl, rfl, h, at_of ez hx, q⟩
  · exact .inr (.inl ⟨a, xs, z, x, rfl, rfl, h, at_of ez hx, q⟩)
theorem call_len_sq : CallR X (.builtin "len") (fun vs H Q => ∃ v xs, vs = [v] ∧ Sq X.K H v xs ∧ Q (.int xs.length) H) := by
  intro pins s σ H xs us Q I r h
  obtain ⟨v, ys, rfl, ⟨a, rfl, h⟩, q⟩ := h
  exact call_len_seq pins s σ H _ us Q I r ⟨a, ys, rfl, h, q⟩
end
/-- a row: a list or tuple of items, or neither -/
def RowD (K : PySem.W.Frag) (H : Hp) (x : V) : Option (List V) → Prop
  | some xs => Sq K H x xs ∧ (∀ y, y ∈ xs → Itm K H y) ∧ xs.length < 1000000
  | none => NoSq K H x
theorem RowD.same {K : PySem.W.Frag} {H G : Hp} (s : Same H G) {x : V} : ∀ {o : Option (List V)}, RowD K H x o → RowD K G x o
  | some xs, h => ⟨h.1.same s, fun y hy => (h.2.1 y hy).same s, h.2.2⟩
  | none, h => NoSq.same s h
def rb (n : Nat) : Option (List V) → Bool
  | some xs => decide ((n : Int) ≤ (xs.length : Int)) && decide ((xs.length : Int) ≤ (n : Int)) && xs.all (nb (n : Int))
  | none => false
def spAreRows (K : PySem.W.Frag) : Sp := fun vs H Q _ => ∃ v, vs = [v] ∧ ((NoSq K H v ∧ ∀ H', Same H H' → Q (.bl false) H') ∨
  ∃ rs os, Sq K H v rs ∧ Paired (RowD K H) rs os ∧ ∀ H', Same H H' → Q (.bl (decide ((1 : Int) ≤ (rs.length : Int)) && decide ((rs.length : Int) ≤ 16) && os.all (rb rs.length))) H')
theorem pair_at {α β : Type} {F : α → β → Prop} : ∀ {as : List α} {bs : List β} {i : Nat} {a : α}, Paired F as bs → as[i]? = some a → ∃ b, bs[i]? = some b ∧ F a b
  | _, _, _, _, .nil, e => by simp at e
  | _, _, 0, _, .cons h _, e => by simp at e; subst e; exact ⟨_, rfl, h⟩
  | _, _, i + 1, a, .cons _ t, e => by
    obtain ⟨b, h1, h2⟩ := pair_at (i := i) (a := a) t (by simpa using e)
    exact ⟨b, by simpa using h1, h2⟩
section
variable {P : Program} {w : World} {K : PySem.W.Frag} {mg : Str → Option Value} {base : Heap} {f g gn : Addr} {fd gd gnd : FuncData}
theorem scAreRows : FnScope ["rows", "size", "row"] ["rows"] (defScope sAreRows) := ⟨rfl, rfl, rfl, by decide +kernel, rfl, by decide +kernel, by decide +kernel⟩
theorem ok_arerows (F : Fun K "_are_rows" "_are_rows" sAreRows f fd) (M : Mn mg) (mL : ∃ t, mg "LARGEST_TABLE" = some (.int 16 t))
    (G : FnOk P w K mg base CX0 1 g gd ["value", "least", "most"] (spIsList K)) (bG : Binds K gd ["value", "least", "most"] []) (kG : PySem.W.keepIn K (.ref g) = true) (mG : mg "is_list" = some (.ref g))
    (N : FnOk P w K mg base CX0 3 gn gnd ["value", "least", "most", "limit"] (spNumList K)) (bN : Binds K gnd ["value", "least", "most", "limit"] []) (kN : PySem.W.keepIn K (.ref gn) = true) (mN : mg "is_number_list" = some (.ref gn)) :
    FnOk P w K mg base CX0 4 f fd ["rows"] (spAreRows K) := by
  refine F.ok scAreRows (fun vs H Q E h => ?_) (fun cdv A outer s H vs Q E hr h => ?_)
  · obtain ⟨v, rfl, _⟩ := h
    rfl
  obtain ⟨v, rfl, h⟩ := h
  obtain ⟨tok, mL⟩ := mL
  have hr1 : Room 1 _ := hr.mono (by decide)
  refine ⟨_, pss_cons (ps_if (pt_not (pt_val (pe_call G hr1 rfl mG kG bG .nil pass0 (pa_cons (pv 0) (pa_cons pe_int (pa_cons (pe_glob (v := .int 16) (by rfl) mL ⟨_, rfl⟩) pa_nil)))))) (pss_one (ps_ret pe_bl)) pss_nil)
    (pss_cons (ps_set (i := 1) scAreRows.nd rfl (Or.inr rfl) (pe_callB call_len_sq (by rfl) M.len PySem.boot_len (pa_cons (pv 0) pa_nil)))
    (pss_one (ps_ret (pe_callB (cr_all rfl) (by rfl) M.all (by decide +kernel) (pa_cons (pe_lc (own := [("row", 2)]) (g := gName 2) (tt := tYes) rfl scAreRows.nd (pi_sq (pv 0))
      (blkOk_by (N := ["rows", "size", "row"]) (sc := defScope sAreRows) (by decide +kernel)) (fun _ _ _ _ _ => pg_name (i := 2) scAreRows.nd rfl (Or.inl rfl)) (fun _ _ _ _ _ => pts_nil)
      (fun _ _ _ _ _ => pe_call N hr rfl mN kN bN .nil pass0 (pa_cons (pv 2) (pa_cons (pv 1) (pa_cons (pv 1) (pa_cons (pv 1) pa_nil)))))) pa_nil))))), ?_⟩
  rcases h with ⟨hs, q⟩ | ⟨rs, os, hs, pr, q⟩
  · exact ⟨_, rfl, v, 1, 16, rfl, .inr ⟨hs, fun J sJ => ⟨false, rfl, iteT (q J sJ)⟩⟩⟩
  · refine ⟨_, rfl, v, 1, 16, rfl, .inl ⟨rs, hs, fun J sJ => ⟨_, rfl, ?_⟩⟩⟩
    cases hc : (decide ((1 : Int) ≤ (rs.length : Int)) && decide ((rs.length : Int) ≤ 16)) with
    | false =>
      have q' := q J sJ
      rw [hc] at q'
      exact iteT q'
    | true =>
      have hl : rs.length ≤ 16 := by
        have := of_decide_eq_true (Bool.and_eq_true_iff.mp hc).2
        omega
      refine iteF ⟨_, rfl, v, rs, rfl, hs.same sJ, ?_⟩
      refine isq_of (v := v) rfl (hs.same sJ) fun It wk D hD => ?_
      refine lc_it wk (fun i J2 => Same J J2 ∧ J2 D = some (.lst (((os.take i).map (rb rs.length)).map V.bl))) ⟨fun b o e => by rw [upd_ne (ne_of_none e hD)]; exact e, upd_same⟩ (fun _ _ _ z => z.1) ?_ ?_
      · rintro i x Jz J2 hi ⟨s2, eD⟩ ⟨rfl, hx⟩
        obtain ⟨o, ho, hrow⟩ := pair_at pr hx
        have hrow' := hrow.same (sJ.trans s2)
        refine ⟨rfl, _, rfl, _, rfl, _, rfl, _, rfl, x, _, _, _, rfl, ?_⟩
        have fin : ∀ G2, Same J2 G2 → ∃ acc, G2 D = some (.lst acc) ∧ acc.length < sizeLine ∧ (Same J (upd G2 D (.lst (acc ++ [V.bl (rb rs.length o)]))) ∧ (upd G2 D (.lst (acc ++ [V.bl (rb rs.length o)]))) D = some (.lst (((os.take (i + 1)).map (rb rs.length)).map V.bl))) := fun G2 s3 => by
          refine ⟨_, s3 _ _ eD, ?_, fun b o e => by rw [upd_ne (ne_of_none e hD)]; exact s3 _ _ (s2 b o e), ?_⟩
          · rw [List.length_map, List.length_map, List.length_take, sizeLine_eq]; omega
          · rw [upd_same, List.take_add_one, ho, List.map_append, List.map_append]; rfl
        cases o with
        | none => exact .inr ⟨hrow', fun G2 s3 => fin G2 s3⟩
        | some xs => exact .inl ⟨xs, hrow'.1, hrow'.2.1, hrow'.2.2, fun G2 s3 => fin G2 s3⟩
      · rintro J2 ⟨s2, eD⟩
        have tk : os.take rs.length = os := by rw [show rs.length = os.length from pr.length]; exact List.take_length
        rw [tk] at eD
        refine ⟨D, _, rfl, SqL.of eD, ?_⟩
        have e2 : (os.map (rb rs.length)).all id = os.all (rb rs.length) := by rw [List.all_map]; rfl
        have q' := q J2 (sJ.trans s2)
        rw [hc] at q'
        rw [e2]
        exact q'
end
/-- the rows tb are to be read at v -/
def Rws (K : PySem.W.Frag) (H : Hp) (v : V) (tb : List (List Int)) : Prop := ∃ rs, Sq K H v rs ∧ Paired (fun x row => Sq K H x (row.map V.int)) rs tb
theorem Rws.same {K : PySem.W.Frag} {H G : Hp} (s : Same H G) {v : V} {tb : List (List Int)} (h : Rws K H v tb) : Rws K G v tb :=
  let ⟨rs, a, b⟩ := h
  ⟨rs, a.same s, L2.Paired.mapP b fun _ _ z => z.same s⟩
theorem Rws.len {K : PySem.W.Frag} {H : Hp} {v : V} {tb : List (List Int)} {rs : List V} (b : Paired (fun x row => Sq K H x (row.map V.int)) rs tb) : rs.length = tb.length := b.length
/-- rows[i], then its item j -/
theorem Rws.at_ {K : PySem.W.Frag} {H : Hp} {v : V} {tb : List (List Int)} (h : Rws K H v tb) (S : Sqr tb) {i : Nat} (hi : i < tb.length) :
    ∃ rs x, Sq K H v rs ∧ rs[i]? = some x ∧ Sq K H x ((tb.getD i []).map V.int) ∧ ∀ j, j < tb.length → ((tb.getD i []).map V.int)[j]? = some (.int (mu tb i j)) := by
  obtain ⟨rs, a, b⟩ := h
  have hi' : i < rs.length := by rw [b.length]; exact hi
  obtain ⟨row, h1, h2⟩ := pair_at b (List.getElem?_eq_getElem hi')
  have e : tb.getD i [] = row := by rw [List.getD_eq_getElem?_getD, h1]; rfl
  refine ⟨rs, rs[i], a, List.getElem?_eq_getElem hi', by rw [e]; exact h2, fun j hj => ?_⟩
  have hr : row.length = tb.length := S.row row (List.mem_of_getElem? h1)
  unfold mu
  rw [e, List.getElem?_map, List.getElem?_eq_getElem (by omega), List.getD_eq_getElem?_getD, List.getElem?_eq_getElem (by omega)]
  rfl
def lexlt (x y : Nat × Nat × Nat) : Prop := x.1 < y.1 ∨ (x.1 = y.1 ∧ (x.2.1 < y.2.1 ∨ (x.2.1 = y.2.1 ∧ x.2.2 < y.2.2)))
def spWrong (K : PySem.W.Frag) : Sp := fun vs H Q _ => ∃ v tb, vs = [v] ∧ Rws K H v tb ∧ Sqr tb ∧
  ((∀ a b c, a < tb.length → b < tb.length → c < tb.length → rt tb a b c) → Q .non H) ∧
  (∀ a b c, a < tb.length → b < tb.length → c < tb.length → ¬ rt tb a b c →
    (∀ a' b' c', a' < tb.length → b' < tb.length → c' < tb.length → lexlt (a', b', c') (a, b, c) → rt tb a' b' c') → ∀ p, H p = none → Q (.ref p) (upd H p (.tup [.int a, .int b, .int c])))
/-- a product table stands at p -/
structure TbA (K : PySem.W.Frag) (C : Addr) (H : Hp) (p : Addr) (tb : List (List Int)) : Prop where
  ob : ∃ dx t rs, H p = some (.ins C dx [("_rows", .ref t)]) ∧ SqT K H t rs ∧ Paired (fun x row => ∃ r, x = V.ref r ∧ SqT K H r (row.map V.int)) rs tb
def spInit (K : PySem.W.Frag) (C : Addr) : Sp := fun vs H Q _ => ∃ p dx v tb, vs = [.ref p, v] ∧ H p = some (.ins C dx []) ∧ Rws K H v tb ∧ Sqr tb ∧ (∀ a b c, a < tb.length → b < tb.length → c < tb.length → rt tb a b c) ∧
  (∀ a, v = .ref a → a ≠ p) ∧ ∀ H', TbA K C H' p tb → (∀ b o, b ≠ p → H b = some o → H' b = some o) → Q .non H'
section
variable {P : Program} {w : World} {K : PySem.W.Frag} {mg : Str → Option Value} {base : Heap} {f g gn : Addr} {fd gd gnd : FuncData}
theorem scWrong : FnScope ["rows", "size", "a", "b", "c"] ["rows"] (defScope sWrong) := ⟨rfl, rfl, rfl, by decide +kernel, rfl, by decide +kernel, by decide +kernel⟩
theorem ok_wrong (F : Fun K "_first_wrong_triple" "_first_wrong_triple" sWrong f fd) (M : Mn mg) : FnOk P w K mg base CX0 1 f fd ["rows"] (spWrong K) := by
  refine F.ok scWrong (fun vs H Q E h => ?_) (fun cdv A outer s H vs Q E hr h => ?_)
  · obtain ⟨v, tb, rfl, _⟩ := h
    rfl
  obtain ⟨v, tb, rfl, hR, S, q1, q2⟩ := h
  have ix : ∀ {X : Cx}, IxR X (rIx X.K) := fun {X} => ix_seq
  refine ⟨_, pss_cons (ps_set (i := 1) scWrong.nd rfl (Or.inl rfl) (pe_callB call_len_sq (by rfl) M.len PySem.boot_len (pa_cons (pv 0) pa_nil)))
    (pss_cons (ps_for PassesOwn.never rfl (pi_range1 (by rfl) M.range (pa_cons (pv 1) pa_nil)) (pg_name (i := 2) scWrong.nd rfl (Or.inl rfl))
      (pss_one (ps_for PassesOwn.never rfl (pi_range1 (by rfl) M.range (pa_cons (pv 1) pa_nil)) (pg_name (i := 3) scWrong.nd rfl (Or.inl rfl))
        (pss_one (ps_for PassesOwn.never rfl (pi_range1 (by rfl) M.range (pa_cons (pv 1) pa_nil)) (pg_name (i := 4) scWrong.nd rfl (Or.inl rfl))
          (pss_one (ps_if (pt_cmpR op_ne (pe_ix ix_seq (pe_ix ix_seq (pv 0) (pe_ix ix_seq (pe_ix ix_seq (pv 0) (pv 2) (fun _ _ => rfl)) (pv 3) (fun _ _ => rfl)) (fun _ _ => rfl)) (pv 4) (fun _ _ => rfl))
            (pe_ix ix_seq (pe_ix ix_seq (pv 0) (pv 2) (fun _ _ => rfl)) (pe_ix ix_seq (pe_ix ix_seq (pv 0) (pv 3) (fun _ _ => rfl)) (pv 4) (fun _ _ => rfl)) (fun _ _ => rfl)) (nomark _))
            (pss_one (ps_ret (pe_tup (pa_cons (pv 2) (pa_cons (pv 3) (pa_cons (pv 4) pa_nil)))))) pss_nil)))))))
    (pss_one (ps_ret pe_non))), ?_⟩
  have n16 := S.ge
  obtain ⟨rs0, hs0, pr0⟩ := id hR
  have l0 : rs0.length = tb.length := pr0.length
  refine ⟨_, rfl, v, rs0, rfl, hs0, ?_⟩
  rw [l0]
  refine ⟨_, rfl, (tb.length : Int), rfl, by omega, by omega, ?_⟩
  refine for_range (lo := 0) (n := tb.length) (fun a σ J => H = J ∧ (∃ x y z, σ = [some v, some (.int tb.length), x, y, z]) ∧ ∀ a' b c, a' < a → b < tb.length → c < tb.length → rt tb a' b c)
    ⟨rfl, ⟨_, _, _, rfl⟩, fun _ _ _ z => absurd z (Nat.not_lt_zero _)⟩ ?_ ?_
  · rintro a _ _ ha ⟨rfl, ⟨x, y, z, rfl⟩, hA⟩
    refine ⟨_, rfl, (tb.length : Int), rfl, by omega, by omega, ?_⟩
    refine for_range (lo := 0) (n := tb.length) (fun b σ J => H = J ∧ (∃ y z, σ = [some v, some (.int tb.length), some (.int (0 + (a : Int))), y, z]) ∧ ∀ b' c, b' < b → c < tb.length → rt tb a b' c)
      ⟨rfl, ⟨_, _, rfl⟩, fun _ _ z => absurd z (Nat.not_lt_zero _)⟩ ?_ ?_
    · rintro b _ _ hb ⟨rfl, ⟨y, z, rfl⟩, hB⟩
      refine ⟨_, rfl, (tb.length : Int), rfl, by omega, by omega, ?_⟩
      refine for_range (lo := 0) (n := tb.length) (fun c σ J => H = J ∧ (∃ z, σ = [some v, some (.int tb.length), some (.int (0 + (a : Int))), some (.int (0 + (b : Int))), z]) ∧ ∀ c', c' < c → rt tb a b c')
        ⟨rfl, ⟨_, rfl⟩, fun _ z => absurd z (Nat.not_lt_zero _)⟩ ?_ ?_
      · rintro c _ _ hc ⟨rfl, ⟨z, rfl⟩, hC⟩
        obtain ⟨ra, xa, sa, ea, ta, ga⟩ := hR.at_ S ha
        obtain ⟨rb', xb, sb, eb, tb', gb⟩ := hR.at_ S hb
        have e1 := S.el a b ha hb
        have e2 := S.el b c hb hc
        obtain ⟨rm, xm, sm, em, tm, gm⟩ := hR.at_ S (i := (mu tb a b).toNat) (by omega)
        refine ⟨_, rfl, _, rfl, _, rfl, rix_of sa (by omega) ea ⟨_, rfl, rix_of ta (by omega) (ga b hb) (rix_of sm (by omega) em ⟨_, rfl, rix_of tm (by omega) (gm c hc) ?_⟩)⟩⟩
        refine ⟨_, rfl, _, rfl, rix_of sa (by omega) ea ⟨_, rfl, _, rfl, rix_of sb (by omega) eb ⟨_, rfl, rix_of tb' (by omega) (gb c hc) (rix_of ta (i := (mu tb b c).toNat) (by omega) (ga _ (by omega)) ⟨rfl, _, rfl, ?_⟩)⟩⟩⟩
        have ed : ∀ x y : Int, (!decide (V.int x = V.int y)) = true ↔ x ≠ y := fun x y => by
          rw [Bool.not_eq_true', decide_eq_false_iff_not]
          exact ⟨fun h e => h (by rw [e]), fun h e => h (V.int.inj e)⟩
        refine ite2 (fun k => ?_) (fun k => ?_)
        · have nr : ¬ rt tb a b c := (ed _ _).mp k
          refine ⟨_, rfl, _, rfl, _, rfl, (by show 3 ≤ sizeLine; decide), fun p hp => ?_⟩
          have q' := q2 a b c ha hb hc nr (fun a' b' c' h1 h2 h3 hl => by
            rcases hl with hl | ⟨rfl, hl | ⟨rfl, hl⟩⟩
            · exact hA a' b' c' hl h2 h3
            · exact hB b' c' hl h3
            · exact hC c' hl) p hp
          have z0 : ∀ n : Nat, (0 : Int) + (n : Int) = (n : Int) := fun n => Int.zero_add _
          rw [z0, z0, z0]
          exact q'
        · refine ⟨rfl, ⟨_, rfl⟩, fun c' hc' => ?_⟩
          rcases Nat.lt_succ_iff_lt_or_eq.mp hc' with h | rfl
          · exact hC c' h
          · exact Classical.byContradiction fun nr => k ((ed _ _).mpr nr)
      · rintro _ _ ⟨rfl, ⟨z, rfl⟩, hC⟩
        refine ⟨rfl, ⟨_, _, rfl⟩, fun b' c' h1 h2 => ?_⟩
        rcases Nat.lt_succ_iff_lt_or_eq.mp h1 with h | rfl
        · exact hB b' c' h h2
        · exact hC c' h2
    · rintro _ _ ⟨rfl, ⟨y, z, rfl⟩, hB⟩
      refine ⟨rfl, ⟨_, _, _, rfl⟩, fun a' b' c' h1 h2 h3 => ?_⟩
      rcases Nat.lt_succ_iff_lt_or_eq.mp h1 with h | rfl
      · exact hA a' b' c' h h2 h3
      · exact hB b' c' h2 h3
  · rintro _ _ ⟨rfl, ⟨x, y, z, rfl⟩, hA⟩
    exact q1 fun a b c h1 h2 h3 => hA a b c h1 h2 h3
end

section
variable {X : Cx}
/-- x is not True, x an int or a truth value -/
theorem op_notIB : OpR X (compareOp .IsNot) (fun x y H Q => ∃ b : Bool, y = .bl b ∧ ((∃ a : Bool, x = .bl a ∧ Q (.bl (!decide (a = b))) H) ∨ (∃ i, x = .int i ∧ Q (.bl true) H))) := by
  intro pins s σ H x y v u Q I rx ry h
  obtain ⟨b, rfl, h⟩ := h
  cases (show u = Value.bool b from ry)
  rcases h with ⟨a, rfl, q⟩ | ⟨i, rfl, q⟩
  · cases (show v = Value.bool a from rx)
    by_cases e : a = b
    · subst e
      exact wpAny_isNot_self rfl ⟨.bl false, H, I, rfl, by simpa using q⟩
    · exact wpAny_isNot_other rfl (fun z => e (Value.bool.inj z)) ⟨.bl true, H, I, rfl, by simpa [e] using q⟩
  · obtain ⟨t, rfl⟩ := (show ∃ t, v = Value.int i t from rx)
    exact wpAny_isNot_other rfl (fun z => nomatch z) ⟨.bl true, H, I, rfl, q⟩
end
/-- tuple(x), the written part told -/
def rTpl (K : PySem.W.Frag) : List V → Hp → VK → Prop := fun xs H Q => ∃ (p : Addr) (ys : List V), xs = [.ref p] ∧ ((SqL K H p ys ∧ ∀ l, H l = none → Q (.ref l) (upd H l (.tup ys))) ∨ (SqT K H p ys ∧ Q (.ref p) H))
theorem ctuple {X : Cx} {K : PySem.W.Frag} (hK : X.K = K) : CallR X (.type "tuple") (rTpl K) := by
  subst hK
  exact call_tuple_of
/-- what the checks of a class's instances need of the class -/
structure CTx (K : PySem.W.Frag) (mg : Str → Option Value) (C : Addr) : Prop where
  cl : Cls K C
  nR : NoAttr K C "_rows"
  mgC : mg "ProductTable" = some (.ref C)
theorem pair_map {α β γ : Type} {F : α → β → Prop} {G : α → γ → Prop} {g : β → γ} : ∀ {as : List α} {bs : List β}, Paired F as bs → (∀ a b, b ∈ bs → F a b → G a (g b)) → Paired G as (bs.map g)
  | _, _, .nil, _ => .nil
  | _, _, .cons h t, k => .cons (k _ _ List.mem_cons_self h) (pair_map t fun a b m => k a b (List.mem_cons_of_mem _ m))
theorem SqT.upd {K : PySem.W.Frag} {H : Hp} {p r C dx : Addr} {fs : List (Str × V)} {xs : List V} {o : HO} (hp : H p = some (.ins C dx fs)) (h : SqT K H r xs) : SqT K (upd H p o) r xs := by
  rcases h with (h | ⟨ob, h⟩) | h
  · exact .inl (.inl (by rw [upd_ne (ne_of h hp (by intro z; cases z))]; exact h))
  · exact .inl (.inr ⟨ob, by rw [upd_ne (ne_of h hp (by intro z; cases z))]; exact h⟩)
  · exact .inr h
theorem rows_true {tb : List (List Int)} (S : Sqr tb) : (decide ((1 : Int) ≤ (tb.length : Int)) && decide ((tb.length : Int) ≤ 16) && (tb.map fun row => some (row.map V.int)).all (rb tb.length)) = true := by
  have h1 := S.le
  have h2 := S.ge
  rw [decide_eq_true (show (1 : Int) ≤ (tb.length : Int) by omega), decide_eq_true (show (tb.length : Int) ≤ 16 by omega)]
  rw [List.all_map]
  show (tb.all _) = true
  rw [List.all_eq_true]
  intro row hr
  obtain ⟨i, hi, rfl⟩ := List.mem_iff_getElem.mp hr
  have hl := S.row _ hr
  show (decide ((tb.length : Int) ≤ ((tb[i].map V.int).length : Int)) && decide (((tb[i].map V.int).length : Int) ≤ (tb.length : Int)) && (tb[i].map V.int).all (nb (tb.length : Int))) = true
  rw [List.length_map, hl, decide_eq_true (Int.le_refl _), Bool.true_and, Bool.true_and, List.all_map, List.all_eq_true]
  intro m hm
  obtain ⟨j, hj, rfl⟩ := List.mem_iff_getElem.mp hm
  have e := S.el i j hi (by omega)
  have em : mu tb i j = tb[i][j] := by
    unfold mu
    rw [List.getD_eq_getElem?_getD, List.getD_eq_getElem?_getD, List.getElem?_eq_getElem hi]
    show (tb[i][j]?).getD 0 = _
    rw [List.getElem?_eq_getElem hj]; rfl
  rw [em] at e
  show (decide (0 ≤ tb[i][j]) && decide (tb[i][j] < (tb.length : Int))) = true
  rw [decide_eq_true e.1, decide_eq_true e.2]; rfl
theorem rows_rowd {K : PySem.W.Frag} {H : Hp} {tb : List (List Int)} {rs : List V} (S : Sqr tb) (h : Paired (fun x row => Sq K H x (row.map V.int)) rs tb) : Paired (RowD K H) rs (tb.map fun row => some (row.map V.int)) :=
  pair_map h fun x row hm z => ⟨z, fun y hy => by obtain ⟨i, _, rfl⟩ := List.mem_map.mp hy; exact .inl ⟨i, rfl⟩, by
    have h1 := S.row row hm
    have h2 := S.ge
    rw [List.length_map]; omega⟩
section
variable {P : Program} {w : World} {K : PySem.W.Frag} {mg : Str → Option Value} {base : Heap} {f g gn : Addr} {fd gd gnd : FuncData}
theorem scInit : FnScope ["self", "rows", "triple", "row"] ["self", "rows"] (defScope sInit) := ⟨rfl, rfl, rfl, by decide +kernel, rfl, by decide +kernel, by decide +kernel⟩
theorem ok_init {C : Addr} (F : Fun K "__init__" "ProductTable.__init__" sInit f fd) (M : Mn mg) (T : CTx K mg C)
    (G : FnOk P w K mg base CX0 4 g gd ["rows"] (spAreRows K)) (bG : Binds K gd ["rows"] []) (kG : PySem.W.keepIn K (.ref g) = true) (mG : mg "_are_rows" = some (.ref g))
    (N : FnOk P w K mg base CX0 1 gn gnd ["rows"] (spWrong K)) (bN : Binds K gnd ["rows"] []) (kN : PySem.W.keepIn K (.ref gn) = true) (mN : mg "_first_wrong_triple" = some (.ref gn)) :
    FnOk P w K mg base CX0 5 f fd ["self", "rows"] (spInit K C) := by
  refine F.ok scInit (fun vs H Q E h => ?_) (fun cdv A outer s H vs Q E hr h => ?_)
  · obtain ⟨p, dx, v, tb, rfl, _⟩ := h
    rfl
  obtain ⟨p, dx, v, tb, rfl, hp, hR, S, as, _, q⟩ := h
  have hr1 : Room 1 _ := hr.mono (by decide)
  refine ⟨_, pss_cons (ps_if (pt_not (pt_val (pe_call G hr rfl mG kG bG .nil pass0 (pa_cons (pv 1) pa_nil)))) pss_dead pss_nil)
    (pss_cons (ps_set (i := 2) scInit.nd rfl (Or.inl rfl) (pe_call N hr1 rfl mN kN bN .nil pass0 (pa_cons (pv 1) pa_nil)))
    (pss_cons (ps_if (pt_cmp (pc_notN (pv 2))) pss_dead pss_nil)
    (pss_one (ps_fld (pv 0) (pe_callTy call_tuple_of (by rfl) M.tuple (by decide +kernel) (pa_cons (pe_lc (own := [("row", 3)]) (g := gName 3) (tt := tYes) rfl scInit.nd (pi_sq (pv 1))
      (blkOk_by (N := ["self", "rows", "triple", "row"]) (sc := defScope sInit) (by decide +kernel)) (fun _ _ _ _ _ => pg_name (i := 3) scInit.nd rfl (Or.inl rfl)) (fun _ _ _ _ _ => pts_nil)
      (fun _ _ _ _ _ => pe_callTy (T := "tuple") (ctuple (K := K) rfl) (by rfl) M.tuple (by decide +kernel) (pa_cons (pv 3) pa_nil))) pa_nil)) rfl)))), ?_⟩
  obtain ⟨rs, hs, pr⟩ := id hR
  have ln : rs.length = tb.length := pr.length
  refine ⟨_, rfl, v, rfl, .inr ⟨rs, _, hs, rows_rowd S pr, fun J sJ => ⟨_, rfl, ?_⟩⟩⟩
  rw [ln, rows_true S]
  refine iteF ⟨_, rfl, v, tb, rfl, hR.same sJ, S, fun _ => ?_, fun a b c ha hb hc n => absurd (as a b c ha hb hc) n⟩
  refine ⟨_, rfl, _, rfl, iteF ?_⟩
  refine isq_of (v := v) rfl (hs.same sJ) fun It wk D hD => ?_
  rw [ln] at wk
  refine lc_it wk (fun i J2 => Same J J2 ∧ ∃ ts : List Addr, J2 D = some (.lst (ts.map V.ref)) ∧ ts.length = i ∧ Paired (fun r row => SqT K J2 r (row.map V.int)) ts (tb.take i))
    ⟨fun b o e => by rw [upd_ne (ne_of_none e hD)]; exact e, [], upd_same, rfl, .nil⟩ (fun _ _ _ z => z.1) ?_ ?_
  · rintro i x Jz J2 hi ⟨s2, ts, eD, lt, pt⟩ ⟨rfl, hx⟩
    obtain ⟨row, hrow, hsq⟩ := pair_at pr hx
    have tk : tb.take (i + 1) = tb.take i ++ [row] := by rw [List.take_add_one, hrow]; rfl
    have n16 := S.ge
    have app : ∀ {as : List Addr} {bs : List (List Int)} {F : Addr → List Int → Prop} {c : Addr} {kv : List Int}, Paired F as bs → F c kv → Paired F (as ++ [c]) (bs ++ [kv]) := by
      intro as bs F c kv h hc
      induction h with
      | nil => exact .cons hc .nil
      | cons h1 _ ih => exact .cons h1 ih
    have fin : ∀ (r : Addr) (J3 : Hp), Same J2 J3 → SqT K J3 r (row.map V.int) → ∃ acc, J3 D = some (.lst acc) ∧ acc.length < sizeLine ∧ (Same J (upd J3 D (.lst (acc ++ [V.ref r]))) ∧
        ∃ ts' : List Addr, (upd J3 D (.lst (acc ++ [V.ref r]))) D = some (.lst (ts'.map V.ref)) ∧ ts'.length = i + 1 ∧ Paired (fun c row => SqT K (upd J3 D (.lst (acc ++ [V.ref r]))) c (row.map V.int)) ts' (tb.take (i + 1))) := fun r J3 s3 hr3 => by
      have keep : ∀ {c : Addr} {xs : List V} {acc : List V}, SqT K J3 c xs → SqT K (upd J3 D (.lst acc)) c xs := fun {c xs acc} h => by
        have e3 := s3 _ _ eD
        rcases h with (h | ⟨ob, h⟩) | h
        · exact .inl (.inl (by rw [upd_ne (ne_of h e3 (by intro z; cases z))]; exact h))
        · exact .inl (.inr ⟨ob, by rw [upd_ne (ne_of h e3 (by intro z; cases z))]; exact h⟩)
        · exact .inr h
      refine ⟨_, s3 _ _ eD, ?_, fun b o e => by rw [upd_ne (ne_of_none e hD)]; exact s3 _ _ (s2 b o e), ts ++ [r], ?_, by simp [lt], ?_⟩
      · rw [List.length_map, lt, sizeLine_eq]; omega
      · rw [upd_same, List.map_append]; rfl
      · rw [tk]
        exact app (L2.Paired.mapP pt fun c row' h => keep (Same.tup s3 h)) (keep hr3)
    obtain ⟨a, rfl, ha | ha⟩ := hsq.same (sJ.trans s2)
    · exact ⟨rfl, _, rfl, a, _, rfl, .inl ⟨ha, fun l hl => fin l _ (Same.new hl _) (SqT.of upd_same)⟩⟩
    · exact ⟨rfl, _, rfl, a, _, rfl, .inr ⟨ha, fin a J2 (Same.refl _) ha⟩⟩
  · rintro J2 ⟨s2, ts, eD, lt, pt⟩
    rw [List.take_of_length_le (Nat.le_refl _)] at pt
    refine ⟨D, _, rfl, .inl ⟨SqL.of eD, fun t ht => ?_⟩⟩
    have s3 : Same H (upd J2 t (.tup (ts.map V.ref))) := (sJ.trans s2).trans (Same.new ht _)
    refine ⟨_, rfl, p, C, dx, [], rfl, s3 _ _ hp, T.cl, T.nR, (by show 0 < 1000; decide), ?_⟩
    refine q _ ⟨dx, t, ts.map V.ref, upd_same, SqT.upd (s3 _ _ hp) (SqT.of upd_same), ?_⟩ fun b o hb e => by rw [upd_ne hb]; exact s3 _ _ e
    have h1 : Paired (fun r row => SqT K (upd (upd J2 t (.tup (ts.map V.ref))) p (.ins C dx [("_rows", .ref t)])) r (row.map V.int)) ts tb := L2.Paired.mapP pt fun c row h => SqT.upd (s3 _ _ hp) (Same.tup (Same.new ht _) h)
    have h2 : ∀ {as : List Addr} {bs : List (List Int)} {Fn : Addr → List Int → Prop}, Paired Fn as bs → Paired (fun x row => ∃ r, x = V.ref r ∧ Fn r row) (as.map V.ref) bs := by
      intro as bs Fn h
      induction h with
      | nil => exact .nil
      | cons h1 _ ih => exact .cons ⟨_, rfl, h1⟩ ih
    exact h2 h1
end
end L

set_option Elab.async false
set_option linter.all false
set_option maxRecDepth 100000
set_option maxHeartbeats 4000000
namespace L
open PySem L2 KX
abbrev sPlain : Stmt := top 25
abbrev sExt : Stmt := top 26
abbrev sGrid : Stmt := top 27
abbrev sPairs : Stmt := top 29
/-- a list of lists of ints stands at v -/
def RowsL (G : Hp) (v : V) (tb : List (List Int)) : Prop := ∃ a rs, v = .ref a ∧ G a = some (.lst (rs.map V.ref)) ∧ Paired (fun r row => G r = some (.lst (row.map V.int))) rs tb
theorem RowsL.same {G J : Hp} {v : V} {tb : List (List Int)} (s : Same G J) (h : RowsL G v tb) : RowsL J v tb := let ⟨a, rs, e, h1, h2⟩ := h; ⟨a, rs, e, s _ _ h1, L2.Paired.mapP h2 fun _ _ z => s _ _ z⟩
theorem pair_refs {K : PySem.W.Frag} {G : Hp} {rs : List Addr} {tb : List (List Int)} (h : Paired (fun r row => G r = some (.lst (row.map V.int))) rs tb) : Paired (fun x row => Sq K G x (row.map V.int)) (rs.map V.ref) tb := by
  induction h with
  | nil => exact .nil
  | cons h _ ih => exact .cons ⟨_, rfl, .inl (SqL.of h)⟩ ih
theorem RowsL.rws {K : PySem.W.Frag} {G : Hp} {v : V} {tb : List (List Int)} (h : RowsL G v tb) : Rws K G v tb := let ⟨a, rs, e, h1, h2⟩ := h; ⟨rs.map V.ref, ⟨a, e, .inl (SqL.of h1)⟩, pair_refs h2⟩
theorem pair_app {α β : Type} {F : α → β → Prop} {as : List α} {bs : List β} {a : α} {b : β} (h : Paired F as bs) (k : F a b) : Paired F (as ++ [a]) (bs ++ [b]) := by
  induction h with
  | nil => exact .cons k .nil
  | cons h1 _ ih => exact .cons h1 ih
/-- a list of new rows is being made at fa -/
structure Part (H J : Hp) (fa : Addr) (rows : List (List Int)) : Prop where
  same : Same H J
  new : H fa = none
  at_ : ∃ rs, J fa = some (.lst (rs.map V.ref)) ∧ Paired (fun r row => r ≠ fa ∧ H r = none ∧ J r = some (.lst (row.map V.int))) rs rows
theorem Part.to {H J G : Hp} {fa : Addr} {rows : List (List Int)} (h : Part H J fa rows) (s : Same J G) : Part H G fa rows :=
  let ⟨rs, e, p⟩ := h.at_
  ⟨h.same.trans s, h.new, rs, s _ _ e, L2.Paired.mapP p fun _ _ z => ⟨z.1, z.2.1, s _ _ z.2.2⟩⟩
theorem Part.start {H G : Hp} {fa : Addr} (s : Same H G) (h : G fa = none) : Part H (upd G fa (.lst [])) fa [] := ⟨s.trans (Same.new h _), s.free h, [], upd_same, .nil⟩
theorem Part.add {H J G : Hp} {fa q : Addr} {rows : List (List Int)} {row : List Int} (h : Part H J fa rows) (s : Same J G) (n : J q = none) (e : G q = some (.lst (row.map V.int))) :
    ∃ acc, G fa = some (.lst acc) ∧ acc.length = rows.length ∧ Part H (upd G fa (.lst (acc ++ [V.ref q]))) fa (rows ++ [row]) := by
  obtain ⟨rs, e1, p⟩ := (h.to s).at_
  obtain ⟨rs0, e0, _⟩ := h.at_
  have nq : q ≠ fa := (ne_of_none e0 n).symm
  refine ⟨_, e1, by rw [List.length_map]; exact p.length, fun b o eb => ?_, h.new, rs ++ [q], by rw [upd_same, List.map_append]; rfl, ?_⟩
  · rw [upd_ne (ne_of_none eb h.new)]; exact (h.to s).same _ _ eb
  · refine pair_app (L2.Paired.mapP p fun r row z => ⟨z.1, z.2.1, by rw [upd_ne z.1]; exact z.2.2⟩) ⟨nq, h.same.free n, by rw [upd_ne nq]; exact e⟩
theorem Part.fin {H J : Hp} {fa : Addr} {tb : List (List Int)} (h : Part H J fa tb) : RowsL (nw H J) (.ref fa) tb :=
  let ⟨rs, e, p⟩ := h.at_
  ⟨fa, rs, rfl, by rw [nw_at h.new]; exact e, L2.Paired.mapP p fun _ _ z => by rw [nw_at z.2.1]; exact z.2.2⟩
/-- what a table's row holds ahead of place b -/
def rowTo (f : Nat → Nat → Nat) (a b : Nat) : List Int := (List.range b).map fun b => ((f a b : Nat) : Int)
theorem rowTo_next {f : Nat → Nat → Nat} {a b : Nat} : rowTo f a (b + 1) = rowTo f a b ++ [((f a b : Nat) : Int)] := by unfold rowTo; rw [List.range_succ, List.map_append]; rfl
theorem rowTo_len {f : Nat → Nat → Nat} {a b : Nat} : ((rowTo f a b).map V.int).length = b := by unfold rowTo; rw [List.length_map, List.length_map, List.length_range]
/-- the rows ahead of row a -/
def rowsTo (n : Nat) (f : Nat → Nat → Nat) (a : Nat) : List (List Int) := (List.range a).map fun a => rowTo f a n
theorem rowsTo_next {n : Nat} {f : Nat → Nat → Nat} {a : Nat} : rowsTo n f (a + 1) = rowsTo n f a ++ [rowTo f a n] := by unfold rowsTo; rw [List.range_succ, List.map_append]; rfl
theorem rowsTo_len {n : Nat} {f : Nat → Nat → Nat} {a : Nat} : (rowsTo n f a).length = a := by unfold rowsTo; rw [List.length_map, List.length_range]
theorem rowsTo_all {n : Nat} {f : Nat → Nat → Nat} : rowsTo n f n = tab n f := rfl
theorem z0 (n : Nat) : (0 : Int) + (n : Int) = (n : Int) := Int.zero_add _
def spPlain : Sp := fun vs H Q _ => ∃ kind n : Nat, vs = [.int kind, .int n] ∧ kind < 6 ∧ 1 ≤ n ∧ n ≤ 16 ∧ ∀ v H', RowsL (nw H H') v (tab n (fpl kind n)) → Same H H' → Q v H'
section
variable {P : Program} {w : World} {K : PySem.W.Frag} {mg : Str → Option Value} {base : Heap} {f g gn : Addr} {fd gd gnd : FuncData}
theorem scPlain : FnScope ["kind", "n", "found", "a", "row", "b", "some"] ["kind", "n"] (defScope sPlain) := ⟨rfl, rfl, rfl, by decide +kernel, rfl, by decide +kernel, by decide +kernel⟩
theorem ok_plain (F : Fun K "_law_plain" "_law_plain" sPlain f fd) (M : Mn mg) : FnOk P w K mg base CX0 1 f fd ["kind", "n"] spPlain := by
  refine F.ok scPlain (fun vs H Q E h => ?_) (fun cdv A outer s H vs Q E hr h => ?_)
  · obtain ⟨kind, n, rfl, _⟩ := h
    rfl
  obtain ⟨kind, n, rfl, hk, h1, h16, q⟩ := h
  refine ⟨_, pss_cons (ps_set (i := 2) scPlain.nd rfl (Or.inl rfl) (pe_lst pa_nil))
    (pss_cons (ps_for PassesOwn.never rfl (pi_range1 (by rfl) M.range (pa_cons (pv 1) pa_nil)) (pg_name (i := 3) scPlain.nd rfl (Or.inl rfl))
      (pss_cons (ps_set (i := 4) scPlain.nd rfl (Or.inl rfl) (pe_lst pa_nil))
      (pss_cons (ps_for PassesOwn.never rfl (pi_range1 (by rfl) M.range (pa_cons (pv 1) pa_nil)) (pg_name (i := 5) scPlain.nd rfl (Or.inl rfl))
        (pss_cons (ps_set (i := 6) scPlain.nd rfl (Or.inl rfl) (pe_lst (pa_cons (pv 3) (pa_cons (pv 5) (pa_cons (pe_callB (call_min2 rfl) (by rfl) M.min (by decide +kernel) (pa_cons (pv 3) (pa_cons (pv 5) pa_nil)))
          (pa_cons (pe_op op_mod (pe_op op_add (pv 3) (pv 5)) (pv 1)) pa_nil))))))
        (pss_one (ps_expr (pe_bm PySem.F.plainAttrs_list PySem.F.slot_list_append PySem.F.type_list_append mt_append (pv 4) (pa_cons (pe_ix ix_list (pe_op op_cat (pv 6)
          (pe_lst (pa_cons (pe_callB (call_min2 rfl) (by rfl) M.min (by decide +kernel) (pa_cons (pe_op op_add (pv 3) (pv 5)) (pa_cons (pe_op op_sub (pv 1) pe_int) pa_nil)))
            (pa_cons (pe_mo (pe_ifExp (pt_cmpR op_gt (pv 3) pe_int (nomark _)) (pv 3) (pv 5))) pa_nil)))) (pv 0) (fun _ _ => rfl)) pa_nil))))))
      (pss_one (ps_expr (pe_bm PySem.F.plainAttrs_list PySem.F.slot_list_append PySem.F.type_list_append mt_append (pv 2) (pa_cons (pv 4) pa_nil)))))))
    (pss_one (ps_ret (pv 2)))), ?_⟩
  refine ⟨(by show 0 ≤ sizeLine; decide), fun fa hfa => ?_⟩
  refine ⟨_, rfl, (n : Int), rfl, by omega, by omega, ?_⟩
  refine for_range (lo := 0) (n := (n : Int).toNat) (fun a σ J => Part H J fa (rowsTo n (fpl kind n) a) ∧ ∃ x3 x4 x5 x6, σ = [some (.int kind), some (.int n), some (.ref fa), x3, x4, x5, x6])
    ⟨Part.start (Same.refl H) hfa, _, _, _, _, rfl⟩ ?_ ?_
  · rintro a _ J ha ⟨pa, x3, x4, x5, x6, rfl⟩
    have ha' : a < n := by simpa using ha
    refine ⟨(by show 0 ≤ sizeLine; decide), fun qa hqa => ?_⟩
    refine ⟨_, rfl, (n : Int), rfl, by omega, by omega, ?_⟩
    refine for_range (lo := 0) (n := (n : Int).toNat) (fun b σ G => Same J G ∧ G qa = some (.lst ((rowTo (fpl kind n) a b).map V.int)) ∧ ∃ x5 x6, σ = [some (.int kind), some (.int n), some (.ref fa), some (.int (0 + (a : Int))), some (.ref qa), x5, x6])
      ⟨Same.new hqa _, upd_same, _, _, rfl⟩ ?_ ?_
    · rintro b _ G hb ⟨sG, eq, y5, y6, rfl⟩
      have hb' : b < n := by simpa using hb
      refine ⟨_, rfl, _, rfl, _, rfl, _, rfl, _, _, rfl, _, rfl, _, rfl, _, _, rfl, rfl, _, rfl, _, _, rfl, rfl, (by show (0 : Int) < (n : Int); omega), (by show 4 ≤ sizeLine; decide), fun sa hsa => ?_⟩
      have e1 : ∀ o, (upd G sa o) qa = some (.lst ((rowTo (fpl kind n) a b).map V.int)) := fun o => by rw [upd_ne (ne_of_none eq hsa)]; exact eq
      refine ⟨_, rfl, Or.inl ⟨rfl, _, SqL.of (e1 _)⟩, _, rfl, _, rfl, _, rfl, _, _, rfl, rfl, _, rfl, _, _, rfl, rfl, _, _, rfl, ?_⟩
      -- a if a > 0 else b
      refine ⟨fun x G1 => _ = G1 ∧ x = .int ((if 0 < a then a else b : Nat) : Int), ⟨_, rfl, _, _, rfl, rfl, _, rfl, ite2 (fun c => ⟨_, rfl, rfl, ?_⟩) (fun c => ⟨_, rfl, rfl, ?_⟩)⟩, ?_⟩
      · have c' : (0 : Int) < 0 + (a : Int) := of_decide_eq_true c
        rw [if_pos (show 0 < a by omega), z0]
      · have c' : ¬ (0 : Int) < 0 + (a : Int) := of_decide_eq_false (Bool.eq_false_iff.mpr c)
        rw [if_neg (show ¬ 0 < a by omega), z0]
      rintro _ _ ⟨rfl, rfl⟩
      refine ⟨(by show 2 ≤ sizeLine; decide), fun l2 hl2 => ?_⟩
      have s2 := Same.new hl2 (.lst [.int (if (n : Int) - 1 < 0 + (a : Int) + (0 + (b : Int)) then (n : Int) - 1 else 0 + (a : Int) + (0 + (b : Int))), .int ((if 0 < a then a else b : Nat) : Int)])
      refine ⟨sa, l2, _, _, rfl, rfl, s2 _ _ upd_same, upd_same, (by show 4 + 2 ≤ sizeLine; decide), fun p6 hp6 => ?_⟩
      have s6 := Same.new hp6 (.lst ([V.int (0 + (a : Int)), .int (0 + (b : Int)), .int (if 0 + (b : Int) < 0 + (a : Int) then 0 + (b : Int) else 0 + (a : Int)), .int ((0 + (a : Int) + (0 + (b : Int))) % (n : Int))] ++
        [.int (if (n : Int) - 1 < 0 + (a : Int) + (0 + (b : Int)) then (n : Int) - 1 else 0 + (a : Int) + (0 + (b : Int))), .int ((if 0 < a then a else b : Nat) : Int)]))
      refine ⟨_, rfl, p6, _, (kind : Int), .int ((fpl kind n a b : Nat) : Int), rfl, rfl, SqL.of upd_same, at_of (j := kind) rfl ?_, qa, _, _, rfl, rfl, s6 _ _ (s2 _ _ (e1 _)), ?_, ?_⟩
      · rw [z0, z0]
        match kind, hk with
        | 0, _ => rfl
        | 1, _ => rfl
        | 2, _ =>
          show some (V.int (if (b : Int) < (a : Int) then (b : Int) else (a : Int))) = some (V.int ((min a b : Nat) : Int))
          refine congrArg (fun z => some (V.int z)) ?_
          split <;> omega
        | 3, _ =>
          show some (V.int (((a : Int) + (b : Int)) % (n : Int))) = some (V.int (((a + b) % n : Nat) : Int))
          refine congrArg (fun z => some (V.int z)) ?_
          rw [Int.natCast_emod, Int.natCast_add]
        | 4, _ =>
          show some (V.int (if (n : Int) - 1 < (a : Int) + (b : Int) then (n : Int) - 1 else (a : Int) + (b : Int))) = some (V.int ((min (a + b) (n - 1) : Nat) : Int))
          refine congrArg (fun z => some (V.int z)) ?_
          split <;> omega
        | 5, _ => rfl
      · rw [rowTo_len]; exact small1000 (by omega)
      · refine ⟨fun c o ec => ?_, ?_, _, _, rfl⟩
        · rw [upd_ne (ne_of_none ec hqa)]
          exact s6 _ _ (s2 _ _ (Same.new hsa _ _ _ (sG c o ec)))
        · rw [upd_same, rowTo_next, List.map_append]; rfl
    · rintro _ G ⟨sG, eq, y5, y6, rfl⟩
      obtain ⟨acc, e1, l1, p1⟩ := pa.add sG hqa eq
      refine ⟨_, rfl, Or.inl ⟨rfl, _, SqL.of e1⟩, _, rfl, fa, acc, _, rfl, rfl, e1, by rw [l1, rowsTo_len]; exact small1000 (by omega), ?_, _, _, _, _, rfl⟩
      have en : (n : Int).toNat = n := Int.toNat_natCast n
      rw [en] at p1
      rw [rowsTo_next]
      exact p1
  · rintro _ J ⟨pa, x3, x4, x5, x6, rfl⟩
    have pa' : Part H J fa (tab n (fpl kind n)) := by
      have e : (n : Int).toNat = n := Int.toNat_natCast n
      rw [e] at pa
      exact pa
    exact ⟨_, rfl, q _ _ pa'.fin pa'.same⟩
end
end L

set_option Elab.async false
set_option linter.all false
set_option maxRecDepth 100000
set_option maxHeartbeats 4000000
namespace L
open PySem L2 KX
theorem ixl {X : Cx} {K : PySem.W.Frag} (hK : X.K = K) : IxR X (rIxL K) := by subst hK; exact ix_list
theorem lenl {X : Cx} {K : PySem.W.Frag} (hK : X.K = K) : CallR X (.builtin "len") (fun xs H Q => ∃ p ys, xs = [.ref p] ∧ (SqL K H p ys ∨ SqT K H p ys) ∧ Q (.int ys.length) H) := by subst hK; exact call_len_seq
theorem fex_row {kind n a b : Nat} {f : Nat → Nat → Nat} (ha : a < n) (hb : b < n) : fex kind n f a b = f a b := if_pos ⟨ha, hb⟩
theorem rowTo_congr {f g : Nat → Nat → Nat} {a : Nat} : ∀ {b : Nat}, (∀ c, c < b → f a c = g a c) → rowTo f a b = rowTo g a b
  | 0, _ => rfl
  | b + 1, h => by rw [rowTo_next, rowTo_next, rowTo_congr (b := b) fun c hc => h c (by omega), h b (by omega)]
def spExt : Sp := fun vs H Q _ => ∃ (v : V) (kind n : Nat) (f : Nat → Nat → Nat), vs = [v, .int kind] ∧ kind < 2 ∧ 1 ≤ n ∧ n < 16 ∧ RowsL H v (tab n f) ∧ ∀ v' H', RowsL (nw H H') v' (tab (n + 1) (fex kind n f)) → Same H H' → Q v' H'
def spPairs : Sp := fun vs H Q _ => ∃ (v u : V) (m n : Nat) (f g : Nat → Nat → Nat), vs = [v, u] ∧ 1 ≤ m ∧ 1 ≤ n ∧ m * n ≤ 16 ∧ RowsL H v (tab m f) ∧ RowsL H u (tab n g) ∧ ∀ v' H', RowsL (nw H H') v' (tab (m * n) (fpr n f g)) → Same H H' → Q v' H'
def spGrid : Sp := fun vs H Q _ => ∃ p, vs = [.ref p] ∧ Bx H p ∧ ∀ v H' (s : Nat → Nat), (∀ i, s i < 2) → RowsL (nw H H') v (tab 8 (fgr s)) → Bx H' p → Sx p H H' → Q v H'
section
variable {P : Program} {w : World} {K : PySem.W.Frag} {mg : Str → Option Value} {base : Heap} {f g gn : Addr} {fd gd gnd : FuncData}
theorem scExt : FnScope ["rows", "kind", "n", "found", "a", "row", "b"] ["rows", "kind"] (defScope sExt) := ⟨rfl, rfl, rfl, by decide +kernel, rfl, by decide +kernel, by decide +kernel⟩
theorem ok_ext (F : Fun K "_law_extended" "_law_extended" sExt f fd) (M : Mn mg) : FnOk P w K mg base CX0 1 f fd ["rows", "kind"] spExt := by
  refine F.ok scExt (fun vs H Q E h => ?_) (fun cdv A outer s H vs Q E hr h => ?_)
  · obtain ⟨v, kind, n, f, rfl, _⟩ := h
    rfl
  obtain ⟨v, kind, n, f, rfl, hk, h1, h16, hR, q⟩ := h
  refine ⟨_, pss_cons (ps_set (i := 2) scExt.nd rfl (Or.inr rfl) (pe_callB call_len_seq (by rfl) M.len PySem.boot_len (pa_cons (pv 0) pa_nil)))
    (pss_cons (ps_setLc (i := 3) (own := [("a", 4), ("row", 5)]) (g := gTup _ 2 (gCons (gName 4) (gCons (gName 5) gNil))) (tt := tYes) rfl scExt.nd rfl rfl (sw_true rfl rfl rfl (by decide +kernel))
      (pi_enum (by rfl) M.enum (pa_cons (pv 0) pa_nil)) (blkOk_by (N := ["rows", "kind", "n", "found", "a", "row", "b"]) (sc := defScope sExt) (by decide +kernel))
      (fun _ _ _ _ _ => pg_tup rfl (pgs_cons (pg_name (i := 4) scExt.nd rfl (Or.inl rfl)) (pgs_cons (pg_name (i := 5) scExt.nd rfl (Or.inl rfl)) pgs_nil))) (fun _ _ _ _ _ => pts_nil)
      (fun _ _ _ _ _ => pe_op op_cat (pv 5) (pe_lst (pa_cons (pe_ix (ixl (K := K) rfl) (pe_lst (pa_cons (pv 2) (pa_cons (pv 4) pa_nil))) (pv 1) (fun _ _ => rfl)) pa_nil))))
    (pss_one (ps_ret (pe_op op_cat (pv 3) (pe_lst (pa_cons (pe_op op_cat (pe_lc (own := [("b", 6)]) (g := gName 6) (tt := tYes) rfl scExt.nd (pi_range1 (by rfl) M.range (pa_cons (pv 2) pa_nil))
      (blkOk_by (N := ["rows", "kind", "n", "found", "a", "row", "b"]) (sc := defScope sExt) (by decide +kernel)) (fun _ _ _ _ _ => pg_name (i := 6) scExt.nd rfl (Or.inl rfl)) (fun _ _ _ _ _ => pts_nil)
      (fun _ _ _ _ _ => pe_ix (ixl (K := K) rfl) (pe_lst (pa_cons (pv 2) (pa_cons (pv 6) pa_nil))) (pv 1) (fun _ _ => rfl))) (pe_lst (pa_cons (pv 2) pa_nil))) pa_nil)))))), ?_⟩
  obtain ⟨a0, rs, rfl, ea, pr⟩ := hR
  have ln : rs.length = n := by rw [pr.length, tab_len]
  refine ⟨_, rfl, a0, _, rfl, .inl (SqL.of ea), ?_⟩
  rw [List.length_map, ln]
  refine ⟨_, rfl, a0, rs.map V.ref, rfl, SqL.of ea, fun D hD => ?_⟩
  let f' := fex kind n f
  have pick2 : ∀ x : Int, atI [V.int (n : Int), .int x] (kind : Int) = some (.int (if kind = 0 then (n : Int) else x)) := fun x => by
    match kind, hk with
    | 0, _ => rfl
    | 1, _ => rfl
  refine lc_it (walk_enum (xs := rs.map V.ref)) (fun i J => Part H J D (rowsTo (n + 1) f' i)) (Part.start (Same.refl H) hD) (fun i J _ z => SqL.of (z.same _ _ ea)) ?_ ?_
  · rintro i x J J1 hi pa ⟨T, x1, y1, rfl, hT, rfl, g1, g2⟩
    cases g1
    have hi' : i < n := by rw [List.length_map, ln] at hi; exact hi
    obtain ⟨r, hr0, rfl⟩ : ∃ r, rs[i]? = some r ∧ y1 = V.ref r := by
      have g3 : (rs.map V.ref)[i]? = some y1 := g2
      rw [List.getElem?_map] at g3
      obtain ⟨r, h2, h3⟩ := Option.map_eq_some_iff.mp g3
      exact ⟨r, h2, h3.symm⟩
    obtain ⟨row, hrow, er⟩ := pair_at pr hr0
    rw [tab_row hi'] at hrow
    cases hrow
    refine ⟨T, _, rfl, SqT.of upd_same, rfl, _, _, rfl, _, _, rfl, rfl, rfl, _, rfl, _, rfl, _, rfl, (by show 2 ≤ sizeLine; decide), fun l1 hl1 => ?_⟩
    have s1 := Same.new hT (.tup [.int (i : Nat), .ref r])
    have s2 := Same.new hl1 (.lst [.int (n : Int), .int ((i : Nat) : Int)])
    refine ⟨_, rfl, l1, _, _, _, rfl, rfl, SqL.of upd_same, pick2 _, (by show 1 ≤ sizeLine; decide), fun l2 hl2 => ?_⟩
    have s3 := Same.new hl2 (.lst [.int (if kind = 0 then (n : Int) else ((i : Nat) : Int))])
    refine ⟨r, l2, _, _, rfl, rfl, s3 _ _ (s2 _ _ (s1 _ _ (pa.same _ _ er))), upd_same, ?_, fun qa hqa => ?_⟩
    · rw [List.length_map, List.length_map, List.length_range]; exact Nat.le_of_lt (small1000 (by show n + 1 ≤ 1000; omega))
    have sall := ((s1.trans s2).trans s3).trans (Same.new hqa (.lst ((((List.range n).map fun b => ((f i b : Nat) : Int)).map V.int) ++ [.int (if kind = 0 then (n : Int) else ((i : Nat) : Int))])))
    have er2 : rowTo f' i (n + 1) = ((List.range n).map fun b => ((f i b : Nat) : Int)) ++ [if kind = 0 then (n : Int) else ((i : Nat) : Int)] := by
      rw [rowTo_next]
      have e1 : rowTo f' i n = (List.range n).map fun b => ((f i b : Nat) : Int) := rowTo_congr (g := f) fun c hc => fex_row hi' hc
      rw [e1]
      refine congrArg (fun z => _ ++ [z]) ?_
      show ((fex kind n f i n : Nat) : Int) = _
      unfold fex
      rw [if_neg (show ¬ (i < n ∧ n < n) by omega)]
      split
      · rfl
      · first | rfl | rw [if_pos hi']
    obtain ⟨acc, e1, lac, p1⟩ := pa.add (q := qa) (row := rowTo f' i (n + 1)) sall (((s1.trans s2).trans s3).free hqa) (by rw [upd_same, er2, List.map_append]; rfl)
    refine ⟨acc, e1, by rw [lac, rowsTo_len]; exact small1000 (by omega), ?_⟩
    rw [rowsTo_next]
    exact p1
  · rintro J pa
    rw [List.length_map, ln] at pa
    refine ⟨_, rfl, _, rfl, n, rfl, by omega, by omega, fun D2 hD2 => ?_⟩
    refine lc_range (lo := 0) (n := (n : Int).toNat) (fun b G => Same J G ∧ G D2 = some (.lst ((rowTo f' n b).map V.int))) ⟨Same.new hD2 _, upd_same⟩ ?_ ?_
    · rintro b G hb ⟨sG, eD⟩
      have hb' : b < n := by simpa using hb
      refine ⟨rfl, _, rfl, _, rfl, (by show 2 ≤ sizeLine; decide), fun l1 hl1 => ?_⟩
      refine ⟨_, rfl, l1, _, _, _, rfl, rfl, SqL.of upd_same, pick2 _, _, Same.new hl1 _ _ _ eD, by rw [rowTo_len]; exact small1000 (by omega), fun c o ec => ?_, ?_⟩
      · rw [upd_ne (ne_of_none ec hD2)]; exact Same.new hl1 _ _ _ (sG c o ec)
      · rw [upd_same, rowTo_next, List.map_append, z0]
        refine congrArg (fun z => some (HO.lst (_ ++ [V.int z]))) ?_
        show _ = ((fex kind n f n b : Nat) : Int)
        unfold fex
        rw [if_neg (show ¬ (n < n ∧ b < n) by omega)]
        split
        · rfl
        · first | rfl | rw [if_neg (show ¬ n < n by omega)]
    · rintro G ⟨sG, eD⟩
      have en : (n : Int).toNat = n := Int.toNat_natCast n
      rw [en] at eD
      refine ⟨_, rfl, (by show 1 ≤ sizeLine; decide), fun l3 hl3 => ?_⟩
      have t1 := Same.new hl3 (.lst [.int (n : Int)])
      refine ⟨D2, l3, _, _, rfl, rfl, t1 _ _ eD, upd_same, by rw [rowTo_len]; exact Nat.le_of_lt (small1000 (by show n + 1 ≤ 1000; omega)), fun q2 hq2 => ?_⟩
      have t2 := Same.new hq2 (.lst ((rowTo f' n n).map V.int ++ [.int (n : Int)]))
      refine ⟨(by show 1 ≤ sizeLine; decide), fun l4 hl4 => ?_⟩
      have t3 := Same.new hl4 (.lst [.ref q2])
      have pa' := pa.to (((sG.trans t1).trans t2).trans t3)
      obtain ⟨rs', e', p'⟩ := pa'.at_
      have lr : rs'.length = n := by rw [p'.length, rowsTo_len]
      refine ⟨D, l4, _, _, rfl, rfl, e', upd_same, by rw [List.length_map, lr]; exact Nat.le_of_lt (small1000 (by show n + 1 ≤ 1000; omega)), fun q3 hq3 => ?_⟩
      have t4 := Same.new hq3 (.lst (rs'.map V.ref ++ [.ref q2]))
      have hq3n : H q3 = none := pa'.same.free hq3
      have hq2n : H q2 = none := (pa.same.trans (sG.trans t1)).free hq2
      refine q _ _ ⟨q3, rs' ++ [q2], rfl, by rw [nw_at hq3n, upd_same, List.map_append]; rfl, ?_⟩ (pa'.same.trans t4)
      have e3 : tab (n + 1) (fex kind n f) = rowsTo (n + 1) f' n ++ [rowTo f' n (n + 1)] := by rw [← rowsTo_next, rowsTo_all]
      rw [e3]
      refine pair_app (L2.Paired.mapP p' fun r row z => by rw [nw_at z.2.1]; exact t4 _ _ z.2.2) ?_
      rw [nw_at hq2n]
      refine (t4 _ _ (t3 _ _ upd_same)).trans ?_
      rw [rowTo_next, List.map_append]
      refine congrArg (fun z => some (HO.lst (_ ++ [V.int z]))) ?_
      show _ = ((fex kind n f n n : Nat) : Int)
      unfold fex
      rw [if_neg (show ¬ (n < n ∧ n < n) by omega)]
      split
      · rfl
      · first | rfl | rw [if_neg (show ¬ n < n by omega)]
theorem scPairs : FnScope ["one", "other", "n", "found", "a", "row", "b", "first"] ["one", "other"] (defScope sPairs) := ⟨rfl, rfl, rfl, by decide +kernel, rfl, by decide +kernel, by decide +kernel⟩
theorem ok_pairs (F : Fun K "_law_pairs" "_law_pairs" sPairs f fd) (M : Mn mg) : FnOk P w K mg base CX0 1 f fd ["one", "other"] spPairs := by
  refine F.ok scPairs (fun vs H Q E h => ?_) (fun cdv A outer s H vs Q E hr h => ?_)
  · obtain ⟨v, u, m, n, f, g, rfl, _⟩ := h
    rfl
  obtain ⟨v, u, m, n, f, g, rfl, hm, hn, h16, hR, hU, q⟩ := h
  refine ⟨_, pss_cons (ps_set (i := 2) scPairs.nd rfl (Or.inl rfl) (pe_callB call_len_seq (by rfl) M.len PySem.boot_len (pa_cons (pv 1) pa_nil)))
    (pss_cons (ps_set (i := 3) scPairs.nd rfl (Or.inl rfl) (pe_lst pa_nil))
    (pss_cons (ps_for PassesOwn.never rfl (pi_range1 (by rfl) M.range (pa_cons (pe_op op_mul (pe_callB call_len_seq (by rfl) M.len PySem.boot_len (pa_cons (pv 0) pa_nil)) (pv 2)) pa_nil)) (pg_name (i := 4) scPairs.nd rfl (Or.inl rfl))
      (pss_cons (ps_set (i := 5) scPairs.nd rfl (Or.inl rfl) (pe_lst pa_nil))
      (pss_cons (ps_for PassesOwn.never rfl (pi_range1 (by rfl) M.range (pa_cons (pe_op op_mul (pe_callB call_len_seq (by rfl) M.len PySem.boot_len (pa_cons (pv 0) pa_nil)) (pv 2)) pa_nil)) (pg_name (i := 6) scPairs.nd rfl (Or.inl rfl))
        (pss_cons (ps_set (i := 7) scPairs.nd rfl (Or.inl rfl) (pe_ix ix_list (pe_ix ix_list (pv 0) (pe_op op_fdiv (pv 4) (pv 2)) (fun _ _ => rfl)) (pe_op op_fdiv (pv 6) (pv 2)) (fun _ _ => rfl)))
        (pss_one (ps_expr (pe_bm PySem.F.plainAttrs_list PySem.F.slot_list_append PySem.F.type_list_append mt_append (pv 5) (pa_cons (pe_op op_add (pe_op op_mul (pv 7) (pv 2))
          (pe_ix ix_list (pe_ix ix_list (pv 1) (pe_op op_mod (pv 4) (pv 2)) (fun _ _ => rfl)) (pe_op op_mod (pv 6) (pv 2)) (fun _ _ => rfl))) pa_nil))))))
      (pss_one (ps_expr (pe_bm PySem.F.plainAttrs_list PySem.F.slot_list_append PySem.F.type_list_append mt_append (pv 3) (pa_cons (pv 5) pa_nil)))))))
    (pss_one (ps_ret (pv 3))))), ?_⟩
  obtain ⟨a1, rs1, rfl, e1, pr1⟩ := id hR
  obtain ⟨a2, rs2, rfl, e2, pr2⟩ := id hU
  have l1 : rs1.length = m := by rw [pr1.length, tab_len]
  have l2 : rs2.length = n := by rw [pr2.length, tab_len]
  have hnn : n ≤ 16 := Nat.le_trans (by have := Nat.mul_le_mul_right n hm; rw [Nat.one_mul] at this; exact this) h16
  have hmm : m ≤ 16 := Nat.le_trans (by have := Nat.mul_le_mul_left m hn; rw [Nat.mul_one] at this; exact this) h16
  have mnI : ((m : Int) * (n : Int)) = ((m * n : Nat) : Int) := (Int.natCast_mul m n).symm
  refine ⟨_, rfl, a2, _, rfl, .inl (SqL.of e2), ?_⟩
  rw [List.length_map, l2]
  refine ⟨(by show 0 ≤ sizeLine; decide), fun fa hfa => ?_⟩
  have s0 := Same.new hfa (.lst [])
  refine ⟨_, rfl, a1, _, rfl, .inl (SqL.of (s0 _ _ e1)), ?_⟩
  rw [List.length_map, l1]
  refine ⟨_, rfl, _, _, rfl, rfl, .inl ⟨by omega, by omega⟩, (m : Int) * (n : Int), rfl, by rw [mnI]; omega, by rw [mnI]; omega, ?_⟩
  rw [mnI]
  have dv : ∀ a, a < m * n → a / n < m := fun a h => (Nat.div_lt_iff_lt_mul (by omega)).mpr h
  have md : ∀ a, a % n < n := fun a => Nat.mod_lt _ (by omega)
  refine for_range (lo := 0) (n := ((m * n : Nat) : Int).toNat) (fun a σ J => Part H J fa (rowsTo (m * n) (fpr n f g) a) ∧ ∃ x4 x5 x6 x7, σ = [some (.ref a1), some (.ref a2), some (.int n), some (.ref fa), x4, x5, x6, x7])
    ⟨Part.start (Same.refl H) hfa, _, _, _, _, rfl⟩ ?_ ?_
  · rintro a _ J ha ⟨pa, x4, x5, x6, x7, rfl⟩
    have ha' : a < m * n := by rw [Int.toNat_natCast] at ha; exact ha
    refine ⟨(by show 0 ≤ sizeLine; decide), fun qa hqa => ?_⟩
    have sJq := Same.new hqa (.lst [])
    refine ⟨_, rfl, a1, _, rfl, .inl (SqL.of (sJq _ _ (pa.same _ _ e1))), ?_⟩
    rw [List.length_map, l1]
    refine ⟨_, rfl, _, _, rfl, rfl, .inl ⟨by omega, by omega⟩, (m : Int) * (n : Int), rfl, by rw [mnI]; omega, by rw [mnI]; omega, ?_⟩
    rw [mnI]
    refine for_range (lo := 0) (n := ((m * n : Nat) : Int).toNat) (fun b σ G => Same J G ∧ G qa = some (.lst ((rowTo (fpr n f g) a b).map V.int)) ∧ ∃ x6 x7, σ = [some (.ref a1), some (.ref a2), some (.int n), some (.ref fa), some (.int (0 + (a : Int))), some (.ref qa), x6, x7])
      ⟨sJq, upd_same, _, _, rfl⟩ ?_ ?_
    · rintro b _ G hb ⟨sG, eq, y6, y7, rfl⟩
      have hb' : b < m * n := by rw [Int.toNat_natCast] at hb; exact hb
      have cell : ∀ {K' : PySem.W.Frag} {m n : Nat} {f : Nat → Nat → Nat} {c : Addr} {rs : List Addr} {i j : Nat}, H c = some (.lst (rs.map V.ref)) → Paired (fun r row => H r = some (.lst (row.map V.int))) rs (tab m f) → i < m → j < m →
          ∃ r, SqL K' G c (rs.map V.ref) ∧ (rs.map V.ref)[i]? = some (V.ref r) ∧ SqL K' G r (((List.range m).map fun b => ((f i b : Nat) : Int)).map V.int) ∧ (((List.range m).map fun b => ((f i b : Nat) : Int)).map V.int)[j]? = some (.int ((f i j : Nat) : Int)) := fun {K' m n f c rs i j} ec pc hi hj => by
        have hir : i < rs.length := by rw [pc.length, tab_len]; exact hi
        obtain ⟨row, h1, h2⟩ := pair_at pc (List.getElem?_eq_getElem hir)
        rw [tab_row hi] at h1
        cases h1
        refine ⟨rs[i], SqL.of (sG _ _ (pa.same _ _ ec)), by rw [List.getElem?_map, List.getElem?_eq_getElem hir]; rfl, SqL.of (sG _ _ (pa.same _ _ h2)), ?_⟩
        rw [List.getElem?_map, List.getElem?_map, List.getElem?_range hj]; rfl
      obtain ⟨r1, c1, c2, c3, c4⟩ := cell (K' := K) (n := n) e1 pr1 (dv a ha') (dv b hb')
      obtain ⟨r2, d1, d2, d3, d4⟩ := cell (K' := K) (n := n) e2 pr2 (md a) (md b)
      have eD : ∀ x : Nat, ((0 : Int) + (x : Int)) / (n : Int) = ((x / n : Nat) : Int) := fun x => by rw [z0]; exact (Int.natCast_ediv x n).symm
      have eM : ∀ x : Nat, ((0 : Int) + (x : Int)) % (n : Int) = ((x % n : Nat) : Int) := fun x => by rw [z0]; exact (Int.natCast_emod x n).symm
      refine ⟨_, rfl, _, rfl, _, rfl, _, _, rfl, rfl, ⟨by omega, by omega⟩, a1, _, _, _, rfl, rfl, c1, at_of (eD a) c2, _, rfl, _, rfl, _, _, rfl, rfl, ⟨by omega, by omega⟩, r1, _, _, _, rfl, rfl, c3, at_of (eD b) c4, ?_⟩
      refine ⟨_, rfl, Or.inl ⟨rfl, _, SqL.of eq⟩, _, rfl, _, rfl, _, _, rfl, rfl, .inr ⟨by omega, by omega⟩, _, rfl, _, rfl, _, rfl, _, _, rfl, rfl, (by show (0 : Int) < (n : Int); omega), a2, _, _, _, rfl, rfl, d1, at_of (eM a) d2,
        _, rfl, _, rfl, _, _, rfl, rfl, (by show (0 : Int) < (n : Int); omega), r2, _, _, _, rfl, rfl, d3, at_of (eM b) d4, _, _, rfl, rfl, qa, _, _, rfl, rfl, eq, by rw [rowTo_len]; exact small1000 (by omega), ?_⟩
      refine ⟨fun c o ec => by rw [upd_ne (ne_of_none ec hqa)]; exact sG c o ec, ?_, _, _, rfl⟩
      rw [upd_same, rowTo_next, List.map_append]
      refine congrArg (fun z => some (HO.lst (_ ++ [V.int z]))) ?_
      show ((f (a / n) (b / n) : Nat) : Int) * (n : Int) + ((g (a % n) (b % n) : Nat) : Int) = ((f (a / n) (b / n) * n + g (a % n) (b % n) : Nat) : Int)
      rw [Int.natCast_add, Int.natCast_mul]
    · rintro _ G ⟨sG, eq, y6, y7, rfl⟩
      obtain ⟨acc, ea, la, p1⟩ := pa.add sG hqa eq
      refine ⟨_, rfl, Or.inl ⟨rfl, _, SqL.of ea⟩, _, rfl, fa, acc, _, rfl, rfl, ea, by rw [la, rowsTo_len]; exact small1000 (by omega), ?_, _, _, _, _, rfl⟩
      rw [Int.toNat_natCast] at p1
      rw [rowsTo_next]
      exact p1
  · rintro _ J ⟨pa, x4, x5, x6, x7, rfl⟩
    have pa' : Part H J fa (tab (m * n) (fpr n f g)) := by
      rw [Int.toNat_natCast] at pa
      exact pa
    exact ⟨_, rfl, q _ _ pa'.fin pa'.same⟩
theorem scGrid : FnScope ["box", "shift", "found", "a", "row", "b", "value", "k"] ["box"] (defScope sGrid) := ⟨rfl, rfl, rfl, by decide +kernel, rfl, by decide +kernel, by decide +kernel⟩
theorem ok_grid (F : Fun K "_law_grid" "_law_grid" sGrid f fd) (M : Mn mg) (G : FnOk P w K mg base CX0 1 g gd ["box", "size"] spTake) (bG : Binds K gd ["box", "size"] []) (kG : PySem.W.keepIn K (.ref g) = true) (mG : mg "_law_take" = some (.ref g)) :
    FnOk P w K mg base CX0 2 f fd ["box"] spGrid := by
  refine F.ok scGrid (fun vs H Q E h => ?_) (fun cdv A outer s H vs Q E hr h => ?_)
  · obtain ⟨p, rfl, _⟩ := h
    rfl
  obtain ⟨p, rfl, hb, q⟩ := h
  refine ⟨_, pss_cons (ps_setLc (i := 1) (own := [("k", 7)]) (g := gName 7) (tt := tYes) rfl scGrid.nd rfl rfl (sw_true rfl rfl rfl (by decide +kernel)) (pi_range1 (by rfl) M.range (pa_cons pe_int pa_nil))
      (blkOk_by (N := ["box", "shift", "found", "a", "row", "b", "value", "k"]) (sc := defScope sGrid) (by decide +kernel)) (fun _ _ _ _ _ => pg_name (i := 7) scGrid.nd rfl (Or.inl rfl)) (fun _ _ _ _ _ => pts_nil)
      (fun _ _ _ _ _ => pe_call G hr (by rfl) mG kG bG .nil pass0 (pa_cons (pv 0) (pa_cons pe_int pa_nil))))
    (pss_cons (ps_set (i := 2) scGrid.nd rfl (Or.inl rfl) (pe_lst pa_nil))
    (pss_cons (ps_for PassesOwn.never rfl (pi_range1 (by rfl) M.range (pa_cons pe_int pa_nil)) (pg_name (i := 3) scGrid.nd rfl (Or.inl rfl))
      (pss_cons (ps_set (i := 4) scGrid.nd rfl (Or.inl rfl) (pe_lst pa_nil))
      (pss_cons (ps_for PassesOwn.never rfl (pi_range1 (by rfl) M.range (pa_cons pe_int pa_nil)) (pg_name (i := 5) scGrid.nd rfl (Or.inl rfl))
        (pss_cons (ps_set (i := 6) scGrid.nd rfl (Or.inl rfl) (pe_op op_mod (pe_op op_add (pe_op op_add (pe_op op_fdiv (pv 3) pe_int) (pe_op op_fdiv (pv 5) pe_int))
          (pe_ix ix_list (pv 1) (pe_op op_add (pe_op op_mul (pe_op op_mod (pv 3) pe_int) pe_int) (pe_op op_fdiv (pv 5) pe_int)) (fun _ _ => rfl))) pe_int))
        (pss_one (ps_expr (pe_bm PySem.F.plainAttrs_list PySem.F.slot_list_append PySem.F.type_list_append mt_append (pv 4) (pa_cons (pe_op op_add (pe_op op_add (pe_op op_mul (pe_op op_fdiv (pv 3) pe_int) pe_int)
          (pe_op op_mul (pv 6) pe_int)) (pe_op op_mod (pv 5) pe_int)) pa_nil))))))
      (pss_one (ps_expr (pe_bm PySem.F.plainAttrs_list PySem.F.slot_list_append PySem.F.type_list_append mt_append (pv 2) (pa_cons (pv 4) pa_nil)))))))
    (pss_one (ps_ret (pv 2))))), ?_⟩
  refine ⟨4, rfl, by decide, by decide, fun D hD => ?_⟩
  have nD : D ≠ p := hb.ne hD
  refine lc_range (lo := 0) (n := Int.toNat 4) (fun i J => Bx J p ∧ Sx p H J ∧ ∃ xs : List Nat, J D = some (.lst (xs.map fun x : Nat => V.int ((x : Nat) : Int))) ∧ xs.length = i ∧ ∀ x, x ∈ xs → x < 2)
    ⟨hb.new hD, Sx.new hD, [], upd_same, rfl, fun _ z => nomatch z⟩ ?_ ?_
  · rintro i J hi ⟨bJ, sJ, xs, eD, lx, hx⟩
    have hi4 : i < 4 := hi
    refine ⟨rfl, _, rfl, p, 2, rfl, bJ, by decide, by decide, fun r J1 ra rb bJ1 sJ1 => ?_⟩
    refine ⟨_, sJ1 D _ nD eD, by rw [List.length_map, lx]; exact small1000 (by omega), bJ1.at_ne nD, fun b o hbp e => ?_, xs ++ [r.toNat], ?_, by simp [lx], fun x h => ?_⟩
    · rw [upd_ne (ne_of_none e hD)]; exact sJ1 b o hbp (sJ b o hbp e)
    · rw [upd_same, List.map_append]
      show _ = some (HO.lst (_ ++ [V.int ((r.toNat : Nat) : Int)]))
      rw [Int.toNat_of_nonneg ra]
    · rcases List.mem_append.mp h with h | h
      · exact hx x h
      · rw [List.mem_singleton.mp h]; omega
  · rintro H1 ⟨b1, s1, xs, eD, lx, hx⟩
    have lx4 : xs.length = 4 := lx
    let sh : Nat → Nat := fun i => xs.getD i 0
    have hsh : ∀ i, sh i < 2 := fun i => by
      show xs.getD i 0 < 2
      rw [List.getD_eq_getElem?_getD]
      by_cases h : i < xs.length
      · rw [List.getElem?_eq_getElem h]; exact hx _ (List.getElem_mem h)
      · rw [List.getElem?_eq_none (by omega)]; decide
    refine ⟨(by show 0 ≤ sizeLine; decide), fun fa hfa => ?_⟩
    refine ⟨8, rfl, by decide, by decide, ?_⟩
    refine for_range (lo := 0) (n := Int.toNat 8) (fun a σ J => Part H1 J fa (rowsTo 8 (fgr sh) a) ∧ ∃ x3 x4 x5 x6 x7, σ = [some (.ref p), some (.ref D), some (.ref fa), x3, x4, x5, x6, x7])
      ⟨Part.start (Same.refl H1) hfa, _, _, _, _, _, rfl⟩ ?_ ?_
    · rintro a _ J ha ⟨pa, x3, x4, x5, x6, x7, rfl⟩
      have ha' : a < 8 := ha
      refine ⟨(by show 0 ≤ sizeLine; decide), fun qa hqa => ?_⟩
      refine ⟨8, rfl, by decide, by decide, ?_⟩
      refine for_range (lo := 0) (n := Int.toNat 8) (fun b σ G => Same J G ∧ G qa = some (.lst ((rowTo (fgr sh) a b).map V.int)) ∧ ∃ x5 x6 x7, σ = [some (.ref p), some (.ref D), some (.ref fa), some (.int (0 + (a : Int))), some (.ref qa), x5, x6, x7])
        ⟨Same.new hqa _, upd_same, _, _, _, rfl⟩ ?_ ?_
      · rintro b _ G hb2 ⟨sG, eq, y5, y6, y7, rfl⟩
        have hb' : b < 8 := hb2
        have h4 : a % 2 * 2 + b / 4 < 4 := by omega
        have at4 : (xs.map fun x : Nat => V.int ((x : Nat) : Int))[a % 2 * 2 + b / 4]? = some (.int ((sh (a % 2 * 2 + b / 4) : Nat) : Int)) := by
          rw [List.getElem?_map, List.getElem?_eq_getElem (by omega)]
          show some (V.int ((xs[a % 2 * 2 + b / 4] : Nat) : Int)) = some (V.int ((xs.getD (a % 2 * 2 + b / 4) 0 : Nat) : Int))
          rw [List.getD_eq_getElem?_getD, List.getElem?_eq_getElem (by omega)]; rfl
        refine ⟨_, rfl, _, _, rfl, rfl, ⟨by decide, by decide⟩, _, rfl, _, _, rfl, rfl, ⟨by decide, by decide⟩, _, _, rfl, rfl, _, rfl, _, rfl, _, _, rfl, rfl, (by show (0 : Int) < 2; decide), _, _, rfl, rfl, .inr ⟨by decide, by decide⟩, _, rfl, _, _, rfl, rfl, ⟨by decide, by decide⟩, _, _, rfl, rfl,
          D, _, _, _, rfl, rfl, SqL.of (sG _ _ (pa.same _ _ eD)), at_of (j := a % 2 * 2 + b / 4) (by omega) at4, _, _, rfl, rfl, _, _, rfl, rfl, (by show (0 : Int) < 2; decide), ?_⟩
        refine ⟨_, rfl, Or.inl ⟨rfl, _, SqL.of eq⟩, _, rfl, _, _, rfl, rfl, ⟨by decide, by decide⟩, _, _, rfl, rfl, .inr ⟨by decide, by decide⟩, _, rfl, _, _, rfl, rfl, .inr ⟨by decide, by decide⟩, _, _, rfl, rfl, _, rfl, _, _, rfl, rfl, (by show (0 : Int) < 2; decide), _, _, rfl, rfl,
          qa, _, _, rfl, rfl, eq, by rw [rowTo_len]; exact small1000 (by omega), ?_⟩
        refine ⟨fun c o ec => by rw [upd_ne (ne_of_none ec hqa)]; exact sG c o ec, ?_, _, _, _, rfl⟩
        rw [upd_same, rowTo_next, List.map_append]
        refine congrArg (fun z => some (HO.lst (_ ++ [V.int z]))) ?_
        show (0 + (a : Int)) / 4 * 4 + ((0 + (a : Int)) / 2 + (0 + (b : Int)) / 2 + ((sh (a % 2 * 2 + b / 4) : Nat) : Int)) % 2 * 2 + (0 + (b : Int)) % 2 = ((a / 4 * 4 + (a / 2 + b / 2 + sh (a % 2 * 2 + b / 4)) % 2 * 2 + b % 2 : Nat) : Int)
        generalize sh (a % 2 * 2 + b / 4) = z
        omega
      · rintro _ G ⟨sG, eq, y5, y6, y7, rfl⟩
        obtain ⟨acc, ea, la, p1⟩ := pa.add sG hqa eq
        refine ⟨_, rfl, Or.inl ⟨rfl, _, SqL.of ea⟩, _, rfl, fa, acc, _, rfl, rfl, ea, by rw [la, rowsTo_len]; exact small1000 (by omega), ?_, _, _, _, _, _, rfl⟩
        rw [rowsTo_next]
        exact p1
    · rintro _ J ⟨pa, x3, x4, x5, x6, x7, rfl⟩
      have pa' : Part H1 J fa (tab 8 (fgr sh)) := pa
      have bJ : Bx J p := by
        obtain ⟨c0, c1, c2, e, z⟩ := b1
        exact ⟨c0, c1, c2, pa'.same _ _ e, z⟩
      exact ⟨_, rfl, q _ _ sh hsh (pa'.fin.same (nw_back s1 b1)) bJ (s1.trans (Sx.of pa'.same))⟩
end
end L

set_option Elab.async false
set_option linter.all false
set_option maxRecDepth 100000
set_option maxHeartbeats 4000000
namespace L
open PySem L2 KX
abbrev sWords : Stmt := top 28
def wds : List Str := ["a", "b", "aa", "ab", "ba", "bb", ""]
def wd (i : Nat) : Str := wds.getD i ""
def fwd (a b : Nat) : Nat := if a < 2 ∧ b < 2 then 2 + 2 * a + b else 6
theorem asf_words : Asf 7 fwd := by
  refine ⟨fun a b ha hb => by unfold fwd; split <;> omega, fun a b c ha hb hc => ?_⟩
  have e : ∀ x y, ¬ fwd x y < 2 := fun x y => by unfold fwd; split <;> omega
  have l : fwd (fwd a b) c = 6 := if_neg fun z => e a b z.1
  have r : fwd a (fwd b c) = 6 := if_neg fun z => e b c z.2
  rw [l, r]
def bothOf (x y : Str) : Str := if (!decide (V.str x = V.str "")) = true then (if (!decide (V.str y = V.str "")) = true then x ++ y else "") else ""
def keyOf (z : Str) : Str := if decide (((z.length : Nat) : Int) < 3) = true then z else ""
def wOk (a b : Nat) : Bool := (wds[fwd a b]? == some (keyOf (bothOf (wd a) (wd b)))) && decide ((wd a).length + (wd b).length ≤ 4) && decide ((bothOf (wd a) (wd b)).length ≤ 4) &&
  eqV (.str (keyOf (bothOf (wd a) (wd b)))) (.str (keyOf (bothOf (wd a) (wd b)))) && (List.range (fwd a b)).all fun m => !eqV (.str (wd m)) (.str (keyOf (bothOf (wd a) (wd b))))
theorem wOk_all : ((List.range 7).all fun a => (List.range 7).all fun b => wOk a b) = true := by decide +kernel
theorem wd_at {m : Nat} {z : V} (h : (wds.map V.str)[m]? = some z) : z = .str (wd m) := by
  rw [List.getElem?_map] at h
  obtain ⟨x, h1, rfl⟩ := Option.map_eq_some_iff.mp h
  unfold wd
  rw [List.getD_eq_getElem?_getD, h1]; rfl
theorem w_facts {a b : Nat} (ha : a < 7) (hb : b < 7) : (wds.map V.str)[fwd a b]? = some (.str (keyOf (bothOf (wd a) (wd b)))) ∧ (wd a).length + (wd b).length ≤ 4 ∧ (bothOf (wd a) (wd b)).length ≤ 4 ∧
    eqV (.str (keyOf (bothOf (wd a) (wd b)))) (.str (keyOf (bothOf (wd a) (wd b)))) = true ∧ ∀ (m : Nat) (z' : V), m < fwd a b → (wds.map V.str)[m]? = some z' → eqV z' (.str (keyOf (bothOf (wd a) (wd b)))) = false := by
  have h := List.all_eq_true.mp (List.all_eq_true.mp wOk_all a (List.mem_range.mpr ha)) b (List.mem_range.mpr hb)
  unfold wOk at h
  obtain ⟨h, h5⟩ := Bool.and_eq_true_iff.mp h
  obtain ⟨h, h4⟩ := Bool.and_eq_true_iff.mp h
  obtain ⟨h, h3⟩ := Bool.and_eq_true_iff.mp h
  obtain ⟨h1, h2⟩ := Bool.and_eq_true_iff.mp h
  refine ⟨by rw [List.getElem?_map, eq_of_beq h1]; rfl, of_decide_eq_true h2, of_decide_eq_true h3, h4, fun m z' hm hz => ?_⟩
  have e := List.all_eq_true.mp h5 m (List.mem_range.mpr hm)
  rw [wd_at hz]
  exact Bool.not_eq_true' _ |>.mp e
def spWords : Sp := fun vs H Q _ => vs = [] ∧ ∀ v H', RowsL (nw H H') v (tab 7 fwd) → Same H H' → Q v H'
section
variable {P : Program} {w : World} {K : PySem.W.Frag} {mg : Str → Option Value} {base : Heap} {f g gn : Addr} {fd gd gnd : FuncData}
theorem scWords : FnScope ["words", "found", "one", "row", "other", "both"] [] (defScope sWords) := ⟨rfl, rfl, rfl, by decide +kernel, rfl, by decide +kernel, by decide +kernel⟩
theorem ok_words (F : Fun K "_law_words" "_law_words" sWords f fd) (M : Mn mg) : FnOk P w K mg base CX0 1 f fd [] spWords := by
  refine F.ok scWords (fun vs H Q E h => ?_) (fun cdv A outer s H vs Q E hr h => ?_)
  · obtain ⟨rfl, _⟩ := h
    rfl
  obtain ⟨rfl, q⟩ := h
  refine ⟨_, pss_cons (ps_set (i := 0) scWords.nd rfl (Or.inl rfl) (pe_lst (pa_cons pe_str (pa_cons pe_str (pa_cons pe_str (pa_cons pe_str (pa_cons pe_str (pa_cons pe_str (pa_cons pe_str pa_nil)))))))))
    (pss_cons (ps_set (i := 1) scWords.nd rfl (Or.inl rfl) (pe_lst pa_nil))
    (pss_cons (ps_for PassesOwn.never rfl (pi_list (pv 0)) (pg_name (i := 2) scWords.nd rfl (Or.inl rfl))
      (pss_cons (ps_set (i := 3) scWords.nd rfl (Or.inl rfl) (pe_lst pa_nil))
      (pss_cons (ps_for PassesOwn.never rfl (pi_list (pv 0)) (pg_name (i := 4) scWords.nd rfl (Or.inl rfl))
        (pss_cons (ps_set (i := 5) scWords.nd rfl (Or.inl rfl) (pe_mo (pe_ifExp (pw_and (pt_cmpR op_ne (pv 2) pe_str (nomark _)) (pw_and1 (pt_cmpR op_ne (pv 4) pe_str (nomark _)))).pt (pe_op op_add_str (pv 2) (pv 4)) pe_str)))
        (pss_one (ps_expr (pe_bm PySem.F.plainAttrs_list PySem.F.slot_list_append PySem.F.type_list_append mt_append (pv 3) (pa_cons
          (pe_bm PySem.F.plainAttrs_list PySem.F.slot_list_index PySem.F.type_list_index mt_index (pv 0) (pa_cons
            (pe_mo (pe_ifExp (pt_cmpR op_lt (pe_callB call_len_str (by rfl) M.len PySem.boot_len (pa_cons (pv 5) pa_nil)) pe_int (nomark _)) (pv 5) pe_str)) pa_nil)) pa_nil))))))
      (pss_one (ps_expr (pe_bm PySem.F.plainAttrs_list PySem.F.slot_list_append PySem.F.type_list_append mt_append (pv 1) (pa_cons (pv 3) pa_nil)))))))
    (pss_one (ps_ret (pv 1))))), ?_⟩
  refine ⟨(by show 7 ≤ sizeLine; decide), fun wa hwa => ?_⟩
  have s0 : Same H (upd H wa (.lst (wds.map V.str))) := Same.new hwa _
  have e0 : (upd H wa (.lst (wds.map V.str))) wa = some (.lst (wds.map V.str)) := upd_same
  refine ⟨(by show 0 ≤ sizeLine; decide), fun fa hfa => ?_⟩
  have hwf : wa ≠ fa := ne_of_none e0 hfa
  have hfn : H fa = none := s0.free hfa
  have L7 : (wds.map V.str).length = 7 := rfl
  refine ⟨_, rfl, wa, rfl, ⟨_, SqL.of (by rw [upd_ne hwf]; exact e0)⟩, ?_⟩
  refine for_it (walk_list (xs := wds.map V.str)) (fun a σ J => J wa = some (.lst (wds.map V.str)) ∧ Part H J fa (rowsTo 7 fwd a) ∧ ∃ x2 x3 x4 x5, σ = [some (.ref wa), some (.ref fa), x2, x3, x4, x5])
    ⟨by rw [upd_ne hwf]; exact e0, ⟨s0.trans (Same.new hfa _), hfn, [], upd_same, .nil⟩, _, _, _, _, rfl⟩ (fun i σ J _ z => SqL.of z.1) ?_ ?_
  · rintro a x _ J J1 ha ⟨eW, pa, x2, x3, x4, x5, rfl⟩ ⟨rfl, hx⟩
    cases wd_at hx
    refine ⟨(by show 0 ≤ sizeLine; decide), fun qa hqa => ?_⟩
    have hwq : wa ≠ qa := ne_of_none eW hqa
    refine ⟨_, rfl, wa, rfl, ⟨_, SqL.of (by rw [upd_ne hwq]; exact eW)⟩, ?_⟩
    refine for_it (walk_list (xs := wds.map V.str)) (fun b σ G => G wa = some (.lst (wds.map V.str)) ∧ Same J1 G ∧ G qa = some (.lst ((rowTo fwd a b).map V.int)) ∧ ∃ x4 x5, σ = [some (.ref wa), some (.ref fa), some (.str (wd a)), some (.ref qa), x4, x5])
      ⟨by rw [upd_ne hwq]; exact eW, Same.new hqa _, upd_same, _, _, rfl⟩ (fun i σ J _ z => SqL.of z.1) ?_ ?_
    · rintro b y _ G G1 hb ⟨eW2, sG, eq, y4, y5, rfl⟩ ⟨rfl, hy⟩
      cases wd_at hy
      obtain ⟨f1, f2, f3, f4, f5⟩ := w_facts (a := a) (b := b) ha hb
      refine ⟨fun z G2 => G1 = G2 ∧ z = .str (bothOf (wd a) (wd b)), ?_, ?_⟩
      · have le : (wd a).length + (wd b).length ≤ sizeLine := Nat.le_trans f2 (by decide)
        refine ⟨_, rfl, rfl, _, rfl, ite2 (fun c => ⟨_, rfl, rfl, _, rfl, ite2 (fun d => ⟨_, rfl, _, rfl, _, _, rfl, rfl, le, rfl, ?_⟩) fun d => ⟨rfl, ?_⟩⟩) fun c => iteF ⟨rfl, ?_⟩⟩
        · unfold bothOf; rw [if_pos c, if_pos d]
        · unfold bothOf; rw [if_pos c, if_neg d]
        · unfold bothOf; rw [if_neg c]
      rintro _ _ ⟨rfl, rfl⟩
      refine ⟨_, rfl, Or.inl ⟨rfl, _, SqL.of eq⟩, _, rfl, Or.inl ⟨rfl, _, SqL.of eW2⟩, fun z G2 => G1 = G2 ∧ z = .str (keyOf (bothOf (wd a) (wd b))), ?_, ?_⟩
      · refine ⟨_, rfl, _, rfl, Nat.le_trans f3 (by decide), _, _, rfl, rfl, _, rfl, ite2 (fun c => ⟨_, rfl, rfl, ?_⟩) fun c => ⟨rfl, ?_⟩⟩
        · unfold keyOf; rw [if_pos c]
        · unfold keyOf; rw [if_neg c]
      rintro _ _ ⟨rfl, rfl⟩
      refine ⟨wa, _, _, fwd a b, _, rfl, rfl, SqL.of eW2, rfl, rfl, f1, f4, f5, qa, _, _, rfl, rfl, eq, by rw [rowTo_len]; exact small1000 (by have : b < 7 := hb; omega), ?_⟩
      refine ⟨by rw [upd_ne hwq]; exact eW2, fun c o ec => by rw [upd_ne (ne_of_none ec hqa)]; exact sG c o ec, ?_, _, _, rfl⟩
      rw [upd_same, rowTo_next, List.map_append]; rfl
    · rintro _ G ⟨eW2, sG, eq, y4, y5, rfl⟩
      obtain ⟨acc, ea, la, p1⟩ := pa.add sG hqa eq
      refine ⟨_, rfl, Or.inl ⟨rfl, _, SqL.of ea⟩, _, rfl, fa, acc, _, rfl, rfl, ea, by rw [la, rowsTo_len]; exact small1000 (by have : a < 7 := ha; omega), by rw [upd_ne hwf]; exact eW2, ?_, _, _, _, _, rfl⟩
      rw [rowsTo_next]
      exact p1
  · rintro _ J ⟨eW, pa, x2, x3, x4, x5, rfl⟩
    have pa' : Part H J fa (tab 7 fwd) := pa
    exact ⟨_, rfl, q _ _ pa'.fin pa'.same⟩
end
end L

set_option Elab.async false
set_option linter.all false
set_option maxRecDepth 100000
set_option maxHeartbeats 4000000
/-! Own layer: tables of maps under composition. Plain lists and numbers. -/
namespace KX
/-- a map of k states -/
def Mp (k : Nat) (m : List Nat) : Prop := m.length = k ∧ ∀ x, x ∈ m → x < k
/-- first x, then y -/
def cmp (x y : List Nat) : List Nat := x.map fun s => y.getD s 0
theorem getD_lt {k : Nat} {m : List Nat} (h : Mp k m) {s : Nat} (hs : s < k) : m.getD s 0 < k := by
  have hl : s < m.length := by rw [h.1]; exact hs
  rw [List.getD_eq_getElem?_getD, List.getElem?_eq_getElem hl]
  exact h.2 _ (List.getElem_mem hl)
theorem cmp_mp {k : Nat} {x y : List Nat} (hx : Mp k x) (hy : Mp k y) : Mp k (cmp x y) := by
  refine ⟨by unfold cmp; rw [List.length_map]; exact hx.1, fun z hz => ?_⟩
  obtain ⟨s, hs, rfl⟩ := List.mem_map.mp hz
  exact getD_lt hy (hx.2 s hs)
theorem cmp_as {k : Nat} {x y z : List Nat} (hx : Mp k x) (hy : Mp k y) : cmp (cmp x y) z = cmp x (cmp y z) := by
  unfold cmp
  rw [List.map_map]
  refine List.map_congr_left fun s hs => ?_
  have hl : s < y.length := by rw [hy.1]; exact hx.2 s hs
  show z.getD (y.getD s 0) 0 = (y.map fun s => z.getD s 0).getD s 0
  rw [List.getD_eq_getElem?_getD (l := y.map _), List.getElem?_map, List.getElem?_eq_getElem hl, List.getD_eq_getElem?_getD (l := y), List.getElem?_eq_getElem hl]; rfl
/-- made of letters -/
inductive Gen (ls : List (List Nat)) : List Nat → Prop
  | base {l : List Nat} : l ∈ ls → Gen ls l
  | step {x l : List Nat} : Gen ls x → l ∈ ls → Gen ls (cmp x l)
theorem Gen.mp {k : Nat} {ls : List (List Nat)} (hl : ∀ l, l ∈ ls → Mp k l) {m : List Nat} (g : Gen ls m) : Mp k m := by
  induction g with
  | base h => exact hl _ h
  | step _ h ih => exact cmp_mp ih (hl _ h)
theorem gen_closed {k : Nat} {ls ms : List (List Nat)} (hl : ∀ l, l ∈ ls → Mp k l) (hg : ∀ x, x ∈ ms → Gen ls x) (hc : ∀ x, x ∈ ms → ∀ l, l ∈ ls → cmp x l ∈ ms) {x y : List Nat} (hx : x ∈ ms) (g : Gen ls y) : cmp x y ∈ ms := by
  induction g with
  | base h => exact hc x hx _ h
  | step g h ih =>
    rw [← cmp_as ((hg x hx).mp hl) (g.mp hl)]
    exact hc _ ih _ h
/-- the place of a map -/
def fmp (ms : List (List Nat)) (a b : Nat) : Nat := ms.idxOf (cmp (ms.getD a []) (ms.getD b []))
theorem getD_mem {ms : List (List Nat)} {a : Nat} (h : a < ms.length) : ms.getD a [] ∈ ms := by
  rw [List.getD_eq_getElem?_getD, List.getElem?_eq_getElem h]
  exact List.getElem_mem h
theorem idx_get {ms : List (List Nat)} {m : List Nat} (h : m ∈ ms) : ms.idxOf m < ms.length ∧ ms[ms.idxOf m]? = some m := by
  have hl : ms.idxOf m < ms.length := List.idxOf_lt_length_iff.mpr h
  exact ⟨hl, by rw [List.getElem?_eq_getElem hl, List.getElem_idxOf hl]⟩
theorem idx_ahead {ms : List (List Nat)} {m : List Nat} : ∀ {j : Nat} {z : List Nat}, j < ms.idxOf m → ms[j]? = some z → z ≠ m := by
  induction ms with
  | nil => intro j z h e; cases e
  | cons a ms ih =>
    intro j z h e hz
    subst hz
    rw [List.idxOf_cons] at h
    by_cases ha : a = z
    · subst ha
      rw [show (a == a) = true from beq_self_eq_true a] at h
      exact absurd h (Nat.not_lt_zero _)
    · rw [show (a == z) = false from beq_eq_false_iff_ne.mpr ha] at h
      cases j with
      | zero => exact ha (Option.some.inj e)
      | succ j =>
        have h' : j + 1 < ms.idxOf z + 1 := h
        exact ih (j := j) (by omega) e rfl
/-- a list of maps closed under composition -/
structure Cl (k : Nat) (ms : List (List Nat)) : Prop where
  mp : ∀ m, m ∈ ms → Mp k m
  cl : ∀ x, x ∈ ms → ∀ y, y ∈ ms → cmp x y ∈ ms
theorem Cl.at_ {k : Nat} {ms : List (List Nat)} (C : Cl k ms) {a b : Nat} (ha : a < ms.length) (hb : b < ms.length) : fmp ms a b < ms.length ∧ ms[fmp ms a b]? = some (cmp (ms.getD a []) (ms.getD b [])) :=
  idx_get (C.cl _ (getD_mem ha) _ (getD_mem hb))
theorem asf_maps {k : Nat} {ms : List (List Nat)} (C : Cl k ms) : Asf ms.length (fmp ms) := by
  refine ⟨fun a b ha hb => (C.at_ ha hb).1, fun a b c ha hb hc => ?_⟩
  have h1 := C.at_ ha hb
  have h2 := C.at_ hb hc
  have e1 : ms.getD (fmp ms a b) [] = cmp (ms.getD a []) (ms.getD b []) := by rw [List.getD_eq_getElem?_getD, h1.2]; rfl
  have e2 : ms.getD (fmp ms b c) [] = cmp (ms.getD b []) (ms.getD c []) := by rw [List.getD_eq_getElem?_getD, h2.2]; rfl
  unfold fmp at *
  rw [e1, e2, cmp_as (C.mp _ (getD_mem ha)) (C.mp _ (getD_mem hb))]
/-- what the search knows: letters ls, found ms, i of them walked -/
structure Srch (k : Nat) (ls ms : List (List Nat)) (i : Nat) : Prop where
  lm : ∀ l, l ∈ ls → Mp k l
  sub : ∀ l, l ∈ ls → l ∈ ms
  gen : ∀ x, x ∈ ms → Gen ls x
  done : ∀ j, j < i → ∀ x, ms[j]? = some x → ∀ l, l ∈ ls → cmp x l ∈ ms
theorem Srch.cl {k : Nat} {ls ms : List (List Nat)} {i : Nat} (S : Srch k ls ms i) (h : ms.length ≤ i) : Cl k ms := by
  refine ⟨fun m hm => (S.gen m hm).mp S.lm, fun x hx y hy => gen_closed S.lm S.gen (fun x hx l hl => ?_) hx (S.gen y hy)⟩
  obtain ⟨j, hj, rfl⟩ := List.mem_iff_getElem.mp hx
  exact S.done j (by omega) _ (List.getElem?_eq_getElem hj) l hl
theorem Srch.more {k : Nat} {ls ms : List (List Nat)} {i : Nat} (S : Srch k ls ms i) {m : List Nat} (g : Gen ls m) (hi : i ≤ ms.length) : Srch k ls (ms ++ [m]) i := by
  refine ⟨S.lm, fun l hl => List.mem_append_left _ (S.sub l hl), fun x hx => ?_, fun j hj x hx l hl => ?_⟩
  · rcases List.mem_append.mp hx with h | h
    · exact S.gen x h
    · rw [List.mem_singleton.mp h]; exact g
  · rw [List.getElem?_append_left (by omega)] at hx
    exact List.mem_append_left _ (S.done j hj x hx l hl)
end KX

set_option Elab.async false
set_option linter.all false
set_option maxRecDepth 100000
set_option maxHeartbeats 4000000
namespace L
open PySem L2 KX
abbrev sMaps : Stmt := top 24
/-! ### tuples of numbers as data -/
def nv (m : List Nat) : List V := m.map fun x : Nat => V.int ((x : Nat) : Int)
def nD (m : List Nat) : List PyData := m.map fun x : Nat => PyData.int ((x : Nat) : Int)
def tD (m : List Nat) : PyData := .tuple (nD m)
theorem nD_lay : ∀ m : List Nat, PyData.canLayAll0 (nD m) = true
  | [] => by unfold nD; simp [PyData.canLayAll0]
  | x :: m => by
    have h := nD_lay m
    unfold nD at h ⊢
    simp [PyData.canLayAll0, PyData.canLay0, h]
theorem nD_depth : ∀ m : List Nat, PyData.depthAll (nD m) = 0
  | [] => by unfold nD; simp [PyData.depthAll]
  | x :: m => by
    have h := nD_depth m
    unfold nD at h ⊢
    simp [PyData.depthAll, PyData.depth, h]
theorem tD_lay : ∀ ms : List (List Nat), PyData.canLayAll0 (ms.map tD) = true
  | [] => by simp [PyData.canLayAll0]
  | m :: ms => by
    have h := tD_lay ms
    have h2 := nD_lay m
    simp only [List.map_cons, PyData.canLayAll0, tD, PyData.canLay0, h2, Bool.true_and]
    exact h
theorem tD_depth : ∀ ms : List (List Nat), PyData.depthAll (ms.map tD) ≤ 1
  | [] => by simp [PyData.depthAll]
  | m :: ms => by
    have h := tD_depth ms
    have h2 := nD_depth m
    have h3 : (tD m).depth = 1 := by unfold tD; simp only [PyData.depth, h2]
    simp only [List.map_cons, PyData.depthAll, h3]
    omega
theorem tD_shaped (m : List Nat) : SeqAt.shaped (tD m) = true := by
  have h2 : (tD m).depth = 1 := by unfold tD; simp only [PyData.depth, nD_depth m]
  have h1 : (tD m).canLay0 = true := by unfold tD; simp only [PyData.canLay0]; exact nD_lay m
  show ((tD m).canLay0 && decide ((tD m).depth ≤ 64)) = true
  rw [Bool.and_eq_true]
  exact ⟨h1, decide_eq_true (by omega)⟩
theorem tDs_shaped (ms : List (List Nat)) : SeqAt.shaped (.list (ms.map tD)) = true := by
  have h1 := tD_depth ms
  have h2 : PyData.depth (.list (ms.map tD)) ≤ 64 := by
    simp only [PyData.depth]
    omega
  show (PyData.canLay0 (.list (ms.map tD)) && decide (PyData.depth (.list (ms.map tD)) ≤ 64)) = true
  rw [Bool.and_eq_true]
  exact ⟨by simp only [PyData.canLay0]; exact tD_lay ms, decide_eq_true h2⟩
theorem nD_eqv : ∀ a b : List Nat, PyData.eqvAll (nD a) (nD b) = decide (a = b)
  | [], [] => by unfold nD; simp [PyData.eqvAll]
  | [], _ :: _ => by unfold nD; simp [PyData.eqvAll]
  | _ :: _, [] => by unfold nD; simp [PyData.eqvAll]
  | x :: a, y :: b => by
    have h := nD_eqv a b
    unfold nD at h ⊢
    simp only [List.map_cons, PyData.eqvAll, PyData.eqv, h]
    by_cases e : x = y
    · subst e
      rw [show (((x : Int) == (x : Int))) = true from beq_self_eq_true _, Bool.true_and]
      by_cases e2 : a = b
      · subst e2; simp
      · rw [decide_eq_false e2, decide_eq_false fun z => e2 (List.cons.inj z).2]
    · rw [show (((x : Int) == (y : Int))) = false from beq_eq_false_iff_ne.mpr (by omega), Bool.false_and, decide_eq_false fun z => e (List.cons.inj z).1]
theorem tD_eqv (a b : List Nat) : PyData.eqv (tD a) (tD b) = decide (a = b) := by
  unfold tD
  simp only [PyData.eqv]
  exact nD_eqv a b
theorem tD_any (ms : List (List Nat)) (m : List Nat) : ((ms.map tD).any fun z => PyData.eqv z (tD m)) = decide (m ∈ ms) := by
  rw [List.any_map]
  rw [Bool.eq_iff_iff, List.any_eq_true, decide_eq_true_iff]
  constructor
  · rintro ⟨x, hx, e⟩
    have e' : PyData.eqv (tD x) (tD m) = true := e
    rw [tD_eqv] at e'
    exact (of_decide_eq_true e') ▸ hx
  · intro h
    refine ⟨m, h, ?_⟩
    show PyData.eqv (tD m) (tD m) = true
    rw [tD_eqv]; exact decide_eq_true rfl
theorem dp_nv {K : PySem.W.Frag} {G : Hp} : ∀ m : List Nat, DpAll K G (nv m) (nD m)
  | [] => .nil
  | x :: m => .cons (.int _) (dp_nv m)
theorem dp_tup {K : PySem.W.Frag} {G : Hp} {t : Addr} {m : List Nat} (h : G t = some (.tup (nv m))) : Dp K G (.ref t) (tD m) := .tup (SqT.of h) (dp_nv m)
theorem dp_tups {K : PySem.W.Frag} {G : Hp} {ts : List Addr} {ms : List (List Nat)} (h : Paired (fun t m => G t = some (.tup (nv m))) ts ms) : DpAll K G (ts.map V.ref) (ms.map tD) := by
  induction h with
  | nil => exact .nil
  | cons h _ ih => exact .cons (dp_tup h) ih
/-- the maps found so far stand at fa -/
structure Mi (H : Hp) (p fa : Addr) (J : Hp) (ms : List (List Nat)) : Prop where
  bx : Bx J p
  sx : Sx p H J
  nf : H fa = none
  np : fa ≠ p
  fm : ∃ ts, J fa = some (.lst (ts.map V.ref)) ∧ Paired (fun t m => J t = some (.tup (nv m))) ts ms
section
variable {H J G : Hp} {p fa q : Addr} {ms : List (List Nat)} {m : List Nat}
theorem Bx.same (b : Bx H p) (s : Same H J) : Bx J p := let ⟨b0, b1, b2, e, r⟩ := b; ⟨b0, b1, b2, s _ _ e, r⟩
theorem Mi.to (h : Mi H p fa J ms) (s : Same J G) : Mi H p fa G ms :=
  let ⟨ts, e, pr⟩ := h.fm
  ⟨h.bx.same s, h.sx.trans (Sx.of s), h.nf, h.np, ts, s _ _ e, L2.Paired.mapP pr fun _ _ z => s _ _ z⟩
theorem Bx.ne_tup {t : Addr} {xs : List V} (b : Bx H p) (h : H t = some (.tup xs)) : t ≠ p := fun z => by
  obtain ⟨b0, b1, b2, e, r⟩ := b
  rw [z, e] at h
  cases h
theorem Mi.took (h : Mi H p fa J ms) (s : Sx p J G) (b : Bx G p) : Mi H p fa G ms :=
  let ⟨ts, e, pr⟩ := h.fm
  ⟨b, h.sx.trans s, h.nf, h.np, ts, s _ _ h.np e, L2.Paired.mapP pr fun _ _ z => s _ _ (h.bx.ne_tup z) z⟩
theorem Mi.start (b : Bx G p) (s : Sx p H G) (n : G fa = none) : Mi H p fa (upd G fa (.lst [])) [] :=
  ⟨b.new n, s.trans (Sx.new n), s.free b n, b.ne n, [], upd_same, .nil⟩
theorem Mi.add (h : Mi H p fa J ms) (e : J q = some (.tup (nv m))) : ∃ acc, J fa = some (.lst acc) ∧ acc.length = ms.length ∧ Mi H p fa (upd J fa (.lst (acc ++ [V.ref q]))) (ms ++ [m]) := by
  obtain ⟨ts, e1, pr⟩ := h.fm
  refine ⟨_, e1, by rw [List.length_map]; exact pr.length, h.bx.at_ne h.np, fun b o nb eb => by rw [upd_ne (ne_of_none eb h.nf)]; exact h.sx b o nb eb, h.nf, h.np, ts ++ [q], by rw [upd_same, List.map_append]; rfl, ?_⟩
  have nt : ∀ {t : Addr} {xs : List V}, J t = some (.tup xs) → t ≠ fa := fun {t xs} z y => by rw [y, e1] at z; cases z
  exact pair_app (L2.Paired.mapP pr fun t m z => by rw [upd_ne (nt z)]; exact z) (by rw [upd_ne (nt e)]; exact e)
theorem Mi.sq {K : PySem.W.Frag} (h : Mi H p fa J ms) : ∃ xs, SqL K J fa xs ∧ xs.length = ms.length := let ⟨ts, e, pr⟩ := h.fm; ⟨_, SqL.of e, by rw [List.length_map]; exact pr.length⟩
theorem Mi.dp {K : PySem.W.Frag} (h : Mi H p fa J ms) : Dp K J (.ref fa) (.list (ms.map tD)) := let ⟨ts, e, pr⟩ := h.fm; .lst (SqL.of e) (dp_tups pr)
end
end L

set_option Elab.async false
set_option linter.all false
set_option maxRecDepth 100000
set_option maxHeartbeats 4000000
namespace L
open PySem L2 KX
theorem ixt {X : Cx} {K : PySem.W.Frag} (hK : X.K = K) : IxR X (rIxT K) := by subst hK; exact ix_tup
theorem pit {X : Cx} {K : PySem.W.Frag} (hK : X.K = K) {tg l : Expr} {tl : TE} (h : PE X l tl) : PI X tg l (iTup K tl) := by subst hK; exact pi_tup h
theorem pe_idx {X : Cx} {K : PySem.W.Frag} (hK : X.K = K) (hu : X.A.units + 65 < cLine) {o e : Expr} {apos cpos : Pos} {to : TE} {t : TA} (ho : PE X o to) (ha : PA X [e] t)
    (hbase : attributeBase o "index" X.env (eval o X.env) = eval o X.env := by rfl)
    (hfew : ((backTo cpos (starEach [e] X.env)).all (fun x => !x.1) && (backToKw cpos (keywordEach [] X.env)).all (fun x => x.1.isSome)
      && decide (([e] : List Expr).length + ([] : List Keyword).length + (if ([] : List Keyword).isEmpty then 0 else 1) < 30)) = true := by rfl)
    (hline : (apos.endLine == cpos.line) = true := by rfl) (hs : starEach [e] X.env = (false, eval e X.env) :: starEach [] X.env := by rfl) (hplain : (backTo cpos (starEach [] X.env)).any (·.1) = false := by rfl) :
    PE X (.Call (.Attribute o "index" apos) [e] [] cpos) (tBM K "list" (rIndexD K) to t) := by
  subst hK
  exact pe_bm PySem.F.plainAttrs_list PySem.F.slot_list_index PySem.F.type_list_index (mt_indexD hu) ho ha hbase hfew hline hs hplain
theorem hu65 {k : Nat} {A : Around} (r : Room k A) : A.units + 65 < cLine := by have := r.un; omega
def scReached : Scope := { kind := .function, names := [(Str.ofString ".0", .local), (Str.ofString "other", .cell), (Str.ofString "tuple", .globalImplicit), (Str.ofString "one", .cell)], isGenerator := false, isCoroutine := false }
/-- the letters stand at la -/
def Lt (la : Addr) (ts : List Addr) (ms : List (List Nat)) (J : Hp) : Prop := J la = some (.lst (ts.map V.ref)) ∧ Paired (fun t m => J t = some (.tup (nv m))) ts ms
theorem Lt.to {la : Addr} {ts : List Addr} {ms : List (List Nat)} {J G : Hp} (h : Lt la ts ms J) (s : Same J G) : Lt la ts ms G := ⟨s _ _ h.1, L2.Paired.mapP h.2 fun _ _ z => s _ _ z⟩
theorem Lt.upd {la fa : Addr} {ts : List Addr} {ms : List (List Nat)} {J : Hp} {acc xs : List V} (h : Lt la ts ms J) (n : la ≠ fa) (e : J fa = some (.lst acc)) : Lt la ts ms (upd J fa (.lst xs)) :=
  ⟨by rw [upd_ne n]; exact h.1, L2.Paired.mapP h.2 fun t m z => by rw [upd_ne fun y => by rw [y, e] at z; cases z]; exact z⟩
theorem nv_at {m : List Nat} {i : Nat} {v : V} (h : (nv m)[i]? = some v) : ∃ x : Nat, m[i]? = some x ∧ v = .int (x : Int) := by
  unfold nv at h
  rw [List.getElem?_map] at h
  obtain ⟨x, h1, h2⟩ := Option.map_eq_some_iff.mp h
  exact ⟨x, h1, h2.symm⟩
theorem nv_get {k : Nat} {m : List Nat} (h : Mp k m) {s : Nat} (hs : s < k) : (nv m)[s]? = some (.int ((m.getD s 0 : Nat) : Int)) := by
  have hl : s < m.length := by rw [h.1]; exact hs
  unfold nv
  rw [List.getElem?_map, List.getD_eq_getElem?_getD, List.getElem?_eq_getElem hl]; rfl
theorem nv_len (m : List Nat) : (nv m).length = m.length := by unfold nv; rw [List.length_map]
theorem cmp_take {x l : List Nat} {b s : Nat} (h : x[b]? = some s) : (cmp x l).take (b + 1) = (cmp x l).take b ++ [l.getD s 0] := by
  rw [List.take_add_one]
  unfold cmp
  rw [List.getElem?_map, h]; rfl
theorem ref_at {ts : List Addr} {i : Nat} {v : V} (h : (ts.map V.ref)[i]? = some v) : ∃ t, ts[i]? = some t ∧ v = .ref t := by
  rw [List.getElem?_map] at h
  obtain ⟨x, h1, h2⟩ := Option.map_eq_some_iff.mp h
  exact ⟨x, h1, h2.symm⟩
theorem pair_to {α β : Type} {F : α → β → Prop} : ∀ {as : List α} {bs : List β} {i : Nat} {b : β}, Paired F as bs → bs[i]? = some b → ∃ a, as[i]? = some a ∧ F a b
  | _, _, _, _, .nil, e => by simp at e
  | _, _, 0, _, .cons h _, e => by simp at e; subst e; exact ⟨_, rfl, h⟩
  | _, _, i + 1, _, .cons _ t, e => by
    simp at e
    obtain ⟨a, h1, h2⟩ := pair_to t e
    exact ⟨a, by simpa using h1, h2⟩
def spMaps : Sp := fun vs H Q _ => ∃ p, vs = [.ref p] ∧ Bx H p ∧ ∀ v H', (v = .non ∨ ∃ n f, 1 ≤ n ∧ n ≤ 16 ∧ Asf n f ∧ RowsL (nw H H') v (tab n f)) → Bx H' p → Sx p H H' → Q v H'
abbrev nMaps : List Str := ["box", "size", "found", "turn", "one", "letters", "at", "letter", "rows", "reached", "state", "other"]
section
variable {P : Program} {w : World} {K : PySem.W.Frag} {mg : Str → Option Value} {base : Heap} {f g gn : Addr} {fd gd gnd : FuncData}
theorem scMaps : FnScope nMaps ["box"] (defScope sMaps) := ⟨rfl, rfl, rfl, by decide +kernel, rfl, by decide +kernel, by decide +kernel⟩
theorem ok_maps (F : Fun K "_law_maps" "_law_maps" sMaps f fd) (M : Mn mg) (G : FnOk P w K mg base CX0 1 g gd ["box", "size"] spTake) (bG : Binds K gd ["box", "size"] []) (kG : PySem.W.keepIn K (.ref g) = true) (mG : mg "_law_take" = some (.ref g)) :
    FnOk P w K mg base CX0 2 f fd ["box"] spMaps := by
  refine F.ok scMaps (fun vs H Q E h => ?_) (fun cdv A outer s H vs Q E hr h => ?_)
  · obtain ⟨p, rfl, _⟩ := h
    rfl
  obtain ⟨p, rfl, hb, q⟩ := h
  refine ⟨_, pss_cons (ps_set (i := 1) scMaps.nd rfl (Or.inr rfl) (pe_op op_add pe_int (pe_call G hr (by rfl) mG kG bG .nil pass0 (pa_cons (pv 0) (pa_cons pe_int pa_nil)))))
    (pss_cons (ps_set (i := 2) scMaps.nd rfl (Or.inr rfl) (pe_lst pa_nil))
    (pss_cons (ps_for PassesOwn.never rfl (pi_range1 (by rfl) M.range (pa_cons (pe_op op_add pe_int (pe_call G hr (by rfl) mG kG bG .nil pass0 (pa_cons (pv 0) (pa_cons pe_int pa_nil)))) pa_nil)) (pg_name (i := 3) scMaps.nd rfl (Or.inl rfl))
      (pss_cons (ps_set (i := 4) scMaps.nd rfl (Or.inr rfl) (pe_callTy call_tuple_of (by rfl) M.tuple (by decide +kernel) (pa_cons (pe_lc (own := [("state", 10)]) (g := gName 10) (tt := tYes) rfl scMaps.nd (pi_range1 (by rfl) M.range (pa_cons (pv 1) pa_nil))
        (blkOk_by (N := nMaps) (sc := defScope sMaps) (by decide +kernel)) (fun _ _ _ _ _ => pg_name (i := 10) scMaps.nd rfl (Or.inl rfl)) (fun _ _ _ _ _ => pts_nil)
        (fun _ _ _ _ _ => pe_call G hr (by rfl) mG kG bG .nil pass0 (pa_cons (pv 0) (pa_cons (pv 1) pa_nil)))) pa_nil)))
      (pss_one (ps_if (pt_cmpR (op_notInD (hu65 hr)) (pv 4) (pv 2) rfl) (pss_one (ps_expr (pe_bm PySem.F.plainAttrs_list PySem.F.slot_list_append PySem.F.type_list_append mt_append (pv 2) (pa_cons (pv 4) pa_nil)))) pss_nil))))
    (pss_cons (ps_par (i := 5) (j := 6) rfl scMaps.nd rfl rfl (by decide) rfl rfl (pa_cons (pe_callTy call_list_of (by rfl) M.list (by decide +kernel) (pa_cons (pv 2) pa_nil)) (pa_cons pe_int pa_nil)) (by rfl))
    (pss_cons (ps_while PassesOwn.never (pt_mo (pw_and (pt_cmpR op_lt (pv 6) (pe_callB call_len_seq (by rfl) M.len PySem.boot_len (pa_cons (pv 2) pa_nil)) (nomark _))
        (pw_and1 (pt_cmpR op_lt (pe_callB call_len_seq (by rfl) M.len PySem.boot_len (pa_cons (pv 2) pa_nil)) pe_int (nomark _)))).pt)
      (pss_cons (ps_for PassesOwn.never rfl (pi_list (pv 5)) (pg_name (i := 7) scMaps.nd rfl (Or.inr rfl))
        (pss_cons (ps_set (i := 4) scMaps.nd rfl (Or.inr rfl) (pe_callTy call_tuple_of (by rfl) M.tuple (by decide +kernel) (pa_cons (pe_lc (own := [("state", 10)]) (g := gName 10) (tt := tYes) rfl scMaps.nd (pi_tup (pe_ix ix_list (pv 2) (pv 6) (fun _ _ => rfl)))
          (blkOk_by (N := nMaps) (sc := defScope sMaps) (by decide +kernel)) (fun _ _ _ _ _ => pg_name (i := 10) scMaps.nd rfl (Or.inl rfl)) (fun _ _ _ _ _ => pts_nil)
          (fun _ _ _ _ _ => pe_ix (ixt (K := K) rfl) (pv 7) (pv 10) (fun _ _ => rfl))) pa_nil)))
        (pss_one (ps_if (pt_cmpR (op_notInD (hu65 hr)) (pv 4) (pv 2) rfl) (pss_one (ps_expr (pe_bm PySem.F.plainAttrs_list PySem.F.slot_list_append PySem.F.type_list_append mt_append (pv 2) (pa_cons (pv 4) pa_nil)))) pss_nil))))
      (pss_one (ps_aug (i := 6) scMaps.nd rfl (.inl rfl) pe_int ip_add))))
    (pss_cons (ps_if (pt_cmpR op_gt (pe_callB call_len_seq (by rfl) M.len PySem.boot_len (pa_cons (pv 2) pa_nil)) pe_int (nomark _)) (pss_one (ps_ret pe_non)) pss_nil)
    (pss_cons (ps_set (i := 8) scMaps.nd rfl (Or.inl rfl) (pe_lst pa_nil))
    (pss_cons (ps_for PassesOwn.never rfl (pi_list (pv 2)) (pg_name (i := 4) scMaps.nd rfl (Or.inr rfl))
      (pss_cons (ps_setLc (i := 9) (own := [("other", 11)]) (g := gName 11) (tt := tYes) rfl scMaps.nd rfl rfl (sw_true rfl rfl rfl (by decide +kernel)) (pi_list (pv 2))
        (blkOk_by (N := nMaps) (sc := defScope sMaps) (by decide +kernel)) (fun _ _ _ _ _ => pg_name (i := 11) scMaps.nd rfl (Or.inr rfl)) (fun _ _ _ _ _ => pts_nil)
        (fun _ _ _ _ _ => pe_callTy (T := "tuple") (ctuple (K := K) rfl) (by rfl) M.tuple (by decide +kernel) (pa_cons (pe_lc (own := [("state", 10)]) (g := gName 10) (tt := tYes) rfl scMaps.nd (pit (K := K) rfl (pv 4))
          (blkOk_by (N := nMaps) (sc := scReached) (by decide +kernel)) (fun _ _ _ _ _ => pg_name (i := 10) scMaps.nd rfl (Or.inl rfl)) (fun _ _ _ _ _ => pts_nil)
          (fun _ _ _ _ _ => pe_ix (ixt (K := K) rfl) (pv 11) (pv 10) (fun _ _ => rfl))) pa_nil)))
      (pss_one (ps_expr (pe_bm PySem.F.plainAttrs_list PySem.F.slot_list_append PySem.F.type_list_append mt_append (pv 8) (pa_cons (pe_lc (own := [("other", 11)]) (g := gName 11) (tt := tYes) rfl scMaps.nd (pi_list (pv 9))
        (blkOk_by (N := nMaps) (sc := defScope sMaps) (by decide +kernel)) (fun _ _ _ _ _ => pg_name (i := 11) scMaps.nd rfl (Or.inl rfl)) (fun _ _ _ _ _ => pts_nil)
        (fun _ _ _ _ _ => pe_idx (K := K) rfl (hu65 hr) (pv 2) (pa_cons (pv 11) pa_nil))) pa_nil))))))
    (pss_one (ps_ret (pv 8)))))))))), ?_⟩
  have z05 : 0 ≤ sizeLine := by decide
  refine ⟨_, rfl, p, 3, rfl, hb, by decide, by decide, fun r J0 ra rb b0 s0 => ?_⟩
  obtain ⟨r, rfl⟩ := Int.eq_ofNat_of_zero_le ra
  refine ⟨_, _, rfl, rfl, ?_⟩
  have ek : (2 : Int) + ((r : Nat) : Int) = ((2 + r : Nat) : Int) := by omega
  dsimp only
  rw [ek]
  have k2 : 2 ≤ 2 + r := by omega
  have k4 : 2 + r ≤ 4 := by omega
  generalize 2 + r = k at k2 k4 ⊢
  refine ⟨z05, fun fa hfa => ?_⟩
  have m0 : Mi H p fa (upd J0 fa (.lst [])) [] := Mi.start b0 s0 hfa
  refine ⟨_, rfl, p, 3, rfl, m0.bx, by decide, by decide, fun t J1 ta tb b1 s1 => ?_⟩
  obtain ⟨t, rfl⟩ := Int.eq_ofNat_of_zero_le ta
  refine ⟨_, _, rfl, rfl, (1 : Int) + ((t : Nat) : Int), rfl, by omega, by omega, ?_⟩
  refine for_range (lo := 0) (n := ((1 : Int) + ((t : Nat) : Int)).toNat) (fun i σ J => ∃ ms, Mi H p fa J ms ∧ ms.length ≤ i ∧ (0 < i → 0 < ms.length) ∧ (∀ m, m ∈ ms → Mp k m) ∧ ∃ x3 x4 x5 x6 x7 x8 x9 x10 x11, σ = [some (.ref p), some (.int k), some (.ref fa), x3, x4, x5, x6, x7, x8, x9, x10, x11])
    ⟨[], m0.took s1 b1, Nat.le_refl _, fun z => absurd z (Nat.lt_irrefl 0), (fun _ z => nomatch z), _, _, _, _, _, _, _, _, _, rfl⟩ ?_ ?_
  · rintro i _ J hi ⟨ms, mi, l1, l2, l3, x3, x4, x5, x6, x7, x8, x9, x10, x11, rfl⟩
    refine ⟨_, rfl, (k : Int), rfl, by omega, by omega, fun D hD => ?_⟩
    have nD : D ≠ p := mi.bx.ne hD
    refine lc_range (lo := 0) (n := (k : Int).toNat) (fun i G => Bx G p ∧ Sx p J G ∧ ∃ xs : List Nat, G D = some (.lst (nv xs)) ∧ xs.length = i ∧ ∀ x, x ∈ xs → x < k)
      ⟨mi.bx.new hD, Sx.new hD, [], upd_same, rfl, fun _ z => nomatch z⟩ ?_ ?_
    · rintro j G hj ⟨bG, sG, xs, eD, lx, hx⟩
      have hjk : j < k := by simpa using hj
      refine ⟨rfl, _, rfl, _, rfl, p, (k : Int), rfl, bG, by omega, by omega, fun r G1 ra rb b1 s1 => ?_⟩
      obtain ⟨r, rfl⟩ := Int.eq_ofNat_of_zero_le ra
      refine ⟨_, s1 D _ nD eD, by rw [nv_len, lx]; exact small1000 (by omega), b1.at_ne nD, fun b o hbp e => ?_, xs ++ [r], ?_, by simp [lx], fun x h => ?_⟩
      · rw [upd_ne (ne_of_none e hD)]; exact s1 b o hbp (sG b o hbp e)
      · rw [upd_same]; unfold nv; rw [List.map_append]; rfl
      · rcases List.mem_append.mp h with h | h
        · exact hx x h
        · rw [List.mem_singleton.mp h]; omega
    · rintro G ⟨bG, sG, xs, eD, lx, hx⟩
      have lk : xs.length = k := by rw [lx]; exact Int.toNat_natCast k
      have mG := mi.took sG bG
      refine ⟨D, _, rfl, .inl ⟨SqL.of eD, fun l hl => ?_⟩⟩
      have mG1 := mG.to (Same.new hl (.tup (nv xs)))
      have el : (upd G l (.tup (nv xs))) l = some (.tup (nv xs)) := upd_same
      refine ⟨_, rfl, _, rfl, tD xs, ms.map tD, dp_tup el, mG1.dp, tD_shaped xs, tDs_shaped ms, _, rfl, ?_⟩
      rw [tD_any]
      have i4 : i < 4 := by omega
      refine ite2 (fun c => ?_) (fun c => ?_)
      · obtain ⟨acc, ea, la, m2⟩ := mG1.add el
        refine ⟨_, rfl, Or.inl ⟨rfl, _, SqL.of ea⟩, _, rfl, fa, acc, _, rfl, rfl, ea, by rw [la]; exact small1000 (by omega), ms ++ [xs], m2, by rw [List.length_append, List.length_singleton]; omega, fun _ => by rw [List.length_append, List.length_singleton]; omega, fun m hm => ?_, _, _, _, _, _, _, _, _, _, rfl⟩
        rcases List.mem_append.mp hm with h | h
        · exact l3 m h
        · rw [List.mem_singleton.mp h]; exact ⟨lk, hx⟩
      · have hin : xs ∈ ms := by
          by_cases hm : xs ∈ ms
          · exact hm
          · rw [decide_eq_false hm] at c; exact absurd rfl c
        exact ⟨ms, mG1, by omega, fun _ => List.length_pos_of_mem hin, l3, _, _, _, _, _, _, _, _, _, rfl⟩
  rintro _ J ⟨ms, mi, l1, l2, l3, x3, x4, x5, x6, x7, x8, x9, x10, x11, rfl⟩
  have ln3 : ms.length ≤ 3 := by omega
  have ln0 : 0 < ms.length := l2 (by omega)
  obtain ⟨ts, ets, pts⟩ := id mi.fm
  refine ⟨_, rfl, fa, _, rfl, .inl (SqL.of ets), fun la hla => ?_⟩
  refine ⟨_, _, rfl, ?_⟩
  have naf : la ≠ fa := (ne_of_none ets hla).symm
  have sla := Same.new hla (.lst (ts.map V.ref))
  have lts : ts.length = ms.length := pts.length
  dsimp only [tSeq]
  change tWhile _ _ _ [some (.ref p), some (.int k), some (.ref fa), x3, x4, some (.ref la), some (.int ((0 : Nat) : Int)), x7, x8, x9, x10, x11] _
  refine while_by (fun σ G => ∃ fs i, Mi H p fa G fs ∧ Lt la ts ms G ∧ Srch k ms fs i ∧ i ≤ fs.length ∧ i ≤ 17 ∧ fs.length ≤ 19 ∧ ∃ x3 x4 x7 x8 x9 x10 x11, σ = [some (.ref p), some (.int k), some (.ref fa), x3, x4, some (.ref la), some (.int (i : Nat)), x7, x8, x9, x10, x11])
    (fun σ _ => match σ.getD 6 none with | some (.int i) => 20 - i.toNat | _ => 0)
    ⟨ms, 0, mi.to sla, ⟨upd_same, L2.Paired.mapP pts fun _ _ z => sla _ _ z⟩, ⟨l3, fun _ h => h, fun x h => .base h, fun j hj => absurd hj (Nat.not_lt_zero _)⟩, Nat.zero_le _, by omega, by omega, _, _, _, _, _, _, _, rfl⟩ ?_ ?_
  rotate_left
  · rintro σ H Q Q' k ⟨R, h, r⟩
    exact ⟨R, h, fun x H1 z => k _ _ (r x H1 z)⟩
  rintro _ G ⟨fs, i, mG, lt, S, h1, h2, h3, x3, x4, x7, x8, x9, x10, x11, rfl⟩
  obtain ⟨xs, hxs, lxs⟩ := mG.sq (K := K)
  refine ⟨fun b G1 => G = G1 ∧ b = (decide (i < fs.length) && decide (fs.length < 17)), ?_, ?_⟩
  · refine ⟨_, rfl, _, rfl, fa, xs, rfl, .inl hxs, _, _, rfl, rfl, _, rfl, ite2 (fun c => ⟨_, rfl, fa, xs, rfl, .inl hxs, _, _, rfl, rfl, _, rfl, rfl, ?_⟩) (fun c => ⟨rfl, ?_⟩)⟩
    · have c' : ((i : Nat) : Int) < ((xs.length : Nat) : Int) := of_decide_eq_true c
      rw [decide_eq_true (show i < fs.length by omega), Bool.true_and, lxs]
      rw [Bool.eq_iff_iff, decide_eq_true_iff, decide_eq_true_iff]
      omega
    · have c' : ¬ ((i : Nat) : Int) < ((xs.length : Nat) : Int) := of_decide_eq_false (Bool.eq_false_iff.mpr c)
      rw [decide_eq_false (show ¬ i < fs.length by omega), Bool.false_and]
  rintro _ _ ⟨rfl, rfl⟩
  refine ite2 (fun c => ?_) (fun c => ?_)
  · obtain ⟨ca, cb⟩ := Bool.and_eq_true_iff.mp c
    have hi : i < fs.length := of_decide_eq_true ca
    have h17 : fs.length < 17 := of_decide_eq_true cb
    obtain ⟨x, hx⟩ : ∃ x, fs[i]? = some x := ⟨_, List.getElem?_eq_getElem hi⟩
    have xm : x ∈ fs := List.mem_of_getElem? hx
    have xk : Mp k x := (S.gen x xm).mp S.lm
    refine ⟨_, rfl, la, rfl, ⟨_, SqL.of lt.1⟩, ?_⟩
    refine for_it (walk_list (xs := ts.map V.ref)) (fun j σ G => ∃ gs, Mi H p fa G gs ∧ Lt la ts ms G ∧ Srch k ms gs i ∧ i < gs.length ∧ gs.length ≤ fs.length + j ∧ gs[i]? = some x ∧ (∀ l, l ∈ ms.take j → cmp x l ∈ gs) ∧
        ∃ x3 x4 x7 x8 x9 x10 x11, σ = [some (.ref p), some (.int k), some (.ref fa), x3, x4, some (.ref la), some (.int (i : Nat)), x7, x8, x9, x10, x11])
      ⟨fs, mG, lt, S, hi, Nat.le_refl _, hx, (fun _ z => by rw [List.take_zero] at z; cases z), _, _, _, _, _, _, _, rfl⟩ (fun _ _ _ _ ⟨_, _, z, _⟩ => SqL.of z.1) ?_ ?_
    · rintro j y _ G1 G2 hj ⟨gs, mG, lt, S, hi, hl, hx, hd, x3, x4, x7, x8, x9, x10, x11, rfl⟩ ⟨rfl, hy⟩
      have hj3 : j < ms.length := by rw [List.length_map, lts] at hj; exact hj
      obtain ⟨tl, htl, rfl⟩ := ref_at hy
      obtain ⟨l, hl1, el⟩ := pair_at lt.2 htl
      have lm : l ∈ ms := List.mem_of_getElem? hl1
      have lk : Mp k l := S.lm l lm
      obtain ⟨fts, efts, pf⟩ := id mG.fm
      obtain ⟨ti, hti, et⟩ := pair_to pf hx
      have wk : (nv x).length = k := by rw [nv_len]; exact xk.1
      refine ⟨_, rfl, _, rfl, fa, _, _, _, rfl, rfl, SqL.of efts, at_of (j := i) rfl (by rw [List.getElem?_map, hti]; rfl), ti, rfl, ⟨_, SqT.of et⟩, fun D hD => ?_⟩
      refine lc_it (walk_tup (xs := nv x)) (fun b G => Same G2 G ∧ G D = some (.lst (nv ((cmp x l).take b)))) ⟨Same.new hD _, upd_same⟩ (fun b G _ z => SqT.of (z.1 _ _ et)) ?_ ?_
      · rintro b v G3 G4 hb ⟨sG, eD⟩ ⟨rfl, hv⟩
        rw [wk] at hb
        obtain ⟨s, hs, rfl⟩ := nv_at hv
        have sk : s < k := xk.2 s (List.mem_of_getElem? hs)
        refine ⟨rfl, _, rfl, _, rfl, tl, _, _, _, rfl, rfl, SqT.of (sG _ _ el), at_of (j := s) rfl (nv_get lk sk), _, eD, ?_, fun c o ec => by rw [upd_ne (ne_of_none ec hD)]; exact sG c o ec, ?_⟩
        · rw [nv_len, List.length_take]; exact small1000 (by omega)
        · rw [upd_same, cmp_take hs]; unfold nv; rw [List.map_append]; rfl
      · rintro G3 ⟨sG, eD⟩
        rw [List.take_of_length_le (by rw [wk]; have := (cmp_mp xk lk).1; omega)] at eD
        refine ⟨D, _, rfl, .inl ⟨SqL.of eD, fun q hq => ?_⟩⟩
        have s3 : Same G2 (upd G3 q (.tup (nv (cmp x l)))) := sG.trans (Same.new hq _)
        have mG1 := mG.to s3
        have lt1 := lt.to s3
        have eq : (upd G3 q (.tup (nv (cmp x l)))) q = some (.tup (nv (cmp x l))) := upd_same
        have tk : ms.take (j + 1) = ms.take j ++ [l] := by rw [List.take_add_one, hl1]; rfl
        refine ⟨_, rfl, _, rfl, tD (cmp x l), gs.map tD, dp_tup eq, mG1.dp, tD_shaped _, tDs_shaped gs, _, rfl, ?_⟩
        rw [tD_any]
        refine ite2 (fun c => ?_) (fun c => ?_)
        · obtain ⟨acc, ea, lacc, m2⟩ := mG1.add eq
          refine ⟨_, rfl, Or.inl ⟨rfl, _, SqL.of ea⟩, _, rfl, fa, acc, _, rfl, rfl, ea, by rw [lacc]; exact small1000 (by omega), gs ++ [cmp x l], m2, lt1.upd naf ea, S.more (.step (S.gen x (List.mem_of_getElem? hx)) lm) (by omega), by rw [List.length_append, List.length_singleton]; omega,
            by rw [List.length_append, List.length_singleton]; omega, by rw [List.getElem?_append_left hi]; exact hx, fun l' hl' => ?_, _, _, _, _, _, _, _, rfl⟩
          rw [tk] at hl'
          rcases List.mem_append.mp hl' with h | h
          · exact List.mem_append_left _ (hd l' h)
          · rw [List.mem_singleton.mp h]; exact List.mem_append_right _ (List.mem_singleton.mpr rfl)
        · have hin : cmp x l ∈ gs := by
            by_cases hm : cmp x l ∈ gs
            · exact hm
            · rw [decide_eq_false hm] at c; exact absurd rfl c
          refine ⟨gs, mG1, lt1, S, hi, by omega, hx, fun l' hl' => ?_, _, _, _, _, _, _, _, rfl⟩
          rw [tk] at hl'
          rcases List.mem_append.mp hl' with h | h
          · exact hd l' h
          · rw [List.mem_singleton.mp h]; exact hin
    · rintro _ G1 ⟨gs, mG, lt, S', hi, hl, hx', hd, x3, x4, x7, x8, x9, x10, x11, rfl⟩
      rw [List.length_map, lts] at hl hd
      rw [List.take_of_length_le (Nat.le_refl _)] at hd
      refine ⟨_, rfl, _, _, rfl, rfl, ⟨gs, i + 1, mG, lt, ⟨S'.lm, S'.sub, S'.gen, fun j hj z hz l hl => ?_⟩, hi, by omega, by omega, _, _, _, _, _, _, _, rfl⟩, ?_⟩
      · by_cases e : j = i
        · subst e
          rw [hx'] at hz
          cases hz
          exact hd l hl
        · exact S'.done j (by omega) z hz l hl
      · show 20 - (((i : Nat) : Int) + 1).toNat < 20 - ((i : Nat) : Int).toNat
        omega
  · refine ⟨_, rfl, fa, xs, rfl, .inl hxs, _, _, rfl, rfl, _, rfl, ite2 (fun d => ?_) (fun d => ?_)⟩
    · exact q _ _ (.inl rfl) mG.bx mG.sx
    have d' : ¬ (16 : Int) < ((xs.length : Nat) : Int) := of_decide_eq_false (Bool.eq_false_iff.mpr d)
    have n16 : fs.length ≤ 16 := by omega
    have hi : fs.length ≤ i := by
      by_cases z : i < fs.length
      · exact absurd (by rw [decide_eq_true z, decide_eq_true (show fs.length < 17 by omega)]; rfl) c
      · omega
    have C : Cl k fs := S.cl hi
    have n1 : 1 ≤ fs.length := by
      obtain ⟨m, hm⟩ : ∃ m, m ∈ ms := ⟨_, List.getElem_mem ln0⟩
      exact List.length_pos_of_mem (S.sub m hm)
    obtain ⟨fts, efts, pf⟩ := id mG.fm
    have lf : fts.length = fs.length := pf.length
    refine ⟨z05, fun ra hra => ?_⟩
    refine ⟨_, rfl, fa, rfl, ⟨_, SqL.of (Same.new hra _ _ _ efts)⟩, ?_⟩
    refine for_it (walk_list (xs := fts.map V.ref)) (fun a σ J => Part G J ra (rowsTo fs.length (fmp fs) a) ∧ ∃ x3 x4 x5 x6 x7 x9 x10 x11, σ = [some (.ref p), some (.int k), some (.ref fa), x3, x4, x5, x6, x7, some (.ref ra), x9, x10, x11])
      ⟨Part.start (Same.refl G) hra, _, _, _, _, _, _, _, _, rfl⟩ (fun _ _ _ _ z => SqL.of (z.1.same _ _ efts)) ?_ ?_
    · rintro a y _ J1 J2 ha ⟨pa, x3, x4, x5, x6, x7, x9, x10, x11, rfl⟩ ⟨rfl, hy⟩
      have ha' : a < fs.length := by rw [List.length_map, lf] at ha; exact ha
      obtain ⟨ta, hta, rfl⟩ := ref_at hy
      obtain ⟨x, hx, ex⟩ := pair_at pf hta
      have xk : Mp k x := C.mp x (List.mem_of_getElem? hx)
      have wk : (nv x).length = k := by rw [nv_len]; exact xk.1
      have sGJ := pa.same
      refine ⟨_, rfl, fa, rfl, ⟨_, SqL.of (sGJ _ _ efts)⟩, fun D hD => ?_⟩
      refine lc_it (walk_list (xs := fts.map V.ref)) (fun b G3 => Same J2 G3 ∧ ∃ rts : List Addr, G3 D = some (.lst (rts.map V.ref)) ∧ rts.length = b ∧ Paired (fun t m => G3 t = some (.tup (nv m))) rts ((fs.take b).map (cmp x)))
        ⟨Same.new hD _, [], upd_same, rfl, .nil⟩ (fun b G3 _ z => SqL.of (z.1 _ _ (sGJ _ _ efts))) ?_ ?_
      · rintro b z G3 G4 hb ⟨sG, rts, eD, lr, pr⟩ ⟨rfl, hz⟩
        obtain ⟨tb, htb, rfl⟩ := ref_at hz
        obtain ⟨y, hy, ey⟩ := pair_at pf htb
        have yk : Mp k y := C.mp y (List.mem_of_getElem? hy)
        have hb' : b < fs.length := by rw [List.length_map, lf] at hb; exact hb
        have tk : fs.take (b + 1) = fs.take b ++ [y] := by rw [List.take_add_one, hy]; rfl
        refine ⟨rfl, _, rfl, ta, rfl, ⟨_, SqT.of (sG _ _ (sGJ _ _ ex))⟩, fun D2 hD2 => ?_⟩
        have nD : D ≠ D2 := ne_of_none eD hD2
        refine lc_it (walk_tup (xs := nv x)) (fun c G5 => Same G4 G5 ∧ G5 D2 = some (.lst (nv ((cmp x y).take c)))) ⟨Same.new hD2 _, upd_same⟩ (fun c G5 _ z => SqT.of (z.1 _ _ (sG _ _ (sGJ _ _ ex)))) ?_ ?_
        · rintro c v G5 G6 hc ⟨sG5, eD2⟩ ⟨rfl, hv⟩
          rw [wk] at hc
          obtain ⟨s, hs, rfl⟩ := nv_at hv
          have sk : s < k := xk.2 s (List.mem_of_getElem? hs)
          refine ⟨rfl, _, rfl, _, rfl, tb, _, _, _, rfl, rfl, SqT.of (sG5 _ _ (sG _ _ (sGJ _ _ ey))), at_of (j := s) rfl (nv_get yk sk), _, eD2, ?_, fun c o ec => by rw [upd_ne (ne_of_none ec hD2)]; exact sG5 c o ec, ?_⟩
          · rw [nv_len, List.length_take]; exact small1000 (by omega)
          · rw [upd_same, cmp_take hs]; unfold nv; rw [List.map_append]; rfl
        · rintro G5 ⟨sG5, eD2⟩
          rw [List.take_of_length_le (by rw [wk]; have := (cmp_mp xk yk).1; omega)] at eD2
          refine ⟨D2, _, rfl, .inl ⟨SqL.of eD2, fun t ht => ?_⟩⟩
          have s6 : Same G4 (upd G5 t (.tup (nv (cmp x y)))) := sG5.trans (Same.new ht _)
          have eD6 := s6 _ _ eD
          have nt : t ≠ D := (ne_of_none (sG5 _ _ eD) ht).symm
          have nDt : ∀ {c : Addr} {vs : List V}, G4 c = some (.tup vs) → c ≠ D := fun {c vs} z w => by rw [w, eD] at z; cases z
          refine ⟨_, eD6, by rw [List.length_map, lr]; exact small1000 (by omega), fun c o ec => by rw [upd_ne (ne_of_none ec hD)]; exact s6 _ _ (sG c o ec), rts ++ [t], by rw [upd_same, List.map_append]; rfl, by simp [lr], ?_⟩
          rw [tk, List.map_append]
          exact pair_app (L2.Paired.mapP pr fun c m z => by rw [upd_ne (nDt z)]; exact s6 _ _ z) (by rw [upd_ne nt, upd_same])
      · rintro G3 ⟨sG, rts, eD, lr, pr⟩
        rw [List.length_map, lf] at lr pr
        rw [List.take_of_length_le (Nat.le_refl _)] at pr
        have pa3 := pa.to sG
        obtain ⟨rs0, er, _⟩ := id pa3.at_
        refine ⟨_, rfl, Or.inl ⟨rfl, _, SqL.of er⟩, _, rfl, D, rfl, ⟨_, SqL.of eD⟩, fun D3 hD3 => ?_⟩
        refine lc_it (walk_list (xs := rts.map V.ref)) (fun b G5 => Same G3 G5 ∧ G5 D3 = some (.lst ((rowTo (fmp fs) a b).map V.int))) ⟨Same.new hD3 _, upd_same⟩ (fun b G5 _ z => SqL.of (z.1 _ _ eD)) ?_ ?_
        · rintro b z G5 G6 hb ⟨sG5, eD3⟩ ⟨rfl, hz⟩
          have hb' : b < fs.length := by rw [List.length_map, lr] at hb; exact hb
          obtain ⟨tz, htz, rfl⟩ := ref_at hz
          obtain ⟨m, hm, em⟩ := pair_at pr htz
          have em' : m = cmp (fs.getD a []) (fs.getD b []) := by
            rw [List.getElem?_map, List.getElem?_eq_getElem hb'] at hm
            rw [List.getD_eq_getElem?_getD, hx, List.getD_eq_getElem?_getD, List.getElem?_eq_getElem hb']
            exact (Option.some.inj hm).symm
          have at1 := C.at_ ha' hb'
          rw [← em'] at at1
          refine ⟨rfl, _, rfl, Or.inl ⟨rfl, _, SqL.of (sG5 _ _ (sG _ _ (sGJ _ _ efts)))⟩, _, rfl, fa, .ref tz, tD m, fs.map tD, fmp fs a b, tD m, rfl, rfl, .lst (SqL.of (sG5 _ _ (sG _ _ (sGJ _ _ efts)))) (dp_tups (L2.Paired.mapP pf fun _ _ w => sG5 _ _ (sG _ _ (sGJ _ _ w)))),
            dp_tup (sG5 _ _ em), tDs_shaped fs, tD_shaped m, by rw [List.getElem?_map, at1.2]; rfl, by rw [tD_eqv]; exact decide_eq_true rfl, fun j z' hj hz' => ?_, _, eD3, by rw [rowTo_len]; exact small1000 (by omega), fun c o ec => by rw [upd_ne (ne_of_none ec hD3)]; exact sG5 c o ec, ?_⟩
          · rw [List.getElem?_map] at hz'
            obtain ⟨w, hw, rfl⟩ := Option.map_eq_some_iff.mp hz'
            rw [tD_eqv]
            refine decide_eq_false (idx_ahead (ms := fs) (m := m) ?_ hw)
            unfold fmp at hj
            rw [← em'] at hj
            exact hj
          · rw [upd_same, rowTo_next, List.map_append]; rfl
        · rintro G5 ⟨sG5, eD3⟩
          rw [List.length_map, lr] at eD3
          obtain ⟨acc, ea, lacc, p1⟩ := pa.add (q := D3) (sG.trans sG5) (sG.free hD3) eD3
          refine ⟨ra, acc, _, rfl, rfl, ea, by rw [lacc, rowsTo_len]; exact small1000 (by omega), ?_, _, _, _, _, _, _, _, _, rfl⟩
          rw [rowsTo_next]
          exact p1
    · rintro _ J1 ⟨pa, x3, x4, x5, x6, x7, x9, x10, x11, rfl⟩
      have pa' : Part G J1 ra (tab fs.length (fmp fs)) := by
        rw [List.length_map, lf] at pa
        exact pa
      exact ⟨_, rfl, q _ _ (.inr ⟨_, _, n1, n16, asf_maps C, pa'.fin.same (nw_back mG.sx mG.bx)⟩) (mG.bx.same pa'.same) (mG.sx.trans (Sx.of pa'.same))⟩
end
end L

set_option Elab.async false
set_option linter.all false
set_option maxRecDepth 100000
set_option maxHeartbeats 4000000
namespace L
open PySem L2 KX
abbrev sRows : Stmt := top 30
theorem erase_pm {α : Type} : ∀ {l : List α} {i : Nat} {y : α}, l[i]? = some y → (y :: l.eraseIdx i).Perm l
  | [], _, _, h => by simp at h
  | x :: l, 0, y, h => by simp at h; subst h; exact List.Perm.refl _
  | x :: l, i + 1, y, h => (List.Perm.swap x y _).trans ((erase_pm (l := l) (i := i) (by simpa using h)).cons x)
theorem erase_nv : ∀ {m : List Nat} {i : Nat}, (nv m).eraseIdx i = nv (m.eraseIdx i)
  | [], _ => rfl
  | x :: m, 0 => rfl
  | x :: m, i + 1 => congrArg (V.int ((x : Nat) : Int) :: ·) (erase_nv (m := m) (i := i))
theorem idx_ahead1 {ms : List Nat} {m : Nat} : ∀ {j : Nat} {z : Nat}, j < ms.idxOf m → ms[j]? = some z → z ≠ m := by
  induction ms with
  | nil => intro j z h e; cases e
  | cons a ms ih =>
    intro j z h e hz
    subst hz
    rw [List.idxOf_cons] at h
    by_cases ha : a = z
    · subst ha
      rw [show (a == a) = true from beq_self_eq_true a] at h
      exact absurd h (Nat.not_lt_zero _)
    · rw [show (a == z) = false from beq_eq_false_iff_ne.mpr ha] at h
      cases j with
      | zero => exact ha (Option.some.inj e)
      | succ j =>
        have h' : j + 1 < ms.idxOf z + 1 := h
        exact ih (j := j) (by omega) e rfl
section
variable {X : Cx} {K : PySem.W.Frag}
/-- a statement by what is known behind it -/
theorem ps_cut {st : Stmt} {t : TS} (h : PS X st t) : PS X st (fun D σ H => ∃ R : L2.St → Hp → Prop, t { D with nx := R } σ H ∧ ∀ σ' H', R σ' H' → D.nx σ' H') := by
  refine ⟨fun pins s σ H D I ⟨R, h1, k⟩ => thn (h.run pins s σ H { D with nx := R } I h1) fun f s1 q => ?_⟩
  cases f with
  | next =>
    obtain ⟨σ', H', I', q⟩ := q
    exact ⟨σ', H', I', k _ _ q⟩
  | ret v => exact q
  | brk => exact q
  | cont => exact q
theorem pil (hK : X.K = K) {tg l : Expr} {tl : TE} (h : PE X l tl) : PI X tg l (iList K tl) := by subst hK; exact pi_list h
theorem pe_bK (hK : X.K = K) {o e : Expr} {to : TE} {t : TA} {r : V → List V → Hp → VK → Prop} {name : Str} {apos cpos : Pos} (h : PE X (.Call (.Attribute o name apos) [e] [] cpos) (tBM X.K "list" r to t)) :
    PE X (.Call (.Attribute o name apos) [e] [] cpos) (tBM K "list" r to t) := by subst hK; exact h
theorem mt_idx1 (hK : X.K = K) : MtR X "list.index" (rIndex K) := by subst hK; exact mt_index
end
def scOut : Scope := { kind := .function, names := [(Str.ofString ".0", .local), (Str.ofString "a", .cell), (Str.ofString "order", .cell), (Str.ofString "rows", .cell)], isGenerator := false, isCoroutine := false }
/-- the rows so far: a new table at v -/
structure RwAt (H : Hp) (p : Addr) (J : Hp) (v : V) (n : Nat) (f : Nat → Nat → Nat) : Prop where
  bx : Bx J p
  sx : Sx p H J
  n1 : 1 ≤ n
  n16 : n ≤ 16
  as : Asf n f
  rows : RowsL (nw H J) v (tab n f)
theorem nw_to {H J : Hp} : Same (nw H J) J := fun c o h => (nw_some h).2
theorem RwAt.took {H J G : Hp} {p : Addr} {v : V} {n : Nat} {f : Nat → Nat → Nat} (h : RwAt H p J v n f) (hb : Bx H p) (s : Sx p J G) (b : Bx G p) : RwAt H p G v n f := ⟨b, h.sx.trans s, h.n1, h.n16, h.as, h.rows.same (nw_step hb s)⟩
theorem RwAt.to {H J G : Hp} {p : Addr} {v : V} {n : Nat} {f : Nat → Nat → Nat} (h : RwAt H p J v n f) (hb : Bx H p) (s : Same J G) : RwAt H p G v n f := h.took hb (Sx.of s) (h.bx.same s)
theorem RwAt.of {H J G : Hp} {p : Addr} {v : V} {n : Nat} {f : Nat → Nat → Nat} (b : Bx J p) (sx : Sx p H J) (s : Same J G) (n1 : 1 ≤ n) (n16 : n ≤ 16) (as : Asf n f) (r : RowsL (nw J G) v (tab n f)) : RwAt H p G v n f :=
  ⟨b.same s, sx.trans (Sx.of s), n1, n16, as, r.same (nw_back sx b)⟩
theorem RwAt.ofS {H J G : Hp} {p : Addr} {v : V} {n : Nat} {f : Nat → Nat → Nat} (b : Bx J p) (sx : Sx p H J) (s : Sx p J G) (bG : Bx G p) (n1 : 1 ≤ n) (n16 : n ≤ 16) (as : Asf n f) (r : RowsL (nw J G) v (tab n f)) : RwAt H p G v n f :=
  ⟨bG, sx.trans s, n1, n16, as, r.same (nw_back sx b)⟩
/-- the rows as a list -/
theorem RwAt.lst {K : PySem.W.Frag} {H J : Hp} {p : Addr} {v : V} {n : Nat} {f : Nat → Nat → Nat} (h : RwAt H p J v n f) : ∃ a xs, v = .ref a ∧ SqL K J a xs ∧ xs.length = n :=
  let ⟨a, rs, e, ea, pr⟩ := h.rows
  ⟨a, _, e, SqL.of (nw_to _ _ ea), by rw [List.length_map, pr.length, tab_len]⟩
theorem RwAt.ne {H J : Hp} {p : Addr} {v : V} {n : Nat} {f : Nat → Nat → Nat} (h : RwAt H p J v n f) : v ≠ .non := fun e => by
  obtain ⟨a, rs, e', _⟩ := h.rows
  rw [e'] at e; cases e
theorem rg_nv (n : Nat) : rgV 0 (n : Int) = nv (List.range n) := by
  unfold rgV nv
  rw [Int.sub_zero, Int.toNat_natCast]
  exact List.map_congr_left fun x _ => by rw [Int.zero_add]
def spRows : Sp := fun vs H Q _ => ∃ p, vs = [.ref p] ∧ Bx H p ∧ ∀ v H' n f, RwAt H p H' v n f → Q v H'
abbrev nRows : List Str := ["box", "kind", "rows", "more", "other", "left", "order", "k", "b", "a"]
section
variable {P : Program} {w : World} {K : PySem.W.Frag} {mg : Str → Option Value} {base : Heap} {f g gn : Addr} {fd gd gnd : FuncData} {g1 g2 g3 g4 g5 g6 : Addr} {d1 d2 d3 d4 d5 d6 : FuncData}
theorem scRows : FnScope nRows ["box"] (defScope sRows) := ⟨rfl, rfl, rfl, by decide +kernel, rfl, by decide +kernel, by decide +kernel⟩
theorem ok_rows (F : Fun K "_law_rows" "_law_rows" sRows f fd) (M : Mn mg) (G : FnOk P w K mg base CX0 1 g gd ["box", "size"] spTake) (bG : Binds K gd ["box", "size"] []) (kG : PySem.W.keepIn K (.ref g) = true) (mG : mg "_law_take" = some (.ref g))
    (G1 : FnOk P w K mg base CX0 2 g1 d1 ["box"] spMaps) (b1 : Binds K d1 ["box"] []) (k1 : PySem.W.keepIn K (.ref g1) = true) (m1 : mg "_law_maps" = some (.ref g1))
    (G2 : FnOk P w K mg base CX0 2 g2 d2 ["box"] spGrid) (b2 : Binds K d2 ["box"] []) (k2 : PySem.W.keepIn K (.ref g2) = true) (m2 : mg "_law_grid" = some (.ref g2))
    (G3 : FnOk P w K mg base CX0 1 g3 d3 [] spWords) (b3 : Binds K d3 [] []) (k3 : PySem.W.keepIn K (.ref g3) = true) (m3 : mg "_law_words" = some (.ref g3))
    (G4 : FnOk P w K mg base CX0 1 g4 d4 ["kind", "n"] spPlain) (b4 : Binds K d4 ["kind", "n"] []) (k4 : PySem.W.keepIn K (.ref g4) = true) (m4 : mg "_law_plain" = some (.ref g4))
    (G5 : FnOk P w K mg base CX0 1 g5 d5 ["rows", "kind"] spExt) (b5 : Binds K d5 ["rows", "kind"] []) (k5 : PySem.W.keepIn K (.ref g5) = true) (m5 : mg "_law_extended" = some (.ref g5))
    (G6 : FnOk P w K mg base CX0 1 g6 d6 ["one", "other"] spPairs) (b6 : Binds K d6 ["one", "other"] []) (k6 : PySem.W.keepIn K (.ref g6) = true) (m6 : mg "_law_pairs" = some (.ref g6)) :
    FnOk P w K mg base CX0 3 f fd ["box"] spRows := by
  refine F.ok scRows (fun vs H Q E h => ?_) (fun cdv A outer s H vs Q E hr2 h => ?_)
  · obtain ⟨p, rfl, _⟩ := h
    rfl
  obtain ⟨p, rfl, hb, q⟩ := h
  have hr : Room 1 _ := hr2.mono (by decide)
  refine ⟨_, pss_cons (ps_asg (pe_tup (pa_cons (pe_call G hr (by rfl) mG kG bG .nil pass0 (pa_cons (pv 0) (pa_cons pe_int pa_nil))) (pa_cons pe_non pa_nil)))
      (pg_tup rfl (pgs_cons (pg_name (i := 1) scRows.nd rfl (Or.inl rfl)) (pgs_cons (pg_name (i := 2) scRows.nd rfl (Or.inr rfl)) pgs_nil))))
    (pss_cons (ps_cut (ps_if (pt_cmpR op_lt (pv 1) pe_int (nomark _)) (pss_one (ps_set (i := 2) scRows.nd rfl (Or.inr rfl) (pe_call G1 hr2 (by rfl) m1 k1 b1 .nil pass0 (pa_cons (pv 0) pa_nil))))
      (pss_one (ps_if (pt_cmpR op_eq (pv 1) pe_int (nomark _)) (pss_one (ps_set (i := 2) scRows.nd rfl (Or.inr rfl) (pe_call G2 hr2 (by rfl) m2 k2 b2 .nil pass0 (pa_cons (pv 0) pa_nil))))
        (pss_one (ps_if (pt_cmpR op_eq (pv 1) pe_int (nomark _)) (pss_one (ps_set (i := 2) scRows.nd rfl (Or.inr rfl) (pe_call0 G3 hr (by rfl) m3 k3 b3 .nil pass0))) pss_nil))))))
    (pss_cons (ps_cut (ps_if (pt_cmp (pc_isN (pv 2))) (pss_cons (ps_set (i := 1) scRows.nd rfl (Or.inl rfl) (pe_call G hr (by rfl) mG kG bG .nil pass0 (pa_cons (pv 0) (pa_cons pe_int pa_nil))))
      (pss_one (ps_set (i := 2) scRows.nd rfl (Or.inr rfl) (pe_call G4 hr (by rfl) m4 k4 b4 .nil pass0 (pa_cons (pv 1) (pa_cons (pe_op op_add pe_int (pe_call G hr (by rfl) mG kG bG .nil pass0 (pa_cons (pv 0) (pa_cons
        (pe_ix ix_list (pe_lst (pa_cons pe_int (pa_cons pe_int (pa_cons pe_int pa_nil)))) (pe_call G hr (by rfl) mG kG bG .nil pass0 (pa_cons (pv 0) (pa_cons pe_int pa_nil))) (fun _ _ => rfl)) pa_nil)))) pa_nil)))))) pss_nil))
    (pss_cons (ps_set (i := 3) scRows.nd rfl (Or.inl rfl) (pe_call G hr (by rfl) mG kG bG .nil pass0 (pa_cons (pv 0) (pa_cons pe_int pa_nil))))
    (pss_cons (ps_cut (ps_if (pt_mo (pw_and (pt_cmpR op_lt (pv 3) pe_int (nomark _)) (pw_and1 (pt_cmpR op_lt (pe_callB call_len_seq (by rfl) M.len PySem.boot_len (pa_cons (pv 2) pa_nil)) pe_int (nomark _)))).pt)
      (pss_one (ps_set (i := 2) scRows.nd rfl (Or.inr rfl) (pe_call G5 hr (by rfl) m5 k5 b5 .nil pass0 (pa_cons (pv 2) (pa_cons (pv 3) pa_nil))))) pss_nil))
    (pss_cons (ps_set (i := 4) scRows.nd rfl (Or.inl rfl) (pe_call G4 hr (by rfl) m4 k4 b4 .nil pass0 (pa_cons (pe_call G hr (by rfl) mG kG bG .nil pass0 (pa_cons (pv 0) (pa_cons pe_int pa_nil)))
      (pa_cons (pe_op op_add pe_int (pe_call G hr (by rfl) mG kG bG .nil pass0 (pa_cons (pv 0) (pa_cons pe_int pa_nil)))) pa_nil))))
    (pss_cons (ps_cut (ps_if (pw_and (pt_cmpR op_eq (pe_call G hr (by rfl) mG kG bG .nil pass0 (pa_cons (pv 0) (pa_cons pe_int pa_nil))) pe_int (nomark _))
        (pw_and1 (pt_cmpR op_le (pe_op op_mul (pe_callB call_len_seq (by rfl) M.len PySem.boot_len (pa_cons (pv 2) pa_nil)) (pe_callB call_len_seq (by rfl) M.len PySem.boot_len (pa_cons (pv 4) pa_nil))) pe_int (nomark _)))).pt
      (pss_one (ps_set (i := 2) scRows.nd rfl (Or.inr rfl) (pe_call G6 hr (by rfl) m6 k6 b6 .nil pass0 (pa_cons (pv 2) (pa_cons (pv 4) pa_nil))))) pss_nil))
    (pss_cons (ps_set (i := 5) scRows.nd rfl (Or.inr rfl) (pe_listRg rfl (by rfl) M.list (prg_1 (by rfl) M.range (pe_callB call_len_seq (by rfl) M.len PySem.boot_len (pa_cons (pv 2) pa_nil)))))
    (pss_cons (ps_set (i := 6) scRows.nd rfl (Or.inr rfl) (pe_lc (own := [("k", 7)]) (g := gName 7) (tt := tYes) rfl scRows.nd (pi_range1 (by rfl) M.range (pa_cons (pe_callB call_len_seq (by rfl) M.len PySem.boot_len (pa_cons (pv 2) pa_nil)) pa_nil))
      (blkOk_by (N := nRows) (sc := defScope sRows) (by decide +kernel)) (fun _ _ _ _ _ => pg_name (i := 7) scRows.nd rfl (Or.inl rfl)) (fun _ _ _ _ _ => pts_nil)
      (fun _ _ _ _ _ => pe_bK (K := K) rfl (pe_bm PySem.F.plainAttrs_list PySem.F.slot_list_pop PySem.F.type_list_pop mt_popAt (pv 5) (pa_cons (pe_call G hr (by rfl) mG kG bG .nil pass0 (pa_cons (pv 0)
        (pa_cons (pe_callB (lenl (K := K) rfl) (by rfl) M.len PySem.boot_len (pa_cons (pv 5) pa_nil)) pa_nil))) pa_nil)))))
    (pss_one (ps_ret (pe_lc (own := [("a", 9)]) (g := gName 9) (tt := tYes) rfl scRows.nd (pi_list (pv 6))
      (blkOk_by (N := nRows) (sc := defScope sRows) (by decide +kernel)) (fun _ _ _ _ _ => pg_name (i := 9) scRows.nd rfl (Or.inr rfl)) (fun _ _ _ _ _ => pts_nil)
      (fun _ _ _ _ _ => pe_lc (own := [("b", 8)]) (g := gName 8) (tt := tYes) rfl scRows.nd (pil (K := K) rfl (pv 6))
        (blkOk_by (N := nRows) (sc := scOut) (by decide +kernel)) (fun _ _ _ _ _ => pg_name (i := 8) scRows.nd rfl (Or.inl rfl)) (fun _ _ _ _ _ => pts_nil)
        (fun _ _ _ _ _ => pe_bK (K := K) rfl (pe_bm PySem.F.plainAttrs_list PySem.F.slot_list_index PySem.F.type_list_index (mt_idx1 (K := K) rfl) (pv 6)
          (pa_cons (pe_ix (ixl (K := K) rfl) (pe_ix (ixl (K := K) rfl) (pv 2) (pv 9) (fun _ _ => rfl)) (pv 8) (fun _ _ => rfl)) pa_nil))))))))))))))), ?_⟩
  refine ⟨_, rfl, p, 10, rfl, hb, by decide, by decide, fun r J ra rb bJ sJ => ?_⟩
  refine ⟨(by show 2 ≤ sizeLine; decide), fun t ht => ⟨t, _, rfl, SqT.of upd_same, rfl, _, _, rfl, _, _, rfl, rfl, ?_⟩⟩
  have bx1 : Bx (upd J t (.tup [.int r, .non])) p := bJ.new ht
  have sx1 : Sx p H (upd J t (.tup [.int r, .non])) := sJ.trans (Sx.new ht)
  refine ⟨fun σ G => ∃ v x1, Bx G p ∧ Sx p H G ∧ (v = .non ∨ ∃ n f, RwAt H p G v n f) ∧ ∃ x3 x4 x5 x6 x7 x8 x9, σ = [some (.ref p), x1, some v, x3, x4, x5, x6, x7, x8, x9], ?_, ?_⟩
  · refine ⟨_, rfl, _, _, rfl, rfl, _, rfl, ite2 (fun c => ?_) (fun c => ?_)⟩
    · refine ⟨_, rfl, p, rfl, bx1, fun v G hv b s => ⟨v, _, b, sx1.trans s, ?_, _, _, _, _, _, _, _, rfl⟩⟩
      rcases hv with hv | ⟨n, f, h1, h2, h3, h4⟩
      · exact .inl hv
      · exact .inr ⟨n, f, RwAt.ofS bx1 sx1 s b h1 h2 h3 h4⟩
    · refine ⟨_, rfl, rfl, _, rfl, ite2 (fun c => ?_) (fun c => ?_)⟩
      · exact ⟨_, rfl, p, rfl, bx1, fun v G sh hs rw b s => ⟨v, _, b, sx1.trans s, .inr ⟨8, fgr sh, RwAt.ofS bx1 sx1 s b (by decide) (by decide) (asf_grid sh hs) rw⟩, _, _, _, _, _, _, _, rfl⟩⟩
      · refine ⟨_, rfl, rfl, _, rfl, ite2 (fun c => ?_) (fun c => ?_)⟩
        · exact ⟨rfl, fun v G rw s => ⟨v, _, bx1.same s, sx1.trans (Sx.of s), .inr ⟨7, fwd, RwAt.of bx1 sx1 s (by decide) (by decide) asf_words rw⟩, _, _, _, _, _, _, _, rfl⟩⟩
        · exact ⟨.non, _, bx1, sx1, .inl rfl, _, _, _, _, _, _, _, rfl⟩
  rintro _ G ⟨v, x1, b, sx, hv, x3, x4, x5, x6, x7, x8, x9, rfl⟩
  refine ⟨fun σ G => ∃ v x1 n f, RwAt H p G v n f ∧ ∃ x3 x4 x5 x6 x7 x8 x9, σ = [some (.ref p), x1, some v, x3, x4, x5, x6, x7, x8, x9], ?_, ?_⟩
  · refine ⟨_, rfl, _, rfl, ite2 (fun c => ?_) (fun c => ?_)⟩
    · refine ⟨_, rfl, p, 6, rfl, b, by decide, by decide, fun kd G1 ka kb b1 s1 => ?_⟩
      obtain ⟨kd, rfl⟩ := Int.eq_ofNat_of_zero_le ka
      refine ⟨_, rfl, _, rfl, (by show 3 ≤ sizeLine; decide), fun l hl => ⟨_, rfl, p, 3, rfl, b1.new hl, by decide, by decide, fun i G2 ia ib b2 s2 => ?_⟩⟩
      have nl : l ≠ p := b1.ne hl
      have el : G2 l = some (.lst [.int 7, .int 7, .int 16]) := s2 l _ nl upd_same
      obtain ⟨z, hz, z1, z2⟩ : ∃ z : Int, atI [V.int 7, .int 7, .int 16] i = some (.int z) ∧ 0 < z ∧ z ≤ 16 := by
        obtain ⟨i, rfl⟩ := Int.eq_ofNat_of_zero_le ia
        have i3 : i < 3 := by omega
        match i, i3 with
        | 0, _ => exact ⟨7, rfl, by decide, by decide⟩
        | 1, _ => exact ⟨7, rfl, by decide, by decide⟩
        | 2, _ => exact ⟨16, rfl, by decide, by decide⟩
      refine ⟨l, _, _, _, rfl, rfl, SqL.of el, hz, p, z, rfl, b2, z1, by omega, fun m G3 ma mb b3 s3 => ?_⟩
      obtain ⟨m, rfl⟩ := Int.eq_ofNat_of_zero_le ma
      refine ⟨_, _, rfl, rfl, kd, 1 + m, congrArg (fun z => [V.int (kd : Int), V.int z]) (by omega), by omega, by omega, by omega, fun v' G4 rw s4 => ?_⟩
      have sx3 : Sx p H G3 := ((sx.trans s1).trans (Sx.new hl)).trans (s2.trans s3)
      exact ⟨v', _, 1 + m, fpl kd (1 + m), RwAt.of b3 sx3 s4 (by omega) (by omega) (asf_plain kd (1 + m) (by omega)) rw, _, _, _, _, _, _, _, rfl⟩
    · rcases hv with rfl | ⟨n, f, hv⟩
      · exact absurd (decide_eq_true rfl) c
      · exact ⟨v, _, n, f, hv, _, _, _, _, _, _, _, rfl⟩
  clear b sx hv x1
  rintro _ G ⟨v, x1, n, f, h, x3, x4, x5, x6, x7, x8, x9, rfl⟩
  refine ⟨_, rfl, p, 5, rfl, h.bx, by decide, by decide, fun mo G1 ma mb b1 s1 => ?_⟩
  obtain ⟨mo, rfl⟩ := Int.eq_ofNat_of_zero_le ma
  have h1 := h.took hb s1 b1
  refine ⟨fun σ G => ∃ v x1 x3 n f, RwAt H p G v n f ∧ ∃ x4 x5 x6 x7 x8 x9, σ = [some (.ref p), x1, some v, x3, x4, x5, x6, x7, x8, x9], ?_, ?_⟩
  · obtain ⟨a, xs, rfl, hxs, lxs⟩ := h1.lst (K := K)
    refine ⟨fun b G' => G1 = G' ∧ (b = true → mo < 2 ∧ n < 16), ?_, ?_⟩
    · refine ⟨_, rfl, _, _, rfl, rfl, _, rfl, ite2 (fun c => ⟨_, rfl, a, xs, rfl, .inl hxs, _, _, rfl, rfl, _, rfl, rfl, fun d => ?_⟩) (fun c => ⟨rfl, fun z => by cases z⟩)⟩
      have c' : ((mo : Nat) : Int) < 2 := of_decide_eq_true c
      have d' : ((xs.length : Nat) : Int) < 16 := of_decide_eq_true d
      exact ⟨by omega, by omega⟩
    rintro bb _ ⟨rfl, hbb⟩
    refine ite2 (fun c => ?_) (fun c => ?_)
    · obtain ⟨c1, c2⟩ := hbb c
      exact ⟨_, rfl, _, rfl, .ref a, mo, n, f, rfl, c1, h1.n1, c2, h1.rows.same nw_to, fun v' G2 rw sm => ⟨v', _, _, n + 1, fex mo n f, RwAt.of h1.bx h1.sx sm (by omega) (by omega) (asf_extended h1.as) rw, _, _, _, _, _, _, rfl⟩⟩
    · exact ⟨.ref a, _, _, n, f, h1, _, _, _, _, _, _, rfl⟩
  clear h h1 b1 s1
  rintro _ G ⟨v, x1, x3, n, f, h, x4, x5, x6, x7, x8, x9, rfl⟩
  refine ⟨_, rfl, p, 6, rfl, h.bx, by decide, by decide, fun kd G1 ka kb b1 s1 => ?_⟩
  obtain ⟨kd, rfl⟩ := Int.eq_ofNat_of_zero_le ka
  refine ⟨_, rfl, p, 3, rfl, b1, by decide, by decide, fun m G2 ma mb b2 s2 => ?_⟩
  obtain ⟨m, rfl⟩ := Int.eq_ofNat_of_zero_le ma
  refine ⟨_, _, rfl, rfl, kd, 2 + m, congrArg (fun z => [V.int (kd : Int), V.int z]) (by omega), by omega, by omega, by omega, fun v2 G3 rw2 sm2 => ?_⟩
  have h2 := (h.took hb (s1.trans s2) b2).to hb sm2
  have o2 : RwAt H p G3 v2 (2 + m) (fpl kd (2 + m)) := RwAt.of b2 (h.sx.trans (s1.trans s2)) sm2 (by omega) (by omega) (asf_plain kd (2 + m) (by omega)) rw2
  refine ⟨fun σ G => ∃ v x1 x3 n f, RwAt H p G v n f ∧ ∃ x4 x5 x6 x7 x8 x9, σ = [some (.ref p), x1, some v, x3, x4, x5, x6, x7, x8, x9], ?_, ?_⟩
  · refine ⟨_, rfl, p, 3, rfl, h2.bx, by decide, by decide, fun r G4 ra rb b4 s4 => ?_⟩
    have h3 := h2.took hb s4 b4
    have o3 := o2.took hb s4 b4
    have stay : ∃ (v' : V) (x1' x3' : Option V) (n' : Nat) (f' : Nat → Nat → Nat), RwAt H p G4 v' n' f' ∧ ∃ x4' x5' x6' x7' x8' x9', ([some (.ref p), x1, some v, x3, some v2, x5, x6, x7, x8, x9] : L2.St) = [some (.ref p), x1', some v', x3', x4', x5', x6', x7', x8', x9'] := ⟨v, _, _, n, f, h3, _, _, _, _, _, _, rfl⟩
    obtain ⟨a, xs, rfl, hxs, lxs⟩ := h3.lst (K := K)
    obtain ⟨a2, xs2, rfl, hxs2, lxs2⟩ := o3.lst (K := K)
    have hn16 := h3.n16
    refine ⟨rfl, _, rfl, ite2 (fun c => ⟨_, rfl, a, xs, rfl, .inl hxs, _, rfl, a2, xs2, rfl, .inl hxs2, _, _, rfl, rfl, .inl ⟨by omega, by omega⟩, _, _, rfl, rfl, _, rfl, ite2 (fun d => ?_) (fun d => stay)⟩) (fun c => iteF stay)⟩
    have d' : ((xs.length : Nat) : Int) * ((xs2.length : Nat) : Int) ≤ 16 := of_decide_eq_true d
    rw [lxs, lxs2] at d'
    have hmul : n * (2 + m) ≤ 16 := by
      have e := Int.natCast_mul n (2 + m)
      omega
    refine ⟨_, rfl, _, rfl, .ref a, .ref a2, n, 2 + m, f, fpl kd (2 + m), rfl, h3.n1, o3.n1, hmul, h3.rows.same nw_to, o3.rows.same nw_to, fun v' G5 rw sm => ⟨v', _, _, n * (2 + m), fpr (2 + m) f (fpl kd (2 + m)), RwAt.of h3.bx h3.sx sm ?_ hmul (asf_pairs o3.n1 h3.as o3.as) rw, _, _, _, _, _, _, rfl⟩⟩
    exact Nat.mul_pos h3.n1 o3.n1
  clear h2 o2 h b1 s1 b2 s2 sm2 rw2
  rintro _ G4 ⟨v, x1, x3, n, f, h, x4, x5, x6, x7, x8, x9, rfl⟩
  obtain ⟨av, xs, rfl, hxs, lxs⟩ := h.lst (K := K)
  have n1 := h.n1
  have n16 := h.n16
  refine ⟨_, rfl, av, xs, rfl, .inl hxs, _, rfl, RgOk.of_le (by omega) (by omega) (by omega) (by omega), fun la hla => ?_⟩
  rw [lxs, rg_nv]
  have nla : la ≠ p := h.bx.ne hla
  have sla : Same G4 (upd G4 la (.lst (nv (List.range n)))) := Same.new hla _
  have hl := h.to hb sla
  obtain ⟨_, xs', e', hxs', lxs'⟩ := hl.lst (K := K)
  cases e'
  refine ⟨_, rfl, av, xs', rfl, .inl hxs', _, rfl, by omega, by omega, fun D hD => ?_⟩
  have nDp : D ≠ p := hl.bx.ne hD
  have nDl : la ≠ D := ne_of_none (show (upd G4 la (.lst (nv (List.range n)))) la = some _ from upd_same) hD
  have D4 : G4 D = none := sla.free hD
  rw [lxs']
  refine lc_range (lo := 0) (n := ((n : Nat) : Int).toNat) (fun i J => Bx J p ∧ Sx p G4 J ∧ ∃ od lf : List Nat, J la = some (.lst (nv lf)) ∧ J D = some (.lst (nv od)) ∧ (od ++ lf).Perm (List.range n) ∧ od.length = i)
    ⟨hl.bx.new hD, (Sx.of sla).trans (Sx.new hD), [], List.range n, by rw [upd_ne nDl]; exact upd_same, upd_same, List.Perm.refl _, rfl⟩ ?_ ?_
  · rintro i J hi ⟨bJ, sJ, od, lf, eL, eD, pm, lo⟩
    have hi' : i < n := by simpa using hi
    have ll : lf.length = n - i := by
      have := pm.length_eq
      rw [List.length_append, List.length_range, lo] at this
      omega
    refine ⟨rfl, _, rfl, Or.inl ⟨rfl, _, SqL.of eL⟩, _, rfl, _, rfl, la, _, rfl, .inl (SqL.of eL), p, _, rfl, bJ, ?_, ?_, fun r J1 ra rb b1 s1 => ?_⟩
    · rw [nv_len]; omega
    · rw [nv_len]; omega
    rw [nv_len] at rb
    obtain ⟨r, rfl⟩ := Int.eq_ofNat_of_zero_le ra
    have hr : r < lf.length := by omega
    have eL1 := s1 la _ nla eL
    have eD1 := s1 D _ nDp eD
    have sq : seqIndex? ((r : Nat) : Int) (nv lf).length = some r := by
      unfold seqIndex?
      have h0 : ¬ ((r : Nat) : Int) < 0 := by omega
      simp only [if_neg h0]
      rw [nv_len, if_pos (by simp; omega), Int.toNat_natCast]
    refine ⟨la, nv lf, _, r, .int ((lf[r] : Nat) : Int), rfl, rfl, eL1, by omega, by omega, sq, by unfold nv; rw [List.getElem?_map, List.getElem?_eq_getElem hr]; rfl, ?_⟩
    refine ⟨nv od, by rw [upd_ne nDl.symm]; exact eD1, by rw [nv_len, lo]; exact small1000 (by omega), (b1.at_ne nla).at_ne nDp, fun b o hbp e => ?_, od ++ [lf[r]], lf.eraseIdx r, ?_, ?_, ?_, by simp [lo]⟩
    · rw [upd_ne (ne_of_none e D4), upd_ne (ne_of_none e hla)]; exact s1 b o hbp (sJ b o hbp e)
    · rw [upd_ne nDl, upd_same, erase_nv]
    · rw [upd_same]; unfold nv; rw [List.map_append]; rfl
    · refine List.Perm.trans ?_ pm
      rw [List.append_assoc]
      exact (erase_pm (List.getElem?_eq_getElem hr)).append_left od
  rintro J ⟨bJ, sJ, o, lf, eL, eD, pm, lo⟩
  rw [Int.toNat_natCast] at lo
  have lf0 : lf = [] := by
    have := pm.length_eq
    rw [List.length_append, List.length_range, lo] at this
    exact List.eq_nil_of_length_eq_zero (by omega)
  subst lf0
  rw [List.append_nil] at pm
  have hJ := h.took hb sJ bJ
  obtain ⟨av', rs, e', eR, pr⟩ := id hJ.rows
  cases e'
  have eR' := nw_to _ _ eR
  have om : ∀ x, x ∈ o → x < n := fun x hx => List.mem_range.mp (pm.mem_iff.mp hx)
  have oi : ∀ x, x < n → x ∈ o := fun x hx => pm.mem_iff.mpr (List.mem_range.mpr hx)
  refine ⟨_, rfl, D, rfl, ⟨_, SqL.of eD⟩, fun D4 hD4 => ?_⟩
  refine lc_it (walk_list (xs := nv o)) (fun i G => Part J G D4 (rowsTo n (frn o f) i)) (Part.start (Same.refl J) hD4) (fun i G _ z => SqL.of (z.same _ _ eD)) ?_ ?_
  · rintro i x G1 G2 hi pa ⟨rfl, hx⟩
    rw [nv_len, lo] at hi
    obtain ⟨ai, hai, rfl⟩ := nv_at hx
    have an : ai < n := om ai (List.mem_of_getElem? hai)
    refine ⟨rfl, _, rfl, D, rfl, ⟨_, SqL.of (pa.same _ _ eD)⟩, fun D5 hD5 => ?_⟩
    refine lc_it (walk_list (xs := nv o)) (fun j G => Same G2 G ∧ G D5 = some (.lst ((rowTo (frn o f) i j).map V.int))) ⟨Same.new hD5 _, upd_same⟩ (fun j G _ z => SqL.of (z.1 _ _ (pa.same _ _ eD))) ?_ ?_
    · rintro j y G3 G4' hj ⟨sG, e5⟩ ⟨rfl, hy⟩
      rw [nv_len, lo] at hj
      obtain ⟨bj, hbj, rfl⟩ := nv_at hy
      have bn : bj < n := om bj (List.mem_of_getElem? hbj)
      have lrs : rs.length = n := by rw [pr.length, tab_len]
      obtain ⟨row, hrow, er⟩ := pair_at pr (List.getElem?_eq_getElem (show ai < rs.length by omega))
      rw [tab_row an] at hrow
      cases hrow
      have er' := sG _ _ (pa.same _ _ (nw_to _ _ er))
      have fl := hJ.as.lt ai bj an bn
      have gt : o.idxOf (f ai bj) < o.length := List.idxOf_lt_length_iff.mpr (oi _ fl)
      refine ⟨rfl, _, rfl, Or.inl ⟨rfl, _, SqL.of (sG _ _ (pa.same _ _ eD))⟩, _, rfl, _, rfl, av, _, _, _, rfl, rfl, SqL.of (sG _ _ (pa.same _ _ eR')), at_of (j := ai) rfl (by rw [List.getElem?_map, List.getElem?_eq_getElem (show ai < rs.length by omega)]; rfl), _, rfl, rs[ai], _, _, .int ((f ai bj : Nat) : Int), rfl, rfl, SqL.of er',
        at_of (j := bj) rfl (by rw [List.getElem?_map, List.getElem?_map, List.getElem?_range bn]; rfl), ?_⟩
      refine ⟨D, nv o, .int ((f ai bj : Nat) : Int), o.idxOf (f ai bj), .int ((f ai bj : Nat) : Int), rfl, rfl, SqL.of (sG _ _ (pa.same _ _ eD)), rfl, ?_, ?_, beq_self_eq_true _, fun m z' hm hz' => ?_, _, e5, by rw [rowTo_len]; exact small1000 (by omega), fun c ob ec => by rw [upd_ne (ne_of_none ec hD5)]; exact sG c ob ec, ?_⟩
      · unfold nv; rw [List.all_map]; exact List.all_eq_true.mpr fun _ _ => rfl
      · unfold nv; rw [List.getElem?_map, List.getElem?_eq_getElem gt, List.getElem_idxOf gt]; rfl
      · obtain ⟨w, hw, rfl⟩ := nv_at hz'
        have ne := idx_ahead1 hm hw
        exact beq_eq_false_iff_ne.mpr (by omega)
      · rw [upd_same, rowTo_next, List.map_append]
        refine congrArg (fun z => some (HO.lst (_ ++ [V.int z]))) ?_
        show ((o.idxOf (f ai bj) : Nat) : Int) = ((frn o f i j : Nat) : Int)
        unfold frn plc
        rw [List.getD_eq_getElem?_getD, hai, List.getD_eq_getElem?_getD, hbj]; rfl
    · rintro G3 ⟨sG, e5⟩
      rw [nv_len, lo] at e5
      obtain ⟨acc, ea, lacc, p1⟩ := pa.add sG hD5 e5
      refine ⟨acc, ea, by rw [lacc, rowsTo_len]; exact small1000 (by omega), ?_⟩
      rw [rowsTo_next]
      exact p1
  · rintro G1 pa
    rw [nv_len, lo] at pa
    have pa' : Part J G1 D4 (tab n (frn o f)) := pa
    exact q _ _ n (frn o f) (RwAt.of hJ.bx hJ.sx pa'.same n1 n16 (asf_renum hJ.as pm) pa'.fin)
end
end L

set_option Elab.async false
set_option linter.all false
set_option maxRecDepth 100000
set_option maxHeartbeats 4000000
/-! Own layer: len of an own instance; a call of a def held as a value. -/
namespace KX
open PySem PySem.Spec PyProof.Rows L2
section
open PySem.W
variable {M : Model} {A : Around} {E : Value → Shared → Prop} {s : Shared} {K : Frag}
/-- a special method of the text -/
theorem cspecF {self : Value} {name : PySem.Str} {f : Addr} {args : List Value} {Q : Option Value → Shared → Prop} (X : K.In s.heap) (sp : Looks M s.heap (specialOf self name) (some (.ref f))) (tf : typeIn K (.ref f) = some (.type "function"))
    (hc : wpAny M A (call (.ref f) (self :: args)) (fun v => Q (some v)) E s) : wpAny M A (callSpecial? self name args) Q E s := by
  simp only [callSpecial?]
  refine wpAny_bind (sp.here ?_)
  refine wpAny_holding (wpAny_bind ((bind_fn X self tf).here ?_))
  exact wpAny_bind (wpAny_mono hc (fun v s' h' => wpAny_pure h') fun _ _ h' => h')
end
section
variable {X : Cx} {CX : CXT} {k : Nat} {C f : Addr} {fd : FuncData} {sp : Sp}
def rLenOwn (C : Addr) (sp : Sp) : List V → Hp → VK → Prop := fun xs H Q => ∃ (p dx : Addr) (fs : List (Str × V)), xs = [.ref p] ∧ H p = some (.ins C dx fs) ∧ sp [.ref p] H (fun v H1 => ∃ n : Nat, v = .int (n : Int) ∧ (n : Int) < 2 ^ 63 ∧ Q (.int n) H1) (fun _ _ _ => False)
theorem call_lenOwn (hm : PySem.W.findIn X.K (.ref C) "__len__" = some (some (.ref f))) (tf : PySem.W.typeIn X.K (.ref f) = some (.type "function")) (F : FnOk X.prog X.w X.K X.mg X.base CX0 k f fd ["self"] sp) (hr : Room (k + 1) X.A) (hb : Binds X.K fd ["self"] []) :
    CallR X (.builtin "len") (rLenOwn C sp) := by
  intro pins s σ H xs us Q I r h
  obtain ⟨p, dx, fs, rfl, hp, q⟩ := h
  obtain ⟨u, rfl, rx⟩ := vals1 r
  cases rx
  obtain ⟨mA, J, _⟩ := ins_get I.hok hp
  obtain ⟨od, J, _⟩ := J.look
  have sp1 : PySem.W.Looks (model X.prog X.w) s.heap (specialOf (.ref p) "__len__") (some (.ref f)) := J.type.andThen (PySem.W.looks_findIn I.kIn hm)
  have hl := F.len _ _ _ _ q
  have r2 : Vals [V.ref p] [Value.ref p] := .cons rfl .nil
  have e0 : Env0 X.prog X.w X.K X.mg X.base X.A.in1 X.stack s H := I.env0.in1
  have run : wpAny (model X.prog X.w) X.A.in1 (call (.ref f) [.ref p]) (fun r s' => ∃ n u, r = .int n u ∧ 0 ≤ n ∧ n < 2 ^ 63 ∧ EP X pins σ Q (.int n s'.toks) { s' with toks := s'.toks + 1 }) X.xe s := by
    refine wpAny_call (codeAny_mono (F.run X.A.in1 X.stack s H ⟨[.ref p], []⟩ [.ref p] [.ref p] _ _ hr.in1 e0 (by
      have := hb s [.ref p] I.kIn rfl
      simpa using this) r2 q) fun o s' hq => ?_)
    match o, hq with
    | .error u, hq => exact hq.elim
    | .ok (.ret u), hq =>
      obtain ⟨v, H1, I1, rv, n, rfl, hn, q'⟩ := I.after hq
      obtain ⟨t, rfl⟩ := rv
      exact ⟨n, t, rfl, by omega, hn, .int n, H1, I1.tok _, ⟨_, rfl⟩, q'⟩
    | .ok .next, hq => exact hq.elim
    | .ok .brk, hq => exact hq.elim
    | .ok .cont, hq => exact hq.elim
  refine Calls.call_function_entry kind_len plain_len entry_len (args_len1 _) ?_
  unfold Builtin.«len»
  refine wpAny_bind (m := oneArg "len" _) (wpAny_pure ?_)
  refine wpAny_bind (m := callSpecial? (.ref p) (PySem.Str.ofString "__len__")) (cspecF I.kIn sp1 tf (wpAny_mono run (fun r s' hr => ?_) fun _ _ y => y))
  obtain ⟨n, u, rfl, h0, h1, hq⟩ := hr
  refine wpAny_bind (wpAny_holding (wpAny_pure ?_))
  refine wpAny_bind (wpAny_letGo ?_)
  show wpAny _ _ (if n < 0 then _ else _) _ _ _
  rw [if_neg (by omega)]
  show wpAny _ _ (if n ≥ 2 ^ 63 then _ else _) _ _ _
  rw [if_neg (by omega)]
  exact wpAny_bind (wpAny_mkInt (wpAny_pure ⟨_, rfl, hq⟩))
end
/-- e(..), e one of some defs -/
structure Hld (P : Program) (w : World) (K : PySem.W.Frag) (mg : Str → Option Value) (base : Heap) (k : Nat) (f : Addr) (sp : Sp) : Prop where
  ex : ∃ (fd : FuncData) (ps : List Str), FnOk P w K mg base CX0 k f fd ps sp ∧ PySem.W.keepIn K (.ref f) = true ∧ Binds K fd ps []
def tCallV (S : Addr → Sp → Prop) (te : TE) (t : TA) : TE := fun σ H Q => te σ H fun x H0 => ∃ f sp, x = .ref f ∧ S f sp ∧ t σ H0 fun vs H1 => sp vs H1 Q (fun _ _ _ => False)
theorem Hld.of {P : Program} {w : World} {K : PySem.W.Frag} {mg : Str → Option Value} {base : Heap} {j k : Nat} {f : Addr} {fd : FuncData} {ps : List Str} {sp : Sp} (F : FnOk P w K mg base CX0 j f fd ps sp) (h : j ≤ k) (hk : PySem.W.keepIn K (.ref f) = true) (hb : Binds K fd ps []) : Hld P w K mg base k f sp :=
  ⟨fd, ps, ⟨F.len, fun A out s H args us vs Q E hr => F.run A out s H args us vs Q E (hr.mono h)⟩, hk, hb⟩
section
variable {X : Cx} {k : Nat} {o e : Expr} {es : List Expr} {t : TA} {te : TE} {pos : Pos}
theorem pe_callV {S : Addr → Sp → Prop} (A : ∀ f sp, S f sp → Hld X.prog X.w X.K X.mg X.base k f sp) (hr : Room k X.A) (ho : PE X o te) (ha : PA X (e :: es) t)
    (ht : eval (.Call o (e :: es) [] pos) X.env = (do callWith pos (← eval o X.env) [] (backTo pos (starEach (e :: es) X.env)) (backToKw pos (keywordEach [] X.env))) := by rfl)
    (hst : starEach (e :: es) X.env = (false, eval e X.env) :: starEach es X.env := by rfl) (hpl : (backTo pos (starEach es X.env)).any (·.1) = false := by rfl) : PE X (.Call o (e :: es) [] pos) (tCallV S te t) := ⟨fun pins s σ H Q I h => by
  rw [ht]
  refine wpAny_bind (thn (ho.run pins s σ H _ I h) fun u s1 ⟨x, H1, I1, rx, f, sp, ex, hS, q⟩ => ?_)
  subst ex
  obtain rfl : u = Value.ref f := rx
  obtain ⟨fd, ps, F, hk, hb⟩ := (A f sp hS).ex
  refine PySem.W.callWith_K (h₀ := X.base) I.ok.mod.kin hk (thn (ha.run pos pins s1 σ H1 _ I1 q) fun us s2 ⟨vs, H2, I2, r, q2⟩ => ⟨I2.kIn, ?_⟩) hst hpl
  have q3 : sp (vs ++ []) H2 Q (fun _ _ _ => False) := by rw [List.append_nil]; exact q2
  exact run_fn (us := us) (vs := vs) F hr hb .nil (fun _ _ _ _ _ _ _ z => z.elim) I2 r q3⟩
end
end KX

set_option Elab.async false
set_option linter.all false
set_option maxRecDepth 100000
set_option maxHeartbeats 4000000
/-! Own layer: set(a list of whole numbers), to be sorted or walked. -/
namespace KX
open PySem PySem.Spec PyProof.Rows L2
/-- an empty set, as it is made -/
abbrev freshSet (w : World) : Obj := { cls := .type "set", dict := none, data := .set #[] 0 (.fresh 0 0 (!w.params.followText "set-order")) }
abbrev listIt (l : Addr) : Obj := { cls := .type "list_iterator", data := .fields #[.ref l, .int 0 0] }
section
variable {P : Program} {w : World} {A : Around} {E : Value → Shared → Prop} {st : Shared}
/-- what stands behind set(l) -/
def SetMade (w : World) (st : Shared) (ns : List Int) (h' : Heap) (c : Nat) : Prop := SetR w h' st.heap.objs.size (fun j => decide (j ∈ ns)) c ∧ c ≤ ns.length ∧ ∀ b o, st.heap.get? b = some o → h'.get? b = some o
theorem set_init_list {l : Addr} {items : Array Value} (ns : List Int) (hh : A.handled = none) (hl : st.heap.IsList l items) (hit : IntsAre items.toList ns) (hb : ns.length + 1 < scanBound) :
    codeAny (model P w) A (.call (.builtin "set.__init__") ⟨[.ref st.heap.objs.size, .ref l], []⟩) (wants (fun r s₂ => r = .none ∧ ∃ h' tk c, s₂ = { st with heap := h', toks := tk } ∧ SetMade w st ns h' c) E) { st with heap := st.heap.push (freshSet w) } := by
  have hz : items.size = ns.length := by
    have := IntsAre.length hit
    rwa [Array.length_toList] at this
  have e0 : (st.heap.push (freshSet w)).get? st.heap.objs.size = some (freshSet w) := Heap.get?_push_size _ rfl
  have ty : Shared.TypeIs { st with heap := st.heap.push (freshSet w) } (.ref st.heap.objs.size) "set" := ⟨_, e0, rfl⟩
  refine codeAny_call_builtin F.called_set.init.plain F.entry_set_init (check_set_init_1 ty ?_)
  obtain ⟨⟨lcls, ldict, ldata, lslots⟩, hol, hcl, nl, hdl⟩ := hl
  simp only at hcl hdl
  subst hcl; subst hdl
  have hol2 : (st.heap.push (freshSet w)).get? l = some { cls := .type "list", dict := ldict, data := .seq items nl, slots := lslots } := Heap.get?_push_of_some _ hol
  have q1 := F.sub_list_set
  have q2 := F.sub_list_frozenset
  have q3 : (Value.type "list" == Value.type "dict") = false := by decide
  have isl : (st.heap.push (freshSet w)).IsList l items := ⟨_, hol2, rfl, nl, rfl⟩
  unfold Builtin.«set.__init__» noKeywords Builtin.Frozenset.updateFrom
  generalize hPI : pyIter = walk
  wp_walk
  subst hPI
  refine wpAny_pyIter_list isl ?_
  refine wpAny_bind (wpAny_runValue ?_)
  have small : l < st.heap.objs.size := Heap.lt_size hol
  have sz1 : (st.heap.push (freshSet w)).objs.size = st.heap.objs.size + 1 := Heap.size_push ..
  have calm3 : A.in1.in1.handled = none := by simp [hh]
  have apart : l ≠ (st.heap.push (freshSet w)).objs.size := by rw [sz1]; exact Nat.ne_of_lt (Nat.lt_succ_of_lt small)
  have off : st.heap.objs.size ∉ [(st.heap.push (freshSet w)).objs.size, l] := by
    rw [sz1]; simp only [List.mem_cons, List.not_mem_nil, or_false, not_or]
    exact ⟨Nat.ne_of_lt (Nat.lt_succ_self _), Nat.ne_of_gt small⟩
  have vals : ∀ (i : Nat) (v : Value), items[i]? = some v → ∃ k t, ns[i]? = some k ∧ v = .int k t := fun i v hv => by
    have hi : i < ns.length := hz ▸ (Array.getElem?_eq_some_iff.mp hv).1
    obtain ⟨t, e⟩ := IntsAre.int_at hit i v (by rw [Array.getElem?_toList]; exact hv)
    rw [List.getD_eq_getElem?_getD, List.getElem?_eq_getElem hi] at e
    exact ⟨ns[i], t, List.getElem?_eq_getElem hi, e⟩
  refine set_update_ints ((Walks.list calm3 _ l apart items).toS) st.heap.objs.size off ns hz hb vals (items.size - 0) 0 _ (by omega) (Nat.zero_le _)
    ⟨⟨_, Heap.get?_push_size _ rfl, rfl, rfl⟩, isl.push _⟩ ?first ?last
  case first =>
    have keep : ((st.heap.push (freshSet w)).push (listIt l)).get? st.heap.objs.size = some (freshSet w) := Heap.get?_push_of_some _ e0
    exact ⟨0, Nat.le_refl 0, setR_new_at keep⟩
  case last =>
    rintro ⟨h', g2, d2, tk, os2⟩ c hm hc hR
    have e1 : g2 = st.gens := hm.gens
    have e2 : d2 = st.drawn := hm.drawn
    have e3 : os2 = st.os := hm.os
    subst e1; subst e2; subst e3
    show wpAny _ _ _ _ _ _
    refine wpAny_pure ?_
    show wpAny _ _ (ret Value.none) _ _ _
    rw [hz] at hc
    refine wpAny_pure ⟨rfl, h', tk, c, rfl, hR, hc, fun b o e => ?_⟩
    have hlt : b < st.heap.objs.size := Heap.lt_size e
    refine hm.heap b o ?_ (Heap.get?_push_of_some _ (Heap.get?_push_of_some _ e))
    simp only [List.mem_cons, List.not_mem_nil, or_false, not_or]
    exact ⟨Nat.ne_of_lt hlt, by rw [sz1]; exact Nat.ne_of_lt (Nat.lt_succ_of_lt hlt)⟩
theorem set_of_list {l : Addr} {items : Array Value} (ns : List Int) {Q : Value → Shared → Prop} (hh : A.handled = none) (hl : st.heap.IsList l items) (hit : IntsAre items.toList ns) (hb : ns.length + 1 < scanBound)
    (h : ∀ h' tk c, SetMade w st ns h' c → Q (.ref st.heap.objs.size) { st with heap := h', toks := tk }) : wpAny (model P w) A (call (.type "set") [.ref l]) Q E st := by
  obtain ⟨c0, tl, hmro⟩ := F.called_set.mro
  have m1 := F.called_set.made
  have m2 := F.called_set.sub
  refine wpAny_call (codeAny_of_tree ?_)
  show wpAny _ _ (callAny (.type "set") _) _ _ _
  refine wpAny_pure ⟨Code.quiet_builtin _ (by decide +kernel), codeAny_builtin F.entry_type_call ?_⟩
  rw [Around.under_plain (weight_type_call_type "set" [.ref l] []) rfl]
  have t1 := F.called_set.notType
  have t2 := F.called_set.canCreate
  have t3 := F.typeCall_set_1 (.ref l)
  repeat (any_goals (first | assumption | wp_step))
  refine codeAny_mono (code_set_led1 (.ref l) (E := E) (Q₁ := fun ob s₁ => ob = .ref st.heap.objs.size ∧ s₁ = { st with heap := st.heap.push (freshSet w) }) ⟨rfl, rfl⟩) fun r s₁ hr => ?_
  match r, hr with
  | .error e, hr => exact hr
  | .ok .next, hr => exact hr.elim
  | .ok .brk, hr => exact hr.elim
  | .ok .cont, hr => exact hr.elim
  | .ok (.ret ob), hr =>
    obtain ⟨rfl, rfl⟩ := hr
    have e0 : (st.heap.push (freshSet w)).get? st.heap.objs.size = some (freshSet w) := Heap.get?_push_size _ rfl
    have ty : Shared.TypeIs { st with heap := st.heap.push (freshSet w) } (.ref st.heap.objs.size) "set" := ⟨_, e0, rfl⟩
    have i1 := F.called_set.init.lookup
    have i2 := F.called_set.init.bind (.ref st.heap.objs.size)
    repeat (any_goals (first | assumption | wp_step))
    refine codeAny_mono (set_init_list (P := P) (w := w) (A := A.in1) (E := E) ns ?_ hl hit hb) fun r₂ s₂ hr₂ => ?_
    · simp [hh]
    match r₂, hr₂ with
    | .error e, hr₂ => exact hr₂
    | .ok .next, hr₂ => exact hr₂.elim
    | .ok .brk, hr₂ => exact hr₂.elim
    | .ok .cont, hr₂ => exact hr₂.elim
    | .ok (.ret rr), hr₂ =>
      obtain ⟨rfl, h', tk, c, rfl, made⟩ := hr₂
      repeat (any_goals (first | assumption | wp_step))
      exact h _ _ _ made
end
section
variable {X : Cx}
/-- set(l), l a list of whole numbers -/
def rSetL (K : PySem.W.Frag) (w : World) : List V → Hp → VK → Prop := fun xs H Q => ∃ (l : Addr) (ns : List Int), xs = [.ref l] ∧ SqL K H l (ns.map V.int) ∧ ns.length ≤ 4000 ∧
  ∀ p c, H p = none → c ≤ ns.length → Q (.ref p) (upd H p (SetO w p (fun j => decide (j ∈ ns)) c))
theorem ct_set (hc : X.calm = true) {K : PySem.W.Frag} (hK : X.K = K) {w : World} (hw : X.w = w) : CallR X (.type "set") (rSetL K w) := by
  subst hK; subst hw
  intro pins s σ H xs us Q I r h
  obtain ⟨l, ns, rfl, hS, hn, q⟩ := h
  obtain ⟨u, rfl, rx⟩ := vals1 r
  cases rx
  obtain ⟨its, rv, pl, hz⟩ := I.list hS
  refine set_of_list ns (I.ok.hd hc) pl.isList (by simpa using ints_of_vals rv) (by unfold scanBound; omega) fun h' tk c ⟨R, hc', k⟩ => ?_
  exact ⟨.ref s.heap.objs.size, _, I.laid (t' := tk) k (Nat.le_refl _) (setO_new R), rfl, q _ c (I.hok.fresh (Nat.le_refl _)) hc'⟩
end
end KX

set_option Elab.async false
set_option linter.all false
set_option maxRecDepth 100000
set_option maxHeartbeats 4000000
namespace L
open PySem L2 KX
abbrev sLen : Stmt := inClass (top 16) 1
abbrev sRowsM : Stmt := inClass (top 16) 3
theorem clist {X : Cx} {K : PySem.W.Frag} (hK : X.K = K) : CallR X (.type "list") (fun xs H Q => ∃ p ys, xs = [.ref p] ∧ (SqL K H p ys ∨ SqT K H p ys) ∧ ∀ l, H l = none → Q (.ref l) (upd H l (.lst ys))) := by subst hK; exact call_list_of
theorem fldK {X : Cx} {K : PySem.W.Frag} (hK : X.K = K) {e : Expr} {f : Str} {ta : TE} {pos : Pos} (he : PE X e ta) (hb : attributeBase e f X.env (eval e X.env) = eval e X.env) : PE X (.Attribute e f pos) (tFld K ta f) := by subst hK; exact pe_fld he hb
/-! ### lists of ints as data -/
def iD (m : List Int) : List PyData := m.map PyData.int
theorem iD_lay : ∀ m : List Int, PyData.canLayAll0 (iD m) = true
  | [] => by unfold iD; simp [PyData.canLayAll0]
  | x :: m => by
    have h := iD_lay m
    unfold iD at h ⊢
    simp [PyData.canLayAll0, PyData.canLay0, h]
theorem iD_depth : ∀ m : List Int, PyData.depthAll (iD m) = 0
  | [] => by unfold iD; simp [PyData.depthAll]
  | x :: m => by
    have h := iD_depth m
    unfold iD at h ⊢
    simp [PyData.depthAll, PyData.depth, h]
theorem iD_shaped (m : List Int) : SeqAt.shaped (.list (iD m)) = true := by
  have h2 : PyData.depth (.list (iD m)) = 1 := by simp only [PyData.depth, iD_depth m]
  have h1 : PyData.canLay0 (.list (iD m)) = true := by simp only [PyData.canLay0]; exact iD_lay m
  show (PyData.canLay0 (.list (iD m)) && decide (PyData.depth (.list (iD m)) ≤ 64)) = true
  rw [Bool.and_eq_true]
  exact ⟨h1, decide_eq_true (by omega)⟩
theorem iD_eqvAll : ∀ a b : List Int, PyData.eqvAll (iD a) (iD b) = decide (a = b)
  | [], [] => by unfold iD; simp [PyData.eqvAll]
  | [], _ :: _ => by unfold iD; simp [PyData.eqvAll]
  | _ :: _, [] => by unfold iD; simp [PyData.eqvAll]
  | x :: a, y :: b => by
    have h := iD_eqvAll a b
    unfold iD at h ⊢
    simp only [List.map_cons, PyData.eqvAll, PyData.eqv, h]
    by_cases e : x = y
    · subst e
      rw [show (x == x) = true from beq_self_eq_true _, Bool.true_and]
      by_cases e2 : a = b
      · subst e2; simp
      · rw [decide_eq_false e2, decide_eq_false fun z => e2 (List.cons.inj z).2]
    · rw [show (x == y) = false from beq_eq_false_iff_ne.mpr e, Bool.false_and, decide_eq_false fun z => e (List.cons.inj z).1]
theorem iD_eqv (a b : List Int) : PyData.eqv (.list (iD a)) (.list (iD b)) = decide (a = b) := by
  simp only [PyData.eqv]; exact iD_eqvAll a b
theorem dp_ints {K : PySem.W.Frag} {G : Hp} : ∀ m : List Int, DpAll K G (m.map V.int) (iD m)
  | [] => .nil
  | x :: m => .cons (.int _) (dp_ints m)
/-- the numbers 0 .. n-1 -/
def nums (n : Nat) : List Int := (List.range n).map fun i : Nat => ((i : Nat) : Int)
theorem rg_nums (n : Nat) : rgV 0 (n : Int) = (nums n).map V.int := by
  unfold rgV nums
  rw [Int.sub_zero, Int.toNat_natCast, List.map_map]
  exact List.map_congr_left fun x _ => by rw [Int.zero_add]; rfl
def spLenM (K : PySem.W.Frag) (C : Addr) : Sp := fun vs H Q _ => ∃ p tb, vs = [.ref p] ∧ TbA K C H p tb ∧ Q (.int tb.length) H
def spRowsM (K : PySem.W.Frag) (C : Addr) : Sp := fun vs H Q _ => ∃ p tb, vs = [.ref p] ∧ TbA K C H p tb ∧ tb.length ≤ 16 ∧ ∀ v H', RowsL (nw H H') v tb → Same H H' → Q v H'
section
variable {P : Program} {w : World} {K : PySem.W.Frag} {mg : Str → Option Value} {base : Heap} {f g gn : Addr} {fd gd gnd : FuncData} {C CE fE : Addr} {dE : FuncData}
theorem scLen : FnScope ["self"] ["self"] (defScope sLen) := ⟨rfl, rfl, rfl, by decide +kernel, rfl, by decide +kernel, by decide +kernel⟩
theorem ok_len (F : Fun K "__len__" "ProductTable.__len__" sLen f fd) (M : Mn mg) (T : CTx K mg C) : FnOk P w K mg base CX0 1 f fd ["self"] (spLenM K C) := by
  refine F.ok scLen (fun vs H Q E h => ?_) (fun cdv A outer s H vs Q E hr h => ?_)
  · obtain ⟨p, tb, rfl, _⟩ := h
    rfl
  obtain ⟨p, tb, rfl, ⟨dx, t, rs, hp, ht, pr⟩, q⟩ := h
  refine ⟨_, pss_one (ps_ret (pe_callB call_len_seq (by rfl) M.len PySem.boot_len (pa_cons (pe_fld (pv 0) rfl) pa_nil))), ?_⟩
  refine ⟨_, rfl, p, C, dx, _, _, rfl, hp, T.cl, T.nR, rfl, t, rs, rfl, .inr ht, ?_⟩
  rw [pr.length]
  exact q
theorem scRowsM : FnScope ["self", "row"] ["self"] (defScope sRowsM) := ⟨rfl, rfl, rfl, by decide +kernel, rfl, by decide +kernel, by decide +kernel⟩
theorem ok_rowsM (F : Fun K "rows" "ProductTable.rows" sRowsM f fd) (M : Mn mg) (T : CTx K mg C) : FnOk P w K mg base CX0 1 f fd ["self"] (spRowsM K C) := by
  refine F.ok scRowsM (fun vs H Q E h => ?_) (fun cdv A outer s H vs Q E hr h => ?_)
  · obtain ⟨p, tb, rfl, _⟩ := h
    rfl
  obtain ⟨p, tb, rfl, ⟨dx, t, rs, hp, ht, pr⟩, n16, q⟩ := h
  refine ⟨_, pss_one (ps_ret (pe_lc (own := [("row", 1)]) (g := gName 1) (tt := tYes) rfl scRowsM.nd (pi_tup (pe_fld (pv 0) rfl))
    (blkOk_by (N := ["self", "row"]) (sc := defScope sRowsM) (by decide +kernel)) (fun _ _ _ _ _ => pg_name (i := 1) scRowsM.nd rfl (Or.inl rfl)) (fun _ _ _ _ _ => pts_nil)
    (fun _ _ _ _ _ => pe_callTy (T := "list") (clist (K := K) rfl) (by rfl) M.list (by decide +kernel) (pa_cons (pv 1) pa_nil)))), ?_⟩
  refine ⟨_, rfl, p, C, dx, _, _, rfl, hp, T.cl, T.nR, rfl, t, rfl, ⟨_, ht⟩, fun D hD => ?_⟩
  refine lc_it (walk_tup (xs := rs)) (fun i J => Part H J D (tb.take i)) (Part.start (Same.refl H) hD) (fun i J _ z => Same.tup z.same ht) ?_ ?_
  · rintro i x J J1 hi pa ⟨rfl, hx⟩
    obtain ⟨row, hrow, r, rfl, hr1⟩ := pair_at pr hx
    refine ⟨rfl, _, rfl, r, _, rfl, .inr (Same.tup pa.same hr1), fun l hl => ?_⟩
    have hi' : i < tb.length := by rw [← pr.length]; exact hi
    obtain ⟨acc, ea, la, p1⟩ := pa.add (q := l) (row := row) (Same.new hl _) hl upd_same
    have tk : tb.take (i + 1) = tb.take i ++ [row] := by rw [List.take_add_one, hrow]; rfl
    refine ⟨acc, ea, by rw [la, List.length_take]; exact small1000 (by omega), ?_⟩
    rw [tk]
    exact p1
  · rintro J pa
    rw [pr.length, List.take_of_length_le (Nat.le_refl _)] at pa
    exact q _ _ pa.fin pa.same
theorem row_at {H : Hp} {rs : List V} {tb : List (List Int)} (pr : Paired (fun x row => ∃ r, x = V.ref r ∧ SqT K H r (row.map V.int)) rs tb) (S : Sqr tb) {a : Nat} (ha : a < tb.length) :
    ∃ r, rs[a]? = some (V.ref r) ∧ SqT K H r ((tb.getD a []).map V.int) ∧ ∀ b, b < tb.length → ((tb.getD a []).map V.int)[b]? = some (.int (mu tb a b)) := by
  have hrs : a < rs.length := by rw [pr.length]; exact ha
  obtain ⟨row, h1, r, e1, hr1⟩ := pair_at pr (List.getElem?_eq_getElem hrs)
  have er : tb.getD a [] = row := by rw [List.getD_eq_getElem?_getD, h1]; rfl
  have hl : row.length = tb.length := S.row row (List.mem_of_getElem? h1)
  refine ⟨r, (List.getElem?_eq_getElem hrs).trans (congrArg some e1), by rw [er]; exact hr1, fun b hb => ?_⟩
  unfold mu
  rw [er, List.getElem?_map, List.getElem?_eq_getElem (by omega), List.getD_eq_getElem?_getD, List.getElem?_eq_getElem (by omega)]; rfl
end
end L

set_option Elab.async false
set_option linter.all false
set_option maxRecDepth 100000
set_option maxHeartbeats 4000000
namespace L
open PySem L2 KX
section
variable {X : Cx} {op op' op3 : CmpOp} {r r' r3 : R2} {a b c d : Expr} {ta tb tc td : TE} {pos : Pos}
/-- a op1 b op2 c op3 d -/
def tChain3 (r r' r3 : R2) (ta tb tc td : TE) : TE := fun σ H Q => ta σ H fun x H1 => tb σ H1 fun y H2 => r x y H2 fun z H3 => ∃ k, z = .bl k ∧
  (if k = true then tc σ H3 fun u H4 => r' y u H4 fun z' H5 => ∃ k', z' = .bl k' ∧ (if k' = true then td σ H5 fun v H6 => r3 u v H6 Q else Q (.bl false) H5) else Q (.bl false) H3)
theorem pe_chain3 (ho : OpR X (compareOp op) r) (ho' : OpR X (compareOp op') r') (ho3 : OpR X (compareOp op3) r3) (ha : PE X a ta) (hb : PE X b tb) (hc : PE X c tc) (hd : PE X d td)
    (hm : PySem.lastMarks [op, op', op3] [b, c, d] = false := by with_unfolding_all rfl) : PE X (.Compare a [op, op', op3] [b, c, d] pos) (tChain3 r r' r3 ta tb tc td) := by
  refine ⟨fun pins s σ H Q I h => ?_⟩
  refine PyProof.Rows.Compare_chain (thn (ha.run pins s σ H _ I h) fun v s1 ⟨x, H1, I1, r1, q1⟩ => PyProof.Rows.chain_link (thn (hb.run pins s1 σ H1 _ I1 q1) fun u s2 ⟨y, H2, I2, r2, q2⟩ =>
    thn (ho pins s2 σ H2 x y v u _ I2 r1 r2 q2) fun e s3 ⟨z, H3, I3, rz, k, ek, q3⟩ => ?_)) hm
  subst ek
  cases rz
  refine PySem.wpAny_truthy_bool ?_
  cases k with
  | false => exact PyProof.Rows.ite_ff ⟨.bl false, H3, I3, rfl, q3⟩
  | true =>
    refine PyProof.Rows.ite_tt (PyProof.Rows.chain_link (thn (hc.run pins s3 σ H3 _ I3 q3) fun u' s4 ⟨w', H4, I4, r4, q4⟩ => thn (ho' pins s4 σ H4 y w' u u' _ I4 r2 r4 q4) fun e2 s5 ⟨z2, H5, I5, rz2, k2, ek2, q5⟩ => ?_))
    subst ek2
    cases rz2
    refine PySem.wpAny_truthy_bool ?_
    cases k2 with
    | false => exact PyProof.Rows.ite_ff ⟨.bl false, H5, I5, rfl, q5⟩
    | true => exact PyProof.Rows.ite_tt (PyProof.Rows.chain_last (thn (hd.run pins s5 σ H5 _ I5 q5) fun v' s6 ⟨x6, H6, I6, r6, q6⟩ => ho3 pins s6 σ H6 w' x6 u' v' Q I6 r4 r6 q6))
/-- a slice of a list or of a tuple -/
def rSlSq (K : PySem.W.Frag) : V → Option Int → Option Int → Hp → VK → Prop := fun x lo hi H Q => (∃ p xs, x = .ref p ∧ SqL K H p xs ∧ ∀ l H', Same H H' → SqL K H' l (cutV xs lo hi) → Q (.ref l) H') ∨
  ∃ p xs, x = .ref p ∧ SqT K H p xs ∧ ∀ l H', Same H H' → SqT K H' l (cutV xs lo hi) → Q (.ref l) H'
theorem sl_sq : SlR X (rSlSq X.K) := by
  intro pins s σ H x v vl vu lo hi sl Q I rx hs pl pu h
  rcases h with ⟨p, xs, rfl, h, q⟩ | ⟨p, xs, rfl, h, q⟩
  · exact sl_list pins s σ H _ v vl vu lo hi sl Q I rx hs pl pu ⟨p, xs, rfl, h, fun y hy => q _ _ (Same.new hy _) (SqL.of upd_same)⟩
  · refine sl_tupA pins s σ H _ v vl vu lo hi sl Q I rx hs pl pu ⟨p, xs, rfl, h, fun z => q _ _ (Same.refl H) ?_, fun _ y hy => q _ _ (Same.new hy _) (SqT.of upd_same)⟩
    have e : cutV xs lo hi = xs := by
      unfold cutV
      rw [z.1, z.2, Nat.sub_zero, List.drop_zero, List.take_length]
    rw [e]; exact h
/-- .. whichever it is -/
theorem rSlSq.of {K : PySem.W.Frag} {H : Hp} {x : V} {xs : List V} {lo hi : Option Int} {Q : VK} (h : Sq K H x xs) (q : ∀ y H', Same H H' → Sq K H' y (cutV xs lo hi) → Q y H') : rSlSq K x lo hi H Q := by
  obtain ⟨p, rfl, h | h⟩ := h
  · exact .inl ⟨p, xs, rfl, h, fun l H' s k => q _ H' s ⟨l, rfl, .inl k⟩⟩
  · exact .inr ⟨p, xs, rfl, h, fun l H' s k => q _ H' s ⟨l, rfl, .inr k⟩⟩
end
/-- no table -/
def NotT (K : PySem.W.Frag) (C : Addr) (H : Hp) (v : V) : Prop := ∃ t, TyX K H v t ∧ PySem.W.kitOne K t (.ref C) = some false
theorem NotT.same {K : PySem.W.Frag} {C : Addr} {H G : Hp} {v : V} (s : Same H G) (h : NotT K C H v) : NotT K C G v := let ⟨t, a, b⟩ := h; ⟨t, TyX.same s a, b⟩
structure CTi (K : PySem.W.Frag) (C : Addr) : Prop where
  ha : PySem.W.findIn K (.ref C) "__class__" = some (some (.builtin "object.__class__"))
  hn : PySem.W.specialIn K (.builtin "object.__class__") "__get__" = some (some (.builtin "getset_descriptor.__get__"))
  htk : PySem.W.takesIn K (.builtin "object.__class__") = some true
  hm : PySem.W.mroIn K C (.type "object") = some true
theorem kit_self (K : PySem.W.Frag) (C : Addr) : PySem.W.kitOne K (.ref C) (.ref C) = some true := by
  unfold PySem.W.kitOne
  rw [show ((Value.ref C) == (Value.ref C)) = true from beq_self_eq_true _, if_pos rfl]
theorem TbA.to {K : PySem.W.Frag} {C : Addr} {H J : Hp} {p : Addr} {tb : List (List Int)} (s : Same H J) (h : TbA K C H p tb) : TbA K C J p tb :=
  let ⟨dx, t, rs, hp, ht, pr⟩ := h.ob
  ⟨dx, t, rs, s _ _ hp, Same.tup s ht, L2.Paired.mapP pr fun _ _ ⟨r, e, hr⟩ => ⟨r, e, Same.tup s hr⟩⟩
theorem TbA.ty {K : PySem.W.Frag} {mg : Str → Option Value} {C : Addr} {H : Hp} {p : Addr} {tb : List (List Int)} (T : CTx K mg C) (Y : CTi K C) (h : TbA K C H p tb) : TyX K H (.ref p) (.ref C) :=
  let ⟨_, _, _, hp, _, _⟩ := h.ob
  .base (.ins hp T.cl Y.ha Y.hn Y.htk Y.hm)
def okS (n : Nat) : Option (List V) → Bool
  | some xs => decide ((1 : Int) ≤ (xs.length : Int)) && decide ((xs.length : Int) ≤ 2000) && xs.all (nb (n : Int))
  | none => false
/-- the bounds of a range -/
def rgB (n : Int) (x y : V) : Bool := match x, y with
  | .int a, .int b => decide (0 ≤ a) && decide (a < b) && decide (b ≤ n)
  | _, _ => false
/-- the product of some elements -/
def fld (tb : List (List Int)) : List Nat → Nat
  | [] => 0
  | w :: r => r.foldl (fun acc x => (mu tb acc x).toNat) w
theorem fld_lt {tb : List (List Int)} (S : Sqr tb) : ∀ {ws : List Nat}, (∀ x, x ∈ ws → x < tb.length) → ws ≠ [] → fld tb ws < tb.length
  | [], _, h => absurd rfl h
  | w :: r, h, _ => by
    have go : ∀ (r : List Nat) (a : Nat), a < tb.length → (∀ x, x ∈ r → x < tb.length) → r.foldl (fun acc x => (mu tb acc x).toNat) a < tb.length := fun r => by
      induction r with
      | nil => exact fun a ha _ => ha
      | cons y r ih =>
        intro a ha hr
        have hy := hr y List.mem_cons_self
        have e := S.el a y ha hy
        exact ih _ (show (mu tb a y).toNat < tb.length by omega) fun x hx => hr x (List.mem_cons_of_mem _ hx)
    exact go r w (h w List.mem_cons_self) fun x hx => h x (List.mem_cons_of_mem _ hx)
def spChkTX (K : PySem.W.Frag) (C CT : Addr) : Sp := fun vs H Q E => ∃ v, vs = [v] ∧ ((∃ p tb, v = .ref p ∧ TbA K C H p tb ∧ Q .non H) ∨ (NotT K C H v ∧ ∀ d, H d = none → E (.ref CT) (some d) (upd H d (.xd [("value", v)]))))
def spChkS (K : PySem.W.Frag) (C CS : Addr) : Sp := fun vs H Q E => ∃ p v tb o, vs = [.ref p, v] ∧ TbA K C H p tb ∧ tb.length ≤ 16 ∧ RowD K H v o ∧ (okS tb.length o = true → ∀ H', Same H H' → Q .non H') ∧
  (okS tb.length o = false → ∀ H' d, Same H H' → H' d = none → E (.ref CS) (some d) (upd H' d (.xd [("value", v)])))
def spIsRg (K : PySem.W.Frag) : Sp := fun vs H Q _ => ∃ x y n, vs = [x, y, .int n] ∧ Itm K H x ∧ Itm K H y ∧ Q (.bl (rgB n x y)) H
def spMultd (K : PySem.W.Frag) : Sp := fun vs H Q _ => ∃ (v u : V) (tb : List (List Int)) (ws : List Nat), vs = [v, u] ∧ RowsL H v tb ∧ Sqr tb ∧ Sq K H u (nv ws) ∧ ws ≠ [] ∧ (∀ x, x ∈ ws → x < tb.length) ∧ ∀ H', Same H H' → Q (.int (fld tb ws : Nat)) H'
section
variable {P : Program} {w : World} {K : PySem.W.Frag} {mg : Str → Option Value} {base : Heap} {f g gn fl g1 g2 g3 fE : Addr} {fd gd gnd dl d1 d2 d3 dE : FuncData} {C CT CS CR : Addr}
end
end L

set_option Elab.async false
set_option linter.all false
set_option maxRecDepth 100000
set_option maxHeartbeats 4000000
namespace L
open PySem L2 KX
/-- two parts of a heap -/
def un (F G : Hp) : Hp := fun b => match F b with
  | some o => some o
  | none => G b
theorem un_l {F G : Hp} : Same F (un F G) := fun b o e => by unfold un; rw [e]
theorem un_n {F G : Hp} {b : Addr} (h : F b = none) : un F G b = G b := by unfold un; rw [h]
theorem un_to {F G J : Hp} (s1 : Same F J) (s2 : Same G J) : Same (un F G) J := fun b o e => by
  cases h : F b with
  | some o' =>
    have : un F G b = some o' := un_l _ _ h
    rw [this] at e
    cases e
    exact s1 _ _ h
  | none => rw [un_n h] at e; exact s2 _ _ e
/-- what is known of a part of the heap, when some more is new -/
theorem ext {F J J1 : Hp} (s : Same F J) (s1 : Same F J1) : ∃ F', Same F F' ∧ Same (nw J J1) F' ∧ Same F' J1 ∧ ∀ b, F b = none → J b ≠ none → F' b = none :=
  ⟨un F (nw J J1), un_l, fun b o e => by
    have h := nw_some e
    have hf : F b = none := by
      cases hf : F b with
      | none => rfl
      | some u => rw [s _ _ hf] at h; exact nomatch h.1
    rw [un_n hf]; exact e, un_to s1 nw_same, fun b h1 h2 => by
    rw [un_n h1]
    unfold nw
    cases hj : J b with
    | none => exact absurd hj h2
    | some u => rfl⟩
theorem fx {F J J' : Hp} {p : Addr} (s : Same F J) (n : F p = none) (x : Sx p J J') : Same F J' := fun b o e => x b o (ne_of_none e n) (s b o e)
theorem fu {F J : Hp} {t : Addr} {o : HO} (s : Same F J) (n : F t = none) : Same F (upd J t o) := fun b u e => by rw [upd_ne (ne_of_none e n)]; exact s b u e
theorem TbA.sx {K : PySem.W.Frag} {C : Addr} {H J : Hp} {p x : Addr} {tb : List (List Int)} (s : Sx p H J) (b : Bx H p) (h : TbA K C H x tb) : TbA K C J x tb := by
  obtain ⟨b0, b1, b2, eb, _⟩ := b
  have up : ∀ {r : Addr} {xs : List V}, SqT K H r xs → SqT K J r xs := fun {r xs} h => by
    rcases h with (h | ⟨o, h⟩) | h
    · exact .inl (.inl (s _ _ (fun z => by rw [z, eb] at h; cases h) h))
    · exact .inl (.inr ⟨o, s _ _ (fun z => by rw [z, eb] at h; cases h) h⟩)
    · exact .inr h
  obtain ⟨dx, t, rs, hp, ht, pr⟩ := h.ob
  exact ⟨dx, t, rs, s _ _ (fun z => by rw [z, eb] at hp; cases hp) hp, up ht, L2.Paired.mapP pr fun _ _ ⟨r, e, hr⟩ => ⟨r, e, up hr⟩⟩
/-- the heap but the box -/
def mn (p : Addr) (J : Hp) : Hp := fun b => if b = p then none else J b
theorem mn_same {p : Addr} {J : Hp} : Same (mn p J) J := fun b o e => by
  unfold mn at e
  by_cases h : b = p
  · rw [if_pos h] at e; cases e
  · rw [if_neg h] at e; exact e
theorem mn_p {p : Addr} {J : Hp} : mn p J p = none := if_pos rfl
theorem mn_sx {p : Addr} {J : Hp} : Sx p J (mn p J) := fun b o n e => by unfold mn; rw [if_neg n]; exact e
theorem mn_nw {p : Addr} {H J : Hp} (h : H p ≠ none) : Same (nw H J) (mn p J) := fun b o e => by
  have q := nw_some e
  exact mn_sx _ _ (fun z => h (z ▸ q.1)) q.2
end L

set_option Elab.async false
set_option linter.all false
set_option maxRecDepth 100000
set_option maxHeartbeats 4000000
set_option pp.maxSteps 400
namespace L
open PySem L2 KX
abbrev sChkE : Stmt := top 17
abbrev sPrd : Stmt := inClass (top 16) 4
abbrev sEiT : Stmt := inClass (top 5) 0
def spChkE (K : PySem.W.Frag) (C : Addr) : Sp := fun vs H Q _ => ∃ (p : Addr) (a : Nat) (tb : List (List Int)), vs = [.ref p, .int (a : Int)] ∧ TbA K C H p tb ∧ a < tb.length ∧ tb.length ≤ 16 ∧ Q .non H
def spPrd (K : PySem.W.Frag) (C : Addr) : Sp := fun vs H Q _ => ∃ (p : Addr) (a b : Nat) (tb : List (List Int)), vs = [.ref p, .int (a : Int), .int (b : Int)] ∧ TbA K C H p tb ∧ Sqr tb ∧ a < tb.length ∧ b < tb.length ∧ Q (.int (mu tb a b)) H
theorem mu_nat {tb : List (List Int)} (S : Sqr tb) {a b : Nat} (ha : a < tb.length) (hb : b < tb.length) : mu tb a b = (((mu tb a b).toNat : Nat) : Int) ∧ (mu tb a b).toNat < tb.length := by
  have := S.el a b ha hb
  omega
theorem row_g {tb : List (List Int)} (S : Sqr tb) {a b : Nat} (ha : a < tb.length) (hb : b < tb.length) : ((tb.getD a []).map V.int)[b]? = some (.int (mu tb a b)) := by
  have e : tb.getD a [] = tb[a] := by rw [List.getD_eq_getElem?_getD, List.getElem?_eq_getElem ha]; rfl
  have l := S.row _ (List.getElem_mem ha)
  unfold mu
  rw [e, List.getElem?_map, List.getD_eq_getElem?_getD (l := tb[a]), List.getElem?_eq_getElem (by omega)]; rfl
/-- a row by its place -/
theorem rw_at {G : Hp} {v : V} {ms : List (List Int)} {a : Nat} (h : RowsL G v ms) (ha : a < ms.length) : ∃ (l : Addr) (rs : List Addr) (r : Addr), v = .ref l ∧ G l = some (.lst (rs.map V.ref)) ∧ (rs.map V.ref)[a]? = some (.ref r) ∧ G r = some (.lst ((ms.getD a []).map V.int)) := by
  obtain ⟨l, rs, rfl, e, pr⟩ := h
  have hl : rs.length = ms.length := pr.length
  have h1 : rs[a]? = some rs[a] := List.getElem?_eq_getElem (by omega)
  obtain ⟨row, hrow, er⟩ := pair_at pr h1
  refine ⟨l, rs, rs[a], rfl, e, by rw [List.getElem?_map, h1]; rfl, ?_⟩
  rw [List.getD_eq_getElem?_getD, hrow]; exact er
/-- rows as a list -/
theorem RowsL.sq {G : Hp} {v : V} {tb : List (List Int)} (h : RowsL G v tb) : ∃ a xs, v = .ref a ∧ G a = some (.lst xs) ∧ xs.length = tb.length := by
  obtain ⟨a, rs, e, h1, pr⟩ := h
  exact ⟨a, _, e, h1, by rw [List.length_map]; exact pr.length⟩
section
variable {P : Program} {w : World} {K : PySem.W.Frag} {mg : Str → Option Value} {base : Heap} {f g gn fl g1 g2 g3 fE : Addr} {fd gd gnd dl d1 d2 d3 dE : FuncData} {C CT CS CR : Addr}
theorem scChkE : FnScope ["table", "element"] ["table", "element"] (defScope sChkE) := ⟨rfl, rfl, rfl, by decide +kernel, rfl, by decide +kernel, by decide +kernel⟩
theorem ok_chkE (F : Fun K "check_element" "check_element" sChkE f fd) (M : Mn mg) (G : FnOk P w K mg base CX0 2 g gd ["value", "limit"] (spBelow K)) (bG : Binds K gd ["value", "limit"] []) (kG : PySem.W.keepIn K (.ref g) = true) (mG : mg "is_number_below" = some (.ref g))
    (GL : FnOk P w K mg base CX0 1 fl dl ["self"] (spLenM K C)) (bL : Binds K dl ["self"] []) (hL : PySem.W.findIn K (.ref C) "__len__" = some (some (.ref fl))) (tL : PySem.W.typeIn K (.ref fl) = some (.type "function")) : FnOk P w K mg base CX0 3 f fd ["table", "element"] (spChkE K C) := by
  refine F.ok scChkE (fun vs H Q E h => ?_) (fun cdv A outer s H vs Q E hr h => ?_)
  · obtain ⟨p, a, tb, rfl, _⟩ := h
    rfl
  obtain ⟨p, a, tb, rfl, ht, ha, n16, q⟩ := h
  refine ⟨_, pss_one (ps_if (pt_not (pt_val (pe_call G hr (by rfl) mG kG bG .nil pass0 (pa_cons (pv 1) (pa_cons (pe_callB (call_lenOwn hL tL GL hr bL) (by rfl) M.len PySem.boot_len (pa_cons (pv 0) pa_nil)) pa_nil))))) pss_dead pss_nil), ?_⟩
  obtain ⟨dx, t, rs, hp, _, _⟩ := ht.ob
  refine ⟨_, rfl, _, rfl, p, dx, _, rfl, hp, p, tb, rfl, ht, tb.length, rfl, by omega, _, _, rfl, .inl ⟨_, rfl⟩, _, rfl, ?_⟩
  have e : nb (tb.length : Int) (.int (a : Int)) = true := by
    show (decide ((0 : Int) ≤ (a : Int)) && decide ((a : Int) < (tb.length : Int))) = true
    rw [decide_eq_true (by omega), decide_eq_true (by omega)]; rfl
  rw [e]
  exact iteF q
theorem scPrd : FnScope ["self", "first", "second"] ["self", "first", "second"] (defScope sPrd) := ⟨rfl, rfl, rfl, by decide +kernel, rfl, by decide +kernel, by decide +kernel⟩
theorem ok_prd (F : Fun K "product" "ProductTable.product" sPrd f fd) (T : CTx K mg C)
    (G2 : FnOk P w K mg base CX0 3 g2 d2 ["table", "element"] (spChkE K C)) (b2 : Binds K d2 ["table", "element"] []) (k2 : PySem.W.keepIn K (.ref g2) = true) (m2 : mg "check_element" = some (.ref g2)) :
    FnOk P w K mg base CX0 4 f fd ["self", "first", "second"] (spPrd K C) := by
  refine F.ok scPrd (fun vs H Q E h => ?_) (fun cdv A outer s H vs Q E hr h => ?_)
  · obtain ⟨p, a, b, tb, rfl, _⟩ := h
    rfl
  obtain ⟨p, a, b, tb, rfl, ht0, S, ha, hb, q⟩ := h
  refine ⟨_, pss_cons (ps_expr (pe_call G2 hr (by rfl) m2 k2 b2 .nil pass0 (pa_cons (pv 0) (pa_cons (pv 1) pa_nil))))
    (pss_cons (ps_expr (pe_call G2 hr (by rfl) m2 k2 b2 .nil pass0 (pa_cons (pv 0) (pa_cons (pv 2) pa_nil))))
    (pss_one (ps_ret (pe_ix ix_tup (pe_ix ix_tup (pe_fld (pv 0) rfl) (pv 1) (fun _ _ => rfl)) (pv 2) (fun _ _ => rfl))))), ?_⟩
  obtain ⟨dx, t, rs, hp, ht, pr⟩ := ht0.ob
  obtain ⟨r, h1, h2, h3⟩ := row_at pr S ha
  refine ⟨_, rfl, _, rfl, p, a, tb, rfl, ht0, ha, S.ge, _, rfl, _, rfl, p, b, tb, rfl, ht0, hb, S.ge, ?_⟩
  refine ⟨_, rfl, p, C, dx, _, _, rfl, hp, T.cl, T.nR, rfl, _, rfl, t, rs, _, _, rfl, rfl, ht, at_of (j := a) rfl h1, _, rfl, r, _, _, _, rfl, rfl, h2, at_of (j := b) rfl (h3 b hb), ?_⟩
  exact q
theorem scEiT : FnScope ["self", "value"] ["self", "value"] (defScope sEiT) := ⟨rfl, rfl, rfl, by decide +kernel, rfl, by decide +kernel, by decide +kernel⟩
theorem ok_eiT (F : Fun K "__init__" "InvalidTable.__init__" sEiT f fd) : FnOk P w K mg base CX0 1 f fd ["self", "value"] (spEi K C "value") := by
  refine F.ok scEiT (fun vs H Q E h => ?_) (fun cdv A outer s H vs Q E hr h => ?_)
  · obtain ⟨a, v, rfl, _⟩ := h
    rfl
  obtain ⟨a, v, rfl, ha, T, no, q⟩ := h
  exact ⟨_, pss_one (ps_ost (pv 0) (pv 1)), ⟨_, rfl, _, rfl, a, C, rfl, T, no, .inl ⟨ha, fun dx h1 h2 => q dx h1 h2⟩⟩⟩
end
end L

set_option Elab.async false
set_option linter.all false
set_option maxRecDepth 100000
set_option maxHeartbeats 4000000
/-! Own layer: lists and tuples of data that repr shows in few signs. -/
namespace KX
open PySem PySem.Spec PyProof.Rows L2
theorem okAll {n W : Nat} : ∀ {ds : List PyData}, (∀ d, d ∈ ds → OkD n W d) → PyData.leavesShortAll 110 ds = true ∧ PyData.showableAll ds = true ∧ PyData.depthAll ds ≤ n ∧ PyData.weightAll ds ≤ ds.length * (W + 1)
  | [], _ => ⟨rfl, rfl, Nat.zero_le _, Nat.zero_le _⟩
  | d :: ds, h => by
    have hd := h d List.mem_cons_self
    obtain ⟨g2, g3, g4, g5⟩ := okAll (ds := ds) fun x hx => h x (List.mem_cons_of_mem _ hx)
    refine ⟨?_, ?_, ?_, ?_⟩
    · simp only [PyData.leavesShortAll, hd.short, g2, Bool.and_self]
    · simp only [PyData.showableAll, hd.shows, g3, Bool.and_self]
    · have := hd.deep
      simp only [PyData.depthAll]; omega
    · have := hd.wt
      simp only [PyData.weightAll, List.length_cons, Nat.succ_mul]; omega
theorem okLi {n W m : Nat} {ds : List PyData} (h : ∀ d, d ∈ ds → OkD n W d) (l : ds.length ≤ m) : OkD (n + 1) (m * (W + 1)) (.list ds) := by
  obtain ⟨g2, g3, g4, g5⟩ := okAll h
  have := Nat.mul_le_mul_right (W + 1) l
  exact ⟨by simpa only [PyData.leavesShort] using g2, by simpa only [PyData.showable] using g3, by simp only [PyData.depth]; omega, by simp only [PyData.weight]; omega⟩
theorem okTu {n W m : Nat} {ds : List PyData} (h : ∀ d, d ∈ ds → OkD n W d) (l : ds.length ≤ m) : OkD (n + 1) (m * (W + 1)) (.tuple ds) := by
  obtain ⟨g2, g3, g4, g5⟩ := okAll h
  have := Nat.mul_le_mul_right (W + 1) l
  exact ⟨by simpa only [PyData.leavesShort] using g2, by simpa only [PyData.showable] using g3, by simp only [PyData.depth]; omega, by simp only [PyData.weight]; omega⟩
/-- two items of unlike weights -/
theorem okL2 {n W : Nat} {a b : PyData} (h : OkD n W a) (k : OkD n W b) : OkD (n + 1) (2 * (W + 1)) (.list [a, b]) := okLi (fun d hd => by
  rcases List.mem_cons.mp hd with e | e
  · rw [e]; exact h
  · rw [List.mem_singleton.mp e]; exact k) (Nat.le_refl 2)
theorem okT2 {n W : Nat} {a b : PyData} (h : OkD n W a) (k : OkD n W b) : OkD (n + 1) (2 * (W + 1)) (.tuple [a, b]) := okTu (fun d hd => by
  rcases List.mem_cons.mp hd with e | e
  · rw [e]; exact h
  · rw [List.mem_singleton.mp e]; exact k) (Nat.le_refl 2)
end KX

set_option Elab.async false
set_option linter.all false
set_option maxRecDepth 100000
set_option maxHeartbeats 4000000
set_option pp.maxSteps 400
namespace L
open PySem L2 KX
/-- a class that is no builtin type's ancestor -/
structure CNb (K : PySem.W.Frag) (C : Addr) : Prop where
  ma : PySem.W.makesIn K C = true
  tt : PySem.W.typeIn K (.ref C) = some (.type "type")
theorem CNb.cl {K : PySem.W.Frag} {C : Addr} (h : CNb K C) : (PySem.W.clsIn K C).isSome = true := by
  have h := h.ma
  unfold PySem.W.makesIn at h
  unfold PySem.W.clsIn
  split at h
  · rename_i e
    rw [e]; rfl
  · exact nomatch h
theorem CNb.no {K : PySem.W.Frag} {C : Addr} (h : CNb K C) {T : String} (e : (fastBuiltinMro T).map (·.contains (.ref C)) = some false) : PySem.W.kitOne K (.type T) (.ref C) = some false := by
  unfold PySem.W.kitOne
  rw [show ((Value.type T) == (Value.ref C)) = false from rfl, if_neg Bool.false_ne_true]
  show (if ((PySem.W.clsIn K C).isSome && PySem.W.typeIn K (.ref C) == some (.type "type")) = true then PySem.W.subIn K (.type T) (.ref C) else none) = some false
  rw [h.cl, h.tt]
  have e2 : (some (Value.type "type") == some (Value.type "type")) = true := by rfl
  rw [e2]
  exact e
theorem notT_of {K : PySem.W.Frag} {C : Addr} (N : CNb K C) {H : Hp} {v : V} {d : PyData} (h : Dq H v d) : NotT K C H v := by
  cases h with
  | non => exact ⟨_, .base .non, N.no (by rfl)⟩
  | bl b => exact ⟨_, .base (.bl b), N.no (by rfl)⟩
  | int i => exact ⟨_, .base (.int i), N.no (by rfl)⟩
  | str x => exact ⟨_, .base (.str x), N.no (by rfl)⟩
  | lst e _ => exact ⟨_, .base (.lst e), N.no (by rfl)⟩
  | tup e _ => exact ⟨_, .base (.tup e), N.no (by rfl)⟩
  | dct e _ => exact ⟨_, .base (.dK e), N.no (by rfl)⟩
/-- a value that is no table, as data -/
def BV (K : PySem.W.Frag) (C : Addr) (H : Hp) (v : V) : Prop := NotT K C H v ∧ ∃ d, Dq H v d ∧ OkD 3 8000 d
theorem BV.same {K : PySem.W.Frag} {C : Addr} {H G : Hp} {v : V} (s : Same H G) (h : BV K C H v) : BV K C G v := ⟨h.1.same s, let ⟨d, a, b⟩ := h.2; ⟨d, Dq.same s _ _ a, b⟩⟩
theorem BV.of {K : PySem.W.Frag} {C : Addr} (N : CNb K C) {H : Hp} {v : V} {d : PyData} (h : Dq H v d) (ok : OkD 3 8000 d) : BV K C H v := ⟨notT_of N h, d, h, ok⟩
/-! rows as data -/
def rD (tb : List (List Int)) : List PyData := tb.map fun r => .list (iD r)
theorem rD_lay : ∀ tb : List (List Int), PyData.canLayAll0 (rD tb) = true
  | [] => by unfold rD; simp [PyData.canLayAll0]
  | r :: tb => by
    have h := rD_lay tb
    have h2 : PyData.canLay0 (.list (iD r)) = true := by simp only [PyData.canLay0]; exact iD_lay r
    show (PyData.canLay0 (.list (iD r)) && PyData.canLayAll0 (rD tb)) = true
    rw [h, h2]; rfl
theorem rD_depth : ∀ tb : List (List Int), PyData.depthAll (rD tb) ≤ 1
  | [] => by unfold rD; simp [PyData.depthAll]
  | r :: tb => by
    have h := rD_depth tb
    have h2 : PyData.depth (.list (iD r)) = 1 := by simp only [PyData.depth, iD_depth r]
    show max (PyData.depth (.list (iD r))) (PyData.depthAll (rD tb)) ≤ 1
    omega
theorem rD_shaped (tb : List (List Int)) : SeqAt.shaped (.list (rD tb)) = true := by
  have h2 : PyData.depth (.list (rD tb)) ≤ 2 := by simp only [PyData.depth]; have := rD_depth tb; omega
  have h1 : PyData.canLay0 (.list (rD tb)) = true := by simp only [PyData.canLay0]; exact rD_lay tb
  show (PyData.canLay0 (.list (rD tb)) && decide (PyData.depth (.list (rD tb)) ≤ 64)) = true
  rw [Bool.and_eq_true]
  exact ⟨h1, decide_eq_true (by omega)⟩
theorem rD_dp {K : PySem.W.Frag} {G : Hp} {rs : List Addr} {tb : List (List Int)} (h : Paired (fun r row => G r = some (.lst (row.map V.int))) rs tb) : DpAll K G (rs.map V.ref) (rD tb) := by
  induction h with
  | nil => exact .nil
  | cons h _ ih => exact .cons (.lst (SqL.of h) (dp_ints _)) ih
theorem RowsL.dp {K : PySem.W.Frag} {G : Hp} {v : V} {tb : List (List Int)} (h : RowsL G v tb) : Dp K G v (.list (rD tb)) := by
  obtain ⟨a, rs, rfl, e, pr⟩ := h
  exact .lst (SqL.of e) (rD_dp pr)
theorem rD_refl_all : ∀ tb : List (List Int), PyData.eqvAll (rD tb) (rD tb) = true
  | [] => by unfold rD; simp [PyData.eqvAll]
  | r :: tb => by
    have h := rD_refl_all tb
    have h2 := iD_eqv r r
    rw [decide_eq_true rfl] at h2
    show PyData.eqvAll (.list (iD r) :: rD tb) (.list (iD r) :: rD tb) = true
    simp only [PyData.eqvAll, h, h2, Bool.and_self]
theorem rD_refl (tb : List (List Int)) : PyData.eqv (.list (rD tb)) (.list (rD tb)) = true := by simp only [PyData.eqv]; exact rD_refl_all tb
theorem szl (n : Nat) (h : n ≤ 5000) : n ≤ sizeLine := Nat.le_trans h (by rw [sizeLine_eq]; omega)
/-- a table made of the rows at v -/
theorem init_at {K : PySem.W.Frag} {C : Addr} {H : Hp} {v : V} {tb : List (List Int)} {x dx : Addr} {Q : Hp → Prop} {E : XK} (R : RowsL H v tb) (T : Tb tb) (hx : H x = none) (hdx : H dx = none) (nex : dx ≠ x) (q : ∀ J, Same H J → TbA K C J x tb → Q J) :
    spInit K C (.ref x :: ([v] ++ [])) (upd (upd H dx (.own x)) x (.ins C dx [])) (fun u H2 => u = .non ∧ Q H2) E := by
  have sn : Same H (upd (upd H dx (.own x)) x (.ins C dx [])) := fun b o e => by rw [upd_ne (ne_of_none e hx), upd_ne (ne_of_none e hdx)]; exact e
  have nD : ∀ b, v = .ref b → b ≠ x := fun b e => by
    obtain ⟨_, _, e', ed, _⟩ := id R
    rw [e'] at e
    cases e
    exact ne_of_none ed hx
  exact ⟨x, dx, v, tb, rfl, upd_same, (R.same sn).rws, T.sq, T.as, nD, fun J tx kx => ⟨rfl, q J (fun b o e => kx b o (ne_of_none e hx) (sn b o e)) tx⟩⟩
theorem iteTt {c : Bool} {A B : Prop} (e : c = true) (h : A) : if c = true then A else B := by rw [if_pos e]; exact h
theorem iteFf {c : Bool} {A B : Prop} (e : c = false) (h : B) : if c = true then A else B := by rw [if_neg (by rw [e]; exact Bool.false_ne_true)]; exact h
end L

set_option Elab.async false
set_option linter.all false
set_option maxRecDepth 100000
set_option maxHeartbeats 4000000
namespace L
open PySem L2 KX
abbrev sIdem : Stmt := inClass (top 16) 6
/-- the idempotents among 0 .. i-1 -/
def idem (tb : List (List Int)) (i : Nat) : List Int := ((List.range i).filter fun e => decide (mu tb e e = (e : Int))).map fun e : Nat => ((e : Nat) : Int)
def spIdem (K : PySem.W.Frag) (C : Addr) : Sp := fun vs H Q _ => ∃ p tb, vs = [.ref p] ∧ TbA K C H p tb ∧ Sqr tb ∧ ∀ a H', H a = none → H' a = some (.lst ((idem tb tb.length).map V.int)) → Same H H' → Q (.ref a) H'
section
variable {P : Program} {w : World} {K : PySem.W.Frag} {mg : Str → Option Value} {base : Heap} {f g gn : Addr} {fd gd gnd : FuncData} {C CE fE : Addr} {dE : FuncData}
theorem scIdem : FnScope ["self", "element"] ["self"] (defScope sIdem) := ⟨rfl, rfl, rfl, by decide +kernel, rfl, by decide +kernel, by decide +kernel⟩
theorem idem_next {tb : List (List Int)} {i : Nat} : idem tb (i + 1) = if mu tb i i = (i : Int) then idem tb i ++ [(i : Int)] else idem tb i := by
  unfold idem
  rw [List.range_succ, List.filter_append, List.map_append]
  by_cases h : mu tb i i = (i : Int)
  · have e : ([i].filter fun e => decide (mu tb e e = (e : Int))) = [i] := List.filter_cons_of_pos (p := fun e : Nat => decide (mu tb e e = (e : Int))) (decide_eq_true h)
    rw [if_pos h, e]; rfl
  · have e : ([i].filter fun e => decide (mu tb e e = (e : Int))) = [] := List.filter_cons_of_neg (p := fun e : Nat => decide (mu tb e e = (e : Int))) (by show ¬ decide (mu tb i i = (i : Int)) = true; rw [decide_eq_false h]; exact Bool.false_ne_true)
    rw [if_neg h, e]
    exact List.append_nil _
theorem idem_len {tb : List (List Int)} {i : Nat} : (idem tb i).length ≤ i := by
  unfold idem
  rw [List.length_map]
  exact Nat.le_trans (List.length_filter_le _ _) (by rw [List.length_range]; exact Nat.le_refl _)
theorem ok_idem (F : Fun K "idempotents" "ProductTable.idempotents" sIdem f fd) (M : Mn mg) (T : CTx K mg C) : FnOk P w K mg base CX0 1 f fd ["self"] (spIdem K C) := by
  refine F.ok scIdem (fun vs H Q E h => ?_) (fun cdv A outer s H vs Q E hr h => ?_)
  · obtain ⟨p, tb, rfl, _⟩ := h
    rfl
  obtain ⟨p, tb, rfl, ⟨dx, t, rs, hp, ht, pr⟩, S, q⟩ := h
  refine ⟨_, pss_one (ps_ret (pe_lc (own := [("element", 1)]) (g := gName 1) rfl scIdem.nd (pi_range1 (by rfl) M.range (pa_cons (pe_callB call_len_seq (by rfl) M.len PySem.boot_len (pa_cons (pe_fld (pv 0) rfl) pa_nil)) pa_nil))
    (blkOk_by (N := ["self", "element"]) (sc := defScope sIdem) (by decide +kernel)) (fun _ _ _ _ _ => pg_name (i := 1) scIdem.nd rfl (Or.inl rfl))
    (fun _ _ _ _ _ => pts_one (pt_cmpR op_eq (pe_ix (ixt (K := K) rfl) (pe_ix (ixt (K := K) rfl) (fldK (K := K) rfl (pv 0) rfl) (pv 1) (fun _ _ => rfl)) (pv 1) (fun _ _ => rfl)) (pv 1) (nomark _)))
    (fun _ _ _ _ _ => pv 1))), ?_⟩
  have n16 := S.ge
  refine ⟨_, rfl, p, C, dx, _, _, rfl, hp, T.cl, T.nR, rfl, t, rs, rfl, .inr ht, _, rfl, by rw [pr.length]; omega, by rw [pr.length]; omega, fun D hD => ?_⟩
  rw [pr.length]
  refine lc_range (lo := 0) (n := ((tb.length : Nat) : Int).toNat) (fun i J => Same H J ∧ J D = some (.lst ((idem tb i).map V.int))) ⟨Same.new hD _, upd_same⟩ ?_ ?_
  · rintro i J hi ⟨sJ, eD⟩
    have hi' : i < tb.length := by simpa using hi
    obtain ⟨r, h1, h2, h3⟩ := row_at pr S hi'
    refine ⟨rfl, _, rfl, p, C, dx, _, _, rfl, sJ _ _ hp, T.cl, T.nR, rfl, _, rfl, t, rs, _, _, rfl, rfl, Same.tup sJ ht, at_of (j := i) (z0 i) h1, _, rfl, r, _, _, _, rfl, rfl, Same.tup sJ h2, at_of (j := i) (z0 i) (h3 i hi'), _, rfl, rfl, _, rfl, ?_⟩
    rw [z0]
    refine ite2 (fun c => ?_) (fun c => ?_)
    · have c' : mu tb i i = (i : Int) := V.int.inj (of_decide_eq_true c)
      refine ⟨_, rfl, _, eD, by rw [List.length_map]; have := idem_len (tb := tb) (i := i); exact small1000 (by omega), fun b o e => by rw [upd_ne (ne_of_none e hD)]; exact sJ b o e, ?_⟩
      rw [upd_same, idem_next, if_pos c', List.map_append]; rfl
    · have c' : ¬ mu tb i i = (i : Int) := fun z => c (decide_eq_true (congrArg V.int z))
      refine ⟨sJ, ?_⟩
      rw [idem_next, if_neg c']; exact eD
  · rintro J ⟨sJ, eD⟩
    rw [Int.toNat_natCast] at eD
    exact q D J hD eD sJ
end
end L

set_option Elab.async false
set_option linter.all false
set_option maxRecDepth 100000
set_option maxHeartbeats 4000000
/-! Own layer: == and != of two instances of one class of the text, != of lists whose items are the same. -/
namespace KX
open PySem PySem.Spec PyProof.Rows L2
section
open PySem.W PySem.SeqAt
variable {prog : Program} {w : World} {A : Around} {E : Value → Shared → Prop} {s : Shared} {K : Frag} {x y C L f : Addr} {h₀ : Heap} {m : Str → Option Value} {ox : Obj} {od : Option Obj}
theorem ifBound_objNe {M : Model} {args : List Value} {Q : Option Value → Shared → Prop} (X : K.In s.heap) (I : InstAt s.heap x ox C od) (hs : findIn K (.ref C) "__ne__" = some (some (.builtin "object.__ne__")))
    (h : wpAny M A (call (.builtin "object.__ne__") (.ref x :: args)) (fun v => Q (some v)) E s) : wpAny M A (callSpecialIfBound? (.ref x) "__ne__" args) Q E s := by
  simp only [callSpecialIfBound?, bindSpecialIfBound?]
  refine wpAny_holding (wpAny_bind (wpAny_bind (wpAny_bind (I.type.here ((looks_findIn X hs).here ?_)))))
  refine wpAny_bind (wpAny_askSetting (wpAny_ite ?_))
  have fin : wpAny M A (call (.builtin "object.__ne__") ([.ref x] ++ args) >>= fun v => pure (some v)) Q E s := wpAny_bind (wpAny_mono h (fun v s' h' => wpAny_pure h') fun _ _ h' => h')
  split
  · exact wpAny_bind (wpAny_of_eq (F.cmp_object.ne.bind _) (wpAny_pure (by exact fin)))
  · exact wpAny_tryCatch (wpAny_bind (wpAny_of_eq (F.cmp_object.ne.bind _) (wpAny_pure (by exact fin))))
theorem entry_ne {Q : Fin → Shared → Prop} (hu : A.units < cLine) (X : K.In s.heap) (I : InstAt s.heap x ox C od) (hs : findIn K (.ref C) "__eq__" = some (some (.ref f))) (hf : isFn K (.ref f) = true)
    (hc : wpAny (model prog w) A (call (.ref f) [.ref x, .ref y]) (fun v s' => ∃ b, v = .bool b ∧ Q (.done (.ret (.bool (!b)))) s') E s) :
    wpAny (model prog w) A (Builtin.«object.__ne__» ⟨[.ref x, .ref y], []⟩) Q E s := by
  unfold Builtin.«object.__ne__»
  repeat (first
    | with_reducible refine wpAny_cRoomFor hu ?_
    | (refine wpAny_bind (m := callSpecialIfBound? (.ref x) (Str.ofString "__eq__") [.ref y])
        (ifBound_K X I hs hf (wpAny_mono hc (fun r s' hr => by
          obtain ⟨b, rfl, hq⟩ := hr
          repeat (first | exact hq | exact wpAny_pure hq | exact wpAny_truthy_bool hq | (refine wpAny_bind (m := truthy (.bool _)) (wpAny_truthy_bool ?_)) | wp_step)) fun _ _ e => e)))
    | wp_step)
theorem call_objNe {Q : Value → Shared → Prop} (hu : A.in1.units < cLine) (X : K.In s.heap) (I : InstAt s.heap x ox C od) (hm : mroIn K C (.type "object") = some true) (hs : findIn K (.ref C) "__eq__" = some (some (.ref f))) (hf : isFn K (.ref f) = true)
    (hc : wpAny (model prog w) A.in1 (call (.ref f) [.ref x, .ref y]) (fun v s' => ∃ b, v = .bool b ∧ Q (.bool (!b)) s') E s) : wpAny (model prog w) A (call (.builtin "object.__ne__") [.ref x, .ref y]) Q E s := by
  refine wpAny_call (codeAny_call_builtin F.cmp_object.ne.plain F.cmpEntry_ne (check_slot F.cmpKind_ne F.cmpSplit_ne (I.type.andThen (looks_mroIn X hm)) (F.cmpArgs_ne _ _) (entry_ne hu X I hs hf (wpAny_mono hc (fun v s' hv => ?_) fun _ _ e => e))))
  obtain ⟨b, rfl, hq⟩ := hv
  first | exact ⟨b, rfl, hq⟩ | exact ⟨b, rfl, _, rfl, hq⟩
theorem ne_own {Q : Value → Shared → Prop} (hu : A.in1.units < cLine) (hu0 : A.units < cLine) (X : K.In s.heap) (I : InstAt s.heap x ox C od) (hy : Looks (model prog w) s.heap (typeOf (.ref y)) (.ref C)) (hm : mroIn K C (.type "object") = some true)
    (hne : findIn K (.ref C) "__ne__" = some (some (.builtin "object.__ne__"))) (hs : findIn K (.ref C) "__eq__" = some (some (.ref f))) (hf : isFn K (.ref f) = true)
    (hc : wpAny (model prog w) A.in1 (call (.ref f) [.ref x, .ref y]) (fun v s' => ∃ b, v = .bool b ∧ Q (.bool (!b)) s') E s) : wpAny (model prog w) A (richCompare .NotEq (.ref x) (.ref y)) Q E s := by
  have one : wpAny (model prog w) A (tryCompare (.ref x) "__ne__" (.ref y)) (fun r s' => ∃ v, r = some v ∧ Q v s') E s := by
    unfold tryCompare
    refine wpAny_bind (ifBound_objNe X I hne (call_objNe hu X I hm hs hf (wpAny_mono hc (fun v s' hv => ?_) fun _ _ e => e)))
    obtain ⟨b, rfl, hq⟩ := hv
    exact ⟨b, rfl, wpAny_pure ⟨_, rfl, hq⟩⟩
  unfold richCompare
  simp only [oneThing_ref]
  rw [cmpInfo_NotEq]
  dsimp only
  refine wpAny_holding (wpAny_bind (wpAny_cRoomFor hu0 ?_))
  refine wpAny_bind (I.type.here (wpAny_bind (hy.here ?_)))
  rw [show (Value.ref C != Value.ref C) = false from by simp]
  simp only [Bool.false_eq_true, if_false]
  refine wpAny_bind (wpAny_pure ?_)
  simp only [Bool.false_eq_true, if_false]
  refine wpAny_bind (wpAny_mono one (fun r s' z => ?_) fun _ _ e => e)
  obtain ⟨v, rfl, hq⟩ := z
  exact wpAny_pure hq
end
section
variable {X : Cx} {k : Nat} {C f : Addr} {fd : FuncData} {ps : List Str} {sp : Sp}
/-- x == y, x != y of two instances: what the text's own == promises -/
def rEqO (C : Addr) (sp : Sp) : R2 := fun x y H Q => ∃ a b dx dy fs gs, x = .ref a ∧ y = .ref b ∧ H a = some (.ins C dx fs) ∧ H b = some (.ins C dy gs) ∧ sp [.ref a, .ref b] H (fun v H1 => ∃ c, v = .bl c ∧ Q (.bl c) H1) (fun _ _ _ => False)
def rNeO (C : Addr) (sp : Sp) : R2 := fun x y H Q => ∃ a b dx dy fs gs, x = .ref a ∧ y = .ref b ∧ H a = some (.ins C dx fs) ∧ H b = some (.ins C dy gs) ∧ sp [.ref a, .ref b] H (fun v H1 => ∃ c, v = .bl c ∧ Q (.bl (!c)) H1) (fun _ _ _ => False)
theorem op_eqO (F : FnOk X.prog X.w X.K X.mg X.base CX0 k f fd ps sp) (hr : Room k X.A) (hs : PySem.W.findIn X.K (.ref C) "__eq__" = some (some (.ref f))) (hf : PySem.W.isFn X.K (.ref f) = true) (hb : Binds X.K fd ps []) : OpR X (compareOp .Eq) (rEqO C sp) := by
  intro pins s σ H x y v u Q I rx ry h
  obtain ⟨a, b, dx, dy, fs, gs, rfl, rfl, ha, hb', q⟩ := h
  cases rx
  cases ry
  obtain ⟨mA, J, _⟩ := ins_get I.hok ha
  obtain ⟨mB, J', _⟩ := ins_get I.hok hb'
  obtain ⟨od, J, _⟩ := J.look
  obtain ⟨od', J', _⟩ := J'.look
  obtain ⟨m, hF⟩ := I.fr
  have hl := F.len _ _ _ _ q
  have r2 : Vals [V.ref a, V.ref b] [Value.ref a, Value.ref b] := .cons rfl (.cons rfl .nil)
  show wpAny (model X.prog X.w) X.A (richCompare .Eq (.ref a) (.ref b)) (EP X pins σ Q) X.xe s
  refine PySem.W.cmp_K (op := .Eq) (tb := .ref C) hr.units0 hF I.ok.mod.kin J J'.type (by simp [PySem.W.notFirst]) hs hf ?_
  refine wpAny_call (codeAny_mono (F.run X.A X.stack s H ⟨[.ref a, .ref b], []⟩ [.ref a, .ref b] [.ref a, .ref b] _ _ hr I.env0 (by
    have := hb s [.ref a, .ref b] I.kIn (by simpa using hl)
    simpa using this) r2 q) fun o s' hq => ?_)
  match o, hq with
  | .error u, hq => exact hq.elim
  | .ok (.ret u), hq =>
    obtain ⟨v, H1, I1, rv, c, rfl, q'⟩ := I.after hq
    obtain rfl : u = Value.bool c := rv
    exact ⟨.bl c, H1, I1, rfl, q'⟩
  | .ok .next, hq => exact hq.elim
  | .ok .brk, hq => exact hq.elim
  | .ok .cont, hq => exact hq.elim
theorem op_neO (F : FnOk X.prog X.w X.K X.mg X.base CX0 k f fd ps sp) (hr : Room (k + 1) X.A) (hm : PySem.W.mroIn X.K C (.type "object") = some true) (hne : PySem.W.findIn X.K (.ref C) "__ne__" = some (some (.builtin "object.__ne__")))
    (hs : PySem.W.findIn X.K (.ref C) "__eq__" = some (some (.ref f))) (hf : PySem.W.isFn X.K (.ref f) = true) (hb : Binds X.K fd ps []) : OpR X (compareOp .NotEq) (rNeO C sp) := by
  intro pins s σ H x y v u Q I rx ry h
  obtain ⟨a, b, dx, dy, fs, gs, rfl, rfl, ha, hb', q⟩ := h
  cases rx
  cases ry
  obtain ⟨mA, J, _⟩ := ins_get I.hok ha
  obtain ⟨mB, J', _⟩ := ins_get I.hok hb'
  obtain ⟨od, J, _⟩ := J.look
  obtain ⟨od', J', _⟩ := J'.look
  have hl := F.len _ _ _ _ q
  have r2 : Vals [V.ref a, V.ref b] [Value.ref a, Value.ref b] := .cons rfl (.cons rfl .nil)
  show wpAny (model X.prog X.w) X.A (richCompare .NotEq (.ref a) (.ref b)) (EP X pins σ Q) X.xe s
  refine ne_own hr.in1.units0 hr.units0 I.kIn J J'.type hm hne hs hf ?_
  refine wpAny_call (codeAny_mono (F.run X.A.in1 X.stack s H ⟨[.ref a, .ref b], []⟩ [.ref a, .ref b] [.ref a, .ref b] _ _ hr.in1 I.env0.in1 (by
    have := hb s [.ref a, .ref b] I.kIn (by simpa using hl)
    simpa using this) r2 q) fun o s' hq => ?_)
  match o, hq with
  | .error u, hq => exact hq.elim
  | .ok (.ret u), hq =>
    obtain ⟨v, H1, I1, rv, c, rfl, q'⟩ := I.after hq
    obtain rfl : u = Value.bool c := rv
    exact ⟨c, rfl, .bl (!c), H1, I1, rfl, q'⟩
  | .ok .next, hq => exact hq.elim
  | .ok .brk, hq => exact hq.elim
  | .ok .cont, hq => exact hq.elim
/-- a value that is equal to itself at sight -/
def sameV : V → Bool
  | .non | .bl _ | .int _ | .str _ | .ref _ => true
  | _ => false
/-- xs != ys of two lists with the very same items -/
def rNeS (K : PySem.W.Frag) : R2 := fun x y H Q => ∃ a b xs, x = .ref a ∧ y = .ref b ∧ SqL K H a xs ∧ SqL K H b xs ∧ xs.all sameV = true ∧ Q (.bl false) H
theorem op_neS (hu : X.A.units + 64 < cLine) : OpR X (compareOp .NotEq) (rNeS X.K) := by
  intro pins s σ H x y v u Q I rx ry h
  obtain ⟨a, b, xs, rfl, rfl, ha, hb, hx, q⟩ := h
  cases rx
  cases ry
  obtain ⟨its, rv, ⟨⟨cls, dd, data, sl⟩, n, ho, hc, hd, hdat⟩, hz⟩ := I.list ha
  obtain ⟨its2, rv2, ⟨⟨cls2, dd2, data2, sl2⟩, n2, ho2, hc2, hd2, hdat2⟩, hz2⟩ := I.list hb
  simp only at hc hd hdat hc2 hd2 hdat2
  subst hc hdat hc2 hdat2
  show wpAny (model X.prog X.w) X.A (richCompare .NotEq (.ref a) (.ref b)) (EP X pins σ Q) X.xe s
  have hsz : its.toArray.size = its2.toArray.size := by rw [List.size_toArray, List.size_toArray, ← rv.length, ← rv2.length]
  refine wpAny_richCompare_same_room (op := .NotEq) ⟨_, ho, rfl⟩ ⟨_, ho2, rfl⟩ F.slot_list_ne (GQ.call_here F.slot_list_ne ⟨_, ho, rfl⟩ F.entry_list_ne (F.args_list_ne_2 _ _) ?_) (by omega)
  refine PySem.SeqAt.list_neAt a b its.toArray its2.toArray n n2 dd dd2 sl sl2 hsz (fun _ => true) X.prog X.w X.A _ s ⟨ho, ho2, fun j h1 h2 => ?_, ?_⟩
  · have k1 : j < its.length := by simpa using h1
    have k2 : j < its2.length := by simpa using h2
    have kx : j < xs.length := by rw [rv.length]; exact k1
    obtain ⟨u1, e1, r1⟩ := rv.get (List.getElem?_eq_getElem kx)
    obtain ⟨u2, e2, r2⟩ := rv2.get (List.getElem?_eq_getElem kx)
    have g1 : its.toArray[j] = u1 := by
      rw [List.getElem?_eq_getElem k1] at e1
      simpa using Option.some.inj e1
    have g2 : its2.toArray[j] = u2 := by
      rw [List.getElem?_eq_getElem k2] at e2
      simpa using Option.some.inj e2
    rw [g1, g2]
    have hxj := List.all_eq_true.mp hx _ (List.getElem_mem kx)
    generalize xs[j] = z at r1 r2 hxj
    have flat : flatV z = true → eqV z z = true → SeqAt.EqAt X.A.in1 s u1 u2 true := fun f e => by
      have := eqAt_V (A := X.A.in1) (s := s) r1 r2 f f
      rw [e] at this
      exact this
    cases z with
    | non => exact flat rfl rfl
    | bl b => exact flat rfl (by cases b <;> rfl)
    | int i => exact flat rfl (beq_self_eq_true _)
    | str x => exact flat rfl (beq_self_eq_true _)
    | ref p =>
      cases r1
      cases r2
      exact SeqAt.EqAt.same (A := X.A.in1) (s := s) (.ref p)
    | _ => cases hxj
  · have e : (!(List.range its.toArray.size).all fun _ => true) = false := by
      rw [List.all_eq_true.mpr fun _ _ => rfl]; rfl
    rw [e]
    exact ⟨(fun z => nomatch z), .bl false, H, I, rfl, q⟩
end
section
variable {X : Cx} {CX : CXT} {k : Nat} {f C : Addr} {fd : FuncData} {ps : List Str} {sp : Sp} {E : L2.St → XK} {m : Str} {pos apos : Pos} {e o : Expr} {es : List Expr} {ta : TE} {t : TA}
/-- o.m(e, ..) in a try: what it raises is taken with the slots as they are -/
def tMethS (C : Addr) (m : Str) (sp : Sp) (E : L2.St → XK) (ta : TE) (t : TA) : TE := fun σ H Q => ta σ H fun x H1 => ∃ (a dx : Addr) (fs : List (Str × V)), x = .ref a ∧ H1 a = some (.ins C dx fs) ∧ fs.lookup m = none ∧ t σ H1 fun vs H2 => sp (.ref a :: vs) H2 Q (E σ)
theorem pe_methS {pl : Sem Bool} (he : PE X o ta) (c : Cls X.K C) (hm : Meth X.K C m f) (F : FnOk X.prog X.w X.K X.mg X.base CX k f fd ps sp) (hr : Room k X.A) (hb : Binds X.K fd ps []) (hx : ∀ σ, PassesAt CX X σ (E σ)) (ha : PA X (e :: es) t)
    (hst : starEach (e :: es) X.env = (false, eval e X.env) :: starEach es X.env := by rfl) (hpl : (backTo pos (starEach es X.env)).any (·.1) = false := by rfl)
    (ht : eval (.Call (.Attribute o m apos) (e :: es) [] pos) X.env = (do
      let ov ← eval o X.env
      standAt apos.atName
      let (f, first) ← holding [ov] (getMethod ov m pl)
      callWith pos f first (backTo pos (starEach (e :: es) X.env)) (backToKw pos (keywordEach [] X.env))) := by rfl) :
    PE X (.Call (.Attribute o m apos) (e :: es) [] pos) (tMethS C m sp E ta t) := by
  refine ⟨fun pins s σ H Q I h => ?_⟩
  refine PySem.W.methodCall_KW (pl := pl) (thn (he.run pins s σ H _ I h) fun u s1 ⟨x, H1, I1, rx, a, dx, fs, ex, ea, l, q⟩ => ?_) ht
  subst ex
  obtain rfl : u = Value.ref a := rx
  refine getmeth_ok I1 ea c hm l ?_
  refine PySem.W.callWith_K (first := [.ref a]) (h₀ := X.base) I.ok.mod.kin hm.kp (thn (ha.run pos pins s1 σ H1 _ I1 q) fun us s2 ⟨vs, H2, I2, r, q2⟩ => ⟨I2.kIn, ?_⟩) hst hpl
  exact run_fnS (us := .ref a :: us) (vs := .ref a :: vs) F hr hb (hx σ) I2 (.cons rfl r) q2
end
section
variable {X : Cx}
theorem flat_intsT (ns : List Int) : (ns.map V.int).all flatV = true := by
  rw [List.all_map]
  exact List.all_eq_true.mpr fun _ _ => rfl
/-- t.index(i), t a tuple of whole numbers: the first place -/
def rIndexT (K : PySem.W.Frag) : V → List V → Hp → VK → Prop := fun x xs H Q => ∃ (p : Addr) (ns : List Int) (i : Int) (j : Nat), x = .ref p ∧ xs = [.int i] ∧ SqT K H p (ns.map V.int) ∧ ns[j]? = some i ∧ (∀ m, m < j → ns[m]? ≠ some i) ∧ Q (.int (j : Nat)) H
theorem mt_tidx {K : PySem.W.Frag} (hK : X.K = K) : MtR X "tuple.index" (rIndexT K) := by
  subst hK
  intro pins s σ H x xs v us Q I rx rs h
  obtain ⟨p, ys, z, j, rfl, rfl, hq, hy, hno, q⟩ := h
  cases rx
  obtain ⟨u, rfl, t, rfl⟩ := vals1 rs
  obtain ⟨its, r, pl, hz⟩ := I.tuple hq
  obtain ⟨⟨cls, dd, dt, sl⟩, ho, hc, n, hd⟩ := pl
  simp only at hc hd
  subst hc
  subst hd
  have hl : its.toArray.size = ys.length := by rw [List.size_toArray, ← r.length, List.length_map]
  have hj : j < its.toArray.size := by rw [hl]; exact (List.getElem?_eq_some_iff.mp hy).1
  have at' : ∀ (m : Nat) (hm : m < its.toArray.size), ∃ y t', ys[m]? = some y ∧ its.toArray[m] = Value.int y t' := fun m hm => by
    have hm' : m < ys.length := by rw [← hl]; exact hm
    obtain ⟨w, hw, t', hw'⟩ := r.get (i := m) (x := .int ys[m]) (by simp [hm'])
    refine ⟨ys[m], t', List.getElem?_eq_getElem hm', ?_⟩
    have e := (List.getElem?_eq_some_iff.mp hw).2
    rw [← hw', ← e]
    simp
  refine call_meets PySem.F.slot_tuple_index ⟨_, ho, rfl⟩ PySem.F.entry_tuple_index (PySem.F.args_tuple_index_2 _ _) (TI.tuple_indexAt p its.toArray n dd sl (.int z t) (eqU (.int z)) j hj ?_ ?_)
    ⟨ho, fun w hw => mem_eqAt (x := .int z) ⟨t, rfl⟩ rfl r (flat_intsT ys) w (by simpa using hw), ⟨.int (j : Nat), H, I.tok _, ⟨_, rfl⟩, q⟩⟩
  · obtain ⟨y, t', h1, h2⟩ := at' j hj
    rw [hy] at h1
    cases h1
    rw [h2]
    show (z == z) = true
    exact beq_self_eq_true z
  · intro m hm hmj
    obtain ⟨y, t', h1, h2⟩ := at' m hm
    rw [h2]
    show (y == z) = false
    exact beq_eq_false_iff_ne.mpr fun e => hno m hmj (e ▸ h1)
end
/-! ### a tuple whose object is known: it has no attributes of its own -/
def TupF (H : Hp) (a : Addr) (xs : List V) : Prop := ∃ ob : Obj, H a = some (.frz ob (.tup xs)) ∧ ob.dict = none
theorem TupF.sq {K : PySem.W.Frag} {H : Hp} {a : Addr} {xs : List V} (h : TupF H a xs) : SqT K H a xs := let ⟨ob, e, _⟩ := h; .inl (.inr ⟨ob, e⟩)
theorem TupF.ext {H J : Hp} {a : Addr} {xs : List V} (s : ∀ b o, H b = some o → J b = some o) (h : TupF H a xs) : TupF J a xs := let ⟨ob, e, n⟩ := h; ⟨ob, s _ _ e, n⟩
section
variable {X : Cx} {o e : Expr} {es : List Expr} {to : TE} {t : TA} {name : Str} {apos cpos : Pos} {id : String} {r : V → List V → Hp → VK → Prop}
theorem call_tuple_F {K : PySem.W.Frag} (hK : X.K = K) : CallR X (.type "tuple") (fun xs H Q => ∃ p ys, xs = [.ref p] ∧ SqL K H p ys ∧ ∀ (l : Addr) (ob : Obj), H l = none → ob.dict = none → Q (.ref l) (upd H l (.frz ob (.tup ys)))) := by
  subst hK
  intro pins s σ H xs us Q I r h
  obtain ⟨p, ys, rfl, hq, q⟩ := h
  obtain ⟨u, rfl, rx⟩ := vals1 r
  cases rx
  obtain ⟨its, r', pl, hz⟩ := I.list hq
  have hlen := r'.length
  refine call_tuple_list pl.isList (fun h' kp => ?_) (by simp only [List.size_toArray] <;> omega)
  have I1 : Inv X pins σ H { s with heap := h' } := I.kept (t' := s.toks) kp
  have I2 : Inv X pins σ (upd H h'.objs.size (.frz { cls := .type "tuple", data := .seq its.toArray } (.tup ys))) { s with heap := h'.push { cls := .type "tuple", data := .seq its.toArray } } :=
    I1.laid (t' := s.toks) (fun b o e => Heap.get?_push_of_some _ e) (Nat.le_refl _) (show ObjOk X.prog X.w _ _ _ (.frz _ (.tup ys)) from ⟨Heap.get?_push_size _ rfl, hz, its, r', IsTup.new _ _⟩)
  exact ⟨.ref h'.objs.size, _, I2, rfl, q _ _ (I1.hok.fresh (Nat.le_refl _)) rfl⟩
def tBT (r : V → List V → Hp → VK → Prop) (to : TE) (t : TA) : TE := fun σ H Q => to σ H fun x H1 => (∃ p xs, x = .ref p ∧ TupF H1 p xs) ∧ t σ H1 fun vs H2 => r x vs H2 Q
theorem pe_bmT (pa : PlainAttrs "tuple") (slot : Slot "tuple" name id) (hty : typeOf (.builtin id) = pure (.type "method_descriptor")) (hm : MtR X id r) (ho : PE X o to) (ha : PA X (e :: es) t)
    (hbase : attributeBase o name X.env (eval o X.env) = eval o X.env := by rfl)
    (hfew : ((backTo cpos (starEach (e :: es) X.env)).all (fun x => !x.1) && (backToKw cpos (keywordEach [] X.env)).all (fun x => x.1.isSome)
      && decide ((e :: es).length + ([] : List Keyword).length + (if ([] : List Keyword).isEmpty then 0 else 1) < 30)) = true := by rfl)
    (hline : (apos.endLine == cpos.line) = true := by rfl) (hs : starEach (e :: es) X.env = (false, eval e X.env) :: starEach es X.env := by rfl) (hplain : (backTo cpos (starEach es X.env)).any (·.1) = false := by rfl) :
    PE X (.Call (.Attribute o name apos) (e :: es) [] cpos) (tBT r to t) := by
  refine ⟨fun pins s σ H Q I h => ?_⟩
  refine wpAny_Call_method_late hbase hfew hline rfl (thn (ho.run pins s σ H _ I h) fun v s1 ⟨x, H1, I1, r1, ⟨p, xs, ex, ob, hF, hd⟩, q1⟩ => ?_)
  subst ex
  cases r1
  obtain ⟨e1, _, its, _, o', e2, hc, _⟩ := (show ObjOk X.prog X.w H1 s1.heap p (.frz ob (.tup xs)) from I1.hok p _ hF)
  rw [e1] at e2
  cases e2
  refine ⟨"tuple", id, pa, slot, hty, ⟨ob, e1, hc⟩, fun a ea => ?_, ?_⟩
  · cases ea
    exact ⟨ob, e1, hd⟩
  have hA := ha.run cpos pins s1 σ H1 _ I1 q1
  rw [hs] at hA ⊢
  refine Calls.callWith_builtin (by show (false || (backTo cpos (starEach es X.env)).any (·.1)) = false; rw [hplain] <;> rfl) (Calls.evalArgs_plain ?_)
  exact thn hA fun us s2 ⟨vs, H2, I2, r2, q2⟩ => hm pins s2 σ H2 (.ref p) vs _ us Q I2 rfl r2 q2
end
end KX

set_option Elab.async false
set_option linter.all false
set_option maxRecDepth 100000
set_option maxHeartbeats 4000000
/-! Own layer: set(a list of whole numbers), with how many it holds. -/
namespace KX
open PySem PySem.Spec PyProof.Rows L2
theorem nodup_le : ∀ {l L : List Int}, l.Nodup → (∀ x, x ∈ l → x ∈ L) → l.length ≤ L.length
  | [], _, _, _ => Nat.zero_le _
  | x :: l, L, nd, h => by
    obtain ⟨h1, h2⟩ := List.nodup_cons.mp nd
    have hx := h x List.mem_cons_self
    have q := nodup_le (l := l) (L := L.erase x) h2 fun y hy => (List.mem_erase_of_ne (fun e : y = x => h1 (by rw [← e]; exact hy))).mpr (h y (List.mem_cons_of_mem _ hy))
    rw [List.length_erase_of_mem hx] at q
    have := List.length_pos_of_mem hx
    simp only [List.length_cons]; omega
theorem SetR_le {w : World} {h : Heap} {a : Addr} {S : Int → Bool} {n : Nat} (R : SetR w h a S n) {L : List Int} (hL : ∀ k, S k = true → k ∈ L) : n ≤ L.length := by
  obtain ⟨o, es, ep, t, _, _, _, _, nd, hm, _, _, hn, _⟩ := R
  have := nodup_le nd fun k hk => hL k ((hm k).mpr hk)
  rw [List.length_map, Array.length_toList, hn] at this
  exact this
theorem SetR_ge {w : World} {h : Heap} {a : Addr} {S : Int → Bool} {n : Nat} (R : SetR w h a S n) {L : List Int} (nd : L.Nodup) (hL : ∀ k, k ∈ L → S k = true) : L.length ≤ n := by
  obtain ⟨o, es, ep, t, _, _, _, _, _, hm, _, _, hn, _⟩ := R
  have := nodup_le nd fun k hk => (hm k).mp (hL k hk)
  rw [List.length_map] at this
  have e : es.toList.length = es.size := Array.length_toList
  omega
section
variable {X : Cx}
/-- len(s), s a set of whole numbers -/
def rLenSet (w : World) : List V → Hp → VK → Prop := fun xs H Q => ∃ (p : Addr) (S : Int → Bool) (n : Nat), xs = [.ref p] ∧ H p = some (SetO w p S n) ∧ Q (.int n) H
theorem call_lenSet {w : World} (hw : X.w = w) : CallR X (.builtin "len") (rLenSet w) := by
  subst hw
  intro pins s σ H xs us Q I r h
  obtain ⟨p, S, n, rfl, hp, q⟩ := h
  obtain ⟨u, rfl, rx⟩ := vals1 r
  cases rx
  obtain ⟨o, es, ep, t, ho, hex, hd, _, _, _, hb, hf, hn, _⟩ := setO_get I hp
  refine call_len_set ho hex hd hf (by unfold scanBound at hb; omega) ⟨.int n, H, I.tok _, ⟨_, by rw [hn]⟩, q⟩
/-- set(l), l a list of whole numbers -/
def rSetN (K : PySem.W.Frag) (w : World) : List V → Hp → VK → Prop := fun xs H Q => ∃ (l : Addr) (ns : List Int), xs = [.ref l] ∧ SqL K H l (ns.map V.int) ∧ ns.length ≤ 4000 ∧
  ∀ p c, H p = none → (∀ L : List Int, (∀ k, k ∈ ns → k ∈ L) → c ≤ L.length) → (∀ L : List Int, L.Nodup → (∀ k, k ∈ L → k ∈ ns) → L.length ≤ c) → Q (.ref p) (upd H p (SetO w p (fun j => decide (j ∈ ns)) c))
theorem ct_setN (hc : X.calm = true) {K : PySem.W.Frag} (hK : X.K = K) {w : World} (hw : X.w = w) : CallR X (.type "set") (rSetN K w) := by
  subst hK; subst hw
  intro pins s σ H xs us Q I r h
  obtain ⟨l, ns, rfl, hS, hn, q⟩ := h
  obtain ⟨u, rfl, rx⟩ := vals1 r
  cases rx
  obtain ⟨its, rv, pl, hz⟩ := I.list hS
  refine set_of_list ns (I.ok.hd hc) pl.isList (by simpa using ints_of_vals rv) (by unfold scanBound; omega) fun h' tk c ⟨R, hc', k⟩ => ?_
  exact ⟨.ref s.heap.objs.size, _, I.laid (t' := tk) k (Nat.le_refl _) (setO_new R), rfl, q _ c (I.hok.fresh (Nat.le_refl _)) (fun L hL => SetR_le R fun k hk => hL k (of_decide_eq_true hk)) fun L nd hL => SetR_ge R nd fun k hk => decide_eq_true (hL k hk)⟩
end
end KX

set_option Elab.async false
set_option linter.all false
set_option maxRecDepth 100000
set_option maxHeartbeats 4000000
/-! Own layer: set(a tuple of whole numbers), with how many it holds. -/
namespace KX
open PySem PySem.Spec PyProof.Rows L2
section
variable {X : Cx}
def rSetT (K : PySem.W.Frag) (w : World) : List V → Hp → VK → Prop := fun xs H Q => ∃ (l : Addr) (ns : List Int), xs = [.ref l] ∧ SqT K H l (ns.map V.int) ∧ ns.length ≤ 4000 ∧
  ∀ p c, H p = none → (∀ L : List Int, (∀ k, k ∈ ns → k ∈ L) → c ≤ L.length) → (∀ L : List Int, L.Nodup → (∀ k, k ∈ L → k ∈ ns) → L.length ≤ c) → Q (.ref p) (upd H p (SetO w p (fun j => decide (j ∈ ns)) c))
theorem ct_setT (hc : X.calm = true) {K : PySem.W.Frag} (hK : X.K = K) {w : World} (hw : X.w = w) : CallR X (.type "set") (rSetT K w) := by
  subst hK; subst hw
  intro pins s σ H xs us Q I r h
  obtain ⟨l, ns, rfl, hS, hn, q⟩ := h
  obtain ⟨u, rfl, rx⟩ := vals1 r
  cases rx
  obtain ⟨its, rv, pt, hz⟩ := I.tuple hS
  refine call_set_tupI ns (I.ok.hd hc) (show s.heap.IsTuple l its.toArray from pt) (by simpa using ints_of_vals rv) (by unfold scanBound; omega) fun h' tk c R hc' k => ?_
  exact ⟨.ref s.heap.objs.size, _, I.laid (t' := tk) k (Nat.le_refl _) (setO_new R), rfl, q _ c (I.hok.fresh (Nat.le_refl _)) (fun L hL => SetR_le R fun k hk => hL k (of_decide_eq_true hk)) fun L nd hL => SetR_ge R nd fun k hk => decide_eq_true (hL k hk)⟩
end
end KX

set_option Elab.async false
set_option linter.all false
set_option maxRecDepth 100000
set_option maxHeartbeats 4000000
set_option pp.maxSteps 400
namespace L
open PySem L2 KX
/-! the table with its elements numbered anew -/
def ren (tb : List (List Int)) (o : List Nat) : List (List Int) := tab tb.length (frn o fun a b => (mu tb a b).toNat)
theorem asf_mu {tb : List (List Int)} (T : Tb tb) : Asf tb.length fun a b => (mu tb a b).toNat := by
  refine ⟨fun a b ha hb => (mu_nat T.sq ha hb).2, fun a b c ha hb hc => ?_⟩
  have h := T.as a b c ha hb hc
  have e1 := mu_nat T.sq ha hb
  have e2 := mu_nat T.sq hb hc
  show (mu tb (mu tb a b).toNat c).toNat = (mu tb a (mu tb b c).toNat).toNat
  unfold rt at h
  rw [h]
theorem ren_tb {tb : List (List Int)} (T : Tb tb) {o : List Nat} (hp : o.Perm (List.range tb.length)) : Tb (ren tb o) := tab_tb T.sq.le T.sq.ge (asf_renum (asf_mu T) hp)
theorem ren_len (tb : List (List Int)) (o : List Nat) : (ren tb o).length = tb.length := tab_len _ _
theorem ren_mu {tb : List (List Int)} {o : List Nat} {i j : Nat} (hi : i < tb.length) (hj : j < tb.length) : mu (ren tb o) i j = ((o.idxOf (mu tb (o.getD i 0) (o.getD j 0)).toNat : Nat) : Int) := tab_mu hi hj
section
variable {tb : List (List Int)} {o : List Nat}
theorem pm_len (hp : o.Perm (List.range tb.length)) : o.length = tb.length := by rw [hp.length_eq, List.length_range]
theorem pm_lt (hp : o.Perm (List.range tb.length)) {x : Nat} (h : x ∈ o) : x < tb.length := List.mem_range.mp (hp.mem_iff.mp h)
theorem pm_mem (hp : o.Perm (List.range tb.length)) {x : Nat} (h : x < tb.length) : x ∈ o := hp.mem_iff.mpr (List.mem_range.mpr h)
theorem pm_nd (hp : o.Perm (List.range tb.length)) : o.Nodup := hp.symm.nodup List.nodup_range
theorem pm_get (hp : o.Perm (List.range tb.length)) {i : Nat} (h : i < tb.length) : o.getD i 0 = o[i]'(by rw [pm_len hp]; exact h) := by
  rw [List.getD_eq_getElem?_getD, List.getElem?_eq_getElem (by rw [pm_len hp]; exact h)]; rfl
theorem pm_at (hp : o.Perm (List.range tb.length)) {i : Nat} (h : i < tb.length) : o.getD i 0 < tb.length := by
  rw [pm_get hp h]; exact pm_lt hp (List.getElem_mem _)
theorem pm_ix (hp : o.Perm (List.range tb.length)) {x : Nat} (h : x < tb.length) : o.idxOf x < tb.length := by
  have := List.idxOf_lt_length_iff.mpr (pm_mem hp h)
  rw [pm_len hp] at this; exact this
theorem pm_gi (hp : o.Perm (List.range tb.length)) {x : Nat} (h : x < tb.length) : o.getD (o.idxOf x) 0 = x := by
  rw [pm_get hp (pm_ix hp h)]; exact List.getElem_idxOf _
theorem pm_ig (hp : o.Perm (List.range tb.length)) {i : Nat} (h : i < tb.length) : o.idxOf (o.getD i 0) = i := by
  rw [pm_get hp h]
  exact (pm_nd hp).idxOf_getElem i _
/-- two tables of functions -/
theorem tab_ext {n : Nat} {f g : Nat → Nat → Nat} (h : ∀ a b, a < n → b < n → f a b = g a b) : tab n f = tab n g := by
  unfold tab
  refine List.map_congr_left fun a ha => List.map_congr_left fun b hb => ?_
  rw [h a b (List.mem_range.mp ha) (List.mem_range.mp hb)]
/-- two renumberings one after the other -/
theorem ren_ren (T : Tb tb) (hp : o.Perm (List.range tb.length)) {s : List Nat} (hs : s.Perm (List.range tb.length)) : ren (ren tb o) s = ren tb (s.map fun i => o.getD i 0) := by
  unfold ren
  rw [tab_len]
  refine tab_ext fun a b ha hb => ?_
  have hsa := pm_at hs ha
  have hsb := pm_at hs hb
  have ls := pm_len hs
  have ga : (s.map fun i => o.getD i 0).getD a 0 = o.getD (s.getD a 0) 0 := by
    rw [List.getD_eq_getElem?_getD, List.getElem?_map, pm_get hs ha, List.getElem?_eq_getElem (by omega)]; rfl
  have gb : (s.map fun i => o.getD i 0).getD b 0 = o.getD (s.getD b 0) 0 := by
    rw [List.getD_eq_getElem?_getD, List.getElem?_map, pm_get hs hb, List.getElem?_eq_getElem (by omega)]; rfl
  unfold frn plc
  rw [ga, gb]
  dsimp only
  rw [show (mu (tab tb.length fun i j => o.idxOf (mu tb (o.getD i 0) (o.getD j 0)).toNat) (s.getD a 0) (s.getD b 0)).toNat = o.idxOf (mu tb (o.getD (s.getD a 0) 0) (o.getD (s.getD b 0) 0)).toNat from by rw [tab_mu hsa hsb]; rfl]
  have hx := (mu_nat T.sq (pm_at hp hsa) (pm_at hp hsb)).2
  generalize (mu tb (o.getD (s.getD a 0) 0) (o.getD (s.getD b 0) 0)).toNat = x at hx
  -- the place of x in the list of both
  have hk := pm_ix hs (pm_ix hp hx)
  have h1 : (s.map fun i => o.getD i 0).getD (s.idxOf (o.idxOf x)) 0 = x := by
    rw [List.getD_eq_getElem?_getD, List.getElem?_map, List.getElem?_eq_getElem (show s.idxOf (o.idxOf x) < s.length by omega)]
    show o.getD s[s.idxOf (o.idxOf x)] 0 = x
    rw [List.getElem_idxOf]
    exact pm_gi hp hx
  have nd : (s.map fun i => o.getD i 0).Nodup := by
    refine List.Pairwise.map _ (fun i j hij => ?_) ((pm_nd hs).imp_of_mem fun {i j} hi hj h => (show i ≠ j ∧ i < tb.length ∧ j < tb.length from ⟨h, pm_lt hs hi, pm_lt hs hj⟩))
    intro e
    have := congrArg o.idxOf e
    rw [pm_ig hp hij.2.1, pm_ig hp hij.2.2] at this
    exact hij.1 this
  have l2 : s.idxOf (o.idxOf x) < (s.map fun i => o.getD i 0).length := by rw [List.length_map]; omega
  have h2 : (s.map fun i => o.getD i 0)[s.idxOf (o.idxOf x)]'l2 = x := by
    rw [List.getD_eq_getElem?_getD, List.getElem?_eq_getElem l2] at h1
    exact h1
  have h3 := nd.idxOf_getElem (s.idxOf (o.idxOf x)) l2
  rw [h2] at h3
  exact h3.symm
/-- the way back -/
def inv (o : List Nat) : List Nat := (List.range o.length).map fun a => o.idxOf a
theorem inv_get (hp : o.Perm (List.range tb.length)) {a : Nat} (h : a < tb.length) : (inv o).getD a 0 = o.idxOf a := by
  unfold inv
  rw [List.getD_eq_getElem?_getD, List.getElem?_map, List.getElem?_range (by rw [pm_len hp]; exact h)]; rfl
theorem pm_of {n : Nat} {l : List Nat} (nd : l.Nodup) (lt : ∀ x, x ∈ l → x < n) (all : ∀ x, x < n → x ∈ l) : l.Perm (List.range n) :=
  (List.perm_ext_iff_of_nodup nd List.nodup_range).mpr fun x => ⟨fun h => List.mem_range.mpr (lt x h), fun h => all x (List.mem_range.mp h)⟩
theorem inv_pm (hp : o.Perm (List.range tb.length)) : (inv o).Perm (List.range tb.length) := by
  have lo := pm_len hp
  refine pm_of ?_ (fun x hx => ?_) fun x hx => ?_
  · unfold inv
    refine List.pairwise_map.mpr (List.nodup_range.imp_of_mem fun {a b} ha hb ne e => ne ?_)
    have ha' : a < tb.length := by have := List.mem_range.mp ha; omega
    have hb' : b < tb.length := by have := List.mem_range.mp hb; omega
    have this : o.getD (o.idxOf a) 0 = o.getD (o.idxOf b) 0 := congrArg (fun i => o.getD i 0) e
    rw [pm_gi hp ha', pm_gi hp hb'] at this
    exact this
  · obtain ⟨a, ha, rfl⟩ := List.mem_map.mp hx
    exact pm_ix hp (by have := List.mem_range.mp ha; omega)
  · exact List.mem_map.mpr ⟨o.getD x 0, List.mem_range.mpr (by have := pm_at hp hx; omega), pm_ig hp hx⟩
theorem both_pm (hp : o.Perm (List.range tb.length)) {s : List Nat} (hs : s.Perm (List.range tb.length)) : (s.map fun i => o.getD i 0).Perm (List.range tb.length) := by
  refine pm_of ?_ (fun x hx => ?_) fun x hx => ?_
  · refine List.pairwise_map.mpr ((pm_nd hs).imp_of_mem fun {a b} ha hb ne e => ne ?_)
    have := congrArg o.idxOf e
    rw [pm_ig hp (pm_lt hs ha), pm_ig hp (pm_lt hs hb)] at this
    exact this
  · obtain ⟨a, ha, rfl⟩ := List.mem_map.mp hx
    exact pm_at hp (pm_lt hs ha)
  · exact List.mem_map.mpr ⟨o.idxOf x, pm_mem hs (pm_ix hp hx), pm_gi hp hx⟩
theorem ren_id (T : Tb tb) : ren tb (List.range tb.length) = tb := by
  have hp : (List.range tb.length).Perm (List.range tb.length) := List.Perm.refl _
  have g : ∀ i, i < tb.length → (List.range tb.length).getD i 0 = i := fun i h => by rw [pm_get hp h, List.getElem_range]
  have e : ren tb (List.range tb.length) = tab tb.length fun a b => (mu tb a b).toNat := by
    refine tab_ext fun a b ha hb => ?_
    unfold frn plc
    rw [g a ha, g b hb]
    have hx := (mu_nat T.sq ha hb).2
    have := pm_ig hp hx
    rw [g _ hx] at this
    exact this
  rw [e, ← tab_of T.sq]
theorem ren_inv (T : Tb tb) (hp : o.Perm (List.range tb.length)) : ren (ren tb o) (inv o) = tb := by
  rw [ren_ren T hp (inv_pm hp)]
  have e : ((inv o).map fun i => o.getD i 0) = List.range tb.length := by
    unfold inv
    rw [List.map_map, pm_len hp]
    conv => rhs; rw [← List.map_id (List.range tb.length)]
    refine List.map_congr_left fun a ha => ?_
    exact pm_gi hp (List.mem_range.mp ha)
  rw [e, ren_id T]
end
end L

set_option Elab.async false
set_option linter.all false
set_option maxRecDepth 100000
set_option maxHeartbeats 4000000
set_option pp.maxSteps 400
namespace L
open PySem L2 KX
abbrev sIdn : Stmt := inClass (top 16) 7
abbrev sEqT : Stmt := inClass (top 16) 2
abbrev sEiO : Stmt := inClass (top 8) 0
/-- element e leaves all as it is -/
def neutral (tb : List (List Int)) (e : Nat) : Bool := decide (tb.getD e [] = nums tb.length) && decide (tb.map (fun r => r.getD e 0) = nums tb.length)
/-- the first such -/
def idn (tb : List (List Int)) : Option Nat := (List.range tb.length).find? (neutral tb)
def vOpt : Option Nat → V
  | none => .non
  | some e => .int (e : Int)
def spIdn (K : PySem.W.Frag) (C : Addr) : Sp := fun vs H Q _ => ∃ p tb, vs = [.ref p] ∧ TbA K C H p tb ∧ Sqr tb ∧ ∀ H', Same H H' → Q (vOpt (idn tb)) H'
section
variable {P : Program} {w : World} {K : PySem.W.Frag} {mg : Str → Option Value} {base : Heap} {f g gn : Addr} {fd gd gnd : FuncData} {C CE fE : Addr} {dE : FuncData}
theorem scIdn : FnScope ["self", "numbers", "element", "column", "row"] ["self"] (defScope sIdn) := ⟨rfl, rfl, rfl, by decide +kernel, rfl, by decide +kernel, by decide +kernel⟩
theorem idn_some {tb : List (List Int)} {e : Nat} (h : neutral tb e = true) (he : e < tb.length) (l : ∀ j, j < e → neutral tb j = false) : idn tb = some e := by
  unfold idn
  exact List.find?_range_eq_some.mpr ⟨h, List.mem_range.mpr he, fun j hj => by rw [l j hj]; rfl⟩
theorem idn_none {tb : List (List Int)} (l : ∀ j, j < tb.length → neutral tb j = false) : idn tb = none := by
  unfold idn
  exact List.find?_range_eq_none.mpr fun j hj => by rw [l j hj]; rfl
theorem colTo_next {tb : List (List Int)} {e i : Nat} {row : List Int} (h : tb[i]? = some row) : ((tb.map fun r => r.getD e 0).take (i + 1)) = ((tb.map fun r => r.getD e 0).take i) ++ [row.getD e 0] := by
  rw [List.take_add_one, List.getElem?_map, h]; rfl
theorem ok_idn (F : Fun K "identity" "ProductTable.identity" sIdn f fd) (M : Mn mg) (T : CTx K mg C) : FnOk P w K mg base CX0 1 f fd ["self"] (spIdn K C) := by
  refine F.ok scIdn (fun vs H Q E h => ?_) (fun cdv A outer s H vs Q E hr h => ?_)
  · obtain ⟨p, tb, rfl, _⟩ := h
    rfl
  obtain ⟨p, tb, rfl, ⟨dx, t, rs, hp, ht, pr⟩, S, q⟩ := h
  refine ⟨_, pss_cons (ps_set (i := 1) scIdn.nd rfl (Or.inl rfl) (pe_listRg rfl (by rfl) M.list (prg_1 (by rfl) M.range (pe_callB call_len_seq (by rfl) M.len PySem.boot_len (pa_cons (pe_fld (pv 0) rfl) pa_nil)))))
    (pss_cons (ps_for PassesOwn.never rfl (pi_list (pv 1)) (pg_name (i := 2) scIdn.nd rfl (Or.inr rfl))
      (pss_cons (ps_setLc (i := 3) (own := [("row", 4)]) (g := gName 4) (tt := tYes) rfl scIdn.nd rfl rfl (sw_true rfl rfl rfl (by decide +kernel)) (pi_tup (pe_fld (pv 0) rfl))
        (blkOk_by (N := ["self", "numbers", "element", "column", "row"]) (sc := defScope sIdn) (by decide +kernel)) (fun _ _ _ _ _ => pg_name (i := 4) scIdn.nd rfl (Or.inl rfl)) (fun _ _ _ _ _ => pts_nil)
        (fun _ _ _ _ _ => pe_ix (ixt (K := K) rfl) (pv 4) (pv 2) (fun _ _ => rfl)))
      (pss_one (ps_if (pt_mo (pw_and (pt_cmpR (op_eqD hr.units) (pe_callTy call_list_of (by rfl) M.list (by decide +kernel) (pa_cons (pe_ix ix_tup (pe_fld (pv 0) rfl) (pv 2) (fun _ _ => rfl)) pa_nil)) (pv 1) (nomark _))
        (pw_and1 (pt_cmpR (op_eqD hr.units) (pv 3) (pv 1) (nomark _)))).pt) (pss_one (ps_ret (pv 2))) pss_nil))))
    (pss_one (ps_ret pe_non))), ?_⟩
  have n16 := S.ge
  refine ⟨_, rfl, p, C, dx, _, _, rfl, hp, T.cl, T.nR, rfl, t, rs, rfl, .inr ht, _, rfl, RgOk.of_le (by omega) (by rw [pr.length]; omega) (by omega) (by omega), fun na hna => ?_⟩
  rw [pr.length, rg_nums]
  have s0 := Same.new hna (.lst ((nums tb.length).map V.int))
  have ln : ((nums tb.length).map V.int).length = tb.length := by unfold nums; rw [List.length_map, List.length_map, List.length_range]
  refine ⟨_, rfl, na, rfl, ⟨_, SqL.of upd_same⟩, ?_⟩
  refine for_it (walk_list (xs := (nums tb.length).map V.int)) (fun e σ J => Same H J ∧ J na = some (.lst ((nums tb.length).map V.int)) ∧ (∀ j, j < e → neutral tb j = false) ∧ ∃ x2 x3 x4, σ = [some (.ref p), some (.ref na), x2, x3, x4])
    ⟨s0, upd_same, fun j hj => absurd hj (Nat.not_lt_zero j), _, _, _, rfl⟩ (fun _ _ _ _ z => SqL.of z.2.1) ?_ ?_
  · rintro e x _ J J1 he ⟨sJ, eN, ne, x2, x3, x4, rfl⟩ ⟨rfl, hx⟩
    rw [ln] at he
    have ex : x = .int (e : Int) := by
      unfold nums at hx
      rw [List.map_map, List.getElem?_map, List.getElem?_range he] at hx
      exact (Option.some.inj hx).symm
    subst ex
    refine ⟨_, rfl, p, C, dx, _, _, rfl, sJ _ _ hp, T.cl, T.nR, rfl, t, rfl, ⟨_, Same.tup sJ ht⟩, fun D hD => ?_⟩
    refine lc_it (walk_tup (xs := rs)) (fun i G => Same J1 G ∧ G D = some (.lst (((tb.map fun r => r.getD e 0).take i).map V.int))) ⟨Same.new hD _, upd_same⟩ (fun i G _ z => Same.tup z.1 (Same.tup sJ ht)) ?_ ?_
    · rintro i y G G1 hi ⟨sG, eD⟩ ⟨rfl, hy⟩
      rw [pr.length] at hi
      obtain ⟨r, h1, h2, h3⟩ := row_at pr S hi
      rw [h1] at hy
      cases hy
      have hti : tb[i]? = some (tb.getD i []) := by rw [List.getD_eq_getElem?_getD, List.getElem?_eq_getElem hi]; rfl
      refine ⟨rfl, _, rfl, _, rfl, r, _, _, _, rfl, rfl, Same.tup sG (Same.tup sJ h2), at_of (j := e) rfl (h3 e he), _, eD, by rw [List.length_map, List.length_take]; exact small1000 (by omega), fun b o ec => by rw [upd_ne (ne_of_none ec hD)]; exact sG b o ec, ?_⟩
      rw [upd_same, colTo_next hti, List.map_append]; rfl
    · rintro G ⟨sG, eD⟩
      rw [pr.length, List.take_of_length_le (by rw [List.length_map]; exact Nat.le_refl _)] at eD
      have sHG := sJ.trans sG
      obtain ⟨r, h1, h2, h3⟩ := row_at pr S he
      refine ⟨fun b G' => Same G G' ∧ b = neutral tb e, ?_, ?_⟩
      · refine ⟨_, rfl, p, C, dx, _, _, rfl, sHG _ _ hp, T.cl, T.nR, rfl, _, rfl, t, rs, _, _, rfl, rfl, Same.tup sHG ht, at_of (j := e) rfl h1, r, _, rfl, .inr (Same.tup sHG h2), fun l hl => ?_⟩
        have sl := Same.new hl (.lst ((tb.getD e []).map V.int))
        refine ⟨_, rfl, .list (iD (tb.getD e [])), .list (iD (nums tb.length)), .lst (SqL.of upd_same) (dp_ints _), .lst (SqL.of (sl _ _ (sG _ _ eN))) (dp_ints _), iD_shaped _, iD_shaped _, _, rfl, ?_⟩
        rw [iD_eqv]
        refine ite2 (fun c => ⟨_, rfl, _, rfl, .list (iD (tb.map fun r => r.getD e 0)), .list (iD (nums tb.length)), .lst (SqL.of (sl _ _ eD)) (dp_ints _), .lst (SqL.of (sl _ _ (sG _ _ eN))) (dp_ints _), iD_shaped _, iD_shaped _, _, rfl, sl, ?_⟩) (fun c => ⟨sl, ?_⟩)
        · rw [iD_eqv]; unfold neutral; rw [c, Bool.true_and]
        · unfold neutral; rw [Bool.eq_false_iff.mpr c, Bool.false_and]
      rintro b G' ⟨sG', rfl⟩
      refine ite2 (fun c => ?_) (fun c => ?_)
      · refine ⟨_, rfl, ?_⟩
        have qq := q G' (sHG.trans sG')
        rw [idn_some c he ne] at qq
        exact qq
      · refine ⟨sHG.trans sG', sG' _ _ (sG _ _ eN), fun j hj => ?_, _, _, _, rfl⟩
        by_cases hje : j = e
        · rw [hje]; exact Bool.eq_false_iff.mpr c
        · exact ne j (by omega)
  · rintro _ J ⟨sJ, eN, ne, x2, x3, x4, rfl⟩
    rw [ln] at ne
    have qq := q J sJ
    rw [idn_none ne] at qq
    exact qq
theorem scEiO : FnScope ["self", "value"] ["self", "value"] (defScope sEiO) := ⟨rfl, rfl, rfl, by decide +kernel, rfl, by decide +kernel, by decide +kernel⟩
theorem ok_eiO (F : Fun K "__init__" "InvalidOrder.__init__" sEiO f fd) : FnOk P w K mg base CX0 1 f fd ["self", "value"] (spEi K C "value") := by
  refine F.ok scEiO (fun vs H Q E h => ?_) (fun cdv A outer s H vs Q E hr h => ?_)
  · obtain ⟨a, v, rfl, _⟩ := h
    rfl
  obtain ⟨a, v, rfl, ha, T, no, q⟩ := h
  exact ⟨_, pss_one (ps_ost (pv 0) (pv 1)), ⟨_, rfl, _, rfl, a, C, rfl, T, no, .inl ⟨ha, fun dx h1 h2 => q dx h1 h2⟩⟩⟩
/-! own == -/
def qD (tb : List (List Int)) : List PyData := tb.map fun r => .tuple (iD r)
theorem qD_lay : ∀ tb : List (List Int), PyData.canLayAll0 (qD tb) = true ∧ PyData.depthAll (qD tb) ≤ 1
  | [] => ⟨rfl, Nat.zero_le _⟩
  | r :: tb => by
    obtain ⟨h1, h2⟩ := qD_lay tb
    have e1 := iD_lay r
    have e2 := iD_depth r
    refine ⟨?_, ?_⟩
    · show (PyData.canLay0 (.tuple (iD r)) && PyData.canLayAll0 (qD tb)) = true
      rw [h1]
      simp only [PyData.canLay0, e1, Bool.and_true]
    · show max (PyData.depth (.tuple (iD r))) (PyData.depthAll (qD tb)) ≤ 1
      have : PyData.depth (.tuple (iD r)) = 1 := by simp only [PyData.depth, e2]
      omega
theorem qD_shaped (tb : List (List Int)) : SeqAt.shaped (.tuple (qD tb)) = true := by
  obtain ⟨h1, h2⟩ := qD_lay tb
  have c1 : PyData.canLay0 (.tuple (qD tb)) = true := by simp only [PyData.canLay0]; exact h1
  have c2 : PyData.depth (.tuple (qD tb)) ≤ 64 := by simp only [PyData.depth]; omega
  show (PyData.canLay0 (.tuple (qD tb)) && decide (PyData.depth (.tuple (qD tb)) ≤ 64)) = true
  rw [c1, decide_eq_true c2]; rfl
theorem qD_eqvAll : ∀ a b : List (List Int), PyData.eqvAll (qD a) (qD b) = decide (a = b)
  | [], [] => rfl
  | [], _ :: _ => rfl
  | _ :: _, [] => rfl
  | r :: a, s :: b => by
    have h := qD_eqvAll a b
    have h2 := iD_eqvAll r s
    show (PyData.eqv (.tuple (iD r)) (.tuple (iD s)) && PyData.eqvAll (qD a) (qD b)) = _
    have e : PyData.eqv (.tuple (iD r)) (.tuple (iD s)) = PyData.eqvAll (iD r) (iD s) := by simp only [PyData.eqv]
    rw [e, h, h2, Bool.eq_iff_iff, Bool.and_eq_true, decide_eq_true_iff, decide_eq_true_iff, decide_eq_true_iff, List.cons.injEq]
theorem qD_eqv (a b : List (List Int)) : PyData.eqv (.tuple (qD a)) (.tuple (qD b)) = decide (a = b) := by simp only [PyData.eqv]; exact qD_eqvAll a b
theorem qD_dp {K : PySem.W.Frag} {H : Hp} {rs : List V} {tb : List (List Int)} (pr : Paired (fun x row => ∃ r, x = V.ref r ∧ SqT K H r (row.map V.int)) rs tb) : DpAll K H rs (qD tb) := by
  induction pr with
  | nil => exact .nil
  | cons h _ ih =>
    obtain ⟨r, rfl, hr⟩ := h
    exact .cons (.tup hr (dp_ints _)) ih
def spEqT (K : PySem.W.Frag) (C : Addr) : Sp := fun vs H Q _ => ∃ (a b : Addr) (ta tb : List (List Int)), vs = [.ref a, .ref b] ∧ TbA K C H a ta ∧ TbA K C H b tb ∧ Q (.bl (decide (ta = tb))) H
theorem scEqT : FnScope ["self", "other"] ["self", "other"] (defScope sEqT) := ⟨rfl, rfl, rfl, by decide +kernel, rfl, by decide +kernel, by decide +kernel⟩
theorem ok_eqT (F : Fun K "__eq__" "ProductTable.__eq__" sEqT f fd) (M : Mn mg) (T : CTx K mg C) (Y : CTi K C) : FnOk P w K mg base CX0 1 f fd ["self", "other"] (spEqT K C) := by
  refine F.ok scEqT (fun vs H Q E h => ?_) (fun cdv A outer s H vs Q E hr h => ?_)
  · obtain ⟨a, b, ta, tb, rfl, _⟩ := h
    rfl
  obtain ⟨a, b, ta, tb, rfl, hta, htb, q⟩ := h
  have hu := hr.units
  refine ⟨_, pss_one (ps_ret (pe_and (pe_callB call_isi (by rfl) M.isin (by decide +kernel) (pa_cons (pv 1) (pa_cons (pe_glob (v := .ref C) (by rfl) T.mgC rfl) pa_nil))) (pe_one (pe_cmpR (op_eqD hu) (pe_fld (pv 0) rfl) (pe_fld (pv 1) rfl) (nomark _))))), ?_⟩
  obtain ⟨dx, t, rs, hp, ht, pr⟩ := hta.ob
  obtain ⟨dx2, t2, rs2, hp2, ht2, pr2⟩ := htb.ob
  refine ⟨_, rfl, _, .ref C, _, .ref C, true, rfl, .own C, htb.ty T Y, kit_self K C, _, rfl, iteT ?_⟩
  refine ⟨_, rfl, a, C, dx, _, _, rfl, hp, T.cl, T.nR, rfl, _, rfl, b, C, dx2, _, _, rfl, hp2, T.cl, T.nR, rfl, .tuple (qD ta), .tuple (qD tb), .tup ht (qD_dp pr), .tup ht2 (qD_dp pr2), qD_shaped _, qD_shaped _, ?_⟩
  rw [qD_eqv]
  exact q
end
/-! identity and idempotents of the new table -/
theorem neutral_iff {tb : List (List Int)} (S : Sqr tb) {e : Nat} (he : e < tb.length) : neutral tb e = true ↔ ∀ b, b < tb.length → mu tb e b = (b : Int) ∧ mu tb b e = (b : Int) := by
  unfold neutral
  rw [Bool.and_eq_true, decide_eq_true_iff, decide_eq_true_iff]
  have hrow : tb.getD e [] = tb[e] := by rw [List.getD_eq_getElem?_getD, List.getElem?_eq_getElem he]; rfl
  have lrow := S.row _ (List.getElem_mem he)
  have ln : (nums tb.length).length = tb.length := by unfold nums; rw [List.length_map, List.length_range]
  have gn : ∀ b (h : b < (nums tb.length).length), (nums tb.length)[b] = (b : Int) := fun b h => by simp [nums]
  have gm : ∀ a b, (ha : a < tb.length) → b < tb.length → mu tb a b = (tb[a]).getD b 0 := fun a b ha hb => by unfold mu; rw [List.getD_eq_getElem?_getD (l := tb), List.getElem?_eq_getElem ha]; rfl
  constructor
  · rintro ⟨h1, h2⟩ b hb
    constructor
    · unfold mu
      rw [h1, List.getD_eq_getElem?_getD, List.getElem?_eq_getElem (by omega), Option.getD_some, gn]
    · have this : (tb.map fun r => r.getD e 0).getD b 0 = (nums tb.length).getD b 0 := congrArg (fun l => l.getD b 0) h2
      rw [List.getD_eq_getElem?_getD, List.getElem?_map, List.getElem?_eq_getElem hb, List.getD_eq_getElem?_getD, List.getElem?_eq_getElem (show b < (nums tb.length).length by omega)] at this
      rw [gm b e hb he]
      simpa [gn] using this
  · intro h
    constructor
    · rw [hrow]
      refine List.ext_getElem (by omega) fun b h1 h2 => ?_
      have := (h b (by omega)).1
      rw [gm e b he (by omega), List.getD_eq_getElem?_getD, List.getElem?_eq_getElem h1] at this
      rw [gn]
      simpa using this
    · refine List.ext_getElem (by rw [List.length_map]; omega) fun b h1 h2 => ?_
      rw [List.length_map] at h1
      have := (h b h1).2
      rw [gm b e h1 he] at this
      rw [List.getElem_map, gn]
      exact this
section
variable {tb : List (List Int)} {o : List Nat}
theorem neutral_ren (T : Tb tb) (hp : o.Perm (List.range tb.length)) {i : Nat} (hi : i < tb.length) : neutral (ren tb o) i = neutral tb (o.getD i 0) := by
  rw [Bool.eq_iff_iff, neutral_iff (ren_tb T hp).sq (by rw [ren_len]; exact hi), neutral_iff T.sq (pm_at hp hi), ren_len]
  have key : ∀ a b, a < tb.length → b < tb.length → ∀ c, c < tb.length → (mu (ren tb o) a b = (c : Int) ↔ mu tb (o.getD a 0) (o.getD b 0) = ((o.getD c 0 : Nat) : Int)) := fun a b ha hb c hc => by
    rw [ren_mu ha hb]
    have m := mu_nat T.sq (pm_at hp ha) (pm_at hp hb)
    constructor
    · intro h
      have h' : o.idxOf (mu tb (o.getD a 0) (o.getD b 0)).toNat = c := by omega
      have := pm_gi hp m.2
      rw [h'] at this
      rw [this]
      exact m.1
    · intro h
      rw [h, Int.toNat_natCast, pm_ig hp hc]
  constructor
  · intro h b hb
    have := h (o.idxOf b) (pm_ix hp hb)
    rw [key i _ hi (pm_ix hp hb) _ (pm_ix hp hb), key _ i (pm_ix hp hb) hi _ (pm_ix hp hb), pm_gi hp hb] at this
    exact this
  · intro h b hb
    rw [key i b hi hb b hb, key b i hb hi b hb]
    exact h _ (pm_at hp hb)
theorem neutral_one (S : Sqr tb) {i j : Nat} (hi : i < tb.length) (hj : j < tb.length) (h1 : neutral tb i = true) (h2 : neutral tb j = true) : i = j := by
  have a := ((neutral_iff S hi).mp h1 j hj).1
  have b := ((neutral_iff S hj).mp h2 i hi).2
  omega
theorem idn_ren (T : Tb tb) (hp : o.Perm (List.range tb.length)) : idn (ren tb o) = (idn tb).map o.idxOf := by
  cases h : idn tb with
  | none =>
    refine idn_none fun j hj => ?_
    rw [ren_len] at hj
    rw [neutral_ren T hp hj]
    have := (List.find?_range_eq_none.mp (show (List.range tb.length).find? (neutral tb) = none from h)) (o.getD j 0) (pm_at hp hj)
    simpa using this
  | some e =>
    obtain ⟨h1, h2, h3⟩ := List.find?_range_eq_some.mp (show (List.range tb.length).find? (neutral tb) = some e from h)
    have he := List.mem_range.mp h2
    have hx := pm_ix hp he
    have n1 : neutral (ren tb o) (o.idxOf e) = true := by rw [neutral_ren T hp hx, pm_gi hp he]; exact h1
    refine idn_some n1 (by rw [ren_len]; exact hx) fun j hj => ?_
    cases hn : neutral (ren tb o) j with
    | false => rfl
    | true =>
      have := neutral_one (ren_tb T hp).sq (i := j) (j := o.idxOf e) (by rw [ren_len]; exact Nat.lt_trans hj hx) (by rw [ren_len]; exact hx) hn n1
      exact absurd this (Nat.ne_of_lt hj)
theorem idem_ren (T : Tb tb) (hp : o.Perm (List.range tb.length)) : (idem (ren tb o) tb.length).Perm ((idem tb tb.length).map fun e : Int => ((o.idxOf e.toNat : Nat) : Int)) := by
  unfold idem
  rw [List.map_map]
  have e1 : ∀ i, i < tb.length → (decide (mu (ren tb o) i i = (i : Int))) = decide (mu tb (o.getD i 0) (o.getD i 0) = ((o.getD i 0 : Nat) : Int)) := fun i hi => by
    rw [ren_mu hi hi]
    have m := mu_nat T.sq (pm_at hp hi) (pm_at hp hi)
    refine decide_eq_decide.mpr ⟨fun h => ?_, fun h => ?_⟩
    · have h' : o.idxOf (mu tb (o.getD i 0) (o.getD i 0)).toNat = i := by omega
      have := pm_gi hp m.2
      rw [h'] at this
      exact m.1.trans (congrArg (fun z : Nat => (z : Int)) this.symm)
    · rw [h, Int.toNat_natCast, pm_ig hp hi]
  have e2 : ((fun e : Int => ((o.idxOf e.toNat : Nat) : Int)) ∘ fun e : Nat => ((e : Nat) : Int)) = (fun e : Nat => ((e : Nat) : Int)) ∘ o.idxOf := rfl
  rw [e2, ← List.map_map]
  refine List.Perm.map _ ?_
  refine (List.perm_ext_iff_of_nodup (List.nodup_range.filter _) ?_).mpr fun x => ?_
  · refine List.pairwise_map.mpr ((List.nodup_range.filter _).imp_of_mem fun {a b} ha hb ne e => ne ?_)
    have ha' := List.mem_range.mp (List.mem_filter.mp ha).1
    have hb' := List.mem_range.mp (List.mem_filter.mp hb).1
    have this : o.getD (o.idxOf a) 0 = o.getD (o.idxOf b) 0 := congrArg (fun i => o.getD i 0) e
    rw [pm_gi hp ha', pm_gi hp hb'] at this
    exact this
  · rw [List.mem_filter, List.mem_range, List.mem_map]
    constructor
    · rintro ⟨hx, h⟩
      refine ⟨o.getD x 0, List.mem_filter.mpr ⟨List.mem_range.mpr (pm_at hp hx), ?_⟩, pm_ig hp hx⟩
      rw [← e1 x hx]; exact h
    · rintro ⟨e, he, rfl⟩
      obtain ⟨h1, h2⟩ := List.mem_filter.mp he
      have he' := List.mem_range.mp h1
      refine ⟨pm_ix hp he', ?_⟩
      rw [e1 _ (pm_ix hp he'), pm_gi hp he']; exact h2
theorem idem_sorted (n : Nat) : (idem tb n).Pairwise (· ≤ ·) := by
  unfold idem
  refine List.pairwise_map.mpr ((List.pairwise_lt_range.filter _).imp fun h => ?_)
  exact Int.ofNat_le.mpr (Nat.le_of_lt h)
end
end L

set_option Elab.async false
set_option linter.all false
set_option maxRecDepth 100000
set_option maxHeartbeats 4000000
set_option pp.maxSteps 400
namespace L
open PySem L2 KX
abbrev sTo : Stmt := inClass (top 16) 11
abbrev sRen : Stmt := inClass (top 16) 10
abbrev nTo : List Str := ["self", "originals", "a", "b"]
def scToO : Scope := { kind := .function, names := [(Str.ofString ".0", .local), (Str.ofString "a", .cell), (Str.ofString "originals", .cell), (Str.ofString "self", .cell)], isGenerator := false, isCoroutine := false }
theorem nv_int (a : List Nat) : nv a = (a.map fun x : Nat => (x : Int)).map V.int := by unfold nv; rw [List.map_map]; rfl
theorem _root_.L2.Same.seqL {K : PySem.W.Frag} {H H' : Hp} {a : Addr} {xs : List V} (e : Same H H') (h : SqL K H a xs) : SqL K H' a xs := e.seq h
/-- a list or a tuple that numbers the elements anew, to the new table -/
def spTo (K : PySem.W.Frag) (C : Addr) : Sp := fun vs H Q _ => ∃ (p l : Addr) (tb : List (List Int)) (o : List Nat), vs = [.ref p, .ref l] ∧ TbA K C H p tb ∧ Tb tb ∧ (SqL K H l (nv o) ∨ TupF H l (nv o)) ∧ o.Perm (List.range tb.length) ∧
  ∀ x H', H x = none → TbA K C H' x (ren tb o) → Same H H' → Q (.ref x) H'
section
variable {P : Program} {w : World} {K : PySem.W.Frag} {mg : Str → Option Value} {base : Heap} {f g gn fl g1 g2 fI fE : Addr} {fd gd gnd dl d1 d2 dI dE : FuncData} {C CO : Addr}
theorem scTo : FnScope nTo ["self", "originals"] (defScope sTo) := ⟨rfl, rfl, rfl, by decide +kernel, rfl, by decide +kernel, by decide +kernel⟩
theorem ok_to (F : Fun K "_table_of" "ProductTable._table_of" sTo f fd) (M : Mn mg) (T : CTx K mg C)
    (MI : Mk K C fI) (GI : FnOk P w K mg base CX0 5 fI dI ["self", "rows"] (spInit K C)) (bI : Binds K dI ["self", "rows"] []) :
    FnOk P w K mg base CX0 7 f fd ["self", "originals"] (spTo K C) := by
  refine F.ok scTo (fun vs H Q E h => ?_) (fun cdv A outer s H vs Q E hr h => ?_)
  · obtain ⟨p, l, tb, o, rfl, _⟩ := h
    rfl
  obtain ⟨p, l, tb, o, rfl, ht, TT, el, pm, q⟩ := h
  rcases el with el | el
  · refine ⟨_, pss_one (ps_ret (pe_make MI GI hr (by rfl) T.mgC bI .nil pass0 (pa_cons (pe_lc (own := [("a", 2)]) (g := gName 2) (tt := tYes) rfl scTo.nd (pi_list (pv 1))
        (blkOk_by (N := nTo) (sc := defScope sTo) (by decide +kernel)) (fun _ _ _ _ _ => pg_name (i := 2) scTo.nd rfl (Or.inr rfl)) (fun _ _ _ _ _ => pts_nil)
        (fun _ _ _ _ _ => pe_lc (own := [("b", 3)]) (g := gName 3) (tt := tYes) rfl scTo.nd (pil (K := K) rfl (pv 1))
          (blkOk_by (N := nTo) (sc := scToO) (by decide +kernel)) (fun _ _ _ _ _ => pg_name (i := 3) scTo.nd rfl (Or.inl rfl)) (fun _ _ _ _ _ => pts_nil)
          (fun _ _ _ _ _ => pe_bK (K := K) rfl (pe_bm PySem.F.plainAttrs_list PySem.F.slot_list_index PySem.F.type_list_index (mt_idx1 (K := K) rfl) (pv 1)
            (pa_cons (pe_ix (ixt (K := K) rfl) (pe_ix (ixt (K := K) rfl) (fldK (K := K) rfl (pv 0) rfl) (pv 2) (fun _ _ => rfl)) (pv 3) (fun _ _ => rfl)) pa_nil))))) pa_nil))), ?_⟩
    have S := TT.sq
    have n16 := S.ge
    have lo : o.length = tb.length := by rw [pm.length_eq, List.length_range]
    have om : ∀ x, x ∈ o → x < tb.length := fun x hx => List.mem_range.mp (pm.mem_iff.mp hx)
    have oi : ∀ x, x < tb.length → x ∈ o := fun x hx => pm.mem_iff.mpr (List.mem_range.mpr hx)
    obtain ⟨dx, t, rs, hp, htt, pr⟩ := ht.ob
    refine ⟨_, rfl, l, rfl, ⟨_, el⟩, fun D hD => ?_⟩
    refine lc_it (walk_list (xs := nv o)) (fun i G => Part H G D (rowsTo tb.length (frn o fun a b => (mu tb a b).toNat) i)) (Part.start (Same.refl H) hD) (fun i G _ z => z.same.seqL el) ?_ ?_
    · rintro i x G1 G2 hi pa ⟨rfl, hx⟩
      rw [nv_len, lo] at hi
      obtain ⟨ai, hai, rfl⟩ := nv_at hx
      have an : ai < tb.length := om ai (List.mem_of_getElem? hai)
      refine ⟨rfl, _, rfl, l, rfl, ⟨_, pa.same.seqL el⟩, fun D5 hD5 => ?_⟩
      refine lc_it (walk_list (xs := nv o)) (fun j G => Same G2 G ∧ G D5 = some (.lst ((rowTo (frn o fun a b => (mu tb a b).toNat) i j).map V.int))) ⟨Same.new hD5 _, upd_same⟩ (fun j G _ z => (pa.same.trans z.1).seqL el) ?_ ?_
      · rintro j y G3 G4' hj ⟨sG, e5⟩ ⟨rfl, hy⟩
        rw [nv_len, lo] at hj
        obtain ⟨bj, hbj, rfl⟩ := nv_at hy
        have bn : bj < tb.length := om bj (List.mem_of_getElem? hbj)
        obtain ⟨r, h1, h2, h3⟩ := row_at pr S an
        have ee := S.el ai bj an bn
        have fl : (mu tb ai bj).toNat < tb.length := by omega
        have gt : o.idxOf (mu tb ai bj).toNat < o.length := List.idxOf_lt_length_iff.mpr (oi _ fl)
        have sH := pa.same.trans sG
        refine ⟨rfl, _, rfl, Or.inl ⟨rfl, _, sH.seqL el⟩, _, rfl, p, C, dx, _, _, rfl, sH _ _ hp, T.cl, T.nR, rfl, _, rfl, t, rs, _, _, rfl, rfl, Same.tup sH htt, at_of (j := ai) rfl h1, _, rfl, r, _, _, _, rfl, rfl, Same.tup sH h2, at_of (j := bj) rfl (h3 bj bn), ?_⟩
        have em : mu tb ai bj = (((mu tb ai bj).toNat : Nat) : Int) := by omega
        rw [em]
        refine ⟨l, nv o, .int (((mu tb ai bj).toNat : Nat) : Int), o.idxOf (mu tb ai bj).toNat, .int (((mu tb ai bj).toNat : Nat) : Int), rfl, rfl, sH.seqL el, rfl, ?_, ?_, beq_self_eq_true _, fun m z' hm hz' => ?_, _, e5, by rw [rowTo_len]; exact small1000 (by omega), fun c ob ec => by rw [upd_ne (ne_of_none ec hD5)]; exact sG c ob ec, ?_⟩
        · unfold nv; rw [List.all_map]; exact List.all_eq_true.mpr fun _ _ => rfl
        · unfold nv; rw [List.getElem?_map, List.getElem?_eq_getElem gt, List.getElem_idxOf gt]; rfl
        · obtain ⟨w, hw, rfl⟩ := nv_at hz'
          have ne := idx_ahead1 hm hw
          exact beq_eq_false_iff_ne.mpr (by omega)
        · rw [upd_same, rowTo_next, List.map_append]
          refine congrArg (fun z => some (HO.lst (_ ++ [V.int z]))) ?_
          show ((o.idxOf (mu tb ai bj).toNat : Nat) : Int) = ((frn o (fun a b => (mu tb a b).toNat) i j : Nat) : Int)
          unfold frn plc
          rw [List.getD_eq_getElem?_getD, hai, List.getD_eq_getElem?_getD, hbj]; rfl
      · rintro G3 ⟨sG, e5⟩
        rw [nv_len, lo] at e5
        obtain ⟨acc, ea, lacc, p1⟩ := pa.add sG hD5 e5
        refine ⟨acc, ea, by rw [lacc, rowsTo_len]; exact small1000 (by omega), ?_⟩
        rw [rowsTo_next]
        exact p1
    rintro G1 pa
    rw [nv_len, lo] at pa
    have pa' : Part H G1 D (ren tb o) := pa
    have TR := ren_tb TT pm
    refine fun y dy hy hdy ney => ?_
    have sn : Same G1 (upd (upd G1 dy (.own y)) y (.ins C dy [])) := fun b o e => by rw [upd_ne (ne_of_none e hy), upd_ne (ne_of_none e hdy)]; exact e
    have RC : RowsL G1 (.ref D) (ren tb o) := pa'.fin.same nw_same
    have nD1 : ∀ b, V.ref D = .ref b → b ≠ y := fun b e => by
      obtain ⟨_, _, e', ed, _⟩ := id RC
      cases e'
      cases e
      exact ne_of_none ed hy
    refine ⟨y, dy, .ref D, ren tb o, rfl, upd_same, (RC.same sn).rws, TR.sq, TR.as, nD1, fun J5 tc kc => ⟨rfl, ?_⟩⟩
    have s45 : Same G1 J5 := fun b o e => kc b o (ne_of_none e hy) (sn b o e)
    exact q y J5 (pa'.same.free hy) tc (pa'.same.trans s45)
  · refine ⟨_, pss_one (ps_ret (pe_make MI GI hr (by rfl) T.mgC bI .nil pass0 (pa_cons (pe_lc (own := [("a", 2)]) (g := gName 2) (tt := tYes) rfl scTo.nd (pi_tup (pv 1))
        (blkOk_by (N := nTo) (sc := defScope sTo) (by decide +kernel)) (fun _ _ _ _ _ => pg_name (i := 2) scTo.nd rfl (Or.inr rfl)) (fun _ _ _ _ _ => pts_nil)
        (fun _ _ _ _ _ => pe_lc (own := [("b", 3)]) (g := gName 3) (tt := tYes) rfl scTo.nd (pit (K := K) rfl (pv 1))
          (blkOk_by (N := nTo) (sc := scToO) (by decide +kernel)) (fun _ _ _ _ _ => pg_name (i := 3) scTo.nd rfl (Or.inl rfl)) (fun _ _ _ _ _ => pts_nil)
          (fun _ _ _ _ _ => (pe_bmT PySem.F.plainAttrs_tuple PySem.F.slot_tuple_index PySem.F.type_tuple_index (mt_tidx (K := K) rfl) (pv 1)
            (pa_cons (pe_ix (ixt (K := K) rfl) (pe_ix (ixt (K := K) rfl) (fldK (K := K) rfl (pv 0) rfl) (pv 2) (fun _ _ => rfl)) (pv 3) (fun _ _ => rfl)) pa_nil))))) pa_nil))), ?_⟩
    have S := TT.sq
    have n16 := S.ge
    have lo : o.length = tb.length := by rw [pm.length_eq, List.length_range]
    have om : ∀ x, x ∈ o → x < tb.length := fun x hx => List.mem_range.mp (pm.mem_iff.mp hx)
    have oi : ∀ x, x < tb.length → x ∈ o := fun x hx => pm.mem_iff.mpr (List.mem_range.mpr hx)
    obtain ⟨dx, t, rs, hp, htt, pr⟩ := ht.ob
    refine ⟨_, rfl, l, rfl, ⟨_, el.sq⟩, fun D hD => ?_⟩
    refine lc_it (walk_tup (xs := nv o)) (fun i G => Part H G D (rowsTo tb.length (frn o fun a b => (mu tb a b).toNat) i)) (Part.start (Same.refl H) hD) (fun i G _ z => (el.ext z.same).sq) ?_ ?_
    · rintro i x G1 G2 hi pa ⟨rfl, hx⟩
      rw [nv_len, lo] at hi
      obtain ⟨ai, hai, rfl⟩ := nv_at hx
      have an : ai < tb.length := om ai (List.mem_of_getElem? hai)
      refine ⟨rfl, _, rfl, l, rfl, ⟨_, (el.ext pa.same).sq⟩, fun D5 hD5 => ?_⟩
      refine lc_it (walk_tup (xs := nv o)) (fun j G => Same G2 G ∧ G D5 = some (.lst ((rowTo (frn o fun a b => (mu tb a b).toNat) i j).map V.int))) ⟨Same.new hD5 _, upd_same⟩ (fun j G _ z => (el.ext (pa.same.trans z.1)).sq) ?_ ?_
      · rintro j y G3 G4' hj ⟨sG, e5⟩ ⟨rfl, hy⟩
        rw [nv_len, lo] at hj
        obtain ⟨bj, hbj, rfl⟩ := nv_at hy
        have bn : bj < tb.length := om bj (List.mem_of_getElem? hbj)
        obtain ⟨r, h1, h2, h3⟩ := row_at pr S an
        have ee := S.el ai bj an bn
        have fl : (mu tb ai bj).toNat < tb.length := by omega
        have gt : o.idxOf (mu tb ai bj).toNat < o.length := List.idxOf_lt_length_iff.mpr (oi _ fl)
        have sH := pa.same.trans sG
        refine ⟨rfl, _, rfl, ⟨l, _, rfl, el.ext sH⟩, _, rfl, p, C, dx, _, _, rfl, sH _ _ hp, T.cl, T.nR, rfl, _, rfl, t, rs, _, _, rfl, rfl, Same.tup sH htt, at_of (j := ai) rfl h1, _, rfl, r, _, _, _, rfl, rfl, Same.tup sH h2, at_of (j := bj) rfl (h3 bj bn), ?_⟩
        have em : mu tb ai bj = (((mu tb ai bj).toNat : Nat) : Int) := by omega
        rw [em]
        refine ⟨l, o.map fun x : Nat => (x : Int), (((mu tb ai bj).toNat : Nat) : Int), o.idxOf (mu tb ai bj).toNat, rfl, rfl, by rw [← nv_int]; exact (el.ext sH).sq, ?_, fun m hm hz' => ?_, _, e5, by rw [rowTo_len]; exact small1000 (by omega), fun c ob ec => by rw [upd_ne (ne_of_none ec hD5)]; exact sG c ob ec, ?_⟩
        · rw [List.getElem?_map, List.getElem?_eq_getElem gt, List.getElem_idxOf gt]; rfl
        · rw [List.getElem?_map] at hz'
          cases hw : o[m]? with
          | none => rw [hw] at hz'; cases hz'
          | some w =>
            rw [hw] at hz'
            have e8 : ((w : Nat) : Int) = (((mu tb ai bj).toNat : Nat) : Int) := Option.some.inj hz'
            have ne := idx_ahead1 hm hw
            omega
        · rw [upd_same, rowTo_next, List.map_append]
          refine congrArg (fun z => some (HO.lst (_ ++ [V.int z]))) ?_
          show ((o.idxOf (mu tb ai bj).toNat : Nat) : Int) = ((frn o (fun a b => (mu tb a b).toNat) i j : Nat) : Int)
          unfold frn plc
          rw [List.getD_eq_getElem?_getD, hai, List.getD_eq_getElem?_getD, hbj]; rfl
      · rintro G3 ⟨sG, e5⟩
        rw [nv_len, lo] at e5
        obtain ⟨acc, ea, lacc, p1⟩ := pa.add sG hD5 e5
        refine ⟨acc, ea, by rw [lacc, rowsTo_len]; exact small1000 (by omega), ?_⟩
        rw [rowsTo_next]
        exact p1
    rintro G1 pa
    rw [nv_len, lo] at pa
    have pa' : Part H G1 D (ren tb o) := pa
    have TR := ren_tb TT pm
    refine fun y dy hy hdy ney => ?_
    have sn : Same G1 (upd (upd G1 dy (.own y)) y (.ins C dy [])) := fun b o e => by rw [upd_ne (ne_of_none e hy), upd_ne (ne_of_none e hdy)]; exact e
    have RC : RowsL G1 (.ref D) (ren tb o) := pa'.fin.same nw_same
    have nD1 : ∀ b, V.ref D = .ref b → b ≠ y := fun b e => by
      obtain ⟨_, _, e', ed, _⟩ := id RC
      cases e'
      cases e
      exact ne_of_none ed hy
    refine ⟨y, dy, .ref D, ren tb o, rfl, upd_same, (RC.same sn).rws, TR.sq, TR.as, nD1, fun J5 tc kc => ⟨rfl, ?_⟩⟩
    have s45 : Same G1 J5 := fun b o e => kc b o (ne_of_none e hy) (sn b o e)
    exact q y J5 (pa'.same.free hy) tc (pa'.same.trans s45)
end
end L

set_option Elab.async false
set_option linter.all false
set_option maxRecDepth 100000
set_option maxHeartbeats 4000000
set_option pp.maxSteps 400
namespace L
open PySem L2 KX
theorem perm_of_sub : ∀ {l l' : List Nat}, l.Nodup → (∀ x, x ∈ l → x ∈ l') → l'.length ≤ l.length → l'.Perm l
  | [], l', _, _, h => by
    have : l' = [] := List.eq_nil_of_length_eq_zero (Nat.le_zero.mp h)
    rw [this]
  | a :: l, l', nd, sub, h => by
    have ha := sub a List.mem_cons_self
    have nd' := List.nodup_cons.mp nd
    have p := List.perm_cons_erase ha
    have ih := perm_of_sub (l := l) (l' := l'.erase a) nd'.2 (fun x hx => (List.mem_erase_of_ne (fun e => nd'.1 (by rw [← e]; exact hx))).mpr (sub x (List.mem_cons_of_mem _ hx))) (by
      have := p.length_eq
      rw [List.length_cons] at this
      rw [List.length_cons] at h
      omega)
    exact p.trans (ih.cons a)
/-- numbers the elements anew -/
def Vld (n : Nat) (xs : List V) : Prop := ∃ ws : List Nat, xs = nv ws ∧ ws.Perm (List.range n)
theorem nv_inj : ∀ {a b : List Nat}, nv a = nv b → a = b
  | [], [], _ => rfl
  | [], _ :: _, h => by cases h
  | _ :: _, [], h => by cases h
  | x :: a, y :: b, h => by
    have h : V.int (x : Int) :: nv a = V.int (y : Int) :: nv b := h
    injection h with h1 h2
    have := V.int.inj h1
    rw [nv_inj h2, show x = y by omega]
theorem all_nv {n : Nat} : ∀ {xs : List V}, xs.all (nb (n : Int)) = true → ∃ ms : List Nat, xs = nv ms ∧ ∀ m, m ∈ ms → m < n
  | [], _ => ⟨[], rfl, fun _ z => nomatch z⟩
  | x :: xs, h => by
    rw [List.all_cons, Bool.and_eq_true] at h
    obtain ⟨i, rfl, i1⟩ : ∃ i : Nat, x = .int (i : Int) ∧ i < n := by
      cases x with
      | int i =>
        have h' : (decide (0 ≤ i) && decide (i < (n : Int))) = true := h.1
        rw [Bool.and_eq_true] at h'
        have a := of_decide_eq_true h'.1
        have b := of_decide_eq_true h'.2
        exact ⟨i.toNat, by rw [Int.toNat_of_nonneg a], by omega⟩
      | _ => cases h.1
    obtain ⟨ms, rfl, hm⟩ := all_nv h.2
    exact ⟨i :: ms, rfl, fun m hm' => by
      rcases List.mem_cons.mp hm' with e | e
      · rw [e]; exact i1
      · exact hm m e⟩
/-- a list of n numbers below n that is no numbering holds fewer than n numbers -/
theorem few {n : Nat} {ws : List Nat} (lw : ws.length = n) (hw : ∀ m, m ∈ ws → m < n) (hv : ¬ Vld n (nv ws)) : ∃ L : List Int, (∀ k, k ∈ (ws.map fun x : Nat => (x : Int)) → k ∈ L) ∧ L.length < n := by
  refine ⟨((List.range n).filter fun x => decide (x ∈ ws)).map fun x : Nat => (x : Int), fun k hk => ?_, ?_⟩
  · obtain ⟨x, hx, rfl⟩ := List.mem_map.mp hk
    exact List.mem_map.mpr ⟨x, List.mem_filter.mpr ⟨List.mem_range.mpr (hw x hx), decide_eq_true hx⟩, rfl⟩
  · rw [List.length_map]
    have le := List.length_filter_le (fun x => decide (x ∈ ws)) (List.range n)
    rw [List.length_range] at le
    by_cases e : ((List.range n).filter fun x => decide (x ∈ ws)).length = n
    · exfalso
      refine hv ⟨ws, rfl, perm_of_sub List.nodup_range (fun x hx => ?_) (by rw [List.length_range]; omega)⟩
      have := List.length_filter_eq_length_iff.mp (e.trans List.length_range.symm) x hx
      exact of_decide_eq_true this
    · omega
def spRenX (K : PySem.W.Frag) (C CO : Addr) : Sp := fun vs H Q E => ∃ (p : Addr) (v : V) (tb : List (List Int)), vs = [.ref p, v] ∧ TbA K C H p tb ∧ Tb tb ∧
  ((∃ l o, v = .ref l ∧ (SqL K H l (nv o) ∨ TupF H l (nv o)) ∧ o.Perm (List.range tb.length) ∧ ∀ x H', H x = none → TbA K C H' x (ren tb o) → Same H H' → Q (.ref x) H') ∨
   (∃ o, RowD K H v o ∧ (∀ xs, o = some xs → ¬ Vld tb.length xs) ∧ ∀ H' d, Same H H' → H' d = none → E (.ref CO) (some d) (upd H' d (.xd [("value", v)]))))
section
variable {P : Program} {w : World} {K : PySem.W.Frag} {mg : Str → Option Value} {base : Heap} {f g gn fl g1 g2 fI fE : Addr} {fd gd gnd dl d1 d2 dI dE : FuncData} {C CO : Addr}
theorem scRen : FnScope ["self", "order", "size"] ["self", "order"] (defScope sRen) := ⟨rfl, rfl, rfl, by decide +kernel, rfl, by decide +kernel, by decide +kernel⟩
theorem ok_renX (F : Fun K "renumbered" "ProductTable.renumbered" sRen f fd) (M : Mn mg) (T : CTx K mg C) (mS : mg "set" = none) (TE : ETx K mg "InvalidOrder" "value" CO fE) (FE : FnOk P w K mg base CX0 1 fE dE ["self", "value"] (spEi K CO "value")) (bE : Binds K dE ["self", "value"] [])
    (G1 : FnOk P w K mg base CX0 3 g1 d1 ["value", "least", "most", "limit"] (spNumList K)) (b1 : Binds K d1 ["value", "least", "most", "limit"] []) (k1 : PySem.W.keepIn K (.ref g1) = true) (m1 : mg "is_number_list" = some (.ref g1))
    (G2 : FnOk P w K mg base CX0 7 g2 d2 ["self", "originals"] (spTo K C)) (b2 : Binds K d2 ["self", "originals"] []) (h2 : Meth K C "_table_of" g2) :
    FnOk P w K mg base (L2.CX P w) 8 f fd ["self", "order"] (spRenX K C CO) := by
  refine F.okX scRen (fun vs H Q E h => ?_) (fun cdv A outer s H vs Q E hr h => ?_)
  · obtain ⟨p, v, tb, rfl, _⟩ := h
    rfl
  obtain ⟨p, v, tb, rfl, ht, TT, h⟩ := h
  have hr3 : Room 3 _ := hr.mono (by decide)
  have hrE : Room 2 _ := hr.mono (by decide)
  have S := TT.sq
  have n16 := S.ge
  obtain ⟨dx, t, rs, hp, htt, pr⟩ := ht.ob
  have numb : ∀ {o : List Nat}, o.Perm (List.range tb.length) → (nv o).all (nb (tb.length : Int)) = true := fun {o} pm => List.all_eq_true.mpr fun x hx => by
    obtain ⟨y, hy, rfl⟩ := List.mem_map.mp hx
    have := pm_lt pm hy
    show (decide ((0 : Int) ≤ (y : Int)) && decide ((y : Int) < (tb.length : Int))) = true
    rw [decide_eq_true (by omega), decide_eq_true (by omega)]; rfl
  have itm : ∀ {o : List Nat} x, x ∈ nv o → Itm K H x := fun {o} x hx => by
    obtain ⟨y, _, rfl⟩ := List.mem_map.mp hx
    exact .inl ⟨_, rfl⟩
  refine ⟨_, pss_cons (ps_set (i := 2) scRen.nd rfl (Or.inl rfl) (pe_callB call_len_seq (by rfl) M.len PySem.boot_len (pa_cons (pe_fld (pv 0) rfl) pa_nil)))
    (pss_cons (ps_if (pt_mo (pw_or (pt_not (pt_val (pe_call G1 hr3 (by rfl) m1 k1 b1 .nil pass0 (pa_cons (pv 1) (pa_cons (pv 2) (pa_cons (pv 2) (pa_cons (pv 2) pa_nil)))))))
        (pw_or1 (pt_cmpR op_lt (pe_callB (call_lenSet (w := w) rfl) (by rfl) M.len PySem.boot_len (pa_cons (pe_callTy (T := "set") ((ct_setN (K := K) (w := w) rfl rfl rfl).or (ct_setT (K := K) (w := w) rfl rfl rfl)) (by rfl) mS (by decide +kernel) (pa_cons (pv 1) pa_nil)) pa_nil)) (pv 2) (nomark _)))).pt)
      (pss_one (ps_raise rfl (takes_of rfl rfl rfl rfl) (pmk_val TE.ox TE.iC TE.tI TE.noF FE hrE bE (by rfl) TE.mgC (pa_cons (pv 1) pa_nil)))) pss_nil)
    (pss_one (ps_ret (pe_meth (pv 0) T.cl h2 G2 hr b2 .nil pass0 (pa_cons (pv 1) pa_nil))))), ?_⟩
  refine ⟨_, rfl, p, C, dx, _, _, rfl, hp, T.cl, T.nR, rfl, t, rs, rfl, .inr htt, ?_⟩
  rw [pr.length]
  -- the set of whole numbers
  have setR : ∀ {l : Addr} {ns : List Nat} {G : Hp} {Q' : VK}, Sq K G (.ref l) (nv ns) → ns.length ≤ 16 → (∀ p2 c, G p2 = none → (∀ L : List Int, (∀ k, k ∈ (ns.map fun x : Nat => (x : Int)) → k ∈ L) → c ≤ L.length) → (∀ L : List Int, L.Nodup → (∀ k, k ∈ L → k ∈ (ns.map fun x : Nat => (x : Int))) → L.length ≤ c) → Q' (.ref p2) (upd G p2 (SetO w p2 (fun j => decide (j ∈ (ns.map fun x : Nat => (x : Int)))) c))) →
      (rSetN K w [.ref l] G Q' ∨ rSetT K w [.ref l] G Q') := fun {l ns G Q'} sq l16 k => by
    obtain ⟨l', e, sq⟩ := sq
    cases e
    rw [nv_int] at sq
    rcases sq with sq | sq
    · exact .inl ⟨l, _, rfl, sq, by rw [List.length_map]; omega, k⟩
    · exact .inr ⟨l, _, rfl, sq, by rw [List.length_map]; omega, k⟩
  rcases h with ⟨l, o, rfl, hl, pm, q⟩ | ⟨o, ho, hv, q⟩
  · have lo := pm_len pm
    have sq : Sq K H (.ref l) (nv o) := ⟨l, rfl, hl.imp id TupF.sq⟩
    refine ⟨fun b G => b = false ∧ Same H G, ?_, ?_⟩
    · refine ⟨_, rfl, _, rfl, _, rfl, _, rfl, .ref l, _, _, _, rfl, .inl ⟨nv o, sq, itm, by rw [nv_len]; omega, fun H1 s1 => ?_⟩⟩
      rw [nv_len, lo, decide_eq_true (Int.le_refl _), numb pm]
      refine ⟨true, rfl, iteF ⟨_, rfl, setR (sq.same s1) (by omega) fun p2 c hp2 _ hge => ⟨p2, _, c, rfl, upd_same, _, rfl, _, _, rfl, rfl, _, rfl, ?_, s1.trans (Same.new hp2 _)⟩⟩⟩
      have hc := hge (o.map fun x : Nat => (x : Int)) ?_ fun k hk => hk
      · rw [List.length_map, lo] at hc
        exact decide_eq_false (by omega)
      · exact List.pairwise_map.mpr ((pm_nd pm).imp fun ne e => ne (by omega))
    rintro _ G1 ⟨rfl, sG⟩
    exact iteF ⟨_, rfl, p, dx, _, rfl, sG _ _ hp, rfl, _, rfl, p, l, tb, o, rfl, ht.to sG, TT, hl.imp (fun z => sG.seq z) (fun z => z.ext sG), pm, fun x H' nx tx sx => q x H' (sG.free nx) tx (sG.trans sx)⟩
  · refine ⟨fun b G => b = true ∧ Same H G, ?_, ?_⟩
    · refine ⟨_, rfl, _, rfl, _, rfl, _, rfl, v, _, _, _, rfl, ?_⟩
      cases o with
      | none => exact .inr ⟨ho, fun H1 s1 => ⟨false, rfl, iteT ⟨rfl, s1⟩⟩⟩
      | some xs =>
        refine .inl ⟨xs, ho.1, ho.2.1, ho.2.2, fun H1 s1 => ⟨_, rfl, ite2 (fun c => ⟨rfl, s1⟩) (fun c => ?_)⟩⟩
        have c' : (decide ((tb.length : Int) ≤ (xs.length : Int)) && decide ((xs.length : Int) ≤ (tb.length : Int)) && xs.all (nb (tb.length : Int))) = true := by
          cases hb : (decide ((tb.length : Int) ≤ (xs.length : Int)) && decide ((xs.length : Int) ≤ (tb.length : Int)) && xs.all (nb (tb.length : Int))) with
          | false => rw [hb] at c; exact absurd rfl c
          | true => rfl
        rw [Bool.and_eq_true, Bool.and_eq_true] at c'
        obtain ⟨ws, rfl, hw⟩ := all_nv c'.2
        have c1 := of_decide_eq_true c'.1.1
        have c2 := of_decide_eq_true c'.1.2
        rw [nv_len] at c1 c2
        have lw : ws.length = tb.length := by omega
        obtain ⟨Lf, hLf, lLf⟩ := few lw hw (hv _ rfl)
        obtain ⟨l, rfl, hsq⟩ := id ho.1
        refine ⟨_, rfl, setR (ho.1.same s1) (by omega) fun p2 c hp2 hle _ => ⟨p2, _, c, rfl, upd_same, _, rfl, _, _, rfl, rfl, _, rfl, ?_, s1.trans (Same.new hp2 _)⟩⟩
        have := hle Lf hLf
        exact decide_eq_true (by omega)
    rintro _ G1 ⟨rfl, sG⟩
    exact iteT ⟨fun vs H1 => vs = [v] ∧ H1 = G1, ⟨_, rfl, rfl, rfl⟩, by rintro _ _ ⟨rfl, rfl⟩; exact ⟨v, rfl, fun d hd => q _ d sG hd⟩⟩
end
end L

set_option Elab.async false
set_option linter.all false
set_option maxRecDepth 100000
set_option maxHeartbeats 4000000
/-! Own layer: enumerate over a tuple. -/
namespace PySem
theorem meets_enumerate_newT (l : Addr) (items : Array Value) :
    Meets (Builtin.«enumerate.__new__» ⟨[.type "enumerate", .ref l], []⟩) (fun _ R s => s.heap.IsTuple l items ∧
      R (.ok (.ret (.ref (s.heap.push { cls := .type "tuple_iterator", data := .fields #[.ref l, .int 0 0] }).objs.size)))
        { s with heap := (s.heap.push { cls := .type "tuple_iterator", data := .fields #[.ref l, .int 0 0] }).push { cls := .type "enumerate", data := .fields #[.none, .bool false, .ref s.heap.objs.size, rawInt 0, .none, .none] } }) :=
  .of_wp fun prog w A R s h => by
    obtain ⟨hp, g, d, tk, os⟩ := s; obtain ⟨hL, h⟩ := h
    have hsub := sub_enumerate
    replace hL : Heap.IsTuple (Shared.heap ⟨hp, g, d, tk, os⟩) l items := hL
    obtain ⟨o, hl, hc, n, hd⟩ := id hL
    wp_walk using wpAny_loadPart' hl
    refine wpAny_stack_any fun st => wpAny_pure ?_
    split
    · rename_i c _ _ _ _ _
      cases (c == Value.type "enumerate")
      · wp_walk using wpAny_loadPart' hl, wpAny_pyIter_tuple hL
        exact ⟨_, rfl, h⟩
      · wp_walk using wpAny_loadPart' hl, wpAny_pyIter_tuple hL
        exact ⟨_, rfl, h⟩
    · wp_walk using wpAny_loadPart' hl, wpAny_pyIter_tuple hL
      exact ⟨_, rfl, h⟩
section
variable {prog : Program} {w : World} {A : Around} {E : Value → Shared → Prop} {s : Shared}
theorem call_enumerate_tuple {l : Addr} {items : Array Value} {Q : Value → Shared → Prop} (hL : s.heap.IsTuple l items)
    (h : ∀ h', IsEnum h' (s.heap.objs.size + 1) s.heap.objs.size 0 .none → h'.IsTupleIter s.heap.objs.size l 0 → h'.objs.size = s.heap.objs.size + 2 →
      (∀ b o, s.heap.get? b = some o → h'.get? b = some o) → Q (.ref (s.heap.objs.size + 1)) { s with heap := h' }) :
    wpAny (model prog w) A (call (.type "enumerate") [.ref l]) Q E s := by
  refine callType_new F.called_enumerate (by decide) (F.typeCall_enumerate_1 _) (F.newCall_enumerate_1 _) (fun obj => F.args_object_init_2 obj _) F.entry_enumerate_new
    (meets_enumerate_newT l items) ⟨hL, ?_⟩
  have hz : (s.heap.push { cls := .type "tuple_iterator", data := .fields #[.ref l, .int 0 0] }).objs.size = s.heap.objs.size + 1 := Heap.size_push ..
  show _ ∧ _
  rw [hz]
  have he : IsEnum ((s.heap.push { cls := .type "tuple_iterator", data := .fields #[.ref l, .int 0 0] }).push
      { cls := .type "enumerate", data := .fields #[.none, .bool false, .ref s.heap.objs.size, rawInt 0, .none, .none] }) (s.heap.objs.size + 1) s.heap.objs.size 0 .none := by
    have := Heap.get?_push_size (s.heap.push { cls := .type "tuple_iterator", data := .fields #[.ref l, .int 0 0] })
      (o := { cls := .type "enumerate", data := .fields #[.none, .bool false, .ref s.heap.objs.size, rawInt 0, .none, .none] }) rfl
    rw [hz] at this; exact this
  refine ⟨⟨_, he, rfl⟩, h _ he ⟨_, Heap.get?_push_of_some _ (Heap.get?_push_size _ rfl), rfl, rfl⟩ (by rw [Heap.size_push, hz]) fun b o x => Heap.get?_push_of_some _ (Heap.get?_push_of_some _ x)⟩
theorem wpAny_pyNext_enum_endT {e it a : Addr} {i : Nat} {items : Array Value} {j : Int} {old : Value} {Q : Option Value → Shared → Prop} (hh : A.in1.handled = none)
    (he : IsEnum s.heap e it j old) (hit : s.heap.IsTupleIter it a i) (ht : s.heap.IsTuple a items) (hx : items[i]? = none)
    (hQ : ∀ h', Heap.ExtBut it s.heap h' → Q none { s with heap := h' }) : wpAny (model prog w) A (pyNext (.ref e)) Q E s := by
  have hT : s.TypeIs (.ref e) "enumerate" := ⟨_, he, rfl⟩
  unfold pyNext
  refine wpAny_bind (wpAny_attempt (wpAny_callSpecial?_slot (name := Str.ofString "__next__") hT F.slot_enumerate_next
    (wpAny_call_entry F.slot_enumerate_next hT F.entry_enumerate_next ?_ (F.args_enumerate_next_1 _))))
  show wpAny _ _ (field (.ref e) 2 >>= _) _ _ _
  refine wpAny_bind (wpAny_field he rfl (x := .ref it) rfl ?_)
  refine wpAny_bind (wpAny_nextOf_tuple_end hh hit ht hx fun h' x he' hx' => ?_)
  obtain ⟨o, ho, hc⟩ := hx'
  refine wpAny_bind (wpAny_isInstance (T := "StopIteration") (b := true) ⟨o, ho, hc⟩ isSubtype_stop ?_)
  exact wpAny_pure (hQ _ he')
end
end PySem
namespace KX
open PySem PySem.Spec PyProof.Rows L2
def IteT (K : PySem.W.Frag) (a : Addr) : It :=
  ⟨fun i H => ∃ (xs : List V) (x : V), SqT K H a xs ∧ xs[i]? = some x, fun i H v H' => ∃ T x, v = .ref T ∧ H T = none ∧ H' = upd H T (.tup [.int (i : Nat), x]) ∧ ∀ xs, SqT K H a xs → xs[i]? = some x, fun i H => ∃ xs : List V, SqT K H a xs ∧ xs.length ≤ i⟩
theorem tuple_injK {X : Cx} {pins : List (Addr × Obj)} {σ : L2.St} {H : Hp} {s : Shared} (I : Inv X pins σ H s) {a : Addr} {xs ys : List V} (h1 : SqT X.K H a xs) (h2 : SqT X.K H a ys) : xs = ys := by
  obtain ⟨its, rv, p, hz⟩ := I.tuple h1
  obtain ⟨its', rv', p', hz'⟩ := I.tuple h2
  have p1 : s.heap.IsTuple a its.toArray := p
  have p2 : s.heap.IsTuple a its'.toArray := p'
  obtain ⟨o, e1, _, n1, d1⟩ := p1
  obtain ⟨o', e2, _, n2, d2⟩ := p2
  rw [e1] at e2
  cases e2
  rw [d1] at d2
  injection d2 with d3 _
  have : its = its' := by simpa using congrArg Array.toList d3
  subst this
  exact rv.inj rv'
theorem turn_enumT {P : Program} {w : World} {K : PySem.W.Frag} {elts : List Expr} {kk : Nat} {tpos : Pos} (a e it : Addr) (hai : a ≠ it) :
    Turn P w K (.Tuple elts kk tpos) (IteT K a) [e, it] e (fun i h => (∃ old, IsEnum h e it ((i : Nat) : Int) old) ∧ h.IsTupleIter it a i ∧ e ≠ it ∧ e ≠ a) where
  mem := by simp
  obj := fun i h st b hb => by
    obtain ⟨⟨old, he⟩, ⟨o, ho, hc, hd⟩, _⟩ := st
    have e' : b = e ∨ b = it := by simpa using hb
    rcases e' with z | z
    · rw [z]; exact ⟨_, he, fun v q => nomatch q⟩
    · rw [z]; exact ⟨o, ho, fun v q => by rw [hd] at q; cases q⟩
  keep := fun i h h' st k => let ⟨⟨old, he⟩, hi, hne⟩ := st; ⟨⟨old, k e (by simp) _ he⟩, hi.at fun o q => k it (by simp) o q, hne⟩
  item := by
    intro X hP hw hK hc i pins s σ H E I hf st hg
    subst hP hw hK
    obtain ⟨⟨old, he⟩, hit, hne, hea⟩ := st
    obtain ⟨xs, x, hq, hx⟩ := hg
    obtain ⟨its, rv, p, hz⟩ := I.tuple hq
    obtain ⟨u, hu, ru⟩ := rv.get hx
    have hel : e < s.heap.objs.size := Heap.lt_size he
    have hil : it < s.heap.objs.size := by obtain ⟨_, q, _⟩ := hit; exact Heap.lt_size q
    have p' : s.heap.IsTuple a its.toArray := p
    have hlt : i < its.toArray.size := by
      have := (List.getElem?_eq_some_iff.mp hu).1
      simpa using this
    refine wpAny_pyNext_enum_itemD (Draws.tuple (prog := X.prog) (w := X.w) (A := X.A.in1) (I.ok.hd hc) it a hai its.toArray) he ⟨hit, p'⟩ hlt hne (by simp [hne, hea]) fun v h' tk hP ho hit' hT hsz hk => ?_
    have ev : v = u := by
      have h1 : its.toArray[i]? = some v := hP
      have h2 : its.toArray[i]? = some u := by simpa using hu
      rw [h1] at h2
      exact Option.some.inj h2
    subst ev
    refine ⟨_, rfl, wpAny_letOwnedTupleGo_enum (s := { s with heap := h', toks := tk + 1 }) ho fun h'' he' sb => ?_⟩
    have hT2 : h''.get? s.heap.objs.size = some { cls := .type "tuple", data := .seq #[.int i tk, v] } := (sb.2 _ (Nat.ne_of_gt hel)).trans hT
    have new : ObjOk X.prog X.w (upd H s.heap.objs.size (.tup [.int (i : Nat), x])) h'' s.heap.objs.size (.tup [.int (i : Nat), x]) :=
      ⟨by show 2 ≤ sizeLine; decide, [.int i tk, v], .cons ⟨_, rfl⟩ (.cons ru .nil), ⟨_, hT2, rfl, _, rfl⟩⟩
    have I1 : Inv X pins σ (upd H s.heap.objs.size (.tup [.int (i : Nat), x])) { s with heap := h'', toks := tk + 1 } :=
      I.turnedNew (ch := [e, it]) (fun b ob hb q => (sb.2 b (fun z => hb (by simp [z]))).trans (hk b ob (fun z => hb (by simp [z])) (fun z => hb (by simp [z])) q)) hf (Nat.le_refl _) new
    refine ⟨.ref s.heap.objs.size, _, I1, rfl, ⟨_, x, rfl, I.hok.fresh (Nat.le_refl _), rfl, fun ys hy => by rw [tuple_injK I hy hq]; exact hx⟩, ⟨⟨v, ?_⟩, hit'.1.at fun o q => (sb.2 it (Ne.symm hne)).trans q, hne, hea⟩, fun b hb => ?_⟩
    · have e1 : ((i + 1 : Nat) : Int) = (i : Int) + 1 := by omega
      rw [e1]; exact he'
    · have hb' : b < s.heap.objs.size := by
        have e' : b = e ∨ b = it := by simpa using hb
        rcases e' with z | z
        · rw [z]; exact hel
        · rw [z]; exact hil
      rw [upd_ne (Nat.ne_of_lt hb')]
      exact (hf b hb).1
  done := by
    intro X hP hw hK hc i pins s σ H E I hf st hg
    subst hP hw hK
    obtain ⟨⟨old, he⟩, hit, hne, hea⟩ := st
    obtain ⟨xs, hq, hx⟩ := hg
    obtain ⟨its, rv, p, hz⟩ := I.tuple hq
    obtain ⟨f0, f1, f2, f3, f4, f5⟩ := hf it (by simp)
    have hl := rv.length
    exact wpAny_pyNext_enum_endT (I.ok.hd hc) he hit (show s.heap.IsTuple a its.toArray from p) (by simp; omega) fun h' eb => ⟨rfl, I.turned (t' := s.toks) (fun b o hb q => eb b o hb q) f0 f1 f3 f4 f5⟩
  self := fun A i s Q E st h => let ⟨⟨_, he⟩, _⟩ := st; wpAny_pyIter_enum he h
/-- enumerate of a list or of a tuple -/
structure IEn (K : PySem.W.Frag) (ta : TA) (σ : L2.St) (H : Hp) (R : It → Hp → Prop) : Prop where
  ob : ta σ H fun vs H1 => ∃ a xs, vs = [.ref a] ∧ ((SqL K H1 a xs ∧ R (Ite K a) H1) ∨ (SqT K H1 a xs ∧ R (IteT K a) H1))
def iEnumS (K : PySem.W.Frag) (ta : TA) : TI := fun σ H R => IEn K ta σ H R
theorem pi_enumS {X : Cx} {e : Expr} {ta : TA} {p pos tpos : Pos} {elts : List Expr} {kk : Nat} (hg : Gl X "enumerate") (hm : X.mg "enumerate" = none) (ha : PA X [e] ta) (hs : starEach [e] X.env = [(false, eval e X.env)] := by rfl) :
    PI X (.Tuple elts kk tpos) (.Call (.Name "enumerate" p) [e] [] pos) (iEnumS X.K ta) := by
  refine ⟨fun pins s σ H R I h => ?_⟩
  refine Call_ (ld_blt I hg hm boot_enumerate (PyProof.Rows.callWith_type1 (thn (ha.run pos pins s σ H _ I h.ob) fun us s1 ⟨vs, H1, I1, r1, q1⟩ => ?_) hs rfl))
  obtain ⟨a, xs, ex, q1⟩ := q1
  subst ex
  cases r1 with
  | cons r rr =>
    cases rr
    cases r
    rcases q1 with ⟨hq, q⟩ | ⟨hq, q⟩
    · obtain ⟨its, rv, p', hz⟩ := I1.list hq
      refine call_enumerate_list p'.isList fun h' he hit hsz hk => wpAny_pyIter_enum he ?_
      have I2 : Inv X pins σ H1 { s1 with heap := h' } := I1.kept (t' := s1.toks) hk
      refine ⟨s1.heap.objs.size + 1, [s1.heap.objs.size + 1, s1.heap.objs.size], _, _, H1, rfl, I2, turn_enum a (s1.heap.objs.size + 1) s1.heap.objs.size, ⟨⟨.none, he⟩, hit, Nat.succ_ne_self _⟩, fun b hb => ?_, q⟩
      have e' : b = s1.heap.objs.size + 1 ∨ b = s1.heap.objs.size := by simpa using hb
      have hle : s1.heap.objs.size ≤ b := by
        rcases e' with z | z
        · rw [z]; exact Nat.le_add_right _ _
        · rw [z]; exact Nat.le_refl _
      exact I1.fpOk hle (I1.hok.fresh hle)
    · obtain ⟨its, rv, p', hz⟩ := I1.tuple hq
      have p2 : s1.heap.IsTuple a its.toArray := p'
      have hal : a < s1.heap.objs.size := by obtain ⟨_, e1, _⟩ := id p2; exact Heap.lt_size e1
      refine call_enumerate_tuple p2 fun h' he hit hsz hk => wpAny_pyIter_enum he ?_
      have I2 : Inv X pins σ H1 { s1 with heap := h' } := I1.kept (t' := s1.toks) hk
      refine ⟨s1.heap.objs.size + 1, [s1.heap.objs.size + 1, s1.heap.objs.size], _, _, H1, rfl, I2, turn_enumT a (s1.heap.objs.size + 1) s1.heap.objs.size (Nat.ne_of_lt hal), ⟨⟨.none, he⟩, hit, Nat.succ_ne_self _, (Nat.ne_of_lt (Nat.lt_succ_of_lt hal)).symm⟩, fun b hb => ?_, q⟩
      have e' : b = s1.heap.objs.size + 1 ∨ b = s1.heap.objs.size := by simpa using hb
      have hle : s1.heap.objs.size ≤ b := by
        rcases e' with z | z
        · rw [z]; exact Nat.le_add_right _ _
        · rw [z]; exact Nat.le_refl _
      exact I1.fpOk hle (I1.hok.fresh hle)
theorem walk_enumT {K : PySem.W.Frag} {a : Addr} {xs : List V} : Walk (IteT K a) xs.length (fun H => SqT K H a xs) (YPair (fun i => some (.int (i : Nat))) (fun i => xs[i]?)) := by
  refine ⟨fun i _ hi q => ⟨xs, xs[i], q, by simp [hi]⟩, fun _ q => ⟨xs, q, Nat.le_refl _⟩, fun i H v H' _ q y => ?_⟩
  obtain ⟨T, x, h1, h2, h3, h4⟩ := y
  exact ⟨T, .int (i : Nat), x, h1, h2, h3, rfl, h4 xs q⟩
end KX

set_option Elab.async false
set_option linter.all false
set_option maxRecDepth 100000
set_option maxHeartbeats 4000000
set_option pp.maxSteps 400
namespace L
open PySem L2 KX
abbrev sOrd : Stmt := top 31
abbrev sNum : Stmt := top 32
abbrev nNum : List Str := ["rows", "order", "number", "i", "a", "b"]
def scNumO : Scope := { kind := .function, names := [(Str.ofString ".0", .local), (Str.ofString "a", .cell), (Str.ofString "number", .cell), (Str.ofString "order", .cell), (Str.ofString "rows", .cell)], isGenerator := false, isCoroutine := false }
def spOrd : Sp := fun vs H Q _ => ∃ (p : Addr) (n : Nat), vs = [.ref p, .int (n : Int)] ∧ Bx H p ∧ n ≤ 16 ∧ ∀ D H' o, Bx H' p → Sx p H H' → H D = none → H' D = some (.lst (nv o)) → o.Perm (List.range n) → Q (.ref D) H'
def spNum (K : PySem.W.Frag) : Sp := fun vs H Q _ => ∃ (v : V) (l : Addr) (tb : List (List Int)) (o : List Nat), vs = [v, .ref l] ∧ RowsL H v tb ∧ Sqr tb ∧ SqL K H l (nv o) ∧ o.Perm (List.range tb.length) ∧ ∀ u H', RowsL (nw H H') u (ren tb o) → Same H H' → Q u H'
theorem paired_ix {α β : Type} {R : α → β → Prop} : ∀ {as : List α} {bs : List β}, as.length = bs.length → (∀ (j : Nat) x y, as[j]? = some x → bs[j]? = some y → R x y) → Paired R as bs
  | [], [], _, _ => .nil
  | a :: as, b :: bs, h, f => .cons (f 0 a b rfl rfl) (paired_ix (by simpa using h) fun j x y h1 h2 => f (j + 1) x y (by simpa using h1) (by simpa using h2))
/-- element and place -/
def plD (o : List Nat) : List (Key × V) := o.zipIdx.map fun q : Nat × Nat => ((Sum.inl (q.1 : Int) : Key), V.int (q.2 : Int))
theorem plD_at {o : List Nat} {j a : Nat} (h : o[j]? = some a) : (plD o)[j]? = some (Sum.inl (a : Int), .int (j : Int)) := by
  unfold plD
  rw [List.getElem?_map, List.getElem?_zipIdx, h]
  simp
theorem plD_len (o : List Nat) : (plD o).length = o.length := by unfold plD; rw [List.length_map, List.length_zipIdx]
theorem plD_keys : ∀ (o : List Nat) (k : Nat), ((o.zipIdx k).map fun q : Nat × Nat => ((Sum.inl (q.1 : Int) : Key), V.int (q.2 : Int))).map (·.1) = o.map fun x : Nat => (Sum.inl (x : Int) : Key)
  | [], _ => rfl
  | x :: o, k => by
    rw [List.zipIdx_cons, List.map_cons, List.map_cons, plD_keys o (k + 1)]; rfl
theorem plD_nd {o : List Nat} (h : o.Nodup) : ((plD o).map (·.1)).Nodup := by
  unfold plD
  rw [plD_keys]
  refine List.pairwise_map.mpr (h.imp fun ne e => ne ?_)
  have := Sum.inl.inj e
  omega
theorem plD_val {o : List Nat} (h : o.Nodup) {x : Nat} (hx : x ∈ o) : valV (plD o) (Sum.inl (x : Int)) = some (.int ((o.idxOf x : Nat) : Int)) := by
  have l := List.idxOf_lt_length_iff.mpr hx
  have e : (plD o)[o.idxOf x]? = some (Sum.inl (x : Int), .int ((o.idxOf x : Nat) : Int)) := plD_at (by rw [List.getElem?_eq_getElem l, List.getElem_idxOf])
  exact val_nodup (plD_nd h) _ (List.mem_of_getElem? e)
theorem merge_app : ∀ {more acc : List (Key × V)}, ((acc ++ more).map (·.1)).Nodup → mergeK acc more = acc ++ more
  | [], acc, _ => by rw [List.append_nil]; rfl
  | kv :: more, acc, h => by
    have hn : valV acc kv.1 = none := by
      cases hv : valV acc kv.1 with
      | none => rfl
      | some x =>
        exfalso
        have hm := valV_in hv
        rw [List.map_append, List.map_cons] at h
        have := List.nodup_append.mp h
        exact this.2.2 _ hm _ List.mem_cons_self rfl
    show mergeK (putK acc kv.1 kv.2) more = _
    rw [putK_new kv.2 hn]
    have e : acc ++ [(kv.1, kv.2)] ++ more = acc ++ kv :: more := by rw [List.append_assoc]; rfl
    rw [merge_app (by rw [e]; exact h), e]
section
variable {P : Program} {w : World} {K : PySem.W.Frag} {mg : Str → Option Value} {base : Heap} {f g gn : Addr} {fd gd gnd : FuncData}
theorem scOrd : FnScope ["box", "n", "left", "k"] ["box", "n"] (defScope sOrd) := ⟨rfl, rfl, rfl, by decide +kernel, rfl, by decide +kernel, by decide +kernel⟩
theorem ok_ord (F : Fun K "_law_order" "_law_order" sOrd f fd) (M : Mn mg) (G : FnOk P w K mg base CX0 1 g gd ["box", "size"] spTake) (bG : Binds K gd ["box", "size"] []) (kG : PySem.W.keepIn K (.ref g) = true) (mG : mg "_law_take" = some (.ref g)) :
    FnOk P w K mg base CX0 2 f fd ["box", "n"] spOrd := by
  refine F.ok scOrd (fun vs H Q E h => ?_) (fun cdv A outer s H vs Q E hr h => ?_)
  · obtain ⟨p, n, rfl, _⟩ := h
    rfl
  obtain ⟨p, n, rfl, hb, n16, q⟩ := h
  refine ⟨_, pss_cons (ps_set (i := 2) scOrd.nd rfl (Or.inr rfl) (pe_listRg rfl (by rfl) M.list (prg_1 (by rfl) M.range (pv 1))))
    (pss_one (ps_ret (pe_lc (own := [("k", 3)]) (g := gName 3) (tt := tYes) rfl scOrd.nd (pi_range1 (by rfl) M.range (pa_cons (pv 1) pa_nil))
      (blkOk_by (N := ["box", "n", "left", "k"]) (sc := defScope sOrd) (by decide +kernel)) (fun _ _ _ _ _ => pg_name (i := 3) scOrd.nd rfl (Or.inl rfl)) (fun _ _ _ _ _ => pts_nil)
      (fun _ _ _ _ _ => pe_bK (K := K) rfl (pe_bm PySem.F.plainAttrs_list PySem.F.slot_list_pop PySem.F.type_list_pop mt_popAt (pv 2) (pa_cons (pe_call G hr (by rfl) mG kG bG .nil pass0 (pa_cons (pv 0)
        (pa_cons (pe_callB (lenl (K := K) rfl) (by rfl) M.len PySem.boot_len (pa_cons (pv 2) pa_nil)) pa_nil))) pa_nil)))))), ?_⟩
  refine ⟨_, rfl, _, rfl, RgOk.of_le (by decide) (by omega) (by decide) (by omega), fun la hla => ?_⟩
  rw [rg_nv]
  have nla : la ≠ p := hb.ne hla
  have sla := Same.new hla (.lst (nv (List.range n)))
  have bx := hb.same sla
  have eL0 : (upd H la (.lst (nv (List.range n)))) la = some (.lst (nv (List.range n))) := upd_same
  generalize upd H la (.lst (nv (List.range n))) = H1 at sla bx eL0 ⊢
  refine ⟨_, rfl, _, rfl, by omega, by omega, fun D hD => ?_⟩
  have nDp : D ≠ p := bx.ne hD
  have nDl : la ≠ D := ne_of_none eL0 hD
  have D4 : H D = none := sla.free hD
  refine lc_range (lo := 0) (n := ((n : Nat) : Int).toNat) (fun i J => Bx J p ∧ Sx p H J ∧ ∃ od lf : List Nat, J la = some (.lst (nv lf)) ∧ J D = some (.lst (nv od)) ∧ (od ++ lf).Perm (List.range n) ∧ od.length = i)
    ⟨bx.new hD, (Sx.of sla).trans (Sx.new hD), [], List.range n, by rw [upd_ne nDl]; exact eL0, upd_same, List.Perm.refl _, rfl⟩ ?_ ?_
  · rintro i J hi ⟨bJ, sJ, od, lf, eL, eD, pm, lo⟩
    have hi' : i < n := by simpa using hi
    have ll : lf.length = n - i := by
      have := pm.length_eq
      rw [List.length_append, List.length_range, lo] at this
      omega
    refine ⟨rfl, _, rfl, Or.inl ⟨rfl, _, SqL.of eL⟩, _, rfl, _, rfl, la, _, rfl, .inl (SqL.of eL), p, _, rfl, bJ, ?_, ?_, fun r J1 ra rb b1 s1 => ?_⟩
    · rw [nv_len]; omega
    · rw [nv_len]; omega
    rw [nv_len] at rb
    obtain ⟨r, rfl⟩ := Int.eq_ofNat_of_zero_le ra
    have hr : r < lf.length := by omega
    have eL1 := s1 la _ nla eL
    have eD1 := s1 D _ nDp eD
    have sq : seqIndex? ((r : Nat) : Int) (nv lf).length = some r := by
      unfold seqIndex?
      have h0 : ¬ ((r : Nat) : Int) < 0 := by omega
      simp only [if_neg h0]
      rw [nv_len, if_pos (by simp; omega), Int.toNat_natCast]
    refine ⟨la, nv lf, _, r, .int ((lf[r] : Nat) : Int), rfl, rfl, eL1, by omega, by omega, sq, by unfold nv; rw [List.getElem?_map, List.getElem?_eq_getElem hr]; rfl, ?_⟩
    refine ⟨nv od, by rw [upd_ne nDl.symm]; exact eD1, by rw [nv_len, lo]; exact small1000 (by omega), (b1.at_ne nla).at_ne nDp, fun b o hbp e => ?_, od ++ [lf[r]], lf.eraseIdx r, ?_, ?_, ?_, by simp [lo]⟩
    · rw [upd_ne (ne_of_none e D4), upd_ne (ne_of_none e hla)]; exact s1 b o hbp (sJ b o hbp e)
    · rw [upd_ne nDl, upd_same, erase_nv]
    · rw [upd_same]; unfold nv; rw [List.map_append]; rfl
    · refine List.Perm.trans ?_ pm
      rw [List.append_assoc]
      exact (erase_pm (List.getElem?_eq_getElem hr)).append_left od
  rintro J ⟨bJ, sJ, o, lf, eL, eD, pm, lo⟩
  rw [Int.toNat_natCast] at lo
  have lf0 : lf = [] := by
    have := pm.length_eq
    rw [List.length_append, List.length_range, lo] at this
    exact List.eq_nil_of_length_eq_zero (by omega)
  subst lf0
  rw [List.append_nil] at pm
  exact q D J o bJ sJ D4 eD pm
theorem scNum : FnScope nNum ["rows", "order"] (defScope sNum) := ⟨rfl, rfl, rfl, by decide +kernel, rfl, by decide +kernel, by decide +kernel⟩
theorem ok_num (F : Fun K "_law_numbered" "_law_numbered" sNum f fd) (M : Mn mg) : FnOk P w K mg base CX0 1 f fd ["rows", "order"] (spNum K) := by
  refine F.ok scNum (fun vs H Q E h => ?_) (fun cdv A outer s H vs Q E hr h => ?_)
  · obtain ⟨v, l, tb, o, rfl, _⟩ := h
    rfl
  obtain ⟨v, l, tb, o, rfl, hR, S, hl, pm, q⟩ := h
  have hu := hr.units
  have hu1 : (A.deeper (PyProof.Rows.envOfC "_law_numbered" (defScope sNum) s.heap.objs.size f cdv)).units + 1 < cLine := by omega
  refine ⟨_, pss_cons (ps_set (i := 2) scNum.nd rfl (Or.inr rfl) (pe_callTy (call_dictP rfl) (by rfl) M.dict (by decide +kernel) (pa_cons (pe_lc (own := [("i", 3), ("a", 4)]) (g := gTup _ 2 (gCons (gName 3) (gCons (gName 4) gNil))) (tt := tYes) rfl scNum.nd (pi_enumS (by rfl) M.enum (pa_cons (pv 1) pa_nil))
      (blkOk_by (N := nNum) (sc := defScope sNum) (by decide +kernel)) (fun _ _ _ _ _ => pg_tup rfl (pgs_cons (pg_name (i := 3) scNum.nd rfl (Or.inl rfl)) (pgs_cons (pg_name (i := 4) scNum.nd rfl (Or.inl rfl)) pgs_nil))) (fun _ _ _ _ _ => pts_nil)
      (fun _ _ _ _ _ => pe_tup (pa_cons (pv 4) (pa_cons (pv 3) pa_nil)))) pa_nil)))
    (pss_one (ps_ret (pe_lc (own := [("a", 4)]) (g := gName 4) (tt := tYes) rfl scNum.nd (pi_list (pv 1))
      (blkOk_by (N := nNum) (sc := defScope sNum) (by decide +kernel)) (fun _ _ _ _ _ => pg_name (i := 4) scNum.nd rfl (Or.inr rfl)) (fun _ _ _ _ _ => pts_nil)
      (fun _ _ _ _ _ => pe_lc (own := [("b", 5)]) (g := gName 5) (tt := tYes) rfl scNum.nd (pil (K := K) rfl (pv 1))
        (blkOk_by (N := nNum) (sc := scNumO) (by decide +kernel)) (fun _ _ _ _ _ => pg_name (i := 5) scNum.nd rfl (Or.inl rfl)) (fun _ _ _ _ _ => pts_nil)
        (fun _ _ _ _ _ => pe_dget (by exact hu1) (pv 2) (pe_ix (ixl (K := K) rfl) (pe_ix (ixl (K := K) rfl) (pv 0) (pv 4) (fun _ _ => rfl)) (pv 5) (fun _ _ => rfl)) (fun _ _ => rfl)))))), ?_⟩
  have n16 := S.ge
  have lo := pm_len pm
  refine ⟨⟨_, rfl, l, _, rfl, .inl ⟨hl, fun D hD => ?_⟩⟩⟩
  refine lc_it walk_enum (fun j G => Same H G ∧ ∃ ps : List Addr, G D = some (.lst (ps.map V.ref)) ∧ ps.length = j ∧ ∀ (i : Nat) T, ps[i]? = some T → T ≠ D ∧ ∃ a : Nat, o[i]? = some a ∧ G T = some (.tup [.int (a : Int), .int (i : Int)])) ⟨Same.new hD _, [], upd_same, rfl, fun i T h => by simp at h⟩ (fun j G _ z => z.1.seq hl) ?_ ?_
  · rintro j y G1 G2 hj ⟨sG, ps, eD, lp, hps⟩ ⟨T, y1, y2, rfl, hT, rfl, g1, g2⟩
    cases g1
    obtain ⟨a, ha, rfl⟩ := nv_at g2
    have u1 := Same.new hT (.tup [.int (j : Nat), .int (a : Int)])
    have nDT : D ≠ T := ne_of_none eD hT
    refine ⟨T, _, rfl, SqT.of upd_same, rfl, _, _, rfl, _, _, rfl, rfl, rfl, _, rfl, _, rfl, szl _ (by simp), fun T2 hT2 => ?_⟩
    have u2 := Same.new hT2 (.tup [.int (a : Int), .int (j : Int)])
    have nDT2 : D ≠ T2 := ne_of_none (u1 _ _ eD) hT2
    rw [nv_len] at hj
    refine ⟨_, u2 _ _ (u1 _ _ eD), by rw [List.length_map, lp]; exact small1000 (by omega), fun b o e => by rw [upd_ne (ne_of_none e hD)]; exact u2 _ _ (u1 _ _ (sG _ _ e)), ps ++ [T2], by rw [upd_same, List.map_append]; rfl, by rw [List.length_append, lp]; rfl, fun i T' hi => ?_⟩
    by_cases hlt : i < ps.length
    · rw [List.getElem?_append_left hlt] at hi
      obtain ⟨n1, a', e1, e2⟩ := hps i T' hi
      exact ⟨n1, a', e1, by rw [upd_ne n1]; exact u2 _ _ (u1 _ _ e2)⟩
    · rw [List.getElem?_append_right (by omega)] at hi
      have hi0 : i - ps.length = 0 := by
        cases hk : i - ps.length with
        | zero => rfl
        | succ m => rw [hk] at hi; simp at hi
      rw [hi0] at hi
      have e : T2 = T' := Option.some.inj hi
      subst e
      have ij : i = j := by omega
      subst ij
      exact ⟨nDT2.symm, a, ha, by rw [upd_ne nDT2.symm]; exact upd_same⟩
  rintro J ⟨sJ, ps, eD, lp, hps⟩
  rw [nv_len] at lp
  have nd := pm_nd pm
  refine ⟨D, ps, plD o, rfl, SqL.of eD, paired_ix (by rw [lp, plD_len]) (fun j T kv hT hkv => ?_), fun d hd => ?_⟩
  · obtain ⟨_, a, e1, e2⟩ := hps j T hT
    rw [plD_at e1] at hkv
    cases hkv
    exact SqT.of e2
  have hmg : mergeK [] (plD o) = plD o := merge_app (acc := []) (plD_nd nd)
  rw [hmg]
  have sd := Same.new hd (.dK (plD o))
  have ed : (upd J d (.dK (plD o))) d = some (.dK (plD o)) := upd_same
  have sH := sJ.trans sd
  generalize upd J d (.dK (plD o)) = J1 at ed sH ⊢
  obtain ⟨av, rs, rfl, eR, pr⟩ := id hR
  have om : ∀ x, x ∈ o → x < tb.length := fun x hx => pm_lt pm hx
  refine ⟨_, rfl, l, rfl, ⟨_, sH.seq hl⟩, fun D4 hD4 => ?_⟩
  have sd' : ∀ {G : Hp} {tb' : List (List Int)}, Part J1 G D4 tb' → Same H G := fun pa => sH.trans pa.same
  refine lc_it (walk_list (xs := nv o)) (fun i G => Part J1 G D4 (rowsTo tb.length (frn o fun a b => (mu tb a b).toNat) i)) (Part.start (Same.refl J1) hD4) (fun i G _ z => (sd' z).seq hl) ?_ ?_
  · rintro i x G1 G2 hi pa ⟨rfl, hx⟩
    rw [nv_len, lo] at hi
    obtain ⟨ai, hai, rfl⟩ := nv_at hx
    have an : ai < tb.length := om ai (List.mem_of_getElem? hai)
    refine ⟨rfl, _, rfl, l, rfl, ⟨_, (sd' pa).seq hl⟩, fun D5 hD5 => ?_⟩
    refine lc_it (walk_list (xs := nv o)) (fun j G => Same G2 G ∧ G D5 = some (.lst ((rowTo (frn o fun a b => (mu tb a b).toNat) i j).map V.int))) ⟨Same.new hD5 _, upd_same⟩ (fun j G _ z => z.1.seq ((sd' pa).seq hl)) ?_ ?_
    · rintro j y G3 G4' hj ⟨sG, e5⟩ ⟨rfl, hy⟩
      rw [nv_len, lo] at hj
      obtain ⟨bj, hbj, rfl⟩ := nv_at hy
      have bn : bj < tb.length := om bj (List.mem_of_getElem? hbj)
      have sA := (sd' pa).trans sG
      obtain ⟨_, rs', r, q0, p1, p2, p3⟩ := rw_at (hR.same sA) an
      cases q0
      have m := mu_nat S an bn
      have hxo : (mu tb ai bj).toNat ∈ o := pm_mem pm m.2
      have gd : DGet G4' d (.int (mu tb ai bj)) (some (.int ((o.idxOf (mu tb ai bj).toNat : Nat) : Int))) := by
        have := DGet.k (k := Sum.inl (((mu tb ai bj).toNat : Nat) : Int)) (sG _ _ (pa.same _ _ ed))
        rw [plD_val nd hxo] at this
        rw [m.1]
        exact this
      refine ⟨rfl, _, rfl, _, rfl, _, rfl, av, _, _, _, rfl, rfl, SqL.of p1, at_of (j := ai) rfl p2, _, rfl, r, _, _, _, rfl, rfl, SqL.of p3, at_of (j := bj) rfl (row_g S an bn), d, _, rfl, gd, _, e5, by rw [rowTo_len]; exact small1000 (by omega), fun c ob ec => by rw [upd_ne (ne_of_none ec hD5)]; exact sG c ob ec, ?_⟩
      rw [upd_same, rowTo_next, List.map_append]
      refine congrArg (fun z => some (HO.lst (_ ++ [V.int z]))) ?_
      show ((o.idxOf (mu tb ai bj).toNat : Nat) : Int) = ((frn o (fun a b => (mu tb a b).toNat) i j : Nat) : Int)
      unfold frn plc
      rw [List.getD_eq_getElem?_getD, hai, List.getD_eq_getElem?_getD, hbj]; rfl
    · rintro G3 ⟨sG, e5⟩
      rw [nv_len, lo] at e5
      obtain ⟨acc, ea, lacc, p1⟩ := pa.add sG hD5 e5
      refine ⟨acc, ea, by rw [lacc, rowsTo_len]; exact small1000 (by omega), ?_⟩
      rw [rowsTo_next]
      exact p1
  rintro G1 pa
  rw [nv_len, lo] at pa
  have pa' : Part J1 G1 D4 (ren tb o) := pa
  refine q _ _ (pa'.fin.same fun b o' e => ?_) (sH.trans pa'.same)
  obtain ⟨n1, e2⟩ := nw_some e
  rw [nw_at (sH.free n1)]; exact e2
end
end L

set_option Elab.async false
set_option linter.all false
set_option maxRecDepth 100000
set_option maxHeartbeats 2000000
set_option pp.maxSteps 400
namespace L
open PySem L2 KX
abbrev sRai : Stmt := top 33
/-- no numbering of n elements -/
def Bad (K : PySem.W.Frag) (H : Hp) (n : Nat) (v : V) : Prop := ∃ o, RowD K H v o ∧ ∀ xs, o = some xs → ¬ Vld n xs
theorem Bad.same {K : PySem.W.Frag} {H J : Hp} {n : Nat} {v : V} (s : Same H J) (h : Bad K H n v) : Bad K J n v := let ⟨o, a, b⟩ := h; ⟨o, a.same s, b⟩
def spRai (K : PySem.W.Frag) (C : Addr) : Sp := fun vs H Q _ => ∃ (p : Addr) (v : V) (tb : List (List Int)), vs = [.ref p, v] ∧ TbA K C H p tb ∧ Tb tb ∧ Bad K H tb.length v ∧ ∀ a H', Same H H' → H a = none → H' a = some (.lst [.str (Str.ofString "order"), v]) → Q (.ref a) H'
section
variable {P : Program} {w : World} {K : PySem.W.Frag} {mg : Str → Option Value} {base : Heap} {f g fE : Addr} {fd gd : FuncData} {C CO : Addr}
theorem scRai : FnScope ["table", "value", "e"] ["table", "value"] (defScope sRai) := ⟨rfl, rfl, rfl, by decide +kernel, rfl, by decide +kernel, by decide +kernel⟩
theorem ok_rai (F : Fun K "_law_raised" "_law_raised" sRai f fd) (T : CTx K mg C) (TE : ETx K mg "InvalidOrder" "value" CO fE) (x11 : PySem.W.exmOne K (.ref CO) (.ref CO) = some true)
    (G : FnOk P w K mg base (L2.CX P w) 8 g gd ["self", "order"] (spRenX K C CO)) (bG : Binds K gd ["self", "order"] []) (hG : Meth K C "renumbered" g) :
    FnOk P w K mg base CX0 9 f fd ["table", "value"] (spRai K C) := by
  refine F.ok scRai (fun vs H Q E h => ?_) (fun cdv A outer s H vs Q E hr h => ?_)
  · obtain ⟨p, v, tb, rfl, _⟩ := h
    rfl
  obtain ⟨p, v, tb, rfl, ht, TT, ⟨o, ho, hv⟩, q⟩ := h
  refine ⟨_, pss_cons (ps_try_to (tb := fun W => tDrop (tMethS C "renumbered" (spRenX K C CO) (WE W) (tVar 0) (tCons (tVar 1) tNil)))
      (l := [(.ref CO, 2, fun a cls d => tRet (tLst (tCons (tC (.str (Str.ofString "order"))) (tCons (tXf a cls d CO "value" (tVar 2)) tNil))))]) rfl rfl scRai.nd
    (.cons ⟨rfl, by decide, .inl TE.mgC⟩ rfl rfl (fun a oe cls d pn hz hf => pss_one (ps_ret (pe_lst (pa_cons pe_str (pa_cons (by exact pe_xf TE.xf TE.noF hz hf (pv 2)) pa_nil))))) .rest)
    (fun W pn xe tk _ => pss_one (ps_expr (by exact pe_methS (pv 0) T.cl hG G hr bG (fun σ => passAt tk σ) (pa_cons (pv 1) pa_nil)))))
    (pss_one (ps_ret (pe_lst (pa_cons pe_str (pa_cons pe_non pa_nil))))), ?_⟩
  obtain ⟨dx, t, rs, hp, _, _⟩ := ht.ob
  refine ⟨_, rfl, p, dx, _, rfl, hp, rfl, _, rfl, p, v, tb, rfl, ht, TT, .inr ⟨o, ho, hv, fun H' d s' hd => ?_⟩⟩
  refine ⟨true, x11, fun _ a ha => ?_, fun z => nomatch z⟩
  have sd := Same.new hd (.xd [("value", v)])
  exact ⟨_, rfl, rfl, rfl, d, _, v, rfl, upd_same, rfl, (by show 2 ≤ sizeLine; decide), fun a' ha' => q a' _ (s'.trans (sd.trans (Same.new ha' _))) ((s'.trans sd).free ha') upd_same⟩
end
end L

set_option Elab.async false
set_option linter.all false
set_option maxRecDepth 100000
set_option maxHeartbeats 4000000
/-! Own layer: list(enumerate(l)), l a list. -/
namespace KX
open PySem PySem.Spec PyProof.Rows L2
theorem enum_no_len : typeLookup (.type "enumerate") "__len__" = pure none := am_miss_of_fast (by decide +kernel)
theorem enum_no_hint : typeLookup (.type "enumerate") "__length_hint__" = pure none := am_miss_of_fast (by decide +kernel)
/-- the walk stands at i -/
def EnS (e it : Addr) (i : Nat) (h : Heap) : Prop := (∃ old, IsEnum h e it i old) ∨ ∃ T old f oT, IsEnumHeld h e it i old T f ∧ h.get? T = some oT ∧ T ≠ e ∧ T ≠ it
/-- the pairs so far, one behind the other -/
def PrS (items : Array Value) (N i : Nat) (h : Heap) : Prop := ∀ j x, j < i → items[j]? = some x → ∃ t, h.get? (N + j) = some { cls := .type "tuple", data := .seq #[.int j t, x] }
def refsTo (N i : Nat) : List Value := (List.range i).map fun j => Value.ref (N + j)
theorem nA0 {n j i : Nat} (h : i < n) : n + j ≠ i := by omega
theorem nA1 {S j n : Nat} (hj : j < n) : ¬ S + 1 + j = S ∧ (S + 1 ≤ S + 1 + j ∧ S + 1 + j < S + 1 + n) ∧ S + 1 + j - (S + 1) = j := by omega
theorem nA2 {b n m : Nat} (h : n + 1 ≤ b ∧ b < n + 1 + m) : b - (n + 1) < m ∧ n + 1 + (b - (n + 1)) = b := by omega
theorem refsTo_next (N i : Nat) : refsTo N (i + 1) = refsTo N i ++ [.ref (N + i)] := by unfold refsTo; rw [List.range_succ, List.map_append]; rfl
theorem refsTo_len (N i : Nat) : (refsTo N i).length = i := by unfold refsTo; rw [List.length_map, List.length_range]
section
variable {prog : Program} {w : World} {A : Around} {R : Result → Shared → Prop} {e it l S : Addr} {items : Array Value} {N : Nat} {res : Value}
theorem enum_loop (hh : A.in1.handled = none) (hz : items.size ≤ sizeLine) (hei : e ≠ it) (hle : l ≠ e) (hli : l ≠ it) (hSe : S ≠ e) (hSi : S ≠ it) (hSl : S ≠ l) (bS : S < N) (be : e < N) (bi : it < N) :
    ∀ (k i : Nat) (s : Shared) (acc : Array Value) (c : Nat), acc.toList = refsTo N i → items.size - i = k → i ≤ items.size → s.heap.objs.size = N + i → EnS e it i s.heap → s.heap.IsListIter it l i → s.heap.IsList l items →
      s.heap.get? S = some { cls := .type "list", dict := none, data := .seq acc c, slots := #[] } → PrS items N i s.heap →
      (∀ h' tk (acc' : Array Value) c', acc'.toList = refsTo N items.size → (∀ b o, b ≠ e → b ≠ it → b ≠ S → s.heap.get? b = some o → h'.get? b = some o) → h'.get? S = some { cls := .type "list", dict := none, data := .seq acc' c', slots := #[] } →
        PrS items N items.size h' → R (.ok (.ret res)) { s with heap := h', toks := tk }) →
      codeAny (model prog w) A (.builtin "list.extend.loop" ⟨[.ref S, .ref e, res], []⟩) R s := by
  intro k
  induction k with
  | zero =>
    intro i s acc c hacc hk hi hN hst hit hl hS hP hR
    have hin : i = items.size := by omega
    subst hin
    refine codeAny_builtin F.entry_extend_loop ?_
    rw [Around.under_plainId F.plain_extend_loop _]
    show wpAny _ A.in1 (pyNext (.ref e) >>= _) _ _ s
    have fin : ∀ h', Heap.ExtBut it s.heap h' → R (.ok (.ret res)) { s with heap := h' } := fun h' x => by
      refine hR h' s.toks acc c hacc (fun b o _ n _ q => x b o n q) (x S _ hSi hS) fun j y hj hy => ?_
      obtain ⟨t, q⟩ := hP j y hj hy
      exact ⟨t, x _ _ (nA0 bi) q⟩
    refine wpAny_bind ?_
    rcases hst with ⟨old, he⟩ | ⟨T, old, f, oT, he, hT, _, _⟩
    · exact wpAny_pyNext_enum_end hh he hit hl (Array.getElem?_eq_none (Nat.le_refl _)) fun h' hx => wpAny_pure (fin h' hx)
    · exact wpAny_pyNext_enum_end_held hh he hit hl (Array.getElem?_eq_none (Nat.le_refl _)) fun h' hx => wpAny_pure (fin h' hx)
  | succ k ih =>
    intro i s acc c hacc hk hi hN hst hit hl hS hP hR
    have hlt : i < items.size := by omega
    refine codeAny_builtin F.entry_extend_loop ?_
    rw [Around.under_plainId F.plain_extend_loop _]
    show wpAny _ A.in1 (pyNext (.ref e) >>= _) _ _ s
    have hx : items[i]? = some items[i] := Array.getElem?_eq_getElem hlt
    have go : ∀ h', EnS e it (i + 1) h' → h'.IsListIter it l (i + 1) → h'.get? s.heap.objs.size = some { cls := .type "tuple", data := .seq #[.int i s.toks, items[i]] } → h'.objs.size = s.heap.objs.size + 1 →
        (∀ b o, b ≠ e → b ≠ it → s.heap.get? b = some o → h'.get? b = some o) →
        wpAny (model prog w) A.in1 (updateSeq S (·.push (.ref s.heap.objs.size)) >>= fun _ => again (.builtin "list.extend.loop" ⟨[.ref S, .ref e, res], []⟩))
          (fun fin s' => match fin with | .done f => R (.ok f) s' | .again c' => c'.quiet = true ∧ codeAny (model prog w) A c' R s') (fun e s' => R (.error e) s') { s with heap := h', toks := s.toks + 1 } := by
      intro h' st' it' hT hsz hk'
      have hS' := hk' S _ hSe hSi hS
      have sz : acc.size = i := by rw [← Array.length_toList, hacc, refsTo_len]
      refine wpAny_bind ?_
      have nN : N + i ≠ S := nA0 bS
      have oth : ∀ b, b ≠ S → (h'.update S (Obj.mapSeq (·.push (.ref s.heap.objs.size)))).get? b = h'.get? b := fun b hb => Heap.get?_update_other _ _ (fun z => hb z.symm)
      refine wpAny_updateSeq hS' rfl (wpAny_pure ⟨plainId_quiet F.plain_extend_loop _, ih (i + 1) _ (acc.push (.ref s.heap.objs.size)) _ (by rw [Array.toList_push, hacc, refsTo_next, hN]) (by omega) hlt ?_ ?_ ?_ ?_ (Heap.get?_update_self _ hS' rfl) ?_ fun h2 tk acc2 c' ha2 hk2 hS2 hP2 => ?_⟩) (by rw [sz]; omega) (by show (acc.push _).size ≤ _; rw [Array.size_push, sz]; omega)
      · show (h'.update S _).objs.size = _
        rw [Heap.size_update, hsz]; omega
      · rcases st' with ⟨old, q⟩ | ⟨T, old, f, oT, q, hT', n1, n2⟩
        · exact .inl ⟨old, (oth e (Ne.symm hSe)).trans q⟩
        · refine .inr ⟨T, old, f, ?_⟩
          by_cases z : T = S
          · rw [z]
            exact ⟨_, (oth e (Ne.symm hSe)).trans (z ▸ q), Heap.get?_update_self _ hS' rfl, z ▸ n1, z ▸ n2⟩
          · exact ⟨oT, (oth e (Ne.symm hSe)).trans q, (oth T z).trans hT', n1, n2⟩
      · obtain ⟨o, q, r⟩ := it'
        exact ⟨o, (oth it (Ne.symm hSi)).trans q, r⟩
      · obtain ⟨o, q, r⟩ := hl
        exact ⟨o, (oth l (Ne.symm hSl)).trans (hk' l o hle hli q), r⟩
      · intro j y hj hy
        by_cases z : j = i
        · subst z
          rw [hx] at hy
          cases hy
          exact ⟨s.toks, (oth _ (nA0 bS)).trans (by rw [← hN]; exact hT)⟩
        · obtain ⟨t, q⟩ := hP j y (by omega) hy
          exact ⟨t, (oth _ (nA0 bS)).trans (hk' _ _ (nA0 be) (nA0 bi) q)⟩
      · exact hR h2 tk acc2 c' ha2 (fun b o n1 n2 n3 q => hk2 b o n1 n2 n3 ((oth b n3).trans (hk' b o n1 n2 q))) hS2 hP2
    refine wpAny_bind ?_
    rcases hst with ⟨old, he⟩ | ⟨T, old, f, oT, he, hT, n1, n2⟩
    · refine wpAny_pyNext_enum_item he hit hl hx hei fun h' ho hit' hT hsz hk' => ?_
      exact go h' (.inr ⟨s.heap.objs.size, items[i], false, _, ho, hT, by rw [hN]; exact nA0 be, by rw [hN]; exact nA0 bi⟩) hit' hT hsz hk'
    · refine wpAny_pyNext_enum_item_held he hT n1 n2 hit hl hx hei fun h' ho hit' hT' hsz hk' => ?_
      exact go h' (.inr ⟨T, old, true, oT, ho, hk' T oT n1 n2 hT, n1, n2⟩) hit' hT' hsz hk'
end
section
variable {prog : Program} {w : World} {A : Around} {E : Value → Shared → Prop} {R : Result → Shared → Prop} {s : Shared} {e it l S : Addr} {items : Array Value}
theorem extend_enum (hh : A.in1.handled = none) (hz : items.size ≤ sizeLine) (hei : e ≠ it) (hle : l ≠ e) (hli : l ≠ it) (hSe : S ≠ e) (hSi : S ≠ it) (hSl : S ≠ l) (he : IsEnum s.heap e it 0 .none) (hit : s.heap.IsListIter it l 0) (hl : s.heap.IsList l items)
    (res : Value) (c₀ : Nat) (hS : s.heap.get? S = some { cls := .type "list", data := .seq #[] c₀ })
    (hR : ∀ h' tk (acc' : Array Value) c', acc'.toList = refsTo s.heap.objs.size items.size → (∀ b o, b ≠ e → b ≠ it → b ≠ S → s.heap.get? b = some o → h'.get? b = some o) → h'.get? S = some { cls := .type "list", dict := none, data := .seq acc' c', slots := #[] } →
        PrS items s.heap.objs.size items.size h' → R (.ok (.ret res)) { s with heap := h', toks := tk }) :
    wpAny (model prog w) A.in1 (Builtin.List.listExtendWith (.ref S) (.ref e) res)
      (fun fin s' => match fin with | .done f => R (.ok f) s' | .again c' => c'.quiet = true ∧ codeAny (model prog w) A c' R s') (fun e s' => R (.error e) s') s := by
  have hT : s.TypeIs (.ref e) "enumerate" := ⟨_, he, rfl⟩
  unfold Builtin.List.listExtendWith
  refine wpAny_bind (wpAny_typeOf hT ?_)
  have h1 : Builtin.List.listSameRef (.ref S) (.ref e) = false := by simp [Builtin.List.listSameRef, hSe]
  have h2 : (Value.type "enumerate" == Value.type "list") = false := by decide
  have h3 : (Value.type "enumerate" == Value.type "tuple") = false := by decide
  simp only [h1, h2, h3, Bool.or_false, Bool.false_eq_true, if_false]
  refine wpAny_bind (wpAny_pyIter_enum he ?_)
  refine wpAny_bind (wpAny_holding ?_)
  unfold Builtin.List.listLengthHint
  refine wpAny_bind (wpAny_specialOf hT enum_no_len ?_)
  show wpAny _ A.in1 (specialOf (Value.ref e) (Str.ofString "__length_hint__") >>= _) _ _ _
  refine wpAny_bind (wpAny_specialOf hT enum_no_hint ?_)
  refine wpAny_pure ?_
  show wpAny _ A.in1 (rule "list.extend.makes-room" >>= fun _ => Builtin.List.listTouch (.ref S) >>= fun _ =>
    again (.builtin "list.extend.loop" ⟨[.ref S, .ref e, res], []⟩)) _ _ _
  refine wpAny_bind (wpAny_rule ?_)
  refine wpAny_bind ?_
  show wpAny _ A.in1 (updateSeq S (·.push .none) >>= fun _ => updateSeq S (·.pop)) _ _ _
  refine wpAny_bind (wpAny_updateSeq hS rfl ?_)
  have hS₂ := Heap.get?_update_self (Obj.mapSeq (·.push Value.none)) hS rfl
  refine wpAny_updateSeq (hz := by seq_fits) hS₂ rfl ?_
  have hS₃ := Heap.get?_update_self (Obj.mapSeq (·.pop)) hS₂ rfl
  have oth : ∀ b o, b ≠ S → s.heap.get? b = some o → ((s.heap.update S (Obj.mapSeq (·.push Value.none))).update S (Obj.mapSeq (·.pop))).get? b = some o :=
    fun b o hb e => (Heap.get?_update_other _ _ (Ne.symm hb)).trans ((Heap.get?_update_other _ _ (Ne.symm hb)).trans e)
  have sz : ((s.heap.update S (Obj.mapSeq (·.push Value.none))).update S (Obj.mapSeq (·.pop))).objs.size = s.heap.objs.size := by rw [Heap.size_update, Heap.size_update]
  have li := Heap.lt_size hS
  have le := Heap.lt_size he
  have lt : it < s.heap.objs.size := by obtain ⟨_, q, _⟩ := hit; exact Heap.lt_size q
  refine wpAny_pure ⟨plainId_quiet F.plain_extend_loop _, enum_loop (N := s.heap.objs.size) hh hz hei hle hli hSe hSi hSl li le lt items.size 0 _ #[] _ rfl (by omega) (Nat.zero_le _) (by show Array.size _ = _; rw [sz]; rfl) (.inl ⟨.none, oth e _ (Ne.symm hSe) he⟩)
    (by obtain ⟨o, q, r⟩ := hit; exact ⟨o, oth it _ (Ne.symm hSi) q, r⟩) (by obtain ⟨o, q, r⟩ := hl; exact ⟨o, oth l _ (Ne.symm hSl) q, r⟩) hS₃ (fun j x hj => absurd hj (Nat.not_lt_zero _)) fun h' tk acc' c' ha hk hS' hP => ?_⟩
  exact hR h' tk acc' c' (by rw [ha]) (fun b o n1 n2 n3 q => hk b o n1 n2 n3 (oth b o n3 q)) hS' hP
theorem list_init_enum (hh : A.in1.handled = none) (hz : items.size ≤ sizeLine) (hei : e ≠ it) (hle : l ≠ e) (hli : l ≠ it) (hSe : S ≠ e) (hSi : S ≠ it) (hSl : S ≠ l) (he : IsEnum s.heap e it 0 .none) (hit : s.heap.IsListIter it l 0) (hl : s.heap.IsList l items)
    (hS : s.heap.get? S = some { cls := .type "list", data := .seq #[] })
    (hR : ∀ h' tk (acc' : Array Value) c', acc'.toList = refsTo s.heap.objs.size items.size → (∀ b o, b ≠ e → b ≠ it → b ≠ S → s.heap.get? b = some o → h'.get? b = some o) → h'.get? S = some { cls := .type "list", dict := none, data := .seq acc' c', slots := #[] } →
        PrS items s.heap.objs.size items.size h' → R (.ok (.ret .none)) { s with heap := h', toks := tk }) :
    wpAny (model prog w) A.in1 (Builtin.«list.__init__» ⟨[.ref S, .ref e], []⟩)
      (fun fin s' => match fin with | .done f => R (.ok f) s' | .again c' => c'.quiet = true ∧ codeAny (model prog w) A c' R s') (fun e s' => R (.error e) s') s := by
  show wpAny _ A.in1 (do let old ← Builtin.List.listItems (.ref S); Builtin.List.listUpdate (.ref S) (fun _ => #[]); letGo old.toList.reverse; Builtin.List.listExtendWith (.ref S) (.ref e) .none) _ _ s
  refine wpAny_bind ?_
  unfold Builtin.List.listItems
  refine wpAny_bind (wpAny_seqItems hS rfl (wpAny_pure ?_))
  show wpAny _ A.in1 (updateSeq S (fun _ => #[]) >>= fun _ => letGo (#[] : Array Value).toList.reverse >>= fun _ => Builtin.List.listExtendWith (.ref S) (.ref e) .none) _ _ s
  refine wpAny_bind (wpAny_updateSeq hS rfl ?_)
  have hS₂ := Heap.get?_update_self (Obj.mapSeq (fun _ => (#[] : Array Value))) hS rfl
  have oth : ∀ b o, b ≠ S → s.heap.get? b = some o → (s.heap.update S (Obj.mapSeq (fun _ => (#[] : Array Value)))).get? b = some o :=
    fun b o hb e => (Heap.get?_update_other _ _ (Ne.symm hb)).trans e
  have sz : (s.heap.update S (Obj.mapSeq (fun _ => (#[] : Array Value)))).objs.size = s.heap.objs.size := Heap.size_update ..
  refine wpAny_bind (wpAny_letGo ?_)
  refine extend_enum hh hz hei hle hli hSe hSi hSl (oth e _ (Ne.symm hSe) he) (by obtain ⟨o, q, r⟩ := hit; exact ⟨o, oth it _ (Ne.symm hSi) q, r⟩) (by obtain ⟨o, q, r⟩ := hl; exact ⟨o, oth l _ (Ne.symm hSl) q, r⟩) .none _ hS₂ fun h' tk acc' c' ha hk hS' hP => ?_
  have sz' : ({ s with heap := s.heap.update S (Obj.mapSeq (fun _ => (#[] : Array Value))) } : Shared).heap.objs.size = s.heap.objs.size := sz
  rw [sz'] at ha hP
  exact hR h' tk acc' c' ha (fun b o n1 n2 n3 q => hk b o n1 n2 n3 (oth b o n3 q)) hS' hP
theorem call_list_enum {Q : Value → Shared → Prop} (hh : A.handled = none) (hz : items.size ≤ sizeLine) (hei : e ≠ it) (hle : l ≠ e) (hli : l ≠ it) (he : IsEnum s.heap e it 0 .none) (hit : s.heap.IsListIter it l 0) (hl : s.heap.IsList l items)
    (hQ : ∀ h' tk (acc' : Array Value) c', acc'.toList = refsTo (s.heap.objs.size + 1) items.size → (∀ b o, b ≠ e → b ≠ it → s.heap.get? b = some o → h'.get? b = some o) → h'.get? s.heap.objs.size = some { cls := .type "list", dict := none, data := .seq acc' c', slots := #[] } →
        PrS items (s.heap.objs.size + 1) items.size h' → Q (.ref s.heap.objs.size) { s with heap := h', toks := tk }) :
    wpAny (model prog w) A (call (.type "list") [.ref e]) Q E s := by
  refine callType_codes (Q₁ := fun obj s₁ => obj = .ref s.heap.objs.size ∧ s₁ = { s with heap := s.heap.push { cls := .type "list", data := .seq #[] } }) F.called_list (F.typeCall_list_1 _) F.entry_list_init
    (code_list_new _ ⟨rfl, rfl⟩) fun obj s₁ h₁ => ?_
  obtain ⟨rfl, rfl⟩ := h₁
  have hS : (s.heap.push { cls := .type "list", data := .seq #[] }).get? s.heap.objs.size = some { cls := .type "list", data := .seq #[] } := Heap.get?_push_size _ rfl
  have le := Heap.lt_size he
  have li : it < s.heap.objs.size := by obtain ⟨_, q, _⟩ := hit; exact Heap.lt_size q
  have ll : l < s.heap.objs.size := by obtain ⟨_, q, _⟩ := hl; exact Heap.lt_size q
  have pz : (s.heap.push { cls := .type "list", data := .seq #[] }).objs.size = s.heap.objs.size + 1 := Heap.size_push ..
  refine ⟨⟨_, hS, rfl⟩, F.args_list_init_2 _ _, list_init_enum (A := A.in1) (by simp [hh]) hz hei hle hli (Nat.ne_of_gt le) (Nat.ne_of_gt li) (Nat.ne_of_gt ll) (Heap.get?_push_of_some _ he)
    (by obtain ⟨o, q, r⟩ := hit; exact ⟨o, Heap.get?_push_of_some _ q, r⟩) (by obtain ⟨o, q, r⟩ := hl; exact ⟨o, Heap.get?_push_of_some _ q, r⟩) hS fun h' tk acc' c' ha hk hS' hP => ?_⟩
  have pz' : ({ s with heap := s.heap.push { cls := .type "list", data := .seq #[] } } : Shared).heap.objs.size = s.heap.objs.size + 1 := pz
  rw [pz'] at ha hP
  exact ⟨rfl, hQ h' tk acc' c' ha (fun b o n1 n2 q => hk b o n1 n2 (Nat.ne_of_lt (Heap.lt_size q)) (Heap.get?_push_of_some _ q)) hS' hP⟩
end
/-- list(enumerate(l)) -/
def tListEnum (K : PySem.W.Frag) (ta : TA) : TE := fun σ H Q => ta σ H fun vs H1 => ∃ (a : Addr) (xs : List V), vs = [.ref a] ∧ SqL K H1 a xs ∧ ∀ (p : Addr) (ts : List Addr) (H2 : Hp), ts.length = xs.length → H1 p = none → Same H1 H2 → H2 p = some (.lst (ts.map V.ref)) →
  (∀ j x, xs[j]? = some x → ∃ T, ts[j]? = some T ∧ H1 T = none ∧ T ≠ p ∧ H2 T = some (.tup [.int (j : Nat), x])) → Q (.ref p) H2
/-- the heap with the list at S, the pairs behind it -/
def enH (H : Hp) (S : Addr) (xs : List V) : Hp := fun b => if b = S then some (.lst ((List.range xs.length).map fun j => V.ref (S + 1 + j))) else if S + 1 ≤ b ∧ b < S + 1 + xs.length then some (.tup [.int ((b - (S + 1) : Nat) : Int), xs.getD (b - (S + 1)) .non]) else H b
theorem enH_S {H : Hp} {S : Addr} {xs : List V} : enH H S xs S = some (.lst ((List.range xs.length).map fun j => V.ref (S + 1 + j))) := if_pos rfl
theorem enH_T {H : Hp} {S : Addr} {xs : List V} {j : Nat} {x : V} (h : xs[j]? = some x) : enH H S xs (S + 1 + j) = some (.tup [.int (j : Nat), x]) := by
  have hj := (List.getElem?_eq_some_iff.mp h).1
  unfold enH
  have z := nA1 (S := S) hj
  rw [if_neg z.1, if_pos z.2.1]
  rw [z.2.2, List.getD_eq_getElem?_getD, h]; rfl
theorem enH_old {H : Hp} {S b : Addr} {xs : List V} (h : b < S) : enH H S xs b = H b := by
  unfold enH
  rw [if_neg (Nat.ne_of_lt h), if_neg (fun z => absurd z.1 (Nat.not_le_of_lt (Nat.lt_succ_of_lt h)))]
theorem vals_refs (N n : Nat) : Vals ((List.range n).map fun j => V.ref (N + j)) (refsTo N n) := by
  unfold refsTo
  induction (List.range n) with
  | nil => exact .nil
  | cons x r ih => exact .cons rfl ih
theorem vals_get : ∀ {xs : List V} {us : List Value} {j : Nat} {x : V}, Vals xs us → xs[j]? = some x → ∃ u, us[j]? = some u ∧ RelV x u
  | _, _, _, _, .nil, h => by simp at h
  | _, _, 0, _, .cons r _, h => by simp at h; subst h; exact ⟨_, rfl, r⟩
  | _, _, j + 1, _, .cons _ t, h => by
    obtain ⟨u, h1, h2⟩ := vals_get (j := j) t (by simpa using h)
    exact ⟨u, by simpa using h1, h2⟩
section
variable {X : Cx}
theorem pe_listEnum {K : PySem.W.Frag} (hK : X.K = K) {e : Expr} {ta : TA} {p p2 pos pos2 : Pos} (hc : X.calm = true) (hg : Gl X "list") (hm : X.mg "list" = none) (hg2 : Gl X "enumerate") (hm2 : X.mg "enumerate" = none) (ha : PA X [e] ta)
    (hs : starEach [e] X.env = [(false, eval e X.env)] := by rfl)
    (na : starEach [.Call (.Name "enumerate" p2) [e] [] pos2] X.env = (false, eval (.Call (.Name "enumerate" p2) [e] [] pos2) X.env) :: starEach [] X.env := by rfl) :
    PE X (.Call (.Name "list" p) [.Call (.Name "enumerate" p2) [e] [] pos2] [] pos) (tListEnum K ta) := by
  subst hK
  refine ⟨fun pins s σ H Q I h => ?_⟩
  refine Call_ (ld_blt I hg hm boot_list (PyProof.Rows.callWith_type1 (args_cons (Call_ (ld_blt I hg2 hm2 boot_enumerate (PyProof.Rows.callWith_type1 (thn (ha.run pos2 pins s σ H _ I h) fun us s1 ⟨vs, H1, I1, r1, q1⟩ => ?_) hs rfl))) na) na))
  obtain ⟨a, xs, ex, hq, q⟩ := q1
  subst ex
  cases r1 with
  | cons r rr =>
    cases rr
    cases r
    obtain ⟨its, rv, p', hz⟩ := I1.list hq
    refine call_enumerate_list p'.isList fun h' he hit hsz hk => args_nil ?_
    have hz' : its.toArray.size ≤ sizeLine := by rw [List.size_toArray, ← rv.length]; exact hz
    have ll : a < s1.heap.objs.size := by obtain ⟨_, q, _⟩ := p'.isList; exact Heap.lt_size q
    have nle : a ≠ s1.heap.objs.size + 1 := Nat.ne_of_lt (Nat.lt_succ_of_lt ll)
    refine call_list_enum (s := { s1 with heap := h' }) (I1.ok.hd hc) hz' (Nat.succ_ne_self _) nle (Nat.ne_of_lt ll) he hit (by obtain ⟨o, q, r⟩ := p'.isList; exact ⟨o, hk _ _ q, r⟩) fun h2 tk acc2 c' ha2 hk2 hS hP => ?_
    have hN : h'.objs.size = s1.heap.objs.size + 2 := hsz
    have zn : its.toArray.size = xs.length := by rw [List.size_toArray, ← rv.length]
    rw [zn] at ha2 hP
    have ea : acc2 = (refsTo (h'.objs.size + 1) xs.length).toArray := by rw [← ha2]
    rw [ea] at hS
    have keep : ∀ b o, s1.heap.get? b = some o → h2.get? b = some o := fun b o e => by
      have := Heap.lt_size e
      exact hk2 b o (Nat.ne_of_lt (Nat.lt_succ_of_lt this)) (Nat.ne_of_lt this) (hk b o e)
    have old : ∀ b o, H1 b = some o → enH H1 h'.objs.size xs b = some o := fun b o e => by
      rw [enH_old (Nat.lt_of_lt_of_le (I1.hok b o e).lt (by rw [hN]; exact Nat.le_add_right _ _))]; exact e
    have new : ∀ b, s1.heap.objs.size ≤ b → H1 b = none := fun b hb => I1.hok.fresh hb
    have ok : HOk X.prog X.w (enH H1 h'.objs.size xs) h2 := fun b u e => by
      by_cases hb : b < h'.objs.size
      · rw [enH_old hb] at e
        exact (I1.hok b u e).stay (fun c v _ q => keep c v q) (fun c q => old c _ q) (fun c ys q => old c _ q)
      · by_cases hS' : b = h'.objs.size
        · rw [hS', enH_S] at e
          cases e
          rw [hS']
          exact ⟨by rw [List.length_map, List.length_range]; exact hz, _, _, vals_refs _ _, hS⟩
        · unfold enH at e
          rw [if_neg hS'] at e
          by_cases hr : h'.objs.size + 1 ≤ b ∧ b < h'.objs.size + 1 + xs.length
          · rw [if_pos hr] at e
            cases e
            have hj : b - (h'.objs.size + 1) < xs.length := (nA2 hr).1
            have hx : xs[b - (h'.objs.size + 1)]? = some (xs.getD (b - (h'.objs.size + 1)) .non) := by rw [List.getD_eq_getElem?_getD, List.getElem?_eq_getElem hj]; rfl
            obtain ⟨v, hv, rl⟩ := vals_get rv hx
            obtain ⟨t, ht⟩ := hP (b - (h'.objs.size + 1)) v hj (by rw [List.getElem?_toArray]; exact hv)
            have eb : h'.objs.size + 1 + (b - (h'.objs.size + 1)) = b := (nA2 hr).2
            rw [show ({ s1 with heap := h' } : Shared).heap.objs.size + 1 + (b - (h'.objs.size + 1)) = b from eb] at ht
            exact ⟨by show 2 ≤ sizeLine; decide, [.int ((b - (h'.objs.size + 1) : Nat) : Int) t, v], .cons ⟨_, rfl⟩ (.cons rl .nil), ⟨_, ht, rfl, _, rfl⟩⟩
          · rw [if_neg hr] at e
            exact absurd (I1.hok b u e).lt (Nat.not_lt_of_le (Nat.le_trans (by rw [hN]; exact Nat.le_add_right _ _) (Nat.le_of_not_lt hb)))
    have un : Un X.fs [] H1 (enH H1 h'.objs.size xs) s1.heap h2 :=
      ⟨fun b o q _ _ _ => keep b o q, fun b o q _ _ _ => ⟨o.slots, keep b o q⟩, fun b o q n _ => by rw [enH_old (Nat.lt_of_lt_of_le (Heap.lt_size q) (by rw [hN]; exact Nat.le_add_right _ _))]; exact n,
        fun b o q _ => ⟨o, keep b o q⟩, fun b ys q => old b _ q, fun b o u q => old b _ q, fun b ps q => ⟨#[], by rw [old b _ q]; simp⟩⟩
    refine ⟨.ref h'.objs.size, enH H1 h'.objs.size xs, I1.un (t' := tk) un ok, rfl, ?_⟩
    refine q h'.objs.size ((List.range xs.length).map fun j => h'.objs.size + 1 + j) _ (by rw [List.length_map, List.length_range]) (new _ (by omega)) old (by rw [enH_S, List.map_map]; rfl) fun j x hx => ?_
    have hj := (List.getElem?_eq_some_iff.mp hx).1
    exact ⟨h'.objs.size + 1 + j, by rw [List.getElem?_map, List.getElem?_range hj]; rfl, new _ (by omega), by show ¬ (h'.objs.size + 1 + j : Nat) = _; omega, enH_T hx⟩
end
end KX

set_option Elab.async false
set_option linter.all false
set_option maxRecDepth 100000
set_option maxHeartbeats 4000000
set_option pp.maxSteps 400
namespace L
open PySem L2 KX
theorem Itm.non {K : PySem.W.Frag} {H : Hp} : Itm K H .non := .inr ⟨(fun _ z => nomatch z), false, false, ⟨_, .base .non, rfl, rfl⟩, rfl⟩
theorem Itm.bl {K : PySem.W.Frag} {H : Hp} (b : Bool) : Itm K H (.bl b) := .inr ⟨(fun _ z => nomatch z), true, true, ⟨_, .base (.bl b), rfl, rfl⟩, rfl⟩
theorem Itm.lst {K : PySem.W.Frag} {H : Hp} {a : Addr} {xs : List V} (h : H a = some (.lst xs)) : Itm K H (.ref a) := .inr ⟨(fun _ z => nomatch z), false, false, ⟨_, .base (.lst h), rfl, rfl⟩, rfl⟩
theorem Itm.int {K : PySem.W.Frag} {H : Hp} (i : Int) : Itm K H (.int i) := .inl ⟨i, rfl⟩
theorem Itm.str {K : PySem.W.Frag} {H : Hp} (x : Str) : Itm K H (.str x) := .inr ⟨(fun _ z => nomatch z), false, false, ⟨_, .base (.str x), rfl, rfl⟩, rfl⟩
/-- an item of a value that is refused -/
inductive It8 (H : Hp) : V → Prop
  | int {i : Int} : i.natAbs < 2 ^ 98 → It8 H (.int i)
  | non : It8 H .non
  | bl (b : Bool) : It8 H (.bl b)
  | str : It8 H (.str (Str.ofString "0"))
  | lst {a : Addr} {ws : List Nat} : H a = some (.lst (nv ws)) → ws.length ≤ 16 → (∀ x, x ∈ ws → x < 1000) → It8 H (.ref a)
theorem It8.same {H J : Hp} {v : V} (s : Same H J) (h : It8 H v) : It8 J v := by
  cases h with
  | int h => exact .int h
  | non => exact .non
  | bl b => exact .bl b
  | str => exact .str
  | lst h1 h2 h3 => exact .lst (s _ _ h1) h2 h3
theorem It8.itm {K : PySem.W.Frag} {H : Hp} {v : V} (h : It8 H v) : Itm K H v := by
  cases h with
  | int h => exact Itm.int _
  | non => exact Itm.non
  | bl b => exact Itm.bl _
  | str => exact Itm.str _
  | lst h1 _ _ => exact Itm.lst h1
theorem wD_dqn {H : Hp} : ∀ ws : List Nat, DqAll H (nv ws) (ws.map fun x : Nat => PyData.int (x : Int))
  | [] => .nil
  | x :: ws => .cons (.int _) (wD_dqn ws)
theorem It8.data {H : Hp} {v : V} (h : It8 H v) : ∃ d, Dq H v d ∧ OkD 1 1700 d := by
  cases h with
  | int h => exact ⟨_, .int _, (OkD.int h).mono (by omega) (by omega)⟩
  | non => exact ⟨_, .non, OkD.none.mono (by omega) (by omega)⟩
  | bl b => exact ⟨_, .bl b, (OkD.bool b).mono (by omega) (by omega)⟩
  | str => exact ⟨_, .str _, (OkD.str (n := 1) (by unfold Ss; decide +kernel)).mono (by omega) (by omega)⟩
  | lst h1 h2 h3 =>
    refine ⟨_, .lst h1 (wD_dqn _), (okLi (n := 0) (W := 100) (m := 16) (fun d hd => ?_) (by rw [List.length_map]; exact h2)).mono (by omega) (by omega)⟩
    obtain ⟨x, hx, rfl⟩ := List.mem_map.mp hd
    exact OkD.int (by show x < 2 ^ 98; exact Nat.lt_trans (h3 x hx) (by decide))
theorem it8_all {H : Hp} : ∀ {xs : List V}, (∀ x, x ∈ xs → It8 H x) → ∃ ds, DqAll H xs ds ∧ (∀ d, d ∈ ds → OkD 1 1700 d) ∧ ds.length = xs.length
  | [], _ => ⟨[], .nil, fun _ z => (nomatch z), rfl⟩
  | x :: xs, h => by
    obtain ⟨d, h1, h2⟩ := (h x List.mem_cons_self).data
    obtain ⟨ds, g1, g2, g3⟩ := it8_all fun y hy => h y (List.mem_cons_of_mem _ hy)
    refine ⟨d :: ds, .cons h1 g1, fun e he => ?_, by rw [List.length_cons, List.length_cons, g3]⟩
    rcases List.mem_cons.mp he with rfl | he
    · exact h2
    · exact g2 e he
/-- a value that renumbered refuses -/
inductive V8 (K : PySem.W.Frag) (G : Hp) (n : Nat) : V → Prop
  | na {v : V} {d : PyData} {t : Value} : NoSq K G v → Dq G v d → OkD 1 1700 d → TyX K G v t → PySem.W.kitOne K t (.type "list") = some false → V8 K G n v
  | tu {a : Addr} {xs : List V} : G a = some (.tup xs) → xs.length ≤ 18 → (∀ x, x ∈ xs → It8 G x) → ¬ Vld n xs → V8 K G n (.ref a)
  | li {a : Addr} {xs : List V} : G a = some (.lst xs) → xs.length ≤ 18 → (∀ x, x ∈ xs → It8 (mn a G) x) → ¬ Vld n xs → V8 K G n (.ref a)
theorem mn_mono {a : Addr} {G J : Hp} (s : Same G J) : Same (mn a G) (mn a J) := fun b o e => mn_sx _ _ (fun z => by rw [z, mn_p] at e; cases e) (s _ _ (mn_same _ _ e))
theorem V8.same {K : PySem.W.Frag} {G J : Hp} {n : Nat} {v : V} (s : Same G J) (h : V8 K G n v) : V8 K J n v := by
  cases h with
  | na a b c d e => exact .na (NoSq.same s a) (Dq.same s _ _ b) c (TyX.same s d) e
  | tu a b c d => exact .tu (s _ _ a) b (fun x hx => (c x hx).same s) d
  | li a b c d => exact .li (s _ _ a) b (fun x hx => (c x hx).same (mn_mono s)) d
theorem V8.bad {K : PySem.W.Frag} {G : Hp} {n : Nat} {v : V} (h : V8 K G n v) : Bad K G n v := by
  cases h with
  | na a b c d e => exact ⟨none, a, fun xs z => nomatch z⟩
  | @tu a xs h1 l hx hv => exact ⟨some xs, ⟨⟨a, rfl, .inr (SqT.of h1)⟩, fun y hy => (hx y hy).itm, by omega⟩, fun ys e => by cases e; exact hv⟩
  | @li a xs h1 l hx hv => exact ⟨some xs, ⟨⟨a, rfl, .inl (SqL.of h1)⟩, fun y hy => ((hx y hy).same mn_same).itm, by omega⟩, fun ys e => by cases e; exact hv⟩
theorem V8.data {K : PySem.W.Frag} {G : Hp} {n : Nat} {v : V} (h : V8 K G n v) : ∃ d, Dq G v d ∧ OkD 2 34000 d := by
  cases h with
  | na a b c d e => exact ⟨_, b, c.mono (by omega) (by omega)⟩
  | @tu a xs h1 l hx hv =>
    obtain ⟨ds, g1, g2, g3⟩ := it8_all hx
    exact ⟨_, .tup h1 g1, (okTu (n := 1) (W := 1700) (m := 18) g2 (by omega)).mono (by omega) (by omega)⟩
  | @li a xs h1 l hx hv =>
    obtain ⟨ds, g1, g2, g3⟩ := it8_all fun x h => (hx x h).same mn_same
    exact ⟨_, .lst h1 g1, (okLi (n := 1) (W := 1700) (m := 18) g2 (by omega)).mono (by omega) (by omega)⟩
/-! what is no numbering -/
theorem vld_len {n : Nat} {xs : List V} (h : xs.length ≠ n) : ¬ Vld n xs := fun ⟨ws, e, p⟩ => h (by rw [e, nv_len, p.length_eq, List.length_range])
theorem vld_ref {n : Nat} {xs : List V} {a : Addr} (h : V.ref a ∈ xs) : ¬ Vld n xs := fun ⟨ws, e, p⟩ => by
  rw [e] at h
  obtain ⟨x, _, hx⟩ := List.mem_map.mp h
  cases hx
theorem vld_rep {n m : Nat} {e : V} (h : 2 ≤ m) : ¬ Vld n (List.replicate m e) := fun ⟨ws, e1, p⟩ => by
  have lw : ws.length = m := by have := congrArg List.length e1; rw [List.length_replicate, nv_len] at this; exact this.symm
  have nd : ws.Nodup := p.symm.nodup List.nodup_range
  have hl : 2 ≤ ws.length := by omega
  match ws, hl, nd, e1 with
  | [], hl, _, _ => exact absurd hl (by simp)
  | [_], hl, _, _ => exact absurd hl (by simp)
  | x :: y :: r, hl, nd, e1 =>
    match m, h, e1 with
    | m + 2, _, e1 =>
      rw [List.replicate_succ, List.replicate_succ] at e1
      have e1 : e :: e :: List.replicate m e = V.int (x : Int) :: V.int (y : Int) :: nv r := e1
      injection e1 with h1 h2
      injection h2 with h2 h3
      have : (x : Int) = (y : Int) := V.int.inj (h1.symm.trans h2)
      have hxy : x = y := by omega
      exact (List.nodup_cons.mp nd).1 (by rw [hxy]; exact List.mem_cons_self)
theorem vld_set {n at' : Nat} {o : List Nat} {e : V} (pm : o.Perm (List.range n)) (ha : at' < o.length) (he : e ≠ .int ((o[at'] : Nat) : Int)) : ¬ Vld n (nv (o.take at') ++ [e] ++ nv (o.drop (at' + 1))) := fun ⟨ws, e1, p⟩ => by
  have hmem : e ∈ nv ws := by rw [← e1]; simp
  obtain ⟨x, hx, rfl⟩ := List.mem_map.mp hmem
  have e2 : nv (o.take at' ++ [x] ++ o.drop (at' + 1)) = nv ws := by
    rw [← e1]; unfold nv; rw [List.map_append, List.map_append]; rfl
  have e3 := nv_inj e2
  have p2 : (o.take at' ++ [x] ++ o.drop (at' + 1)).Perm (o.take at' ++ [o[at']] ++ o.drop (at' + 1)) := by
    rw [e3]
    have e4 : o.take at' ++ [o[at']] ++ o.drop (at' + 1) = o := by
      rw [List.append_assoc, List.singleton_append, ← List.drop_eq_getElem_cons ha, List.take_append_drop]
    rw [e4]
    exact p.trans pm.symm
  rw [List.append_assoc, List.append_assoc] at p2
  have p3 := (List.perm_append_left_iff _).mp p2
  have p4 := (List.perm_append_right_iff _).mp p3
  have := List.singleton_perm_singleton.mp p4
  exact he (by rw [this])
/-- numbers below n that are no numbering -/
theorem vld_not {n : Nat} {ws : List Nat} (h : ¬ ws.Perm (List.range n)) : ¬ Vld n (nv ws) := fun ⟨us, e, p⟩ => h (by rw [nv_inj e]; exact p)
end L

set_option Elab.async false
set_option linter.all false
set_option maxRecDepth 100000
set_option maxHeartbeats 4000000
set_option pp.maxSteps 400
namespace L
open PySem L2 KX
abbrev sInv : Stmt := top 34
abbrev nInv : List Str := ["box", "order", "at", "n", "entry", "others", "drawn", "kind", "found", "place"]
def spInv (K : PySem.W.Frag) : Sp := fun vs H Q _ => ∃ (p l : Addr) (o : List Nat) (n : Nat), vs = [.ref p, .ref l] ∧ Bx H p ∧ H l = some (.lst (nv o)) ∧ l ≠ p ∧ o.Perm (List.range n) ∧ 1 ≤ n ∧ n ≤ 16 ∧
  ∀ v H', Bx H' p → Sx p H H' → V8 K (mn p H') n v → (∀ a, v = .ref a → H a = none) → Q v H'
theorem cut_to (ws : List Nat) (n : Nat) : cutV (nv ws) none (some (n : Int)) = nv (ws.take n) := by
  unfold cutV
  rw [HT.sIx_none, HT.sIx_nat, nv_len, List.drop_zero, Nat.sub_zero]
  unfold nv
  rw [← List.map_take]
  refine congrArg (List.map _) ?_
  by_cases h : n ≤ ws.length
  · rw [Nat.min_eq_left h]
  · rw [Nat.min_eq_right (by omega), List.take_length, List.take_of_length_le (by omega)]
theorem cut_from (ws : List Nat) (n : Nat) : cutV (nv ws) (some (n : Int)) none = nv (ws.drop n) := by
  unfold cutV
  rw [HT.sIx_none, HT.sIx_nat, nv_len]
  unfold nv
  rw [← List.map_drop, ← List.map_take]
  refine congrArg (List.map _) ?_
  by_cases h : n ≤ ws.length
  · rw [Nat.min_eq_left h, List.take_of_length_le (by rw [List.length_drop]; omega)]
  · rw [Nat.min_eq_right (by omega), List.drop_of_length_le (Nat.le_refl _), List.take_nil, List.drop_of_length_le (by omega)]
theorem mnp {p : Addr} {G J : Hp} (x : Sx p G J) : Same (mn p G) (mn p J) := fun b o e => by
  have hb : b ≠ p := fun z => by rw [z, mn_p] at e; cases e
  exact mn_sx _ _ hb (x _ _ hb (mn_same _ _ e))
/-- at - 1 as an index -/
theorem prev_at {o : List Nat} {a : Nat} (ha : a < o.length) : ∃ j, ∃ h : j < o.length, atI (nv o) ((a : Int) - 1) = some (.int ((o[j] : Nat) : Int)) ∧ (j = a → o.length = 1) := by
  have gt : ∀ j, (h : j < o.length) → (nv o)[j]? = some (.int ((o[j] : Nat) : Int)) := fun j h => by unfold nv; rw [List.getElem?_map, List.getElem?_eq_getElem h]; rfl
  cases a with
  | zero =>
    refine ⟨o.length - 1, by omega, ?_, fun h => by omega⟩
    have e : ixN (nv o).length (((0 : Nat) : Int) - 1) = some (o.length - 1) := by
      rw [nv_len]
      unfold ixN
      rw [if_neg (by omega), if_pos (by omega)]
      congr 1
      omega
    unfold atI
    rw [e]
    exact gt _ _
  | succ a =>
    refine ⟨a, by omega, ?_, fun h => by omega⟩
    have e : (((a + 1 : Nat) : Int) - 1) = (a : Int) := by omega
    rw [e]
    exact atI_nat (gt a (by omega))
/-- values that are refused, all of them new since H -/
def OL (K : PySem.W.Frag) (H F : Hp) (n : Nat) (xs : List V) : Prop := ∀ v, v ∈ xs → V8 K F n v ∧ ∀ a, v = .ref a → H a = none
theorem OL.same {K : PySem.W.Frag} {H F F' : Hp} {n : Nat} {xs : List V} (s : Same F F') (h : OL K H F n xs) : OL K H F' n xs := fun v hv => ⟨(h v hv).1.same s, (h v hv).2⟩
theorem paired_at {α β : Type} {R : α → β → Prop} {as : List α} {bs : List β} (h : as.length = bs.length) (f : ∀ (j : Nat) x y, as[j]? = some x → bs[j]? = some y → R x y) : Paired R as bs := paired_ix h f
/-- place and element -/
def enD (o : List Nat) : List (Key × V) := o.zipIdx.map fun q : Nat × Nat => ((Sum.inl (q.2 : Int) : Key), V.int (q.1 : Int))
theorem enD_at {o : List Nat} {j a : Nat} (h : o[j]? = some a) : (enD o)[j]? = some (Sum.inl (j : Int), .int (a : Int)) := by
  unfold enD
  rw [List.getElem?_map, List.getElem?_zipIdx, h]
  simp
theorem enD_len (o : List Nat) : (enD o).length = o.length := by unfold enD; rw [List.length_map, List.length_zipIdx]
theorem enD_all {o : List Nat} {m : Nat} (h : ∀ x, x ∈ o → x < m) (hl : o.length ≤ m) : ∀ kv, kv ∈ enD o → ∃ j a : Nat, kv = (Sum.inl (j : Int), .int (a : Int)) ∧ j < m ∧ a < m := fun kv hkv => by
  obtain ⟨⟨a, j⟩, hq, rfl⟩ := List.mem_map.mp hkv
  have hj := List.mem_zipIdx hq
  have ha := List.fst_mem_of_mem_zipIdx hq
  exact ⟨j, a, rfl, by omega, h _ ha⟩
/-- a dict of small numbers -/
theorem kvs_ok {H : Hp} : ∀ {kvs : List (Key × V)}, (∀ kv, kv ∈ kvs → ∃ j a : Nat, kv = (Sum.inl (j : Int), .int (a : Int)) ∧ j < 17 ∧ a < 17) → ∃ ds, DqKv H kvs ds ∧ PyData.leavesShortKv 110 ds = true ∧ PyData.showableKv ds = true ∧ PyData.depthKv ds ≤ 0 ∧ PyData.weightKv ds ≤ kvs.length * 20
  | [], _ => ⟨[], .nil, rfl, rfl, Nat.le_refl _, Nat.zero_le _⟩
  | (k, v) :: r, h => by
    obtain ⟨j, a, e, hj, ha⟩ := h (k, v) List.mem_cons_self
    obtain ⟨ds, g1, g2, g3, g4, g5⟩ := kvs_ok (kvs := r) fun u hu => h u (List.mem_cons_of_mem _ hu)
    cases e
    have all : ∀ i : Fin 17, PyData.leavesShort 110 (.int ((i.val : Nat) : Int)) = true ∧ PyData.showable (.int ((i.val : Nat) : Int)) = true ∧ PyData.weight (.int ((i.val : Nat) : Int)) ≤ 9 := by decide +kernel
    obtain ⟨j1, j2, j3⟩ := all ⟨j, hj⟩
    obtain ⟨a1, a2, a3⟩ := all ⟨a, ha⟩
    dsimp only at j1 j2 j3 a1 a2 a3
    refine ⟨(kD (Sum.inl (j : Int)), .int (a : Int)) :: ds, .cons (.int _) g1, ?_, ?_, ?_, ?_⟩
    · show (PyData.leavesShort 110 (.int (j : Int)) && PyData.leavesShort 110 (.int (a : Int)) && PyData.leavesShortKv 110 ds) = true
      rw [j1, a1, g2]; rfl
    · show (PyData.showable (.int (j : Int)) && PyData.showable (.int (a : Int)) && PyData.showableKv ds) = true
      rw [j2, a2, g3]; rfl
    · show max (max (PyData.depth (.int (j : Int))) (PyData.depth (.int (a : Int)))) (PyData.depthKv ds) ≤ 0
      have e0 : PyData.depth (.int (j : Int)) = 0 := rfl
      have e1 : PyData.depth (.int (a : Int)) = 0 := rfl
      omega
    · show PyData.weight (.int (j : Int)) + PyData.weight (.int (a : Int)) + 2 + PyData.weightKv ds ≤ _
      simp only [List.length_cons, Nat.succ_mul]; omega
theorem dict_ok {H : Hp} {a : Addr} {kvs : List (Key × V)} (e : H a = some (.dK kvs)) (l : kvs.length ≤ 16) (h : ∀ kv, kv ∈ kvs → ∃ j a : Nat, kv = (Sum.inl (j : Int), .int (a : Int)) ∧ j < 17 ∧ a < 17) : ∃ d, Dq H (.ref a) d ∧ OkD 1 1700 d := by
  obtain ⟨ds, g1, g2, g3, g4, g5⟩ := kvs_ok (H := H) h
  exact ⟨.dict ds, .dct e g1, ⟨by simpa only [PyData.leavesShort] using g2, by simpa only [PyData.showable] using g3, by simp only [PyData.depth]; omega, by simp only [PyData.weight]; omega⟩⟩
theorem rep_one {α : Type} (x : α) : ∀ m : Nat, (List.replicate m [x]).flatten = List.replicate m x
  | 0 => rfl
  | m + 1 => by rw [List.replicate_succ, List.flatten_cons, rep_one x m, List.replicate_succ]; rfl
theorem nums_pw (n : Nat) : (nums n).Pairwise (· ≤ ·) := by
  unfold nums
  exact List.pairwise_map.mpr (List.pairwise_lt_range.imp fun h => Int.ofNat_le.mpr (Nat.le_of_lt h))
/-- an entry: as an item, as data; that of the place itself only where it is alone -/
structure Ent (K : PySem.W.Frag) (F : Hp) (o : List Nat) (a : Nat) (e : V) : Prop where
  it : It8 F e
  own : ∀ h : a < o.length, e = .int ((o[a] : Nat) : Int) → o.length = 1
theorem It8.dp {K : PySem.W.Frag} {H : Hp} {v : V} (h : It8 H v) : ∃ d, Dp K H v d ∧ SeqAt.shaped d = true ∧ ∀ i, v = .int i → d = .int i := by
  cases h with
  | int h => exact ⟨_, .int _, rfl, fun i e => by cases e; rfl⟩
  | non => exact ⟨_, .non, by decide +kernel, fun i e => nomatch e⟩
  | bl b => exact ⟨_, .bl b, by cases b <;> decide +kernel, fun i e => nomatch e⟩
  | str => exact ⟨_, .str _, by decide +kernel, fun i e => nomatch e⟩
  | @lst a ws h1 h2 h3 =>
    refine ⟨.list (iD (ws.map fun x : Nat => (x : Int))), .lst (SqL.of h1) ?_, iD_shaped _, fun i e => nomatch e⟩
    rw [nv_int]
    exact dp_ints _
section
variable {P : Program} {w : World} {K : PySem.W.Frag} {mg : Str → Option Value} {base : Heap} {f g : Addr} {fd gd : FuncData}
theorem scInv : FnScope nInv ["box", "order"] (defScope sInv) := ⟨rfl, rfl, rfl, by decide +kernel, rfl, by decide +kernel, by decide +kernel⟩
theorem ok_inv (F : Fun K "_law_invalid" "_law_invalid" sInv f fd) (M : Mn mg) (mSo : mg "sorted" = none) (G : FnOk P w K mg base CX0 1 g gd ["box", "size"] spTake) (bG : Binds K gd ["box", "size"] []) (kG : PySem.W.keepIn K (.ref g) = true) (mG : mg "_law_take" = some (.ref g)) :
    FnOk P w K mg base CX0 2 f fd ["box", "order"] (spInv K) := by
  refine F.ok scInv (fun vs H Q E h => ?_) (fun cdv A outer s H vs Q E hr h => ?_)
  · obtain ⟨p, l, o, n, rfl, _⟩ := h
    rfl
  obtain ⟨p, l, o, n, rfl, hb, hl, lp, pm, n1, n16, q⟩ := h
  have hu := hr.units
  have hu65 : (A.deeper (PyProof.Rows.envOfC "_law_invalid" (defScope sInv) s.heap.objs.size f cdv)).units + 65 < cLine := by
    have := hr.in1.units
    exact this
  refine ⟨_, (pss_cons (ps_asg (pe_tup (pa_cons (pe_call G hr (by rfl) mG kG bG .nil pass0 (pa_cons (pv 0) (pa_cons (pe_callB (lenl (K := K) rfl) (by rfl) M.len PySem.boot_len (pa_cons (pv 1) pa_nil)) pa_nil))) (pa_cons (pe_callB (lenl (K := K) rfl) (by rfl) M.len PySem.boot_len (pa_cons (pv 1) pa_nil)) pa_nil))) (pg_tup rfl (pgs_cons (pg_name (i := 2) scInv.nd rfl (Or.inl rfl)) (pgs_cons (pg_name (i := 3) scInv.nd rfl (Or.inr rfl)) pgs_nil)))) (pss_cons (ps_cut (ps_set (i := 4) scInv.nd rfl (Or.inl rfl) (pe_ix ix_list (pe_lst (pa_cons (pv 3) (pa_cons (pe_un un_neg pe_int) (pa_cons pe_non (pa_cons pe_str (pa_cons (pe_lst (pa_cons pe_int pa_nil)) (pa_cons (pe_ix ix_list (pv 1) (pe_op op_sub (pv 2) pe_int) (fun _ _ => rfl)) (pa_cons (pe_cmpR op_eq (pe_ix ix_list (pv 1) (pv 2) (fun _ _ => rfl)) pe_int (nomark _)) (pa_cons (pe_op op_add (pv 3) (pe_call G hr (by rfl) mG kG bG .nil pass0 (pa_cons (pv 0) (pa_cons (pe_op op_pow pe_int pe_int) pa_nil)))) pa_nil))))))))) (pe_call G hr (by rfl) mG kG bG .nil pass0 (pa_cons (pv 0) (pa_cons pe_int pa_nil))) (fun _ _ => rfl)))) (pss_cons (ps_set (i := 5) scInv.nd rfl (Or.inl rfl) (pe_lst (pa_cons (pe_op op_cat (pe_slice sl_list (pv 1) po_none (po_some (pv 2))) (pe_slice sl_list (pv 1) (po_some (pe_op op_add (pv 2) pe_int)) po_none)) (pa_cons (pe_op op_cat (pv 1) (pe_lst (pa_cons (pe_ix ix_list (pv 1) (pv 2) (fun _ _ => rfl)) pa_nil))) (pa_cons pe_non (pa_cons pe_dnewK (pa_cons pe_str (pa_cons (pe_lst (pa_cons (pv 1) pa_nil)) pa_nil)))))))) (pss_cons (ps_set (i := 5) scInv.nd rfl (Or.inl rfl) (pe_op op_cat (pv 5) (pe_lst (pa_cons pe_int (pa_cons pe_bl (pa_cons (pe_tup pa_nil) (pa_cons (pe_callTy (call_dictP rfl) (by rfl) M.dict (by decide +kernel) (pa_cons (pe_listEnum (K := K) rfl rfl (by rfl) M.list (by rfl) M.enum (pa_cons (pv 1) pa_nil)) pa_nil)) (pa_cons (pe_callTy call_tuple_of (by rfl) M.tuple (by decide +kernel) (pa_cons (pe_slice sl_list (pv 1) (po_some pe_int) po_none) pa_nil)) (pa_cons (pe_callTy call_tuple_of (by rfl) M.tuple (by decide +kernel) (pa_cons (pe_op op_cat (pv 1) (pe_lst (pa_cons (pe_ix ix_list (pv 1) (pv 2) (fun _ _ => rfl)) pa_nil))) pa_nil)) pa_nil))))))))) (pss_cons (ps_setLc (i := 6) (own := [("place", 9)]) (g := gName 9) (tt := tYes) rfl scInv.nd rfl rfl (sw_true rfl rfl rfl (by decide +kernel)) (pi_list (pv 1)) (blkOk_by (N := nInv) (sc := defScope sInv) (by decide +kernel)) (fun _ _ _ _ _ => pg_name (i := 9) scInv.nd rfl (Or.inl rfl)) (fun _ _ _ _ _ => pts_nil) (fun _ _ _ _ _ => (pe_call G hr (by rfl) mG kG bG .nil pass0 (pa_cons (pv 0) (pa_cons (pv 3) pa_nil))))) (pss_cons (ps_cut (ps_if (pt_cmpR (op_eqD hu) (pe_callB cr_sorted (by rfl) mSo (by decide +kernel) (pa_cons (pv 6) pa_nil)) (pe_listRg rfl (by rfl) M.list (prg_1 (by rfl) M.range (pv 3))) (nomark _)) (pss_one (ps_set (i := 6) scInv.nd rfl (Or.inl rfl) (pe_op op_rep (pe_lst (pa_cons (pe_ix ix_list (pv 1) (pv 2) (fun _ _ => rfl)) pa_nil)) (pe_callB (call_max2 rfl) (by rfl) M.max (by decide +kernel) (pa_cons pe_int (pa_cons (pv 3) pa_nil)))))) pss_nil)) (pss_cons (ps_set (i := 5) scInv.nd rfl (Or.inl rfl) (pe_op op_cat (pv 5) (pe_lst (pa_cons (pe_op op_rep (pe_lst (pa_cons (pe_ix ix_list (pv 1) (pv 2) (fun _ _ => rfl)) pa_nil)) (pe_callB (call_max2 rfl) (by rfl) M.max (by decide +kernel) (pa_cons pe_int (pa_cons (pv 3) pa_nil)))) (pa_cons (pv 6) (pa_cons (pe_callTy call_tuple_of (by rfl) M.tuple (by decide +kernel) (pa_cons (pv 6) pa_nil)) (pa_cons (pe_op op_rep (pe_lst (pa_cons (pv 4) pa_nil)) (pe_callB (call_max2 rfl) (by rfl) M.max (by decide +kernel) (pa_cons pe_int (pa_cons (pv 3) pa_nil)))) pa_nil))))))) (pss_cons (ps_set (i := 7) scInv.nd rfl (Or.inl rfl) (pe_call G hr (by rfl) mG kG bG .nil pass0 (pa_cons (pv 0) (pa_cons pe_int pa_nil)))) (pss_cons (ps_if (pt_cmpR op_gt (pv 7) pe_int (nomark _)) (pss_cons (ps_cut (ps_if (pt_mo (pw_and (pt_cmpR (op_inD hu65) (pv 4) (pv 1) (by rfl)) (pw_and (pt_not (pt_val (pe_callB call_isi (by rfl) M.isin (by decide +kernel) (pa_cons (pv 4) (pa_cons (pe_bltn (v := .ty "bool") (by rfl) M.bool (by decide +kernel) rfl) pa_nil))))) (pw_and1 (pt_cmpR op_eq (pv 3) pe_int (nomark _))))).pt) (pss_one (ps_set (i := 4) scInv.nd rfl (Or.inl rfl) pe_int)) pss_nil)) (pss_cons (ps_set (i := 8) scInv.nd rfl (Or.inl rfl) (pe_op op_cat (pe_op op_cat (pe_slice sl_list (pv 1) po_none (po_some (pv 2))) (pe_lst (pa_cons (pv 4) pa_nil))) (pe_slice sl_list (pv 1) (po_some (pe_op op_add (pv 2) pe_int)) po_none))) (pss_one (ps_ret (pe_ix ix_list (pe_lst (pa_cons (pv 8) (pa_cons (pe_callTy call_tuple_of (by rfl) M.tuple (by decide +kernel) (pa_cons (pv 8) pa_nil)) pa_nil))) (pe_op op_mod (pv 7) pe_int) (fun _ _ => rfl)))))) pss_nil) (pss_one (ps_ret (pe_ix ix_list (pv 5) (pv 7) (fun _ _ => rfl))))))))))))), ?_⟩
  have lo : o.length = n := by rw [pm.length_eq, List.length_range]
  have om : ∀ x, x ∈ o → x < n := fun x hx => List.mem_range.mp (pm.mem_iff.mp hx)
  have at0 := fun {J : Hp} (x : Sx p H J) => x _ _ lp hl
  refine ⟨_, rfl, _, rfl, l, _, rfl, .inl (SqL.of hl), p, _, rfl, hb, by rw [nv_len]; omega, by rw [nv_len]; omega, fun at' H1 a0 a1 b1 x1 => ⟨_, rfl, l, _, rfl, .inl (SqL.of (at0 x1)), szl _ (by simp), fun t ht => ?_⟩⟩
  rw [nv_len, lo] at a1 ⊢
  obtain ⟨at', rfl⟩ := Int.eq_ofNat_of_zero_le a0
  have hat : at' < o.length := by omega
  have b2 := b1.new (o := .tup [.int (at' : Int), .int (n : Int)]) ht
  have x2 := x1.trans (Sx.new (o := .tup [.int (at' : Int), .int (n : Int)]) ht)
  refine ⟨t, _, rfl, SqT.of upd_same, rfl, _, _, rfl, _, _, rfl, rfl, ?_⟩
  generalize upd H1 t (.tup [.int (at' : Int), .int (n : Int)]) = J0 at b2 x2 ⊢
  clear b1 x1 ht a0
  have oa : ∀ {J : Hp}, atI (nv o) (at' : Int) = some (.int ((o[at'] : Nat) : Int)) := fun {J} => atI_nat (by unfold nv; rw [List.getElem?_map, List.getElem?_eq_getElem hat]; rfl)
  have small : ∀ x, x ∈ nv o → ∀ F : Hp, It8 F x := fun x hx F => by
    obtain ⟨y, hy, rfl⟩ := List.mem_map.mp hx
    exact .int (by show y < 2 ^ 98; exact Nat.lt_of_lt_of_le (om y hy) (Nat.le_trans n16 (by decide)))
  -- entry
  refine ⟨fun σ G => ∃ e, Bx G p ∧ Sx p H G ∧ Ent K (mn p G) o at' e ∧ σ = [some (.ref p), some (.ref l), some (.int (at' : Int)), some (.int (n : Int)), some e, none, none, none, none, none], ?_, ?_⟩
  · refine ⟨_, rfl, _, rfl, szl _ (by simp), fun z hz => ?_⟩
    have s1 := Sx.new (p := p) (o := .lst [.int 0]) hz
    have b3 := b2.new (o := .lst [.int 0]) hz
    have nz := b2.ne hz
    have ez : (upd J0 z (.lst [.int 0])) z = some (.lst (nv [0])) := upd_same
    have x3 := x2.trans s1
    generalize upd J0 z (.lst [.int 0]) = J1 at ez b3 x3 ⊢
    obtain ⟨jp, hjp, ejp, ojp⟩ := prev_at hat
    refine ⟨_, rfl, _, rfl, _, _, rfl, rfl, l, _, _, _, rfl, rfl, SqL.of (at0 x3), ejp, _, rfl, _, rfl, l, _, _, _, rfl, rfl, SqL.of (at0 x3), oa (J := J1), rfl, ?_⟩
    refine ⟨_, rfl, _, rfl, _, _, rfl, rfl, ⟨by decide, by decide, by decide⟩, p, _, rfl, b3, by decide, by decide, fun r J2 ra rb b4 x4 => ?_⟩
    refine ⟨_, _, rfl, rfl, szl _ (by simp), fun le hle => ?_⟩
    have t29 : (10 : Int) ^ Int.toNat 29 = 100000000000000000000000000000 := by decide
    rw [t29] at rb
    have nle := b4.ne hle
    have hat2 := om _ (List.getElem_mem hat)
    have hjp2 := om _ (List.getElem_mem hjp)
    refine ⟨_, rfl, p, 8, rfl, b4.new hle, by decide, by decide, fun k J3 ka kb b6 x6 => ?_⟩
    have xz : Sx p J1 J3 := (x4.trans (Sx.new hle)).trans x6
    obtain ⟨_, e, _, he, _, ate⟩ := pick (xs := [V.int (n : Int), .int (-1), .non, .str (Str.ofString "0"), .ref z, .int ((o[jp] : Nat) : Int), .bl (decide (V.int ((o[at'] : Nat) : Int) = V.int 1)), .int ((n : Int) + r)]) (i := k) ka kb
    refine ⟨le, _, _, e, rfl, rfl, SqL.of (x6 _ _ nle upd_same), ate, e, b6, x3.trans xz, ?_, rfl⟩
    have he : e = .int (n : Int) ∨ e = .int (-1) ∨ e = .non ∨ e = .str (Str.ofString "0") ∨ e = .ref z ∨ e = .int ((o[jp] : Nat) : Int) ∨ e = .bl (decide (V.int ((o[at'] : Nat) : Int) = V.int 1)) ∨ e = .int ((n : Int) + r) := by simpa only [List.mem_cons, List.not_mem_nil, or_false] using he
    rcases he with rfl | rfl | rfl | rfl | rfl | rfl | rfl | rfl
    · exact ⟨.int (by omega), fun h e => by have := V.int.inj e; omega⟩
    · exact ⟨.int (by decide), fun h e => by have := V.int.inj e; omega⟩
    · exact ⟨.non, fun h e => nomatch e⟩
    · exact ⟨.str, fun h e => nomatch e⟩
    · exact ⟨.lst (mn_sx _ _ nz (xz _ _ nz ez)) (by decide) (by decide), fun h e => nomatch e⟩
    · refine ⟨.int (by omega), fun h e => ojp ?_⟩
      have e1 : o[jp] = o[at'] := by have := V.int.inj e; omega
      have nd : o.Nodup := pm.symm.nodup List.nodup_range
      have i1 := nd.idxOf_getElem jp hjp
      have i2 := nd.idxOf_getElem at' hat
      rw [e1] at i1
      exact i1.symm.trans i2
    · exact ⟨.bl _, fun h e => nomatch e⟩
    · exact ⟨.int (by omega), fun h e => by have := V.int.inj e; omega⟩
  rintro _ J ⟨e, bJ, xJ, hE, rfl⟩
  clear b2 x2
  -- the first others
  have ln := nv_len o
  have ctk : (o.take at').length = at' := by rw [List.length_take]; omega
  have cdr : (o.drop (at' + 1)).length = n - (at' + 1) := by rw [List.length_drop]; omega
  have ea : (at' : Int) + 1 = ((at' + 1 : Nat) : Int) := by omega
  refine ⟨_, rfl, _, rfl, _, rfl, l, nv o, rfl, SqL.of (at0 xJ), fun u1 h1 => ⟨_, rfl, _, rfl, _, _, rfl, rfl, _, rfl, l, nv o, rfl, SqL.of (at0 (xJ.trans (Sx.new h1))), fun u2 h2 => ?_⟩⟩
  rw [ea, cut_to, cut_from] at *
  have s1 := Same.new h1 (.lst (nv (o.take at')))
  have s2 := Same.new h2 (.lst (nv (o.drop (at' + 1))))
  refine ⟨u1, u2, _, _, rfl, rfl, s2 _ _ upd_same, upd_same, szl _ (by rw [nv_len, nv_len]; omega), fun c1 hc1 => ?_⟩
  have s3 := Same.new hc1 (.lst (nv (o.take at') ++ nv (o.drop (at' + 1))))
  have s13 := s1.trans (s2.trans s3)
  refine ⟨_, rfl, _, rfl, _, rfl, l, nv o, _, _, rfl, rfl, SqL.of (at0 (xJ.trans (Sx.of s13))), oa (J := J), szl _ (by simp), fun u3 h3 => ?_⟩
  have s4 := Same.new h3 (.lst [.int ((o[at'] : Nat) : Int)])
  refine ⟨l, u3, _, _, rfl, rfl, s4 _ _ (at0 (xJ.trans (Sx.of s13))), upd_same, szl _ (by rw [nv_len]; simp; omega), fun c2 hc2 => fun d0 hd0 => ⟨_, rfl, szl _ (by simp), fun c3 hc3 => ⟨szl _ (by simp), fun L1 hL1 => ?_⟩⟩⟩
  have s5 := Same.new hc2 (.lst (nv o ++ [.int ((o[at'] : Nat) : Int)]))
  have s6 := Same.new hd0 (.dK [])
  have s7 := Same.new hc3 (.lst [.ref l])
  have s8 := Same.new hL1 (.lst [.ref c1, .ref c2, .non, .ref d0, .str (Str.ofString "0"), .ref c3])
  have w8 := s8
  have w7 := s7.trans w8
  have w6 := s6.trans w7
  have w5 := s5.trans w6
  have w4 := s4.trans w5
  have wAll := s13.trans w4
  have bAll := bJ.same wAll
  have e1 := w4 _ _ (upd_same (a := c1) (o := .lst (nv (o.take at') ++ nv (o.drop (at' + 1)))))
  have e2 := w6 _ _ (upd_same (a := c2) (o := .lst (nv o ++ [.int ((o[at'] : Nat) : Int)])))
  have e3 := w7 _ _ (upd_same (a := d0) (o := .dK []))
  have e4 := w8 _ _ (upd_same (a := c3) (o := .lst [.ref l]))
  have b13 := bJ.same s13
  have b3' := (bJ.same s1).same s2
  have nc1 := b3'.ne hc1
  have nc2 := (b13.same s4).ne hc2
  have nd0 := ((b13.same s4).same s5).ne hd0
  have nc3 := (((b13.same s4).same s5).same s6).ne hc3
  have f1 : H c1 = none := (xJ.trans (Sx.of (s1.trans s2))).free b3' hc1
  have f2 : H c2 = none := (xJ.trans (Sx.of (s13.trans s4))).free (b13.same s4) hc2
  have f3 : H d0 = none := (xJ.trans (Sx.of (s13.trans (s4.trans s5)))).free ((b13.same s4).same s5) hd0
  have f4 : H c3 = none := (xJ.trans (Sx.of (s13.trans (s4.trans (s5.trans s6))))).free (((b13.same s4).same s5).same s6) hc3
  have nlc3 : l ≠ c3 := fun z => by rw [z, f4] at hl; cases hl
  have eL1 := (upd_same (H := upd (upd (upd (upd (upd (upd (upd J u1 (.lst (nv (o.take at')))) u2 (.lst (nv (o.drop (at' + 1))))) c1 (.lst (nv (o.take at') ++ nv (o.drop (at' + 1))))) u3 (.lst [.int ((o[at'] : Nat) : Int)])) c2 (.lst (nv o ++ [.int ((o[at'] : Nat) : Int)]))) d0 (.dK [])) c3 (.lst [.ref l])) (a := L1) (o := .lst [.ref c1, .ref c2, .non, .ref d0, .str (Str.ofString "0"), .ref c3]))
  generalize upd (upd (upd (upd (upd (upd (upd (upd J u1 (.lst (nv (o.take at')))) u2 (.lst (nv (o.drop (at' + 1))))) c1 (.lst (nv (o.take at') ++ nv (o.drop (at' + 1))))) u3 (.lst [.int ((o[at'] : Nat) : Int)])) c2 (.lst (nv o ++ [.int ((o[at'] : Nat) : Int)]))) d0 (.dK [])) c3 (.lst [.ref l])) L1 (.lst [.ref c1, .ref c2, .non, .ref d0, .str (Str.ofString "0"), .ref c3]) = A1 at wAll bAll e1 e2 e3 e4 eL1 ⊢
  have xA := xJ.trans (Sx.of wAll)
  have hEA := hE
  have itn : ∀ {F : Hp} {ws : List Nat}, (∀ x, x ∈ ws → x ∈ o) → ∀ v, v ∈ nv ws → It8 F v := fun {F ws} h v hv => by
    obtain ⟨x, hx, rfl⟩ := List.mem_map.mp hv
    exact small _ (List.mem_map.mpr ⟨x, h x hx, rfl⟩) F
  have oat8 : ∀ F : Hp, It8 F (.int ((o[at'] : Nat) : Int)) := fun F => small _ (List.mem_map.mpr ⟨_, List.getElem_mem hat, rfl⟩) F
  have ol1 : OL K H (mn p A1) n [.ref c1, .ref c2, .non, .ref d0, .str (Str.ofString "0"), .ref c3] := fun v hv => by
    simp only [List.mem_cons, List.not_mem_nil, or_false] at hv
    rcases hv with rfl | rfl | rfl | rfl | rfl | rfl
    · refine ⟨.li (mn_sx _ _ nc1 e1) (by rw [List.length_append, nv_len, nv_len]; omega) (fun x hx => ?_) (vld_len (by rw [List.length_append, nv_len, nv_len]; omega)), fun a e => by cases e; exact f1⟩
      rcases List.mem_append.mp hx with h | h
      · exact itn (fun x h => List.mem_of_mem_take h) _ h
      · exact itn (fun x h => List.mem_of_mem_drop h) _ h
    · refine ⟨.li (mn_sx _ _ nc2 e2) (by rw [List.length_append, nv_len]; simp; omega) (fun x hx => ?_) (vld_len (by rw [List.length_append, nv_len]; simp; omega)), fun a e => by cases e; exact f2⟩
      rcases List.mem_append.mp hx with h | h
      · exact itn (fun x h => h) _ h
      · rw [List.mem_singleton.mp h]; exact oat8 _
    · exact ⟨.na ⟨_, .base .non, rfl⟩ .non (OkD.none.mono (by omega) (by omega)) (.base .non) rfl, fun a e => nomatch e⟩
    · obtain ⟨d, g1, g2⟩ := dict_ok (H := mn p A1) (a := d0) (mn_sx _ _ nd0 e3) (by simp) (fun _ z => nomatch z)
      exact ⟨.na ⟨_, .base (.dK (mn_sx _ _ nd0 e3)), rfl⟩ g1 g2 (.base (.dK (mn_sx _ _ nd0 e3))) rfl, fun a e => by cases e; exact f3⟩
    · exact ⟨.na ⟨_, .base (.str _), rfl⟩ (.str _) ((OkD.str (n := 1) (by unfold Ss; decide +kernel)).mono (by omega) (by omega)) (.base (.str _)) rfl, fun a e => nomatch e⟩
    · refine ⟨.li (mn_sx _ _ nc3 e4) (by simp) (fun x hx => ?_) (vld_ref (List.mem_singleton.mpr rfl)), fun a e => by cases e; exact f4⟩
      rw [List.mem_singleton.mp hx]
      exact .lst (mn_sx _ _ nlc3 (mn_sx _ _ lp (at0 xA))) (by omega) (fun x hx => Nat.lt_of_lt_of_le (om x hx) (by omega))
  have hE1 : Ent K (mn p A1) o at' e := ⟨hE.it.same (mnp (Sx.of wAll)), hE.own⟩
  clear s1 s2 s3 s4 s5 s6 s7 s8 w8 w7 w6 w5 w4 wAll e1 e2 e3 e4 b13 b3' nc1 nc2 nd0 nc3 f1 f2 f3 f4 nlc3 h1 h2 h3 hc1 hc2 hd0 hc3 hL1 s13 hE hEA bJ xJ
  have lx1 : [V.ref c1, .ref c2, .non, .ref d0, .str (Str.ofString "0"), .ref c3].length = 6 := rfl
  generalize [V.ref c1, .ref c2, .non, .ref d0, .str (Str.ofString "0"), .ref c3] = xs1 at ol1 eL1 lx1
  -- six more
  refine ⟨_, rfl, szl _ (by simp), fun t0 ht0 => ⟨_, rfl, l, nv o, rfl, ?_⟩⟩
  have q1 := Same.new ht0 (.tup [])
  have b1 := bAll.same q1
  have x1 := xA.trans (Sx.of q1)
  refine ⟨SqL.of (at0 x1), fun pp ts A2 lts hpp q2 epp hts => ⟨pp, ts, enD o, rfl, SqL.of epp, paired_ix (by rw [lts, nv_len, enD_len]) (fun j T kv hT hkv => ?_), fun d1 hd1 => ?_⟩⟩
  · have hj : j < o.length := by rw [← enD_len o]; exact (List.getElem?_eq_some_iff.mp hkv).1
    have hx : (nv o)[j]? = some (.int ((o[j] : Nat) : Int)) := by unfold nv; rw [List.getElem?_map, List.getElem?_eq_getElem hj]; rfl
    obtain ⟨T', e1, _, _, e2⟩ := hts j _ hx
    rw [hT] at e1
    cases e1
    rw [enD_at (List.getElem?_eq_getElem hj)] at hkv
    cases hkv
    exact SqT.of e2
  have hkv := enD_all (m := 17) (fun x hx => Nat.lt_of_lt_of_le (om x hx) (by omega)) (show o.length ≤ 17 by omega)
  have hmk := mergeK_all (p := fun kv => ∃ j a : Nat, kv = (Sum.inl (j : Int), .int (a : Int)) ∧ j < 17 ∧ a < 17) (kvs := []) hkv (fun _ z => nomatch z)
  have lmk : (mergeK [] (enD o)).length ≤ 16 := by have := hmk.2; rw [enD_len] at this; simp at this; omega
  generalize mergeK [] (enD o) = mk at hmk lmk ⊢
  have b2 := b1.same q2
  have q3 := Same.new hd1 (.dK mk)
  have b3 := b2.same q3
  have q13 := q1.trans (q2.trans q3)
  have ec1 : cutV (nv o) (some 1) none = nv (o.drop 1) := cut_from o 1
  refine ⟨_, rfl, 1, rfl, l, nv o, rfl, SqL.of (at0 (xA.trans (Sx.of q13))), fun u4 h4 => ?_⟩
  rw [ec1]
  refine ⟨u4, _, rfl, .inl ⟨SqL.of upd_same, fun t1 ht1 => ?_⟩⟩
  have q4 := Same.new h4 (.lst (nv (o.drop 1)))
  have q5 := Same.new ht1 (.tup (nv (o.drop 1)))
  have b4 := b3.same q4
  have b5 := b4.same q5
  have q15 := q13.trans (q4.trans q5)
  refine ⟨_, rfl, _, rfl, _, rfl, l, nv o, _, _, rfl, rfl, SqL.of (at0 (xA.trans (Sx.of q15))), oa (J := A1), szl _ (by simp), fun u5 h5 => ?_⟩
  have q6 := Same.new h5 (.lst [.int ((o[at'] : Nat) : Int)])
  have b6 := b5.same q6
  refine ⟨l, u5, _, _, rfl, rfl, q6 _ _ (at0 (xA.trans (Sx.of q15))), upd_same, szl _ (by rw [nv_len]; simp; omega), fun u6 h6 => ⟨u6, _, rfl, .inl ⟨SqL.of upd_same, fun t2 ht2 => ⟨szl _ (by simp), fun La hLa => ?_⟩⟩⟩⟩
  have q7 := Same.new h6 (.lst (nv o ++ [.int ((o[at'] : Nat) : Int)]))
  have b7 := b6.same q7
  have q8 := Same.new ht2 (.tup (nv o ++ [.int ((o[at'] : Nat) : Int)]))
  have b8 := b7.same q8
  have q9 := Same.new hLa (.lst [.int 7, .bl true, .ref t0, .ref d1, .ref t1, .ref t2])
  have q19 := q15.trans (q6.trans (q7.trans (q8.trans q9)))
  refine ⟨L1, La, _, _, rfl, rfl, q19 _ _ eL1, upd_same, szl _ (by rw [lx1]; simp), fun L2 hL2 => ?_⟩
  have q10 := Same.new hL2 (.lst (xs1 ++ [.int 7, .bl true, .ref t0, .ref d1, .ref t1, .ref t2]))
  have w9 := q9.trans q10
  have w8 := q8.trans w9
  have w7 := q7.trans w8
  have w6 := q6.trans w7
  have w5 := q5.trans w6
  have w4 := q4.trans w5
  have w3 := q3.trans w4
  have w2 := q2.trans w3
  have wAll := q19.trans q10
  have e1 := w2 _ _ (upd_same (H := A1) (a := t0) (o := .tup []))
  have e2 := w4 _ _ (upd_same (H := A2) (a := d1) (o := .dK mk))
  have e3 := w6 _ _ (upd_same (a := t1) (o := .tup (nv (o.drop 1))))
  have e4 := w9 _ _ (upd_same (a := t2) (o := .tup (nv o ++ [.int ((o[at'] : Nat) : Int)])))
  have n1' := bAll.ne ht0
  have n2' := b2.ne hd1
  have n3' := b4.ne ht1
  have n4' := b7.ne ht2
  have f1 : H t0 = none := xA.free bAll ht0
  have f2 : H d1 = none := (xA.trans (Sx.of (q1.trans q2))).free b2 hd1
  have f3 : H t1 = none := (xA.trans (Sx.of (q13.trans q4))).free b4 ht1
  have f4 : H t2 = none := (xA.trans (Sx.of (q15.trans (q6.trans q7)))).free b7 ht2
  have bAl2 := bAll.same wAll
  have nL2 : L2 ≠ p := (b8.same q9).ne hL2
  have xA2 := xA.trans (Sx.of wAll)
  have eL2 := (upd_same (H := upd (upd (upd (upd (upd (upd (upd A2 d1 (.dK mk)) u4 (.lst (nv (o.drop 1)))) t1 (.tup (nv (o.drop 1)))) u5 (.lst [.int ((o[at'] : Nat) : Int)])) u6 (.lst (nv o ++ [.int ((o[at'] : Nat) : Int)]))) t2 (.tup (nv o ++ [.int ((o[at'] : Nat) : Int)]))) La (.lst [.int 7, .bl true, .ref t0, .ref d1, .ref t1, .ref t2])) (a := L2) (o := .lst (xs1 ++ [.int 7, .bl true, .ref t0, .ref d1, .ref t1, .ref t2])))
  generalize upd (upd (upd (upd (upd (upd (upd (upd A2 d1 (.dK mk)) u4 (.lst (nv (o.drop 1)))) t1 (.tup (nv (o.drop 1)))) u5 (.lst [.int ((o[at'] : Nat) : Int)])) u6 (.lst (nv o ++ [.int ((o[at'] : Nat) : Int)]))) t2 (.tup (nv o ++ [.int ((o[at'] : Nat) : Int)]))) La (.lst [.int 7, .bl true, .ref t0, .ref d1, .ref t1, .ref t2])) L2 (.lst (xs1 ++ [.int 7, .bl true, .ref t0, .ref d1, .ref t1, .ref t2])) = A3 at wAll bAl2 xA2 e1 e2 e3 e4 eL2 ⊢
  have hE2 : Ent K (mn p A3) o at' e := ⟨hE1.it.same (mnp (Sx.of wAll)), hE1.own⟩
  have ol2 : OL K H (mn p A3) n (xs1 ++ [.int 7, .bl true, .ref t0, .ref d1, .ref t1, .ref t2]) := fun v hv => by
    rcases List.mem_append.mp hv with hv | hv
    · exact (ol1.same (mnp (Sx.of wAll))) v hv
    simp only [List.mem_cons, List.not_mem_nil, or_false] at hv
    rcases hv with rfl | rfl | rfl | rfl | rfl | rfl
    · exact ⟨.na ⟨_, .base (.int 7), rfl⟩ (.int 7) ((OkD.int (by decide)).mono (by omega) (by omega)) (.base (.int 7)) rfl, fun a e => nomatch e⟩
    · exact ⟨.na ⟨_, .base (.bl true), rfl⟩ (.bl true) ((OkD.bool true).mono (by omega) (by omega)) (.base (.bl true)) rfl, fun a e => nomatch e⟩
    · exact ⟨.tu (mn_sx _ _ n1' e1) (by simp) (fun x hx => nomatch hx) (vld_len (by simp; omega)), fun a e => by cases e; exact f1⟩
    · obtain ⟨d, g1, g2⟩ := dict_ok (H := mn p A3) (a := d1) (mn_sx _ _ n2' e2) lmk hmk.1
      exact ⟨.na ⟨_, .base (.dK (mn_sx _ _ n2' e2)), rfl⟩ g1 g2 (.base (.dK (mn_sx _ _ n2' e2))) rfl, fun a e => by cases e; exact f2⟩
    · exact ⟨.tu (mn_sx _ _ n3' e3) (by rw [nv_len, List.length_drop]; omega) (fun x hx => itn (fun x h => List.mem_of_mem_drop h) _ hx) (vld_len (by rw [nv_len, List.length_drop]; omega)), fun a e => by cases e; exact f3⟩
    · refine ⟨.tu (mn_sx _ _ n4' e4) (by rw [List.length_append, nv_len]; simp; omega) (fun x hx => ?_) (vld_len (by rw [List.length_append, nv_len]; simp; omega)), fun a e => by cases e; exact f4⟩
      rcases List.mem_append.mp hx with h | h
      · exact itn (fun x h => h) _ h
      · rw [List.mem_singleton.mp h]; exact oat8 _
  have lx2 : (xs1 ++ [V.int 7, .bl true, .ref t0, .ref d1, .ref t1, .ref t2]).length = 12 := by rw [List.length_append, lx1]; rfl
  clear q1 q2 q3 q4 q5 q6 q7 q8 q9 q10 w9 w8 w7 w6 w5 w4 w3 w2 wAll e1 e2 e3 e4 n1' n2' n3' n4' f1 f2 f3 f4 b1 b2 b3 b4 b5 b6 b7 b8 q13 q15 q19 ht0 hd1 h4 ht1 h5 h6 ht2 hLa hL2 hmk hkv lmk ol1 eL1 hE1 hts epp hpp lts x1 ec1 bAll xA
  generalize xs1 ++ [V.int 7, .bl true, .ref t0, .ref d1, .ref t1, .ref t2] = xs2 at ol2 eL2 lx2
  -- drawn
  refine ⟨_, rfl, l, rfl, ⟨_, SqL.of (at0 xA2)⟩, fun D hD => ?_⟩
  have nD := bAl2.ne hD
  have fD : H D = none := xA2.free bAl2 hD
  refine lc_it (walk_list (xs := nv o)) (fun i J => Bx J p ∧ Sx p A3 J ∧ ∃ ds : List Nat, J D = some (.lst (nv ds)) ∧ ds.length = i ∧ ∀ x, x ∈ ds → x < n) ⟨bAl2.new hD, Sx.new hD, [], upd_same, rfl, fun _ z => nomatch z⟩ (fun i J _ z => SqL.of (at0 (xA2.trans z.2.1))) ?_ ?_
  · rintro i y J1 J2 hi ⟨bJ, xJ, ds, eD, ld, hd⟩ ⟨rfl, hy⟩
    rw [nv_len, lo] at hi
    refine ⟨rfl, _, rfl, _, rfl, p, _, rfl, bJ, by omega, by omega, fun r J3 ra rb b3 x3 => ?_⟩
    obtain ⟨r, rfl⟩ := Int.eq_ofNat_of_zero_le ra
    refine ⟨_, x3 _ _ nD eD, by rw [nv_len, ld]; exact small1000 (by omega), b3.at_ne nD, fun b o' hbp e => ?_, ds ++ [r], by rw [upd_same]; unfold nv; rw [List.map_append]; rfl, by rw [List.length_append, ld]; rfl, fun x hx => ?_⟩
    · rw [upd_ne (ne_of_none e hD)]; exact x3 b o' hbp (xJ b o' hbp e)
    · rcases List.mem_append.mp hx with h | h
      · exact hd x h
      · rw [List.mem_singleton.mp h]; omega
  rintro J ⟨bJ, xJ, ds, eD, ld, hd⟩
  rw [nv_len, lo] at ld
  have xHJ := xA2.trans xJ
  -- if it is a numbering, another one
  refine ⟨fun σ G => ∃ dd xs, Bx G p ∧ Sx p J G ∧ dd ≠ p ∧ H dd = none ∧ G dd = some (.lst xs) ∧ xs.length ≤ 16 ∧ (∀ x, x ∈ xs → ∀ F, It8 F x) ∧ ¬ Vld n xs ∧ σ = [some (.ref p), some (.ref l), some (.int (at' : Int)), some (.int (n : Int)), some e, some (.ref L2), some (.ref dd), none, none, none], ?_, ?_⟩
  · refine ⟨_, rfl, D, ds.map (fun x : Nat => (x : Int)), rfl, SqL.of (by rw [← nv_int]; exact eD), by rw [List.length_map]; omega, fun ns' pS perm pw hpS => ?_⟩
    refine ⟨_, rfl, _, rfl, RgOk.of_le (by decide) (by omega) (by decide) (by omega), fun rg hrg => ?_⟩
    rw [rg_nums]
    have s1 := Same.new hpS (.lst (ns'.map V.int))
    have s2 := Same.new hrg (.lst ((nums n).map V.int))
    have s12 := s1.trans s2
    refine ⟨.list (iD ns'), .list (iD (nums n)), .lst (SqL.of (s2 _ _ upd_same)) (dp_ints _), .lst (SqL.of upd_same) (dp_ints _), iD_shaped _, iD_shaped _, _, rfl, ?_⟩
    rw [iD_eqv]
    refine ite2 (fun c => ?_) (fun c => ?_)
    · have sA := xHJ.trans (Sx.of s12)
      refine ⟨_, rfl, _, rfl, l, nv o, _, _, rfl, rfl, SqL.of (at0 sA), oa (J := J), szl _ (by simp), fun r1 h1 => ⟨_, rfl, _, _, rfl, ?_⟩⟩
      have hm : ∃ M : Nat, (if (n : Int) > 2 then (n : Int) else 2) = (M : Int) ∧ 2 ≤ M ∧ M ≤ 16 := by
        by_cases h : (n : Int) > 2
        · exact ⟨n, by rw [if_pos h], by omega, n16⟩
        · exact ⟨2, by rw [if_neg h]; rfl, by omega, by omega⟩
      obtain ⟨m, em, m2, m16⟩ := hm
      rw [em]
      have s3 := Same.new h1 (.lst [.int ((o[at'] : Nat) : Int)])
      refine ⟨r1, (m : Int), _, rfl, rfl, upd_same, by omega, by omega, szl _ (by rw [Int.toNat_natCast]; simp; omega), fun r2 h2 => ?_⟩
      rw [Int.toNat_natCast, rep_one]
      have s4 := Same.new h2 (.lst (List.replicate m (V.int ((o[at'] : Nat) : Int))))
      have s14 := s12.trans (s3.trans s4)
      have b3 := bJ.same (s12.trans s3)
      exact ⟨r2, _, bJ.same s14, Sx.of s14, b3.ne h2, (xHJ.trans (Sx.of (s12.trans s3))).free b3 h2, upd_same, by rw [List.length_replicate]; exact m16, fun x hx F => by rw [(List.mem_replicate.mp hx).2]; exact oat8 F, vld_rep m2, rfl⟩
    · refine ⟨D, nv ds, bJ.same s12, Sx.of s12, nD, fD, s12 _ _ eD, by rw [nv_len]; omega, fun x hx F => ?_, vld_not fun hp => c (decide_eq_true ?_), rfl⟩
      · obtain ⟨y, hy, rfl⟩ := List.mem_map.mp hx
        exact .int (by show y < 2 ^ 98; exact Nat.lt_of_lt_of_le (hd y hy) (Nat.le_trans n16 (by decide)))
      · have hp2 : (ds.map (fun x : Nat => (x : Int))).Perm (nums n) := by
          unfold nums
          exact hp.map _
        exact (perm.trans hp2).eq_of_pairwise (fun x y _ _ h1 h2 => Int.le_antisymm h1 h2) pw (nums_pw n)
  rintro _ J4 ⟨dd, xsd, b4, x4, ndd, fdd, edd, ldd, hdd, vdd, rfl⟩
  have xA4 := xHJ.trans x4
  have x34 := xJ.trans x4
  have eL2' := x34 _ _ nL2 eL2
  have hE3 : Ent K (mn p J4) o at' e := ⟨hE2.it.same (mnp x34), hE2.own⟩
  have ol3 := ol2.same (mnp x34)
  clear hE2 ol2 eL2 xJ x4 bJ eD hd ld xHJ nD fD hD x34 bAl2 xA2
  -- four more
  have hm : ∃ M : Nat, (if (n : Int) > 2 then (n : Int) else 2) = (M : Int) ∧ 2 ≤ M ∧ M ≤ 16 := by
    by_cases h : (n : Int) > 2
    · exact ⟨n, by rw [if_pos h], by omega, n16⟩
    · exact ⟨2, by rw [if_neg h]; rfl, by omega, by omega⟩
  obtain ⟨m, em, m2, m16⟩ := hm
  refine ⟨_, rfl, _, rfl, _, rfl, l, nv o, _, _, rfl, rfl, SqL.of (at0 xA4), oa (J := J4), szl _ (by simp), fun r1 h1 => ⟨_, rfl, _, _, rfl, ?_⟩⟩
  rw [em]
  have q1 := Same.new h1 (.lst [.int ((o[at'] : Nat) : Int)])
  refine ⟨r1, (m : Int), _, rfl, rfl, upd_same, by omega, by omega, szl _ (by rw [Int.toNat_natCast]; simp; omega), fun r2 h2 => ?_⟩
  rw [Int.toNat_natCast, rep_one]
  have q2 := Same.new h2 (.lst (List.replicate m (V.int ((o[at'] : Nat) : Int))))
  have q12 := q1.trans q2
  have b1 := b4.same q1
  have b2 := b1.same q2
  refine ⟨_, rfl, _, rfl, dd, xsd, rfl, .inl ⟨SqL.of (q12 _ _ edd), fun t3 ht3 => ⟨_, rfl, szl _ (by simp), fun r3 h3 => ⟨_, rfl, _, _, rfl, ?_⟩⟩⟩⟩
  rw [em]
  have q3 := Same.new ht3 (.tup xsd)
  have b3 := b2.same q3
  have q4 := Same.new h3 (.lst [e])
  have b3' := b3.same q4
  refine ⟨r3, (m : Int), _, rfl, rfl, upd_same, by omega, by omega, szl _ (by rw [Int.toNat_natCast]; simp; omega), fun r4 h4 => ⟨szl _ (by simp), fun La hLa => ?_⟩⟩
  rw [Int.toNat_natCast, rep_one] at *
  have q5 := Same.new h4 (.lst (List.replicate m e))
  have b5 := b3'.same q5
  have q6 := Same.new hLa (.lst [.ref r2, .ref dd, .ref t3, .ref r4])
  have q14 := q12.trans (q3.trans q4)
  have q16 := q14.trans (q5.trans q6)
  refine ⟨L2, La, _, _, rfl, rfl, q16 _ _ eL2', upd_same, szl _ (by rw [lx2]; simp), fun L3 hL3 => ?_⟩
  have q7 := Same.new hL3 (.lst (xs2 ++ [.ref r2, .ref dd, .ref t3, .ref r4]))
  have w6 := q6.trans q7
  have w5 := q5.trans w6
  have w4 := q4.trans w5
  have w3 := q3.trans w4
  have w2 := q2.trans w3
  have wAll := q1.trans w2
  have e1 := w3 _ _ (upd_same (a := r2) (o := .lst (List.replicate m (V.int ((o[at'] : Nat) : Int)))))
  have e2 := wAll _ _ edd
  have e3 := w4 _ _ (upd_same (a := t3) (o := .tup xsd))
  have e4 := w6 _ _ (upd_same (a := r4) (o := .lst (List.replicate m e)))
  have n1' := b1.ne h2
  have n3' := b2.ne ht3
  have n4' := b3'.ne h4
  have f1 : H r2 = none := (xA4.trans (Sx.of q1)).free b1 h2
  have f3 : H t3 = none := (xA4.trans (Sx.of q12)).free b2 ht3
  have f4 : H r4 = none := (xA4.trans (Sx.of q14)).free b3' h4
  have f4J : J4 r4 = none := q14.free h4
  have bA := b4.same wAll
  have xA := xA4.trans (Sx.of wAll)
  have nL3 := (b5.same q6).ne hL3
  have eL3 := (upd_same (H := upd (upd (upd (upd (upd (upd J4 r1 (.lst [.int ((o[at'] : Nat) : Int)])) r2 (.lst (List.replicate m (V.int ((o[at'] : Nat) : Int))))) t3 (.tup xsd)) r3 (.lst [e])) r4 (.lst (List.replicate m e))) La (.lst [.ref r2, .ref dd, .ref t3, .ref r4])) (a := L3) (o := .lst (xs2 ++ [.ref r2, .ref dd, .ref t3, .ref r4])))
  generalize upd (upd (upd (upd (upd (upd (upd J4 r1 (.lst [.int ((o[at'] : Nat) : Int)])) r2 (.lst (List.replicate m (V.int ((o[at'] : Nat) : Int))))) t3 (.tup xsd)) r3 (.lst [e])) r4 (.lst (List.replicate m e))) La (.lst [.ref r2, .ref dd, .ref t3, .ref r4])) L3 (.lst (xs2 ++ [.ref r2, .ref dd, .ref t3, .ref r4])) = A4 at wAll bA xA e1 e2 e3 e4 eL3 ⊢
  have hE4 : Ent K (mn p A4) o at' e := ⟨hE3.it.same (mnp (Sx.of wAll)), hE3.own⟩
  have ol4 : OL K H (mn p A4) n (xs2 ++ [.ref r2, .ref dd, .ref t3, .ref r4]) := fun v hv => by
    rcases List.mem_append.mp hv with hv | hv
    · exact (ol3.same (mnp (Sx.of wAll))) v hv
    simp only [List.mem_cons, List.not_mem_nil, or_false] at hv
    rcases hv with rfl | rfl | rfl | rfl
    · exact ⟨.li (mn_sx _ _ n1' e1) (by rw [List.length_replicate]; omega) (fun x hx => by rw [(List.mem_replicate.mp hx).2]; exact oat8 _) (vld_rep m2), fun a e => by cases e; exact f1⟩
    · exact ⟨.li (mn_sx _ _ ndd e2) (by omega) (fun x hx => hdd x hx _) vdd, fun a e => by cases e; exact fdd⟩
    · exact ⟨.tu (mn_sx _ _ n3' e3) (by omega) (fun x hx => hdd x hx _) vdd, fun a e => by cases e; exact f3⟩
    · refine ⟨.li (mn_sx _ _ n4' e4) (by rw [List.length_replicate]; omega) (fun x hx => ?_) (vld_rep m2), fun a e => by cases e; exact f4⟩
      rw [(List.mem_replicate.mp hx).2]
      refine hE3.it.same fun b o' eb => ?_
      have nb : b ≠ p := fun z => by rw [z, mn_p] at eb; cases eb
      have eb' := mn_same _ _ eb
      exact mn_sx _ _ (ne_of_none eb' f4J) (mn_sx _ _ nb (wAll _ _ eb'))
  have lx3 : (xs2 ++ [V.ref r2, .ref dd, .ref t3, .ref r4]).length = 16 := by rw [List.length_append, lx2]; rfl
  clear q1 q2 q3 q4 q5 q6 q7 q12 q14 q16 w6 w5 w4 w3 w2 wAll e1 e2 e3 e4 n1' n3' n4' f1 f3 f4 f4J b1 b2 b3 b3' b5 h1 h2 ht3 h3 h4 hLa hL3 ol3 hE3 eL2' xA4 b4 edd
  generalize xs2 ++ [V.ref r2, .ref dd, .ref t3, .ref r4] = xs3 at ol4 eL3 lx3
  -- which
  refine ⟨_, rfl, p, 30, rfl, bA, by decide, by decide, fun kd J5 ka kb b6 x6 => ?_⟩
  have eL3' := x6 _ _ nL3 eL3
  have ol5 := ol4.same (mnp x6)
  have xB := xA.trans x6
  have hE5 : Ent K (mn p J5) o at' e := ⟨hE4.it.same (mnp x6), hE4.own⟩
  clear ol4 hE4 eL3 x6 xA bA
  refine ⟨_, rfl, _, _, rfl, rfl, _, rfl, ite2 (fun c => ?_) (fun c => ?_)⟩
  rotate_left
  · have hk : kd ≤ 15 := by
      have : ¬ (kd > 15) := fun z => c (decide_eq_true z)
      omega
    obtain ⟨_, v, _, hv, _, atv⟩ := pick (xs := xs3) (i := kd) ka (by rw [lx3]; omega)
    exact ⟨_, rfl, _, rfl, L3, xs3, kd, v, rfl, rfl, SqL.of eL3', atv, q v J5 b6 xB (ol5 v hv).1 (ol5 v hv).2⟩
  clear ol5
  -- another entry, if it is the one of its place
  refine ⟨fun σ G => ∃ e', Same J5 G ∧ It8 (mn p G) e' ∧ e' ≠ .int ((o[at'] : Nat) : Int) ∧ σ = [some (.ref p), some (.ref l), some (.int (at' : Int)), some (.int (n : Int)), some e', some (.ref L3), some (.ref dd), some (.int kd), none, none], ?_, ?_⟩
  · refine ⟨fun b G => Same J5 G ∧ (b = true → n = 1) ∧ (b = false → e ≠ .int ((o[at'] : Nat) : Int)), ?_, ?_⟩
    · obtain ⟨d, hd, shd, hdi⟩ := (hE5.it.same (mn_same (p := p) (J := J5))).dp
      have elo := at0 xB
      have dl : Dp K J5 (.ref l) (.list (iD (o.map fun x : Nat => (x : Int)))) := .lst (SqL.of (by rw [← nv_int]; exact elo)) (dp_ints _)
      refine ⟨_, rfl, _, rfl, d, _, hd, dl, shd, iD_shaped _, _, rfl, ite2 (fun c1 => ?_) (fun c1 => ⟨Same.refl _, (fun z => nomatch z), fun _ he => c1 ?_⟩)⟩
      · have tyb : ∃ t b, TyX K J5 e t ∧ PySem.W.kitOne K t (.type "bool") = some b ∧ (b = true → e ≠ .int ((o[at'] : Nat) : Int)) := by
          cases hE5.it with
          | int h => exact ⟨_, false, .base (.int _), rfl, fun z => nomatch z⟩
          | non => exact ⟨_, false, .base .non, rfl, fun z => nomatch z⟩
          | bl b => exact ⟨_, true, .base (.bl b), rfl, fun _ z => nomatch z⟩
          | str => exact ⟨_, false, .base (.str _), rfl, fun z => nomatch z⟩
          | lst h1 _ _ => exact ⟨_, false, .base (.lst (mn_same _ _ h1)), rfl, fun z => nomatch z⟩
        obtain ⟨t, b, ty, kt, hb⟩ := tyb
        refine ⟨_, rfl, e, .ty "bool", t, .type "bool", b, rfl, .ty _, ty, kt, b, rfl, ?_⟩
        cases b with
        | true => exact iteF ⟨Same.refl _, (fun z => nomatch z), fun _ => hb rfl⟩
        | false =>
          refine iteT ⟨_, rfl, rfl, _, rfl, Same.refl _, fun z => ?_, fun z he => ?_⟩
          · have := V.int.inj (of_decide_eq_true z)
            omega
          · have := hE5.own hat he
            exact absurd (show V.int (n : Int) = V.int 1 by rw [← lo, this]; rfl) (of_decide_eq_false z)
      · rw [hdi _ he]
        refine List.any_eq_true.mpr ⟨.int ((o[at'] : Nat) : Int), List.mem_map.mpr ⟨((o[at'] : Nat) : Int), List.mem_map.mpr ⟨_, List.getElem_mem hat, rfl⟩, rfl⟩, ?_⟩
        simp [PyData.eqv]
    rintro b G ⟨sG, hb1, hb2⟩
    refine ite2 (fun cb => ?_) (fun cb => ?_)
    · refine ⟨.int 1, sG, .int (by decide), fun z => ?_, rfl⟩
      have h1 := hb1 cb
      have := om _ (List.getElem_mem hat)
      have := V.int.inj z
      omega
    · exact ⟨e, sG, hE5.it.same (mnp (Sx.of sG)), hb2 (Bool.eq_false_iff.mpr cb), rfl⟩
  rintro _ J6 ⟨e', s6, hi6, ne6, rfl⟩
  have b7 := b6.same s6
  have xC := xB.trans (Sx.of s6)
  clear hE5 eL3' s6 b6 xB
  refine ⟨_, rfl, _, rfl, _, rfl, l, nv o, rfl, SqL.of (at0 xC), fun u1 h1 => ⟨_, rfl, szl _ (by simp), fun u2 h2 => ?_⟩⟩
  rw [cut_to] at *
  have q1 := Same.new h1 (.lst (nv (o.take at')))
  have q2 := Same.new h2 (.lst [e'])
  refine ⟨u1, u2, _, _, rfl, rfl, q2 _ _ upd_same, upd_same, szl _ (by rw [nv_len]; simp; omega), fun u3 h3 => ?_⟩
  have q3 := Same.new h3 (.lst (nv (o.take at') ++ [e']))
  have q13 := q1.trans (q2.trans q3)
  refine ⟨_, rfl, _, rfl, _, _, rfl, rfl, _, rfl, l, nv o, rfl, SqL.of (at0 (xC.trans (Sx.of q13))), fun u4 h4 => ?_⟩
  have ea2 : (at' : Int) + 1 = ((at' + 1 : Nat) : Int) := by omega
  rw [ea2, cut_from]
  have q4 := Same.new h4 (.lst (nv (o.drop (at' + 1))))
  refine ⟨u3, u4, _, _, rfl, rfl, q4 _ _ upd_same, upd_same, szl _ (by rw [List.length_append, nv_len, nv_len]; simp; omega), fun fo hfo => ?_⟩
  have q5 := Same.new hfo (.lst (nv (o.take at') ++ [e'] ++ nv (o.drop (at' + 1))))
  have q14 := q13.trans q4
  have b8 := b7.same q14
  have q15 := q14.trans q5
  have b9 := b8.same q5
  refine ⟨_, rfl, _, rfl, fo, _, rfl, .inl ⟨SqL.of upd_same, fun tf htf => ⟨szl _ (by simp), fun Lz hLz => ?_⟩⟩⟩
  have q6 := Same.new htf (.tup (nv (o.take at') ++ [e'] ++ nv (o.drop (at' + 1))))
  have q7 := Same.new hLz (.lst [.ref fo, .ref tf])
  have wA := q15.trans (q6.trans q7)
  have f1 : H fo = none := (xC.trans (Sx.of q14)).free b8 hfo
  have f2 : H tf = none := (xC.trans (Sx.of q15)).free b9 htf
  have fJ : J6 fo = none := q14.free hfo
  have nfo := b8.ne hfo
  have ntf := b9.ne htf
  have e1 := (q6.trans q7) _ _ (upd_same (a := fo) (o := .lst (nv (o.take at') ++ [e'] ++ nv (o.drop (at' + 1)))))
  have e2 := q7 _ _ (upd_same (a := tf) (o := .tup (nv (o.take at') ++ [e'] ++ nv (o.drop (at' + 1)))))
  have hm0 := Int.emod_nonneg kd (show (2 : Int) ≠ 0 by decide)
  have hm1 := Int.emod_lt_of_pos kd (show (0 : Int) < 2 by decide)
  obtain ⟨_, v, _, hv, _, atv⟩ := pick (xs := [V.ref fo, .ref tf]) (i := kd % 2) hm0 hm1
  refine ⟨_, rfl, _, _, rfl, rfl, (by show (0 : Int) < 2; decide), Lz, _, _, v, rfl, rfl, SqL.of upd_same, atv, ?_⟩
  have itv : ∀ {F : Hp}, It8 F e' → ∀ x, x ∈ nv (o.take at') ++ [e'] ++ nv (o.drop (at' + 1)) → It8 F x := fun {F} h x hx => by
    rcases List.mem_append.mp hx with hx | hx
    · rcases List.mem_append.mp hx with hx | hx
      · exact itn (fun x h => List.mem_of_mem_take h) _ hx
      · rw [List.mem_singleton.mp hx]; exact h
    · exact itn (fun x h => List.mem_of_mem_drop h) _ hx
  have ll : (nv (o.take at') ++ [e'] ++ nv (o.drop (at' + 1))).length ≤ 18 := by rw [List.length_append, List.length_append, nv_len, nv_len]; simp; omega
  have hv : v = .ref fo ∨ v = .ref tf := by simpa only [List.mem_cons, List.not_mem_nil, or_false] using hv
  refine q v _ (b7.same wA) (xC.trans (Sx.of wA)) ?_ ?_
  · rcases hv with rfl | rfl
    · refine .li (mn_sx _ _ nfo e1) ll (itv (hi6.same fun b o' eb => ?_)) (vld_set pm hat ne6)
      have nb : b ≠ p := fun z => by rw [z, mn_p] at eb; cases eb
      have eb' := mn_same _ _ eb
      exact mn_sx _ _ (ne_of_none eb' fJ) (mn_sx _ _ nb (wA _ _ eb'))
    · exact .tu (mn_sx _ _ ntf e2) ll (itv (hi6.same (mnp (Sx.of wA)))) (vld_set pm hat ne6)
  · intro a ea'
    rcases hv with rfl | rfl
    · cases ea'; exact f1
    · cases ea'; exact f2
end
end L

set_option Elab.async false
set_option linter.all false
set_option maxRecDepth 100000
set_option maxHeartbeats 4000000
set_option pp.maxSteps 400
namespace L
open PySem L2 KX
theorem ok0 : OkD 0 0 (.int 0) := ⟨by decide +kernel, by decide +kernel, by decide +kernel, by decide +kernel⟩
theorem ok5 {i : Nat} (h : i ≤ 16) : OkD 0 5 (.int (i : Int)) := by
  have k := OkD.int (i := (i : Int)) (by show (i : Int).natAbs < _; have : (i : Int).natAbs = i := rfl; rw [this]; exact Nat.lt_of_le_of_lt h (by decide))
  refine ⟨k.short, k.shows, k.deep, ?_⟩
  have all : ∀ j : Fin 17, PyData.weight (.int ((j.val : Nat) : Int)) ≤ 5 := by decide +kernel
  exact all ⟨i, by omega⟩
theorem rows_dqR {G : Hp} : ∀ row : List Int, DqAll G (row.map V.int) (iD row)
  | [] => .nil
  | x :: r => .cons (.int x) (rows_dqR r)
theorem rows_dq {G : Hp} {rs : List Addr} {tb : List (List Int)} (h : Paired (fun r row => G r = some (.lst (row.map V.int))) rs tb) : DqAll G (rs.map V.ref) (rD tb) := by
  induction h with
  | nil => exact .nil
  | cons h _ ih => exact .cons (.lst h (rows_dqR _)) ih
theorem RowsL.dq {G : Hp} {v : V} {tb : List (List Int)} (h : RowsL G v tb) : Dq G v (.list (rD tb)) := by
  obtain ⟨a, rs, rfl, e, pr⟩ := h
  exact .lst e (rows_dq pr)
theorem rows_ok {tb : List (List Int)} (S : Sqr tb) : OkD 2 1552 (.list (rD tb)) := by
  have n16 := S.ge
  refine okLi (W := 96) (m := 16) (fun d hd => ?_) (by unfold rD; rw [List.length_map]; exact n16)
  unfold rD at hd
  obtain ⟨row, hr, rfl⟩ := List.mem_map.mp hd
  obtain ⟨a, ha, er⟩ := List.mem_iff_getElem.mp hr
  have lr := S.row row hr
  refine okLi (W := 5) (m := 16) (fun d hd => ?_) (by unfold iD; rw [List.length_map]; omega)
  unfold iD at hd
  obtain ⟨x, hx, rfl⟩ := List.mem_map.mp hd
  obtain ⟨b, hb, eb⟩ := List.mem_iff_getElem.mp hx
  have hel := S.el a b ha (by omega)
  have em : mu tb a b = x := by
    unfold mu
    rw [List.getD_eq_getElem?_getD (l := tb), List.getElem?_eq_getElem ha]
    show (tb[a]).getD b 0 = x
    rw [er, List.getD_eq_getElem?_getD, List.getElem?_eq_getElem hb]; exact eb
  rw [em] at hel
  have ex : x = ((x.toNat : Nat) : Int) := by omega
  rw [ex]
  exact ok5 (by omega)
theorem passC {P : Program} {w : World} {X : Cx} : Passes (L2.CX P w) X E0 := fun _ _ _ _ _ _ _ ⟨_, _, _, _, _, _, _, _, _, _, _, _, h⟩ => h.elim
/-- a table's parts stay while a list changes -/
theorem TbA.sxL {K : PySem.W.Frag} {C : Addr} {H J : Hp} {p x : Addr} {xs : List V} {tb : List (List Int)} (s : Sx p H J) (eb : H p = some (.lst xs)) (h : TbA K C H x tb) : TbA K C J x tb := by
  have up : ∀ {r : Addr} {xs : List V}, SqT K H r xs → SqT K J r xs := fun {r xs} h => by
    rcases h with (h | ⟨o, h⟩) | h
    · exact .inl (.inl (s _ _ (fun z => by rw [z, eb] at h; cases h) h))
    · exact .inl (.inr ⟨o, s _ _ (fun z => by rw [z, eb] at h; cases h) h⟩)
    · exact .inr h
  obtain ⟨dx, t, rs, hp, ht, pr⟩ := h.ob
  exact ⟨dx, t, rs, s _ _ (fun z => by rw [z, eb] at hp; cases hp) hp, up ht, L2.Paired.mapP pr fun _ _ ⟨r, e, hr⟩ => ⟨r, e, up hr⟩⟩
def vD : Option Nat → PyData
  | none => .none
  | some e => .int (e : Int)
theorem vO_dq {H : Hp} {o : Option Nat} : Dq H (vOpt o) (vD o) := by
  cases o with
  | none => exact .non
  | some e => exact .int _
theorem vO_ok {o : Option Nat} (h : ∀ e, o = some e → e < 1000) : OkD 0 100 (vD o) := by
  cases o with
  | none => exact OkD.none.mono (by omega) (by omega)
  | some e => exact OkD.int (by show e < 2 ^ 98; exact Nat.lt_trans (h e rfl) (by decide))
theorem iD_dq {H : Hp} : ∀ l : List Int, DqAll H (l.map V.int) (iD l)
  | [] => .nil
  | x :: l => .cons (.int x) (iD_dq l)
theorem iD_ok {l : List Int} (h : ∀ x, x ∈ l → x.natAbs < 1000) (hl : l.length ≤ 16) : OkD 1 1616 (.list (iD l)) := by
  refine (okLi (n := 0) (W := 100) (m := 16) (fun d hd => ?_) (by unfold iD; rw [List.length_map]; exact hl)).mono (by omega) (by omega)
  obtain ⟨x, hx, rfl⟩ := List.mem_map.mp hd
  exact OkD.int (Nat.lt_trans (h x hx) (by decide))
end L

set_option Elab.async false
set_option linter.all false
set_option maxRecDepth 100000
set_option maxHeartbeats 4000000
set_option pp.maxSteps 400
namespace L
open PySem L2 KX
abbrev sRt : Stmt := top 35
abbrev nRt : List Str := ["box", "rows", "table", "order", "passed", "found", "back", "one", "second", "both", "a", "e", "i"]
def spRight : Sp := fun vs H Q _ => ∃ (p : Addr) (v : V) (tb : List (List Int)), vs = [.ref p, v] ∧ Bx H p ∧ RowsL (mn p H) v tb ∧ Tb tb ∧ ∀ H', Bx H' p → Sx p H H' → Q (.bl true) H'
theorem nb_same {a b : V} (h : a = b) : (!decide (a = b)) = false := by rw [decide_eq_true h]; rfl
section
variable {P : Program} {w : World} {K : PySem.W.Frag} {mg : Str → Option Value} {base : Heap} {f f1 f2 f3 f4 f5 f6 f7 fE fI C CO : Addr} {fd d1 d2 d3 d4 d5 d6 d7 dE dI : FuncData}
theorem scRt : FnScope nRt ["box", "rows"] (defScope sRt) := ⟨rfl, rfl, rfl, by decide +kernel, rfl, by decide +kernel, by decide +kernel⟩
theorem ok_right (F : Fun K "_law_right" "_law_right" sRt f fd) (M : Mn mg) (T : CTx K mg C) (Y : CTi K C) (mSo : mg "sorted" = none) (hS : ∃ o, base.get? sysModules = some o)
    (G1 : FnOk P w K mg base CX0 2 f1 d1 ["box", "n"] spOrd) (b1 : Binds K d1 ["box", "n"] []) (k1 : PySem.W.keepIn K (.ref f1) = true) (m1 : mg "_law_order" = some (.ref f1))
    (G2 : FnOk P w K mg base CX0 1 f2 d2 ["rows", "order"] (spNum K)) (b2 : Binds K d2 ["rows", "order"] []) (k2 : PySem.W.keepIn K (.ref f2) = true) (m2 : mg "_law_numbered" = some (.ref f2))
    (G3 : FnOk P w K mg base CX0 1 f3 d3 ["box", "size"] spTake) (b3 : Binds K d3 ["box", "size"] []) (k3 : PySem.W.keepIn K (.ref f3) = true) (m3 : mg "_law_take" = some (.ref f3))
    (G4 : FnOk P w K mg base (L2.CX P w) 8 f4 d4 ["self", "order"] (spRenX K C CO)) (b4 : Binds K d4 ["self", "order"] []) (h4 : Meth K C "renumbered" f4)
    (G5 : FnOk P w K mg base CX0 1 f5 d5 ["self"] (spRowsM K C)) (b5 : Binds K d5 ["self"] []) (h5 : Meth K C "rows" f5)
    (G6 : FnOk P w K mg base CX0 1 f6 d6 ["self"] (spIdn K C)) (b6 : Binds K d6 ["self"] []) (h6 : Meth K C "identity" f6)
    (G7 : FnOk P w K mg base CX0 1 f7 d7 ["self"] (spIdem K C)) (b7 : Binds K d7 ["self"] []) (h7 : Meth K C "idempotents" f7)
    (GE : FnOk P w K mg base CX0 1 fE dE ["self", "other"] (spEqT K C)) (bE : Binds K dE ["self", "other"] []) (hEq : PySem.W.findIn K (.ref C) "__eq__" = some (some (.ref fE))) (fEq : PySem.W.isFn K (.ref fE) = true)
    (hNe : PySem.W.findIn K (.ref C) "__ne__" = some (some (.builtin "object.__ne__"))) (T_ob : PySem.W.mroIn K C (.type "object") = some true)
    (MI : Mk K C fI) (GI : FnOk P w K mg base CX0 5 fI dI ["self", "rows"] (spInit K C)) (bI : Binds K dI ["self", "rows"] []) :
    GOk P w K mg base CX0 9 f fd ["box", "rows"] spRight := by
  refine gok F scRt (fun vs H Q E h => ?_) (fun cdv A outer s H vs Q E hr hA h => ?_)
  · obtain ⟨p, v, tb, rfl, _⟩ := h
    rfl
  obtain ⟨p, v, tb, rfl, hb, hR, TT, q⟩ := h
  have hr1 : Room 1 _ := hr.mono (by decide)
  have hr2 : Room 2 _ := hr.mono (by decide)
  have hr6 : Room 6 _ := hr.mono (by decide)
  have hr8 : Room 8 _ := hr.mono (by decide)
  have hu := hr.units
  have rp := fun {X : Cx} (h1 : X.base = base) (h2 : X.A = (A.deeper (PyProof.Rows.envOfC "_law_right" (defScope sRt) s.heap.objs.size f cdv))) => @call_repr_q X (by rw [h1]; exact hS) (by rw [h2]; exact hA) (by rw [h2]; exact hu)
  refine ⟨_, (pss_cons (ps_asg (pe_tup (pa_cons (pe_make MI GI hr6 (by rfl) T.mgC bI .nil pass0 (pa_cons (pv 1) pa_nil)) (pa_cons (pe_call G1 hr2 (by rfl) m1 k1 b1 .nil pass0 (pa_cons (pv 0) (pa_cons (pe_callB (lenl (K := K) rfl) (by rfl) M.len PySem.boot_len (pa_cons (pv 1) pa_nil)) pa_nil))) pa_nil))) (pg_tup rfl (pgs_cons (pg_name (i := 2) scRt.nd rfl (Or.inl rfl)) (pgs_cons (pg_name (i := 3) scRt.nd rfl (Or.inr rfl)) pgs_nil)))) (pss_cons (ps_set (i := 4) scRt.nd rfl (Or.inl rfl) (pe_ix ix_list (pe_lst (pa_cons (pe_callTy (clist (K := K) rfl) (by rfl) M.list (by decide +kernel) (pa_cons (pv 3) pa_nil)) (pa_cons (pe_callTy (call_tuple_F (K := K) rfl) (by rfl) M.tuple (by decide +kernel) (pa_cons (pv 3) pa_nil)) pa_nil))) (pe_call G3 hr1 (by rfl) m3 k3 b3 .nil pass0 (pa_cons (pv 0) (pa_cons pe_int pa_nil))) (fun _ _ => rfl))) (pss_cons (ps_set (i := 5) scRt.nd rfl (Or.inl rfl) (pe_meth (pv 2) T.cl h4 G4 hr8 b4 .nil passC (pa_cons (pv 4) pa_nil))) (pss_cons (ps_if (pw_or (pt_cmpR (op_neD hu) (pe_callTy (clist (K := K) rfl) (by rfl) M.list (by decide +kernel) (pa_cons (pv 4) pa_nil)) (pv 3) (nomark _)) (pw_or1 (pt_cmpR op_ne (pe_callB (rp rfl rfl) (by rfl) M.repr (by decide +kernel) (pa_cons (pe_meth0 (pv 5) T.cl h5 G5 hr1 b5 .nil pass0) pa_nil)) (pe_callB (rp rfl rfl) (by rfl) M.repr (by decide +kernel) (pa_cons (pe_call G2 hr1 (by rfl) m2 k2 b2 .nil pass0 (pa_cons (pv 1) (pa_cons (pv 3) pa_nil))) pa_nil)) (nomark _)))).pt (pss_one (ps_ret pe_bl)) pss_nil) (pss_cons (ps_cut (ps_if (pt_val (pe_callB call_isi (by rfl) M.isin (by decide +kernel) (pa_cons (pv 4) (pa_cons (pe_bltn (v := .ty "list") (by rfl) M.list (by decide +kernel) rfl) pa_nil)))) (pss_one (ps_expr (pe_bm0 PySem.F.plainAttrs_list PySem.F.slot_list_reverse PySem.F.type_list_reverse mt_reverse (pv 4)))) pss_nil)) (pss_cons (ps_if (pw_or (pt_cmpR op_ne (pe_callB (rp rfl rfl) (by rfl) M.repr (by decide +kernel) (pa_cons (pe_meth0 (pv 5) T.cl h5 G5 hr1 b5 .nil pass0) pa_nil)) (pe_callB (rp rfl rfl) (by rfl) M.repr (by decide +kernel) (pa_cons (pe_call G2 hr1 (by rfl) m2 k2 b2 .nil pass0 (pa_cons (pv 1) (pa_cons (pv 3) pa_nil))) pa_nil)) (nomark _)) (pw_or1 (pt_cmpR op_ne (pe_callB (rp rfl rfl) (by rfl) M.repr (by decide +kernel) (pa_cons (pe_meth0 (pv 2) T.cl h5 G5 hr1 b5 .nil pass0) pa_nil)) (pe_callB (rp rfl rfl) (by rfl) M.repr (by decide +kernel) (pa_cons (pv 1) pa_nil)) (nomark _)))).pt (pss_one (ps_ret pe_bl)) pss_nil) (pss_cons (ps_set (i := 6) scRt.nd rfl (Or.inr rfl) (pe_lc (own := [("a", 10)]) (g := gName 10) (tt := tYes) rfl scRt.nd (pi_range1 (by rfl) M.range (pa_cons (pe_callB (lenl (K := K) rfl) (by rfl) M.len PySem.boot_len (pa_cons (pv 1) pa_nil)) pa_nil)) (blkOk_by (N := nRt) (sc := defScope sRt) (by decide +kernel)) (fun _ _ _ _ _ => pg_name (i := 10) scRt.nd rfl (Or.inl rfl)) (fun _ _ _ _ _ => pts_nil) (fun _ _ _ _ _ => pe_bK (K := K) rfl (pe_bm PySem.F.plainAttrs_list PySem.F.slot_list_index PySem.F.type_list_index (mt_idx1 (K := K) rfl) (pv 3) (pa_cons (pv 10) pa_nil))))) (pss_cons (ps_set (i := 7) scRt.nd rfl (Or.inl rfl) (pe_meth0 (pv 2) T.cl h6 G6 hr1 b6 .nil pass0)) (pss_cons (ps_if (pt_mo (pt_cmpR op_ne (pe_callB (rp rfl rfl) (by rfl) M.repr (by decide +kernel) (pa_cons (pe_meth0 (pv 5) T.cl h6 G6 hr1 b6 .nil pass0) pa_nil)) (pe_callB (rp rfl rfl) (by rfl) M.repr (by decide +kernel) (pa_cons (pe_ifExp (pt_cmpR op_isN (pv 7) pe_non (by rfl)) pe_non (pe_ix (ixl (K := K) rfl) (pv 6) (pv 7) (fun _ _ => rfl))) pa_nil)) (nomark _))) (pss_one (ps_ret pe_bl)) pss_nil) (pss_cons (ps_if (pt_cmpR op_ne (pe_callB (rp rfl rfl) (by rfl) M.repr (by decide +kernel) (pa_cons (pe_meth0 (pv 5) T.cl h7 G7 hr1 b7 .nil pass0) pa_nil)) (pe_callB (rp rfl rfl) (by rfl) M.repr (by decide +kernel) (pa_cons (pe_callB cr_sorted (by rfl) mSo (by decide +kernel) (pa_cons (pe_lc (own := [("e", 11)]) (g := gName 11) (tt := tYes) rfl scRt.nd (pi_list (pe_meth0 (pv 2) T.cl h7 G7 hr1 b7 .nil pass0)) (blkOk_by (N := nRt) (sc := defScope sRt) (by decide +kernel)) (fun _ _ _ _ _ => pg_name (i := 11) scRt.nd rfl (Or.inl rfl)) (fun _ _ _ _ _ => pts_nil) (fun _ _ _ _ _ => (pe_ix (ixl (K := K) rfl) (pv 6) (pv 11) (fun _ _ => rfl)))) pa_nil)) pa_nil)) (nomark _)) (pss_one (ps_ret pe_bl)) pss_nil) (pss_cons (ps_if (pw_or (pt_cmpR (op_neO GE hr2 T_ob hNe hEq fEq bE) (pe_meth (pv 5) T.cl h4 G4 hr8 b4 .nil passC (pa_cons (pv 6) pa_nil)) (pv 2) (nomark _)) (pw_or1 (pt_not (pt_val (pe_callB call_isi (by rfl) M.isin (by decide +kernel) (pa_cons (pv 5) (pa_cons (pe_glob (v := .ref C) (by rfl) T.mgC rfl) pa_nil))))))).pt (pss_one (ps_ret pe_bl)) pss_nil) (pss_cons (ps_set (i := 8) scRt.nd rfl (Or.inl rfl) (pe_call G1 hr2 (by rfl) m1 k1 b1 .nil pass0 (pa_cons (pv 0) (pa_cons (pe_callB (lenl (K := K) rfl) (by rfl) M.len PySem.boot_len (pa_cons (pv 1) pa_nil)) pa_nil)))) (pss_cons (ps_setLc (i := 9) (own := [("i", 12)]) (g := gName 12) (tt := tYes) rfl scRt.nd rfl rfl (sw_true rfl rfl rfl (by decide +kernel)) (pi_list (pv 8)) (blkOk_by (N := nRt) (sc := defScope sRt) (by decide +kernel)) (fun _ _ _ _ _ => pg_name (i := 12) scRt.nd rfl (Or.inl rfl)) (fun _ _ _ _ _ => pts_nil) (fun _ _ _ _ _ => (pe_ix (ixl (K := K) rfl) (pv 3) (pv 12) (fun _ _ => rfl)))) (pss_one (ps_ret (pe_cmpR (op_eqO GE hr1 hEq fEq bE) (pe_meth (pv 5) T.cl h4 G4 hr8 b4 .nil passC (pa_cons (pv 8) pa_nil)) (pe_meth (pv 2) T.cl h4 G4 hr8 b4 .nil passC (pa_cons (pv 9) pa_nil)) (nomark _))))))))))))))))), ?_⟩
  obtain ⟨av, xs0, rfl, ea, la⟩ := hR.sq
  have S := TT.sq
  have n16 := S.ge
  have np : av ≠ p := fun z => by rw [z, mn_p] at ea; cases ea
  -- the table, an order
  refine ⟨_, rfl, fun x e1 hx he ne => init_at (hR.same mn_same) TT hx he ne fun G1 s1 t1 => ?_⟩
  have bG := hb.same s1
  refine ⟨_, rfl, _, rfl, av, xs0, rfl, .inl (SqL.of (s1 _ _ (mn_same _ _ ea))), ?_⟩
  rw [la]
  refine ⟨p, tb.length, rfl, bG, n16, fun D H2 o b2' x2 hD eD pm => ⟨szl _ (by simp), fun t ht => ⟨t, _, rfl, SqT.of upd_same, rfl, _, _, rfl, _, _, rfl, rfl, ?_⟩⟩⟩
  have st := Same.new ht (.tup [.ref x, .ref D])
  have bA := b2'.same st
  have nD := bG.ne hD
  have xA : Sx p G1 (upd H2 t (.tup [.ref x, .ref D])) := x2.trans (Sx.of st)
  have tA : TbA K C (upd H2 t (.tup [.ref x, .ref D])) x tb := TbA.sx xA bG t1
  have eDA := st _ _ eD
  have xHA : Sx p H (upd H2 t (.tup [.ref x, .ref D])) := (Sx.of s1).trans xA
  generalize upd H2 t (.tup [.ref x, .ref D]) = A0 at bA xA tA eDA xHA ⊢
  let FF : Hp := mn p A0
  have nF : FF p = none := mn_p
  have sF0 : Same FF A0 := mn_same
  have RF : RowsL FF (.ref av) tb := hR.same (mnp xHA)
  have tF : TbA K C FF x tb := TbA.sx mn_sx bA tA
  have eO : FF D = some (.lst (nv o)) := mn_sx _ _ nD eDA
  have xF : ∀ {J : Hp}, Same FF J → Sx p H J := fun s b o' hbp e => s _ _ (mn_sx _ _ hbp (xHA _ _ hbp e))
  generalize FF = F at nF sF0 RF tF eO xF
  clear tA eDA xHA xA st ht x2 t1 s1
  have lo := pm_len pm
  have om : ∀ x, x ∈ o → x < tb.length := fun x hx => pm_lt pm hx
  have TR := ren_tb TT pm
  have SR := TR.sq
  have okT := rows_ok S
  have okR := rows_ok SR
  obtain ⟨_, rxs, e0, eaF, lrx⟩ := RF.sq
  cases e0
  -- passed
  have b4' := bA
  refine ⟨_, rfl, D, nv o, rfl, .inl (SqL.of (sF0 _ _ eO)), fun P1 hP1 => ⟨_, rfl, D, nv o, rfl, SqL.of ((Same.new hP1 (.lst (nv o))) _ _ (sF0 _ _ eO)), fun P2 ob hP2 hob => ⟨szl _ (by simp), fun le hle => ?_⟩⟩⟩
  have u1 := Same.new hP1 (.lst (nv o))
  have u2 := Same.new hP2 (.frz ob (.tup (nv o)))
  have u3 := Same.new hle (.lst [.ref P1, .ref P2])
  have bB := ((bA.same u1).same u2).same u3
  have nP1 := bA.ne hP1
  have nP2 := (bA.same u1).ne hP2
  have nle := ((bA.same u1).same u2).ne hle
  have fP1 : F P1 = none := sF0.free hP1
  refine ⟨_, rfl, p, 2, rfl, bB, by decide, by decide, fun k J ka kb bJ xJ => ?_⟩
  have sFJ : Same F J := fx ((sF0.trans u1).trans (u2.trans u3)) nF xJ
  have e1' := xJ _ _ nP1 (u3 _ _ (u2 _ _ upd_same))
  have e2' := xJ _ _ nP2 (u3 _ _ (upd_same (a := P2) (o := .frz ob (.tup (nv o)))))
  obtain ⟨_, v, _, hv, _, atv⟩ := pick (xs := [V.ref P1, .ref P2]) (i := k) ka kb
  have hv : v = .ref P1 ∨ v = .ref P2 := by simpa only [List.mem_cons, List.not_mem_nil, or_false] using hv
  obtain ⟨Pp, rfl, hPp⟩ : ∃ Pp, v = .ref Pp ∧ ((J Pp = some (.lst (nv o)) ∧ F Pp = none ∧ Pp ≠ p) ∨ TupF J Pp (nv o)) := by
    rcases hv with rfl | rfl
    · exact ⟨P1, rfl, .inl ⟨e1', fP1, nP1⟩⟩
    · exact ⟨P2, rfl, .inr ⟨ob, e2', hob⟩⟩
  refine ⟨le, _, _, _, rfl, rfl, SqL.of (xJ _ _ nle upd_same), atv, ?_⟩
  clear u1 u2 u3 bB nP1 nP2 nle hP1 hP2 hle e1' e2' xJ fP1 hv atv
  -- found
  obtain ⟨dx, tt, rs, hpx, _, _⟩ := tF.ob
  have ho1 : SqL K J Pp (nv o) ∨ TupF J Pp (nv o) := hPp.imp (fun z => SqL.of z.1) id
  refine ⟨_, rfl, x, dx, _, rfl, sFJ _ _ hpx, rfl, _, rfl, x, .ref Pp, tb, rfl, tF.to sFJ, TT, .inl ⟨Pp, o, rfl, ho1, pm, fun y J4 hy tY s4 => ?_⟩⟩
  have sF4 := sFJ.trans s4
  have bJ4 := bJ.same s4
  have hP4 : (J4 Pp = some (.lst (nv o)) ∧ F Pp = none ∧ Pp ≠ p) ∨ TupF J4 Pp (nv o) := hPp.imp (fun z => ⟨s4 _ _ z.1, z.2⟩) (fun z => z.ext s4)
  have hq4 : SqL K J4 Pp (nv o) ∨ SqT K J4 Pp (nv o) := hP4.imp (fun z => SqL.of z.1) TupF.sq
  clear hPp ho1 s4 sFJ bJ
  have dO : ∀ {G : Hp} {l : Addr}, SqL K G l (nv o) → Dp K G (.ref l) (.list (iD (o.map fun x : Nat => (x : Int)))) := fun h => .lst (by rw [nv_int] at h; exact h) (dp_ints _)
  refine ⟨_, rfl, Pp, nv o, rfl, hq4, fun lq hlq => ?_⟩
  have v1 := Same.new hlq (.lst (nv o))
  have sF5 := sF4.trans v1
  refine ⟨_, rfl, _, _, dO (SqL.of upd_same), dO (SqL.of (sF5 _ _ eO)), iD_shaped _, iD_shaped _, _, rfl, ?_⟩
  rw [iD_eqv, decide_eq_true rfl]
  refine iteF ?_
  have n16R : (ren tb o).length ≤ 16 := by rw [ren_len]; exact n16
  have shR : ∀ {G : Hp} {u : V}, RowsL G u (ren tb o) → Dq G u (.list (rD (ren tb o))) := fun h => h.dq
  have bJ5 := bJ4.same v1
  have tY5 := tY.to v1
  have hP5 : ((upd J4 lq (.lst (nv o))) Pp = some (.lst (nv o)) ∧ F Pp = none ∧ Pp ≠ p) ∨ TupF (upd J4 lq (.lst (nv o))) Pp (nv o) := hP4.imp (fun z => ⟨v1 _ _ z.1, z.2⟩) (fun z => z.ext v1)
  generalize upd J4 lq (.lst (nv o)) = J5 at sF5 bJ5 tY5 hP5 ⊢
  clear v1 hlq hP4 hq4 bJ4 sF4 tY
  obtain ⟨dy, ty2, rsy, hpy, _, _⟩ := tY5.ob
  refine ⟨_, rfl, y, dy, _, rfl, hpy, rfl, y, ren tb o, rfl, tY5, n16R, fun u G1 hu1 s1 => ⟨_, .list (rD (ren tb o)), rfl, shR (hu1.same nw_same), okR.shows, Nat.le_trans okR.deep (by decide), okR.len (by decide), ?_⟩⟩
  have sF6 := sF5.trans s1
  refine ⟨_, rfl, _, rfl, .ref av, D, tb, o, rfl, RF.same sF6, S, SqL.of (sF6 _ _ eO), pm, fun u2 G2 hu2 s2 => ⟨_, .list (rD (ren tb o)), rfl, shR (hu2.same nw_same), okR.shows, Nat.le_trans okR.deep (by decide), okR.len (by decide), rfl, _, rfl, iteNS rfl ?_⟩⟩
  have s12 := s1.trans s2
  -- passed turned round
  refine ⟨fun σ G => Same F G ∧ Bx G p ∧ TbA K C G y (ren tb o) ∧ σ = [some (.ref p), some (.ref av), some (.ref x), some (.ref D), some (.ref Pp), some (.ref y), none, none, none, none, none, none, none], ?_, ?_⟩
  · have hP6 : (G2 Pp = some (.lst (nv o)) ∧ F Pp = none ∧ Pp ≠ p) ∨ TupF G2 Pp (nv o) := hP5.imp (fun z => ⟨s12 _ _ z.1, z.2⟩) (fun z => z.ext s12)
    rcases hP6 with ⟨eP, fP, nP⟩ | hT
    · refine ⟨_, rfl, .ref Pp, .ty "list", .type "list", .type "list", true, rfl, .ty _, .base (.lst eP), rfl, true, rfl, iteT ⟨_, rfl, Or.inl ⟨rfl, _, SqL.of eP⟩, Pp, _, rfl, rfl, eP, ?_⟩⟩
      have bG2 := bJ5.same s12
      have sx : Sx Pp G2 (upd G2 Pp (.lst (nv o).reverse)) := fun b o' n e => by rw [upd_ne n]; exact e
      exact ⟨fx (sF5.trans s12) fP sx, bG2.at_ne nP, TbA.sxL sx eP (tY5.to s12), rfl⟩
    · exact ⟨_, rfl, .ref Pp, .ty "list", .type "tuple", .type "list", false, rfl, .ty _, SqT.ty hT.sq, rfl, false, rfl, iteF ⟨sF5.trans s12, bJ5.same s12, tY5.to s12, rfl⟩⟩
  rintro _ J ⟨sF, bJ, tY, rfl⟩
  clear s12 s2 s1 sF6 hu1 hu2 hP5 hpy tY5 bJ5 sF5 dO
  obtain ⟨dy, ty2, rsy, hpy, _, _⟩ := tY.ob
  refine ⟨_, rfl, y, dy, _, rfl, hpy, rfl, y, ren tb o, rfl, tY, n16R, fun u G1 hu1 s1 => ⟨_, .list (rD (ren tb o)), rfl, shR (hu1.same nw_same), okR.shows, Nat.le_trans okR.deep (by decide), okR.len (by decide), ?_⟩⟩
  have sF6 := sF.trans s1
  refine ⟨_, rfl, _, rfl, .ref av, D, tb, o, rfl, RF.same sF6, S, SqL.of (sF6 _ _ eO), pm, fun u2 G2 hu2 s2 => ⟨_, .list (rD (ren tb o)), rfl, shR (hu2.same nw_same), okR.shows, Nat.le_trans okR.deep (by decide), okR.len (by decide), rfl, _, rfl, iteNS rfl ?_⟩⟩
  have s12 := s1.trans s2
  have sF7 := sF.trans s12
  refine ⟨_, rfl, x, dx, _, rfl, sF7 _ _ hpx, rfl, x, tb, rfl, tF.to sF7, n16, fun u3 G3 hu3 s3 => ⟨_, .list (rD tb), rfl, (hu3.same nw_same).dq, okT.shows, Nat.le_trans okT.deep (by decide), okT.len (by decide), ?_⟩⟩
  have sF8 := sF7.trans s3
  refine ⟨_, rfl, _, .list (rD tb), rfl, (RF.same sF8).dq, okT.shows, Nat.le_trans okT.deep (by decide), okT.len (by decide), rfl, _, rfl, iteNS rfl ?_⟩
  have tY8 := tY.to (s12.trans s3)
  have bJ8 := bJ.same (s12.trans s3)
  clear s12 s1 s2 s3 sF6 sF7 hu1 hu2 hu3 tY bJ sF hpy
  -- back
  refine ⟨_, rfl, av, rxs, rfl, .inl (SqL.of (sF8 _ _ eaF)), ?_⟩
  rw [lrx]
  refine ⟨_, rfl, by omega, by omega, fun B hB => ?_⟩
  have fB : F B = none := sF8.free hB
  refine lc_range (lo := 0) (n := ((tb.length : Nat) : Int).toNat) (fun i G => Same G3 G ∧ G B = some (.lst (nv ((List.range i).map fun a => o.idxOf a)))) ⟨Same.new hB _, upd_same⟩ ?_ ?_
  · rintro i G hi ⟨sG, eB⟩
    have hi' : i < tb.length := by omega
    have hio : i ∈ o := pm_mem pm hi'
    have gt : o.idxOf i < o.length := List.idxOf_lt_length_iff.mpr hio
    rw [Int.zero_add]
    have eD' := (sF8.trans sG) _ _ eO
    refine ⟨rfl, _, rfl, Or.inl ⟨rfl, _, SqL.of eD'⟩, _, rfl, D, nv o, .int ((i : Nat) : Int), o.idxOf i, .int ((i : Nat) : Int), rfl, rfl, SqL.of eD', rfl, ?_, ?_, beq_self_eq_true _, fun m z' hm hz' => ?_, _, eB, by rw [nv_len, List.length_map, List.length_range]; exact small1000 (by omega), fun c ob ec => by rw [upd_ne (ne_of_none ec hB)]; exact sG c ob ec, ?_⟩
    · unfold nv; rw [List.all_map]; exact List.all_eq_true.mpr fun _ _ => rfl
    · unfold nv; rw [List.getElem?_map, List.getElem?_eq_getElem gt, List.getElem_idxOf gt]; rfl
    · obtain ⟨w, hw, rfl⟩ := nv_at hz'
      have ne := idx_ahead1 hm hw
      exact beq_eq_false_iff_ne.mpr (by omega)
    · rw [upd_same, List.range_succ, List.map_append]
      unfold nv
      rw [List.map_append]; rfl
  rintro G4' ⟨sG, eB⟩
  have eB : G4' B = some (.lst (nv (inv o))) := by
    rw [Int.toNat_natCast, ← lo] at eB
    exact eB
  have sF9 := sF8.trans sG
  have tY9 := tY8.to sG
  have bJ9 := bJ8.same sG
  clear sG sF8 tY8 bJ8 hB
  have linv : (inv o).length = tb.length := by unfold inv; rw [List.length_map, List.length_range, lo]
  have ginv : ∀ e, e < tb.length → atI (nv (inv o)) (e : Int) = some (.int ((o.idxOf e : Nat) : Int)) := fun e he => atI_nat (by
    unfold nv inv
    rw [List.map_map, List.getElem?_map, List.getElem?_range (by omega)]; rfl)
  -- identities
  refine ⟨_, rfl, x, dx, _, rfl, sF9 _ _ hpx, rfl, x, tb, rfl, tF.to sF9, S, fun J1 s1 => ?_⟩
  have sF10 := sF9.trans s1
  obtain ⟨dy, ty2, rsy, hpy, _, _⟩ := tY9.ob
  have ltR : ∀ e, idn (ren tb o) = some e → e < 1000 := fun e he => by
    have := (List.find?_range_eq_some.mp (show (List.range (ren tb o).length).find? (neutral (ren tb o)) = some e from he)).2.1
    have := List.mem_range.mp this
    omega
  have okI := vO_ok ltR
  have hidn := idn_ren TT pm
  refine ⟨fun b G => b = false ∧ Same J1 G, ?_, ?_⟩
  · refine ⟨_, rfl, y, dy, _, rfl, s1 _ _ hpy, rfl, y, ren tb o, rfl, tY9.to s1, SR, fun J2 s2 => ?_⟩
    refine ⟨_, vD (idn (ren tb o)), rfl, vO_dq, okI.shows, Nat.le_trans okI.deep (by decide), okI.len (by decide), ?_⟩
    cases hi : idn tb with
    | none =>
      rw [hidn, hi]
      exact ⟨_, rfl, rfl, _, rfl, iteT ⟨.non, .none, rfl, .non, by decide +kernel, by decide +kernel, OkD.none.len (by decide), rfl, _, rfl, nb_same rfl, s2⟩⟩
    | some e =>
      rw [hidn, hi]
      have he : e < tb.length := List.mem_range.mp (List.find?_range_eq_some.mp (show (List.range tb.length).find? (neutral tb) = some e from hi)).2.1
      have hx := pm_ix pm he
      have ok1 : OkD 0 100 (.int ((o.idxOf e : Nat) : Int)) := OkD.int (by show o.idxOf e < 2 ^ 98; exact Nat.lt_of_lt_of_le hx (Nat.le_trans n16 (by decide)))
      exact ⟨_, rfl, rfl, _, rfl, iteF ⟨_, rfl, _, rfl, B, _, (e : Int), _, rfl, rfl, SqL.of ((s1.trans s2) _ _ eB), ginv e he, .int _, .int ((o.idxOf e : Nat) : Int), rfl, .int _, ok1.shows, Nat.le_trans ok1.deep (by decide), ok1.len (by decide), rfl, _, rfl, nb_same rfl, s2⟩⟩
  rintro _ J2 ⟨rfl, s2⟩
  refine iteF ?_
  have sF11 := sF10.trans s2
  have s12 := s1.trans s2
  have tY11 := tY9.to s12
  have bJ11 := bJ9.same s12
  have eB11 := s12 _ _ eB
  clear s1 s2 s12 sF10 sF9 tY9 bJ9 eB hpy okI ltR
  obtain ⟨dy, ty2, rsy, hpy, _, _⟩ := tY11.ob
  -- idempotents
  have smallI : ∀ {tb' : List (List Int)} {i : Nat}, i ≤ 16 → (∀ x, x ∈ idem tb' i → x.natAbs < 1000) ∧ (idem tb' i).length ≤ 16 := fun {tb' i} hi => ⟨fun x hx => by
    unfold idem at hx
    obtain ⟨e, he, rfl⟩ := List.mem_map.mp hx
    have := List.mem_range.mp (List.mem_filter.mp he).1
    show e < 1000
    omega, Nat.le_trans idem_len hi⟩
  refine ⟨_, rfl, y, dy, _, rfl, hpy, rfl, y, ren tb o, rfl, tY11, SR, fun a J3 ha ea1 s3 => ?_⟩
  rw [ren_len] at ea1
  have okD := iD_ok (smallI (tb' := ren tb o) n16).1 (smallI (tb' := ren tb o) n16).2
  refine ⟨_, .list (iD (idem (ren tb o) tb.length)), rfl, .lst ea1 (iD_dq _), okD.shows, Nat.le_trans okD.deep (by decide), okD.len (by decide), ?_⟩
  have sF12 := sF11.trans s3
  refine ⟨_, rfl, x, dx, _, rfl, sF12 _ _ hpx, rfl, x, tb, rfl, tF.to sF12, S, fun a2 J4 ha2 ea2 s4 => ⟨a2, rfl, ⟨_, SqL.of ea2⟩, fun D2 hD2 => ?_⟩⟩
  have len2 : ((idem tb tb.length).map V.int).length = (idem tb tb.length).length := List.length_map _
  have l16 := (smallI (tb' := tb) n16).2
  have eB12 := s4 _ _ (s3 _ _ eB11)
  refine lc_it (walk_list (xs := (idem tb tb.length).map V.int)) (fun i G => Same J4 G ∧ G D2 = some (.lst ((((idem tb tb.length).map fun e : Int => ((o.idxOf e.toNat : Nat) : Int)).take i).map V.int))) ⟨Same.new hD2 _, upd_same⟩ (fun i G _ z => SqL.of (z.1 _ _ ea2)) ?_ ?_
  · rintro i v G1 G2 hi ⟨sG, e2⟩ ⟨rfl, hv⟩
    rw [len2] at hi
    have hmem := List.getElem_mem hi
    have hv' : v = .int (idem tb tb.length)[i] := by
      rw [List.getElem?_map, List.getElem?_eq_getElem hi] at hv
      exact (Option.some.inj hv).symm
    subst hv'
    obtain ⟨e, he1, he2⟩ : ∃ e : Nat, (idem tb tb.length)[i] = (e : Int) ∧ e < tb.length := by
      unfold idem at hmem
      obtain ⟨e, he, e1⟩ := List.mem_map.mp hmem
      exact ⟨e, e1.symm, List.mem_range.mp (List.mem_filter.mp he).1⟩
    refine ⟨rfl, _, rfl, _, rfl, B, _, _, .int ((o.idxOf e : Nat) : Int), rfl, rfl, SqL.of (sG _ _ eB12), by rw [he1]; exact ginv e he2, _, e2, by rw [List.length_map, List.length_take]; exact small1000 (by omega), fun b o' ec => by rw [upd_ne (ne_of_none ec hD2)]; exact sG b o' ec, ?_⟩
    rw [upd_same, List.take_add_one, List.getElem?_map, List.getElem?_eq_getElem hi, List.map_append]
    refine congrArg (fun z => some (HO.lst (_ ++ [V.int z]))) ?_
    rw [he1]; rfl
  rintro J5 ⟨s5, e5⟩
  rw [len2, List.take_of_length_le (by rw [List.length_map]; exact Nat.le_refl _)] at e5
  refine ⟨D2, _, rfl, SqL.of e5, by rw [List.length_map]; omega, fun ns' pS perm pw hpS => ?_⟩
  have hns : ns' = idem (ren tb o) tb.length := (perm.trans (idem_ren TT pm).symm).eq_of_pairwise (fun x y _ _ h1 h2 => Int.le_antisymm h1 h2) pw (idem_sorted _)
  subst hns
  have s6 := Same.new hpS (.lst ((idem (ren tb o) tb.length).map V.int))
  refine ⟨_, .list (iD (idem (ren tb o) tb.length)), rfl, .lst upd_same (iD_dq _), okD.shows, Nat.le_trans okD.deep (by decide), okD.len (by decide), rfl, _, rfl, iteNS rfl ?_⟩
  have s36 := s3.trans (s4.trans (s5.trans s6))
  have sF13 := sF11.trans s36
  have tY13 := tY11.to s36
  have bJ13 := bJ11.same s36
  have eB13 := s36 _ _ eB11
  generalize upd J5 pS (.lst ((idem (ren tb o) tb.length).map V.int)) = A5 at sF13 tY13 bJ13 eB13 ⊢
  clear s36 s6 s5 s4 s3 sF11 sF12 tY11 bJ11 eB11 eB12 e5 ea1 ea2 ha ha2 hD2 hpS perm pw hpy
  -- the way back
  obtain ⟨dy, ty2, rsy, hpy, _, _⟩ := tY13.ob
  have pinv : (inv o).Perm (List.range (ren tb o).length) := by rw [ren_len]; exact inv_pm pm
  refine ⟨_, rfl, y, dy, _, rfl, hpy, rfl, _, rfl, y, .ref B, ren tb o, rfl, tY13, TR, .inl ⟨B, inv o, rfl, .inl (SqL.of eB13), pinv, fun z J6 hz tZ s6 => ?_⟩⟩
  have sF14 := sF13.trans s6
  have tX14 := tF.to sF14
  have tY14 := tY13.to s6
  obtain ⟨dz, tz, rsz, hpz, _, _⟩ := tZ.ob
  refine ⟨_, rfl, z, x, dz, dx, _, _, rfl, rfl, hpz, sF14 _ _ hpx, z, x, _, _, rfl, tZ, tX14, _, rfl, _, rfl, ?_⟩
  rw [decide_eq_true (ren_inv TT pm)]
  refine iteF ⟨_, rfl, _, .ref C, _, .ref C, true, rfl, .own C, tY14.ty T Y, kit_self K C, _, rfl, iteF ?_⟩
  have bJ14 := bJ13.same s6
  -- another order
  refine ⟨_, rfl, _, rfl, av, rxs, rfl, .inl (SqL.of (sF14 _ _ eaF)), ?_⟩
  rw [lrx]
  refine ⟨p, tb.length, rfl, bJ14, n16, fun D3 J7 o2 b7' x7 hD3 eD3 pm2 => ?_⟩
  have sF15 := fx sF14 nF x7
  have tY15 : TbA K C J7 y (ren tb o) := TbA.sx x7 bJ14 tY14
  have lo2 := pm_len pm2
  refine ⟨_, rfl, D3, rfl, ⟨_, SqL.of eD3⟩, fun D4 hD4 => ?_⟩
  refine lc_it (walk_list (xs := nv o2)) (fun i G => Same J7 G ∧ G D4 = some (.lst (nv ((o2.map fun i => o.getD i 0).take i)))) ⟨Same.new hD4 _, upd_same⟩ (fun i G _ z => SqL.of (z.1 _ _ eD3)) ?_ ?_
  · rintro i v G1 G2 hi ⟨sG, e4⟩ ⟨rfl, hv⟩
    rw [nv_len] at hi
    obtain ⟨c, hc, rfl⟩ := nv_at hv
    have hcl : c < tb.length := pm_lt pm2 (List.mem_of_getElem? hc)
    have hco : (nv o)[c]? = some (.int ((o.getD c 0 : Nat) : Int)) := by
      unfold nv
      rw [List.getElem?_map, List.getElem?_eq_getElem (by omega), pm_get pm hcl]; rfl
    refine ⟨rfl, _, rfl, _, rfl, D, _, _, _, rfl, rfl, SqL.of (sG _ _ (sF15 _ _ eO)), at_of (j := c) rfl hco, _, e4, by rw [nv_len, List.length_take]; exact small1000 (by rw [List.length_map]; omega), fun b o' ec => by rw [upd_ne (ne_of_none ec hD4)]; exact sG b o' ec, ?_⟩
    rw [upd_same, List.take_add_one, List.getElem?_map, hc]
    unfold nv
    rw [List.map_append]; rfl
  rintro J8 ⟨s8, e8⟩
  rw [nv_len, List.take_of_length_le (by rw [List.length_map]; exact Nat.le_refl _)] at e8
  have sF16 := sF15.trans s8
  have tY16 := tY15.to s8
  have bJ16 := b7'.same s8
  have pm2' : o2.Perm (List.range (ren tb o).length) := by rw [ren_len]; exact pm2
  obtain ⟨dy3, ty3, rsy3, hpy3, _, _⟩ := tY16.ob
  refine ⟨_, rfl, y, dy3, _, rfl, hpy3, rfl, _, rfl, y, .ref D3, ren tb o, rfl, tY16, TR, .inl ⟨D3, o2, rfl, .inl (SqL.of (s8 _ _ eD3)), pm2', fun z1 J9 hz1 tZ1 s9 => ?_⟩⟩
  have sF17 := sF16.trans s9
  refine ⟨_, rfl, x, dx, _, rfl, sF17 _ _ hpx, rfl, _, rfl, x, .ref D4, tb, rfl, tF.to sF17, TT, .inl ⟨D4, _, rfl, .inl (SqL.of (s9 _ _ e8)), both_pm pm pm2, fun z2 J10 hz2 tZ2 s10 => ?_⟩⟩
  have tZ1' := tZ1.to s10
  obtain ⟨dz1, tz1, rsz1, hpz1, _, _⟩ := tZ1'.ob
  obtain ⟨dz2, tz2, rsz2, hpz2, _, _⟩ := tZ2.ob
  refine ⟨z1, z2, dz1, dz2, _, _, rfl, rfl, hpz1, hpz2, z1, z2, _, _, rfl, tZ1', tZ2, _, rfl, ?_⟩
  rw [decide_eq_true (ren_ren TT pm pm2)]
  exact q _ (bJ16.same (s9.trans s10)) (xF (sF17.trans s10))
end
end L

set_option Elab.async false
set_option linter.all false
set_option maxRecDepth 100000
set_option maxHeartbeats 4000000
set_option pp.maxSteps 400
namespace L
open PySem L2 KX
abbrev sLaw : Stmt := top 36
abbrev nLaw : List Str := ["script", "k", "box", "rows", "table", "turn", "value", "kept", "found", "other"]
def spLaw (K : PySem.W.Frag) : Sp := fun vs H Q _ => ∃ (a : Addr) (ns : List Int), vs = [.ref a] ∧ SqL K H a (ns.map V.int) ∧ ns.length ≤ 63 ∧ ∀ H', Q (.bl true) H'
theorem kit_no {K : PySem.W.Frag} {C : Addr} (hl : PySem.W.subIn K (.ref C) (.type "list") = some false) (ht : PySem.W.subIn K (.ref C) (.type "tuple") = some false) : PySem.W.kitAny K (.ref C) [.type "list", .type "tuple"] = some false := by
  have k1 : PySem.W.kitOne K (.ref C) (.type "list") = some false := by
    unfold PySem.W.kitOne PySem.W.kitCls
    rw [show ((Value.ref C) == (Value.type "list")) = false from rfl, if_neg Bool.false_ne_true]
    show (if PySem.W.kitMeta "list" = true then PySem.W.subIn K (.ref C) (.type "list") else none) = some false
    rw [if_pos (by rfl)]; exact hl
  have k2 : PySem.W.kitOne K (.ref C) (.type "tuple") = some false := by
    unfold PySem.W.kitOne PySem.W.kitCls
    rw [show ((Value.ref C) == (Value.type "tuple")) = false from rfl, if_neg Bool.false_ne_true]
    show (if PySem.W.kitMeta "tuple" = true then PySem.W.subIn K (.ref C) (.type "tuple") else none) = some false
    rw [if_pos (by rfl)]; exact ht
  exact kitAny_cons (b := false) k1 (fun _ => kitAny_cons (b := false) k2 (fun _ => rfl) fun z => nomatch z) fun z => nomatch z
/-- a value that is refused, once more is appended where it is a list -/
theorem li_more {G : Hp} {a : Addr} {xs : List V} (h : G a = some (.lst xs)) (l : xs.length ≤ 18) (hx : ∀ x, x ∈ xs → It8 (mn a G) x) (s : Str) (hs : OkD 0 100 (.str s)) : ∃ d, Dq (upd G a (.lst (xs ++ [.str s]))) (.ref a) d ∧ OkD 2 34000 d := by
  obtain ⟨ds, g1, g2, g3⟩ := it8_all hx
  have sm : Same (mn a G) (upd G a (.lst (xs ++ [.str s]))) := fun b o e => by
    have hb : b ≠ a := fun z => by rw [z, mn_p] at e; cases e
    rw [upd_ne hb]; exact mn_same _ _ e
  have app : ∀ {xs : List V} {ds : List PyData}, DqAll (upd G a (.lst (xs ++ [.str s]))) xs ds → True := fun _ => trivial
  have all : DqAll (upd G a (.lst (xs ++ [.str s]))) (xs ++ [.str s]) (ds ++ [.str s]) := by
    have k : ∀ {J : Hp} {us : List V} {es : List PyData}, DqAll J us es → DqAll J (us ++ [.str s]) (es ++ [.str s]) := fun {J us es} h => by
      induction us generalizing es with
      | nil => cases h; exact .cons (.str s) .nil
      | cons u us ih =>
        cases h with
        | cons h1 h2 => exact .cons h1 (ih h2)
    exact k (DqAll.same sm _ _ g1)
  refine ⟨_, .lst upd_same all, (okLi (n := 1) (W := 1700) (m := 19) (fun d hd => ?_) (by rw [List.length_append]; simp; omega)).mono (by omega) (by omega)⟩
  rcases List.mem_append.mp hd with hd | hd
  · exact g2 d hd
  · rw [List.mem_singleton.mp hd]; exact hs.mono (by omega) (by omega)
theorem tb1 : Tb [[0]] where
  sq := ⟨by decide, by decide, by decide, fun a b ha hb => by
    have ha : a < 1 := ha
    have hb : b < 1 := hb
    obtain rfl : a = 0 := by omega
    obtain rfl : b = 0 := by omega
    exact ⟨Int.le_refl _, Int.zero_lt_one⟩⟩
  as := fun a b c ha hb hc => by
    have ha : a < 1 := ha
    have hb : b < 1 := hb
    have hc : c < 1 := hc
    obtain rfl : a = 0 := by omega
    obtain rfl : b = 0 := by omega
    obtain rfl : c = 0 := by omega
    rfl
section
variable {P : Program} {w : World} {K : PySem.W.Frag} {mg : Str → Option Value} {base : Heap} {f f1 f2 f3 f4 f5 f6 f7 f8 f9 fI C CO : Addr} {fd d1 d2 d3 d4 d5 d6 d7 d8 d9 dI : FuncData}
theorem scLaw : FnScope nLaw ["script"] (defScope sLaw) := ⟨rfl, rfl, rfl, by decide +kernel, rfl, by decide +kernel, by decide +kernel⟩
theorem ok_law (F : Fun K "law" "law" sLaw f fd) (M : Mn mg) (T : CTx K mg C) (Y : CTi K C) (nL : PySem.W.subIn K (.ref C) (.type "list") = some false) (nT : PySem.W.subIn K (.ref C) (.type "tuple") = some false) (hS : ∃ o, base.get? sysModules = some o)
    (G1 : FnOk P w K mg base CX0 1 f1 d1 ["script", "k"] (spCell K)) (b1 : Binds K d1 ["script", "k"] []) (k1 : PySem.W.keepIn K (.ref f1) = true) (m1 : mg "_law_cell" = some (.ref f1))
    (G2 : FnOk P w K mg base CX0 1 f2 d2 ["cell"] spBox) (b2 : Binds K d2 ["cell"] []) (k2 : PySem.W.keepIn K (.ref f2) = true) (m2 : mg "_law_box" = some (.ref f2))
    (G3 : FnOk P w K mg base CX0 3 f3 d3 ["box"] spRows) (b3 : Binds K d3 ["box"] []) (k3 : PySem.W.keepIn K (.ref f3) = true) (m3 : mg "_law_rows" = some (.ref f3))
    (G4 : GOk P w K mg base CX0 9 f4 d4 ["box", "rows"] spRight) (b4 : Binds K d4 ["box", "rows"] []) (k4 : PySem.W.keepIn K (.ref f4) = true) (m4 : mg "_law_right" = some (.ref f4))
    (G5 : FnOk P w K mg base CX0 2 f5 d5 ["box", "order"] (spInv K)) (b5 : Binds K d5 ["box", "order"] []) (k5 : PySem.W.keepIn K (.ref f5) = true) (m5 : mg "_law_invalid" = some (.ref f5))
    (G6 : FnOk P w K mg base CX0 2 f6 d6 ["box", "n"] spOrd) (b6 : Binds K d6 ["box", "n"] []) (k6 : PySem.W.keepIn K (.ref f6) = true) (m6 : mg "_law_order" = some (.ref f6))
    (G7 : FnOk P w K mg base CX0 1 f7 d7 ["self"] (spRowsM K C)) (b7 : Binds K d7 ["self"] []) (h7 : Meth K C "rows" f7)
    (G8 : FnOk P w K mg base CX0 4 f8 d8 ["self", "first", "second"] (spPrd K C)) (b8 : Binds K d8 ["self", "first", "second"] []) (h8 : Meth K C "product" f8)
    (G9 : FnOk P w K mg base CX0 9 f9 d9 ["table", "value"] (spRai K C)) (b9 : Binds K d9 ["table", "value"] []) (k9 : PySem.W.keepIn K (.ref f9) = true) (m9 : mg "_law_raised" = some (.ref f9))
    (MI : Mk K C fI) (GI : FnOk P w K mg base CX0 5 fI dI ["self", "rows"] (spInit K C)) (bI : Binds K dI ["self", "rows"] []) :
    GOk P w K mg base CX0 10 f fd ["script"] (spLaw K) := by
  refine gok F scLaw (fun vs H Q E h => ?_) (fun cdv A outer s H vs Q E hr hA h => ?_)
  · obtain ⟨a, ns, rfl, _⟩ := h
    rfl
  obtain ⟨a0, ns, rfl, hN, h63, q⟩ := h
  have hr1 : Room 1 _ := hr.mono (by decide)
  have hr2 : Room 2 _ := hr.mono (by decide)
  have hr3 : Room 3 _ := hr.mono (by decide)
  have hr4 : Room 4 _ := hr.mono (by decide)
  have hr6 : Room 6 _ := hr.mono (by decide)
  have hr9 : Room 9 _ := hr.mono (by decide)
  have hu := hr.units
  have rp := fun {X : Cx} (h1 : X.base = base) (h2 : X.A = (A.deeper (PyProof.Rows.envOfC "law" (defScope sLaw) s.heap.objs.size f cdv))) => @call_repr_q X (by rw [h1]; exact hS) (by rw [h2]; exact hA) (by rw [h2]; exact hu)
  refine ⟨_, (pss_cons (ps_for PassesOwn.never rfl (pi_range1 (by rfl) M.range (pa_cons (pe_callB (call_max2 rfl) (by rfl) M.max (by decide +kernel) (pa_cons pe_int (pa_cons (pe_callB (call_min2 rfl) (by rfl) M.min (by decide +kernel) (pa_cons pe_int (pa_cons (pe_callB call_len_seq (by rfl) M.len PySem.boot_len (pa_cons (pv 0) pa_nil)) pa_nil))) pa_nil))) pa_nil)) (pg_name (i := 1) scLaw.nd rfl (Or.inl rfl)) (pss_cons (ps_set (i := 2) scLaw.nd rfl (Or.inl rfl) (pe_call G2 hr1 (by rfl) m2 k2 b2 .nil pass0 (pa_cons (pe_call G1 hr1 (by rfl) m1 k1 b1 .nil pass0 (pa_cons (pv 0) (pa_cons (pv 1) pa_nil))) pa_nil))) (pss_cons (ps_set (i := 3) scLaw.nd rfl (Or.inl rfl) (pe_call G3 hr3 (by rfl) m3 k3 b3 .nil pass0 (pa_cons (pv 2) pa_nil))) (pss_cons (ps_if (pt_not (pt_val (pe_g G4 hA hr9 (by rfl) m4 k4 b4 .nil pass0 (pa_cons (pv 2) (pa_cons (pv 3) pa_nil))))) (pss_one (ps_ret pe_bl)) pss_nil) (pss_cons (ps_set (i := 4) scLaw.nd rfl (Or.inl rfl) (pe_make MI GI hr6 (by rfl) T.mgC bI .nil pass0 (pa_cons (pv 3) pa_nil))) (pss_cons (ps_for PassesOwn.never rfl (pi_range1 (by rfl) M.range (pa_cons pe_int pa_nil)) (pg_name (i := 5) scLaw.nd rfl (Or.inl rfl)) (pss_cons (ps_set (i := 6) scLaw.nd rfl (Or.inl rfl) (pe_call G5 hr2 (by rfl) m5 k5 b5 .nil pass0 (pa_cons (pv 2) (pa_cons (pe_call G6 hr2 (by rfl) m6 k6 b6 .nil pass0 (pa_cons (pv 2) (pa_cons (pe_callB (lenl (K := K) rfl) (by rfl) M.len PySem.boot_len (pa_cons (pv 3) pa_nil)) pa_nil))) pa_nil)))) (pss_cons (ps_set (i := 7) scLaw.nd rfl (Or.inl rfl) (pe_callB (rp rfl rfl) (by rfl) M.repr (by decide +kernel) (pa_cons (pv 6) pa_nil))) (pss_cons (ps_set (i := 8) scLaw.nd rfl (Or.inl rfl) (pe_call G9 hr9 (by rfl) m9 k9 b9 .nil pass0 (pa_cons (pv 4) (pa_cons (pv 6) pa_nil)))) (pss_cons (ps_if (pw_or (pt_cmpR op_ne (pe_callB (rp rfl rfl) (by rfl) M.repr (by decide +kernel) (pa_cons (pv 6) pa_nil)) (pv 7) (nomark _)) (pw_or (pt_cmpR (op_neD hu) (pe_meth0 (pv 4) T.cl h7 G7 hr1 b7 .nil pass0) (pv 3) (nomark _)) (pw_or1 (pt_cmpR op_ne (pe_meth (pv 4) T.cl h8 G8 hr4 b8 .nil pass0 (pa_cons pe_int (pa_cons pe_int pa_nil))) (pe_ix (ixl (K := K) rfl) (pe_ix (ixl (K := K) rfl) (pv 3) pe_int (fun _ _ => rfl)) pe_int (fun _ _ => rfl)) (nomark _))))).pt (pss_one (ps_ret pe_bl)) pss_nil) (pss_cons (ps_cut (ps_if (pt_val (pe_callB call_isi (by rfl) M.isin (by decide +kernel) (pa_cons (pv 6) (pa_cons (pe_bltn (v := .ty "list") (by rfl) M.list (by decide +kernel) rfl) pa_nil)))) (pss_one (ps_expr (pe_bm PySem.F.plainAttrs_list PySem.F.slot_list_append PySem.F.type_list_append mt_append (pv 6) (pa_cons pe_str pa_nil)))) pss_nil)) (pss_one (ps_if (pt_cmpR op_ne (pe_callB (rp rfl rfl) (by rfl) M.repr (by decide +kernel) (pa_cons (pv 8) pa_nil)) (pe_callB (rp rfl rfl) (by rfl) M.repr (by decide +kernel) (pa_cons (pe_lst (pa_cons pe_str (pa_cons (pv 6) pa_nil))) pa_nil)) (nomark _)) (pss_one (ps_ret pe_bl)) pss_nil)))))))) (pss_cons (ps_set (i := 9) scLaw.nd rfl (Or.inl rfl) (pe_make MI GI hr6 (by rfl) T.mgC bI .nil pass0 (pa_cons (pe_lst (pa_cons (pe_lst (pa_cons pe_int pa_nil)) pa_nil)) pa_nil))) (pss_one (ps_if (pw_or (pt_cmpR (op_neS hu) (pe_call G9 hr9 (by rfl) m9 k9 b9 .nil pass0 (pa_cons (pv 4) (pa_cons (pv 9) pa_nil))) (pe_lst (pa_cons pe_str (pa_cons (pv 9) pa_nil))) (nomark _)) (pw_or1 (pt_cmpR (op_neD hu) (pe_meth0 (pv 4) T.cl h7 G7 hr1 b7 .nil pass0) (pv 3) (nomark _)))).pt (pss_one (ps_ret pe_bl)) pss_nil))))))))) (pss_one (ps_ret pe_bl))), ?_⟩
  have len : (ns.map V.int).length = ns.length := List.length_map _
  refine ⟨_, rfl, a0, _, rfl, .inl hN, _, _, rfl, _, _, rfl, _, rfl, ?_⟩
  rw [len]
  generalize hm : (if (if (ns.length : Int) < 8 then (ns.length : Int) else 8) > 2 then (if (ns.length : Int) < 8 then (ns.length : Int) else 8) else 2) = m
  have hm8 : 0 ≤ m ∧ m ≤ 8 := by rw [← hm]; split <;> split <;> omega
  refine ⟨by omega, by omega, ?_⟩
  refine for_range (lo := 0) (n := m.toNat) (fun _ σ J => Same H J ∧ ∃ x1 x2 x3 x4 x5 x6 x7 x8 x9, σ = [some (.ref a0), x1, x2, x3, x4, x5, x6, x7, x8, x9]) ⟨Same.refl H, _, _, _, _, _, _, _, _, _, rfl⟩ ?_ ?_
  rotate_left
  · rintro _ J ⟨sJ, x1, x2, x3, x4, x5, x6, x7, x8, x9, rfl⟩
    exact q J
  rintro k _ J hk ⟨sJ, x1, x2, x3, x4, x5, x6, x7, x8, x9, rfl⟩
  refine ⟨_, rfl, _, rfl, a0, ns, _, rfl, sJ.seq hN, by omega, fun c => ⟨c, rfl, fun p J1 sJ1 hp0 bx1 => ?_⟩⟩
  have np : H p = none := sJ.free hp0
  have sH1 : Same H J1 := sJ.trans sJ1
  refine ⟨_, rfl, p, rfl, bx1, fun v3 J3 n3 f3' h3 => ?_⟩
  have n31 := h3.n1
  have n316 := h3.n16
  have T3 : Tb (tab n3 f3') := tab_tb h3.n1 h3.n16 h3.as
  have R3 : RowsL (mn p J3) v3 (tab n3 f3') := h3.rows.same (mn_nw bx1.nn)
  have sH3 : Same H J3 := fx sH1 np h3.sx
  have bx3 := h3.bx
  have l1 : 1 ≤ (tab n3 f3').length := by rw [tab_len]; exact n31
  clear h3
  generalize tab n3 f3' = tb at *
  obtain ⟨av, xs3, rfl, ea3, l3⟩ := R3.sq
  refine ⟨_, rfl, _, rfl, p, .ref av, tb, rfl, bx3, R3, T3, fun J4 b4' x4' => ⟨_, rfl, iteF ?_⟩⟩
  have R4 : RowsL (mn p J4) (.ref av) tb := R3.same (mnp x4')
  refine ⟨_, rfl, fun x1 e1 hx1 he1 ne1 => init_at (R4.same mn_same) T3 hx1 he1 ne1 fun G1' s1 t1 => ?_⟩
  have bG := b4'.same s1
  let FF : Hp := mn p G1'
  have nF : FF p = none := mn_p
  have sF0 : Same FF G1' := mn_same
  have RF : RowsL FF (.ref av) tb := R4.same (mn_mono s1)
  have tF : TbA K C FF x1 tb := TbA.sx mn_sx bG t1
  have sHF : Same H FF := fun b o e => by
    have hb := ne_of_none e np
    exact mn_sx _ _ hb (s1 _ _ (x4' _ _ hb (sH3 _ _ e)))
  generalize FF = F at nF sF0 RF tF sHF
  obtain ⟨_, xs, e0, eaF, lxs⟩ := RF.sq
  cases e0
  have n16 := T3.sq.ge
  have S := T3.sq
  obtain ⟨_, rs0, r0, e0, er0, at0, ert0⟩ := rw_at RF (a := 0) (by omega)
  cases e0
  rw [eaF] at er0
  cases er0
  have atv0 : ((tb.getD 0 []).map V.int)[0]? = some (.int (mu tb 0 0)) := row_g S (by omega) (by omega)
  refine ⟨_, rfl, by decide, by decide, ?_⟩
  refine for_range (lo := 0) (n := Int.toNat 5) (fun j σ J => Same F J ∧ Bx J p ∧ ∃ x5 x6 x7 x8 x9, σ = [some (.ref a0), some (.int (0 + (k : Int))), some (.ref p), some (.ref av), some (.ref x1), x5, x6, x7, x8, x9]) ⟨sF0, bG, _, _, _, _, _, rfl⟩ ?_ ?_
  · rintro j _ J hj ⟨sJ2, bJ, y5, y6, y7, y8, y9, rfl⟩
    refine ⟨_, rfl, _, rfl, _, rfl, av, _, rfl, .inl (SqL.of (sJ2 _ _ eaF)), ?_⟩
    rw [lxs]
    refine ⟨p, tb.length, rfl, bJ, n16, fun D J5 o b5' x5' hD eD pm => ?_⟩
    have nDp : D ≠ p := bJ.ne hD
    have sF5 : Same F J5 := fx sJ2 nF x5'
    refine ⟨p, D, o, tb.length, rfl, b5', eD, nDp, pm, l1, n16, fun v J6 b6' x6' hv hnew => ?_⟩
    have sF6 : Same F J6 := fx sF5 nF x6'
    have hv6 := hv.same (K := K) (J := J6) mn_same
    obtain ⟨dv, hdv, okv⟩ := hv6.data
    refine ⟨_, rfl, v, dv, rfl, hdv, okv.shows, Nat.le_trans okv.deep (by decide), okv.len (by decide), ?_⟩
    have t6 := tF.to sF6
    refine ⟨_, rfl, _, rfl, x1, v, tb, rfl, t6, T3, hv6.bad, fun fo J7 s7 hfo efo => ?_⟩
    have sF7 := sF6.trans s7
    have b7' := b6'.same s7
    refine ⟨_, rfl, v, dv, rfl, Dq.same s7 _ _ hdv, okv.shows, Nat.le_trans okv.deep (by decide), okv.len (by decide), _, rfl, rfl, _, rfl, iteNS rfl ?_⟩
    have t7 := tF.to sF7
    obtain ⟨dx7, tt7, rs7, hp7, _, _⟩ := t7.ob
    refine ⟨_, rfl, x1, dx7, _, rfl, hp7, rfl, x1, tb, rfl, t7, n16, fun u J8 hu8 s8 => ?_⟩
    have sF8 := sF7.trans s8
    have t8 := tF.to sF8
    obtain ⟨dx8, tt8, rs8, hp8, _, _⟩ := t8.ob
    refine ⟨_, rfl, .list (rD tb), .list (rD tb), (hu8.same nw_to).dp, (RF.same sF8).dp, rD_shaped tb, rD_shaped tb, _, rfl, ?_⟩
    rw [rD_refl]
    refine iteF ⟨_, rfl, x1, dx8, _, rfl, hp8, rfl, x1, 0, 0, tb, rfl, t8, S, by omega, by omega, _, rfl, av, _, _, _, rfl, rfl, SqL.of (sF8 _ _ eaF), at_of (j := 0) rfl at0, r0, _, _, _, rfl, rfl, SqL.of (sF8 _ _ ert0), at_of (j := 0) rfl atv0, rfl, _, rfl, iteNS rfl ?_⟩
    have s68 := s7.trans s8
    have b8' := b7'.same s8
    have efo8 := s8 _ _ efo
    refine ⟨fun σ J9 => Same F J9 ∧ Bx J9 p ∧ (∃ dv', Dq J9 v dv' ∧ OkD 2 34000 dv') ∧ J9 fo = some (.lst [.str (Str.ofString "order"), v]) ∧ σ = [some (.ref a0), some (.int (0 + (k : Int))), some (.ref p), some (.ref av), some (.ref x1), some (.int (0 + (j : Int))), some v, some (.str dv.shown), some (.ref fo), y9], ?_, ?_⟩
    · cases hv with
      | na h1 h2 h3 h4 h5 => exact ⟨_, rfl, _, .ty "list", _, .type "list", false, rfl, .ty _, TyX.same (mn_same.trans s68) h4, h5, false, rfl, iteF ⟨sF8, b8', ⟨_, Dq.same s68 _ _ hdv, okv⟩, efo8, rfl⟩⟩
      | @tu a xs h1 h2 h3 h4 => exact ⟨_, rfl, .ref a, .ty "list", .type "tuple", .type "list", false, rfl, .ty _, .base (.tup (s68 _ _ (mn_same _ _ h1))), rfl, false, rfl, iteF ⟨sF8, b8', ⟨_, Dq.same s68 _ _ hdv, okv⟩, efo8, rfl⟩⟩
      | @li a xs h1 h2 h3 h4 =>
        have g0 := mn_same _ _ h1
        have g1 := s68 _ _ g0
        have nap : a ≠ p := fun z => by rw [z, mn_p] at h1; cases h1
        have J5a : J5 a = none := hnew a rfl
        have fa : fo ≠ a := fun z => by rw [z, g0] at hfo; cases hfo
        refine ⟨_, rfl, .ref a, .ty "list", .type "list", .type "list", true, rfl, .ty _, .base (.lst g1), rfl, true, rfl, iteT ?_⟩
        refine ⟨_, rfl, Or.inl ⟨rfl, _, SqL.of g1⟩, a, xs, _, rfl, rfl, g1, small1000 (by omega), ?_⟩
        refine ⟨fun b o e => by rw [upd_ne (ne_of_none (sF5 _ _ e) J5a)]; exact sF8 _ _ e, b8'.at_ne nap, li_more g1 h2 (fun x hx => (h3 x hx).same (mn_mono (mn_same.trans s68))) _ ((OkD.str (n := 4) (by unfold Ss; decide +kernel)).mono (by omega) (by omega)), by rw [upd_ne fa]; exact efo8, rfl⟩
    rintro _ J9 ⟨sF9, b9, ⟨dw, hdw, okw⟩, efo9, rfl⟩
    have dl : ∀ {G : Hp} {l : Addr}, Same J9 G → G l = some (.lst [.str (Str.ofString "order"), v]) → Dq G (.ref l) (.list [.str (Str.ofString "order"), dw]) := fun s e => .lst e (.cons (.str _) (.cons (Dq.same s _ _ hdw) .nil))
    have okl : OkD 3 68002 (.list [.str (Str.ofString "order"), dw]) := okLi (n := 2) (W := 34000) (m := 2) (fun d hd => by
      rcases List.mem_cons.mp hd with rfl | hd
      · exact (OkD.str (n := 5) (by unfold Ss; decide +kernel)).mono (by omega) (by omega)
      · rw [List.mem_singleton.mp hd]; exact okw) (by simp)
    refine ⟨_, rfl, .ref fo, _, rfl, dl (Same.refl _) efo9, okl.shows, Nat.le_trans okl.deep (by decide), okl.len (by decide), _, rfl, szl _ (by simp), fun e0 he0 => ?_⟩
    have s9 := Same.new he0 (.lst [.str (Str.ofString "order"), v])
    refine ⟨.ref e0, _, rfl, dl s9 upd_same, okl.shows, Nat.le_trans okl.deep (by decide), okl.len (by decide), rfl, _, rfl, iteNS rfl ?_⟩
    exact ⟨sF9.trans s9, b9.same s9, _, _, _, _, _, rfl⟩
  rintro _ J ⟨sJ2, bJ, y5, y6, y7, y8, y9, rfl⟩
  refine ⟨szl _ (by simp), fun u1 h1 => ⟨szl _ (by simp), fun u2 h2 => fun z ez hz hez nez => ?_⟩⟩
  have q1 := Same.new h1 (.lst [.int 0])
  have q2 := Same.new h2 (.lst [.ref u1])
  refine init_at (tb := [[0]]) ⟨u2, [u1], rfl, upd_same, .cons (q2 _ _ upd_same) .nil⟩ tb1 hz hez nez fun J2 s2 tz => ?_
  have sF2 := sJ2.trans (q1.trans (q2.trans s2))
  refine ⟨_, rfl, _, rfl, x1, .ref z, tb, rfl, tF.to sF2, T3, ⟨none, ⟨.ref C, tz.ty T Y, kit_no nL nT⟩, fun xs z => nomatch z⟩, fun fo J3 s3 hfo efo => ?_⟩
  have sF3 := sF2.trans s3
  refine ⟨_, rfl, szl _ (by simp), fun e0 he0 => ?_⟩
  have s4 := Same.new he0 (.lst [.str (Str.ofString "order"), .ref z])
  refine ⟨fo, e0, [.str (Str.ofString "order"), .ref z], rfl, rfl, SqL.of (s4 _ _ efo), SqL.of upd_same, rfl, _, rfl, iteF ?_⟩
  have sF4 := sF3.trans s4
  have t4 := tF.to sF4
  obtain ⟨dx4, tt4, rs4, hp4, _, _⟩ := t4.ob
  refine ⟨_, rfl, x1, dx4, _, rfl, hp4, rfl, x1, tb, rfl, t4, n16, fun u J5 hu5 s5 => ?_⟩
  have sF5 := sF4.trans s5
  refine ⟨_, rfl, .list (rD tb), .list (rD tb), (hu5.same nw_to).dp, (RF.same sF5).dp, rD_shaped tb, rD_shaped tb, _, rfl, ?_⟩
  rw [rD_refl]
  exact iteF ⟨sHF.trans sF5, _, _, _, _, _, _, _, _, _, rfl⟩
end
end L

set_option Elab.async false
set_option linter.all false
set_option maxRecDepth 100000
set_option maxHeartbeats 4000000
namespace L
open PySem L2 KX
theorem all_mk {l : PySem.W.OpenLaw} {w : World} {K : PySem.W.Frag} {h : Heap} {mg : Str → Option Value} {fa : Addr} (X : K.In h) (G : h.Ns mainGlobals mg) (hfa : mg "law" = some (.ref fa))
    {f0 : Addr} {od0 an0 : Option Addr} {sl0 : Array (Option Value)} {oc0 kV0 dc0 pm0 cd0 ct0 : Value}
    {f1 : Addr} {od1 an1 : Option Addr} {sl1 : Array (Option Value)} {oc1 kV1 dc1 pm1 cd1 ct1 : Value}
    {f2 : Addr} {od2 an2 : Option Addr} {sl2 : Array (Option Value)} {oc2 kV2 dc2 pm2 cd2 ct2 : Value}
    {f3 : Addr} {od3 an3 : Option Addr} {sl3 : Array (Option Value)} {oc3 kV3 dc3 pm3 cd3 ct3 : Value}
    {f4 : Addr} {od4 an4 : Option Addr} {sl4 : Array (Option Value)} {oc4 kV4 dc4 pm4 cd4 ct4 : Value}
    {f5 : Addr} {od5 an5 : Option Addr} {sl5 : Array (Option Value)} {oc5 kV5 dc5 pm5 cd5 ct5 : Value}
    {f6 : Addr} {od6 an6 : Option Addr} {sl6 : Array (Option Value)} {oc6 kV6 dc6 pm6 cd6 ct6 : Value}
    {f7 : Addr} {od7 an7 : Option Addr} {sl7 : Array (Option Value)} {oc7 kV7 dc7 pm7 cd7 ct7 : Value}
    {f8 : Addr} {od8 an8 : Option Addr} {sl8 : Array (Option Value)} {oc8 kV8 dc8 pm8 cd8 ct8 : Value}
    {f9 : Addr} {od9 an9 : Option Addr} {sl9 : Array (Option Value)} {oc9 kV9 dc9 pm9 cd9 ct9 : Value}
    {f10 : Addr} {od10 an10 : Option Addr} {sl10 : Array (Option Value)} {oc10 kV10 dc10 pm10 cd10 ct10 : Value}
    {f11 : Addr} {od11 an11 : Option Addr} {sl11 : Array (Option Value)} {oc11 kV11 dc11 pm11 cd11 ct11 : Value}
    {f12 : Addr} {od12 an12 : Option Addr} {sl12 : Array (Option Value)} {oc12 kV12 dc12 pm12 cd12 ct12 : Value}
    {f13 : Addr} {od13 an13 : Option Addr} {sl13 : Array (Option Value)} {oc13 kV13 dc13 pm13 cd13 ct13 : Value}
    {f14 : Addr} {od14 an14 : Option Addr} {sl14 : Array (Option Value)} {oc14 kV14 dc14 pm14 cd14 ct14 : Value}
    {f15 : Addr} {od15 an15 : Option Addr} {sl15 : Array (Option Value)} {oc15 kV15 dc15 pm15 cd15 ct15 : Value}
    {f16 : Addr} {od16 an16 : Option Addr} {sl16 : Array (Option Value)} {oc16 kV16 dc16 pm16 cd16 ct16 : Value}
    {f17 : Addr} {od17 an17 : Option Addr} {sl17 : Array (Option Value)} {oc17 kV17 dc17 pm17 cd17 ct17 : Value}
    {f18 : Addr} {od18 an18 : Option Addr} {sl18 : Array (Option Value)} {oc18 kV18 dc18 pm18 cd18 ct18 : Value}
    {f19 : Addr} {od19 an19 : Option Addr} {sl19 : Array (Option Value)} {oc19 kV19 dc19 pm19 cd19 ct19 : Value}
    {f20 : Addr} {od20 an20 : Option Addr} {sl20 : Array (Option Value)} {oc20 kV20 dc20 pm20 cd20 ct20 : Value}
    {f21 : Addr} {od21 an21 : Option Addr} {sl21 : Array (Option Value)} {oc21 kV21 dc21 pm21 cd21 ct21 : Value}
    {f22 : Addr} {od22 an22 : Option Addr} {sl22 : Array (Option Value)} {oc22 kV22 dc22 pm22 cd22 ct22 : Value}
    {f23 : Addr} {od23 an23 : Option Addr} {sl23 : Array (Option Value)} {oc23 kV23 dc23 pm23 cd23 ct23 : Value}
    {f24 : Addr} {od24 an24 : Option Addr} {sl24 : Array (Option Value)} {oc24 kV24 dc24 pm24 cd24 ct24 : Value}
    {f25 : Addr} {od25 an25 : Option Addr} {sl25 : Array (Option Value)} {oc25 kV25 dc25 pm25 cd25 ct25 : Value}
    {f26 : Addr} {od26 an26 : Option Addr} {sl26 : Array (Option Value)} {oc26 kV26 dc26 pm26 cd26 ct26 : Value}
    {f27 : Addr} {od27 an27 : Option Addr} {sl27 : Array (Option Value)} {oc27 kV27 dc27 pm27 cd27 ct27 : Value}
    {f28 : Addr} {od28 an28 : Option Addr} {sl28 : Array (Option Value)} {oc28 kV28 dc28 pm28 cd28 ct28 : Value}
    {f29 : Addr} {od29 an29 : Option Addr} {sl29 : Array (Option Value)} {oc29 kV29 dc29 pm29 cd29 ct29 : Value}
    {f30 : Addr} {od30 an30 : Option Addr} {sl30 : Array (Option Value)} {oc30 kV30 dc30 pm30 cd30 ct30 : Value}
    {f31 : Addr} {od31 an31 : Option Addr} {sl31 : Array (Option Value)} {oc31 kV31 dc31 pm31 cd31 ct31 : Value}
    {f32 : Addr} {od32 an32 : Option Addr} {sl32 : Array (Option Value)} {oc32 kV32 dc32 pm32 cd32 ct32 : Value}
    {C : Addr}
    {CO : Addr}
    {tk0 : Tok}
    (aC : PySem.W.nsIn K mainGlobals "ProductTable" = some (some (.ref C)))
    (pg : PySem.W.plainGet K C Str.empty = true)
    (hd : PySem.W.hasDictIn K C = true)
    (po : PySem.W.plainOver K C = true)
    (sa : PySem.W.findIn K (.ref C) "__setattr__" = some (some (.builtin "object.__setattr__")))
    (mk : PySem.W.makesIn K C = true)
    (kc : PySem.W.keepIn K (.ref C) = true)
    (nR : PySem.W.findIn K (.ref C) "_rows" = some none)
    (ya : PySem.W.findIn K (.ref C) "__class__" = some (some (.builtin "object.__class__")))
    (yn : PySem.W.specialIn K (.builtin "object.__class__") "__get__" = some (some (.builtin "getset_descriptor.__get__")))
    (yt : PySem.W.takesIn K (.builtin "object.__class__") = some true)
    (ym : PySem.W.mroIn K C (.type "object") = some true)
    (nN : PySem.W.findIn K (.ref C) "__ne__" = some (some (.builtin "object.__ne__")))
    (aCO : PySem.W.nsIn K mainGlobals "InvalidOrder" = some (some (.ref CO)))
    (clCO : ∃ nm q N bs bm sn sub ab col dd k0 k1 k2 k3 k5, K.lookup CO = some (excClassObj nm q CO N bs bm true sn sub ab col dd k0 k1 k2 k3 k5 "ValueError.__new__") ∧ PySem.HandSPX.refsVE bm = true)
    (saCO : PySem.W.findIn K (.ref CO) "__setattr__" = some (some (.builtin "object.__setattr__")))
    (exCO : PySem.W.subIn K (.ref CO) (.type "BaseException") = some true)
    (tyCO : PySem.W.typeIn K (.ref CO) = some (.type "type"))
    (kCO : PySem.W.keepIn K (.ref CO) = true)
    (gaCO : PySem.W.findIn K (.ref CO) "__getattribute__" = some (some (.builtin "BaseException.__getattribute__")))
    (ggCO : PySem.W.findIn K (.ref CO) "__getattr__" = some none)
    (hdCO : PySem.W.hasDictIn K CO = true)
    (suCO : PySem.W.subIn K (.ref CO) (.ref CO) = some true)
    (nvCO : PySem.W.findIn K (.ref CO) "value" = some none)
    (a0 : PySem.W.nsIn K mainGlobals "is_integer" = some (some (.ref f0)))
    (l0 : K.lookup f0 = some ⟨oc0, od0, .func (PySem.W.fnOf "is_integer" "is_integer" (defArgs sIsInt) (defBody sIsInt) (defScope sIsInt) .none kV0 dc0 pm0 an0 cd0 ct0), sl0⟩)
    (c0 : PySem.W.codeIn K cd0 "is_integer" = true)
    (k0 : PySem.W.keepIn K (.ref f0) = true)
    (a1 : PySem.W.nsIn K mainGlobals "is_list" = some (some (.ref f1)))
    (l1 : K.lookup f1 = some ⟨oc1, od1, .func (PySem.W.fnOf "is_list" "is_list" (defArgs sIsList) (defBody sIsList) (defScope sIsList) .none kV1 dc1 pm1 an1 cd1 ct1), sl1⟩)
    (c1 : PySem.W.codeIn K cd1 "is_list" = true)
    (k1 : PySem.W.keepIn K (.ref f1) = true)
    (a2 : PySem.W.nsIn K mainGlobals "is_number_below" = some (some (.ref f2)))
    (l2 : K.lookup f2 = some ⟨oc2, od2, .func (PySem.W.fnOf "is_number_below" "is_number_below" (defArgs sBelow) (defBody sBelow) (defScope sBelow) .none kV2 dc2 pm2 an2 cd2 ct2), sl2⟩)
    (c2 : PySem.W.codeIn K cd2 "is_number_below" = true)
    (k2 : PySem.W.keepIn K (.ref f2) = true)
    (a3 : PySem.W.nsIn K mainGlobals "is_number_list" = some (some (.ref f3)))
    (l3 : K.lookup f3 = some ⟨oc3, od3, .func (PySem.W.fnOf "is_number_list" "is_number_list" (defArgs sNumList) (defBody sNumList) (defScope sNumList) .none kV3 dc3 pm3 an3 cd3 ct3), sl3⟩)
    (c3 : PySem.W.codeIn K cd3 "is_number_list" = true)
    (k3 : PySem.W.keepIn K (.ref f3) = true)
    (a4 : PySem.W.nsIn K mainGlobals "_are_rows" = some (some (.ref f4)))
    (l4 : K.lookup f4 = some ⟨oc4, od4, .func (PySem.W.fnOf "_are_rows" "_are_rows" (defArgs sAreRows) (defBody sAreRows) (defScope sAreRows) .none kV4 dc4 pm4 an4 cd4 ct4), sl4⟩)
    (c4 : PySem.W.codeIn K cd4 "_are_rows" = true)
    (k4 : PySem.W.keepIn K (.ref f4) = true)
    (a5 : PySem.W.nsIn K mainGlobals "_first_wrong_triple" = some (some (.ref f5)))
    (l5 : K.lookup f5 = some ⟨oc5, od5, .func (PySem.W.fnOf "_first_wrong_triple" "_first_wrong_triple" (defArgs sWrong) (defBody sWrong) (defScope sWrong) .none kV5 dc5 pm5 an5 cd5 ct5), sl5⟩)
    (c5 : PySem.W.codeIn K cd5 "_first_wrong_triple" = true)
    (k5 : PySem.W.keepIn K (.ref f5) = true)
    (a6 : PySem.W.findIn K (.ref C) "__init__" = some (some (.ref f6)))
    (i6 : PySem.W.isFn K (.ref f6) = true)
    (l6 : K.lookup f6 = some ⟨oc6, od6, .func (PySem.W.fnOf "__init__" "ProductTable.__init__" (defArgs sInit) (defBody sInit) (defScope sInit) .none kV6 dc6 pm6 an6 cd6 ct6), sl6⟩)
    (c6 : PySem.W.codeIn K cd6 "ProductTable.__init__" = true)
    (k6 : PySem.W.keepIn K (.ref f6) = true)
    (a7 : PySem.W.findIn K (.ref C) "__len__" = some (some (.ref f7)))
    (i7 : PySem.W.isFn K (.ref f7) = true)
    (l7 : K.lookup f7 = some ⟨oc7, od7, .func (PySem.W.fnOf "__len__" "ProductTable.__len__" (defArgs sLen) (defBody sLen) (defScope sLen) .none kV7 dc7 pm7 an7 cd7 ct7), sl7⟩)
    (c7 : PySem.W.codeIn K cd7 "ProductTable.__len__" = true)
    (k7 : PySem.W.keepIn K (.ref f7) = true)
    (a8 : PySem.W.findIn K (.ref C) "rows" = some (some (.ref f8)))
    (i8 : PySem.W.isFn K (.ref f8) = true)
    (l8 : K.lookup f8 = some ⟨oc8, od8, .func (PySem.W.fnOf "rows" "ProductTable.rows" (defArgs sRowsM) (defBody sRowsM) (defScope sRowsM) .none kV8 dc8 pm8 an8 cd8 ct8), sl8⟩)
    (c8 : PySem.W.codeIn K cd8 "ProductTable.rows" = true)
    (k8 : PySem.W.keepIn K (.ref f8) = true)
    (a9 : PySem.W.nsIn K mainGlobals "check_element" = some (some (.ref f9)))
    (l9 : K.lookup f9 = some ⟨oc9, od9, .func (PySem.W.fnOf "check_element" "check_element" (defArgs sChkE) (defBody sChkE) (defScope sChkE) .none kV9 dc9 pm9 an9 cd9 ct9), sl9⟩)
    (c9 : PySem.W.codeIn K cd9 "check_element" = true)
    (k9 : PySem.W.keepIn K (.ref f9) = true)
    (a10 : PySem.W.findIn K (.ref C) "product" = some (some (.ref f10)))
    (i10 : PySem.W.isFn K (.ref f10) = true)
    (l10 : K.lookup f10 = some ⟨oc10, od10, .func (PySem.W.fnOf "product" "ProductTable.product" (defArgs sPrd) (defBody sPrd) (defScope sPrd) .none kV10 dc10 pm10 an10 cd10 ct10), sl10⟩)
    (c10 : PySem.W.codeIn K cd10 "ProductTable.product" = true)
    (k10 : PySem.W.keepIn K (.ref f10) = true)
    (a11 : PySem.W.nsIn K mainGlobals "_law_cell" = some (some (.ref f11)))
    (l11 : K.lookup f11 = some ⟨oc11, od11, .func (PySem.W.fnOf "_law_cell" "_law_cell" (defArgs sCell) (defBody sCell) (defScope sCell) .none kV11 dc11 pm11 an11 cd11 ct11), sl11⟩)
    (c11 : PySem.W.codeIn K cd11 "_law_cell" = true)
    (k11 : PySem.W.keepIn K (.ref f11) = true)
    (a12 : PySem.W.nsIn K mainGlobals "_law_box" = some (some (.ref f12)))
    (l12 : K.lookup f12 = some ⟨oc12, od12, .func (PySem.W.fnOf "_law_box" "_law_box" (defArgs sBox) (defBody sBox) (defScope sBox) .none kV12 dc12 pm12 an12 cd12 ct12), sl12⟩)
    (c12 : PySem.W.codeIn K cd12 "_law_box" = true)
    (k12 : PySem.W.keepIn K (.ref f12) = true)
    (a13 : PySem.W.nsIn K mainGlobals "_law_take" = some (some (.ref f13)))
    (l13 : K.lookup f13 = some ⟨oc13, od13, .func (PySem.W.fnOf "_law_take" "_law_take" (defArgs sTake) (defBody sTake) (defScope sTake) .none kV13 dc13 pm13 an13 cd13 ct13), sl13⟩)
    (c13 : PySem.W.codeIn K cd13 "_law_take" = true)
    (k13 : PySem.W.keepIn K (.ref f13) = true)
    (a14 : PySem.W.nsIn K mainGlobals "_law_maps" = some (some (.ref f14)))
    (l14 : K.lookup f14 = some ⟨oc14, od14, .func (PySem.W.fnOf "_law_maps" "_law_maps" (defArgs sMaps) (defBody sMaps) (defScope sMaps) .none kV14 dc14 pm14 an14 cd14 ct14), sl14⟩)
    (c14 : PySem.W.codeIn K cd14 "_law_maps" = true)
    (k14 : PySem.W.keepIn K (.ref f14) = true)
    (a15 : PySem.W.nsIn K mainGlobals "_law_plain" = some (some (.ref f15)))
    (l15 : K.lookup f15 = some ⟨oc15, od15, .func (PySem.W.fnOf "_law_plain" "_law_plain" (defArgs sPlain) (defBody sPlain) (defScope sPlain) .none kV15 dc15 pm15 an15 cd15 ct15), sl15⟩)
    (c15 : PySem.W.codeIn K cd15 "_law_plain" = true)
    (k15 : PySem.W.keepIn K (.ref f15) = true)
    (a16 : PySem.W.nsIn K mainGlobals "_law_extended" = some (some (.ref f16)))
    (l16 : K.lookup f16 = some ⟨oc16, od16, .func (PySem.W.fnOf "_law_extended" "_law_extended" (defArgs sExt) (defBody sExt) (defScope sExt) .none kV16 dc16 pm16 an16 cd16 ct16), sl16⟩)
    (c16 : PySem.W.codeIn K cd16 "_law_extended" = true)
    (k16 : PySem.W.keepIn K (.ref f16) = true)
    (a17 : PySem.W.nsIn K mainGlobals "_law_grid" = some (some (.ref f17)))
    (l17 : K.lookup f17 = some ⟨oc17, od17, .func (PySem.W.fnOf "_law_grid" "_law_grid" (defArgs sGrid) (defBody sGrid) (defScope sGrid) .none kV17 dc17 pm17 an17 cd17 ct17), sl17⟩)
    (c17 : PySem.W.codeIn K cd17 "_law_grid" = true)
    (k17 : PySem.W.keepIn K (.ref f17) = true)
    (a18 : PySem.W.nsIn K mainGlobals "_law_words" = some (some (.ref f18)))
    (l18 : K.lookup f18 = some ⟨oc18, od18, .func (PySem.W.fnOf "_law_words" "_law_words" (defArgs sWords) (defBody sWords) (defScope sWords) .none kV18 dc18 pm18 an18 cd18 ct18), sl18⟩)
    (c18 : PySem.W.codeIn K cd18 "_law_words" = true)
    (k18 : PySem.W.keepIn K (.ref f18) = true)
    (a19 : PySem.W.nsIn K mainGlobals "_law_pairs" = some (some (.ref f19)))
    (l19 : K.lookup f19 = some ⟨oc19, od19, .func (PySem.W.fnOf "_law_pairs" "_law_pairs" (defArgs sPairs) (defBody sPairs) (defScope sPairs) .none kV19 dc19 pm19 an19 cd19 ct19), sl19⟩)
    (c19 : PySem.W.codeIn K cd19 "_law_pairs" = true)
    (k19 : PySem.W.keepIn K (.ref f19) = true)
    (a20 : PySem.W.nsIn K mainGlobals "_law_rows" = some (some (.ref f20)))
    (l20 : K.lookup f20 = some ⟨oc20, od20, .func (PySem.W.fnOf "_law_rows" "_law_rows" (defArgs sRows) (defBody sRows) (defScope sRows) .none kV20 dc20 pm20 an20 cd20 ct20), sl20⟩)
    (c20 : PySem.W.codeIn K cd20 "_law_rows" = true)
    (k20 : PySem.W.keepIn K (.ref f20) = true)
    (a21 : PySem.W.findIn K (.ref CO) "__init__" = some (some (.ref f21)))
    (t21 : PySem.W.typeIn K (.ref f21) = some (.type "function"))
    (l21 : K.lookup f21 = some ⟨oc21, od21, .func (PySem.W.fnOf "__init__" "InvalidOrder.__init__" (defArgs sEiO) (defBody sEiO) (defScope sEiO) .none kV21 dc21 pm21 an21 cd21 ct21), sl21⟩)
    (c21 : PySem.W.codeIn K cd21 "InvalidOrder.__init__" = true)
    (k21 : PySem.W.keepIn K (.ref f21) = true)
    (a22 : PySem.W.findIn K (.ref C) "__eq__" = some (some (.ref f22)))
    (i22 : PySem.W.isFn K (.ref f22) = true)
    (l22 : K.lookup f22 = some ⟨oc22, od22, .func (PySem.W.fnOf "__eq__" "ProductTable.__eq__" (defArgs sEqT) (defBody sEqT) (defScope sEqT) .none kV22 dc22 pm22 an22 cd22 ct22), sl22⟩)
    (c22 : PySem.W.codeIn K cd22 "ProductTable.__eq__" = true)
    (k22 : PySem.W.keepIn K (.ref f22) = true)
    (a23 : PySem.W.findIn K (.ref C) "identity" = some (some (.ref f23)))
    (i23 : PySem.W.isFn K (.ref f23) = true)
    (l23 : K.lookup f23 = some ⟨oc23, od23, .func (PySem.W.fnOf "identity" "ProductTable.identity" (defArgs sIdn) (defBody sIdn) (defScope sIdn) .none kV23 dc23 pm23 an23 cd23 ct23), sl23⟩)
    (c23 : PySem.W.codeIn K cd23 "ProductTable.identity" = true)
    (k23 : PySem.W.keepIn K (.ref f23) = true)
    (a24 : PySem.W.findIn K (.ref C) "idempotents" = some (some (.ref f24)))
    (i24 : PySem.W.isFn K (.ref f24) = true)
    (l24 : K.lookup f24 = some ⟨oc24, od24, .func (PySem.W.fnOf "idempotents" "ProductTable.idempotents" (defArgs sIdem) (defBody sIdem) (defScope sIdem) .none kV24 dc24 pm24 an24 cd24 ct24), sl24⟩)
    (c24 : PySem.W.codeIn K cd24 "ProductTable.idempotents" = true)
    (k24 : PySem.W.keepIn K (.ref f24) = true)
    (a25 : PySem.W.findIn K (.ref C) "_table_of" = some (some (.ref f25)))
    (i25 : PySem.W.isFn K (.ref f25) = true)
    (l25 : K.lookup f25 = some ⟨oc25, od25, .func (PySem.W.fnOf "_table_of" "ProductTable._table_of" (defArgs sTo) (defBody sTo) (defScope sTo) .none kV25 dc25 pm25 an25 cd25 ct25), sl25⟩)
    (c25 : PySem.W.codeIn K cd25 "ProductTable._table_of" = true)
    (k25 : PySem.W.keepIn K (.ref f25) = true)
    (a26 : PySem.W.findIn K (.ref C) "renumbered" = some (some (.ref f26)))
    (i26 : PySem.W.isFn K (.ref f26) = true)
    (l26 : K.lookup f26 = some ⟨oc26, od26, .func (PySem.W.fnOf "renumbered" "ProductTable.renumbered" (defArgs sRen) (defBody sRen) (defScope sRen) .none kV26 dc26 pm26 an26 cd26 ct26), sl26⟩)
    (c26 : PySem.W.codeIn K cd26 "ProductTable.renumbered" = true)
    (k26 : PySem.W.keepIn K (.ref f26) = true)
    (a27 : PySem.W.nsIn K mainGlobals "_law_order" = some (some (.ref f27)))
    (l27 : K.lookup f27 = some ⟨oc27, od27, .func (PySem.W.fnOf "_law_order" "_law_order" (defArgs sOrd) (defBody sOrd) (defScope sOrd) .none kV27 dc27 pm27 an27 cd27 ct27), sl27⟩)
    (c27 : PySem.W.codeIn K cd27 "_law_order" = true)
    (k27 : PySem.W.keepIn K (.ref f27) = true)
    (a28 : PySem.W.nsIn K mainGlobals "_law_numbered" = some (some (.ref f28)))
    (l28 : K.lookup f28 = some ⟨oc28, od28, .func (PySem.W.fnOf "_law_numbered" "_law_numbered" (defArgs sNum) (defBody sNum) (defScope sNum) .none kV28 dc28 pm28 an28 cd28 ct28), sl28⟩)
    (c28 : PySem.W.codeIn K cd28 "_law_numbered" = true)
    (k28 : PySem.W.keepIn K (.ref f28) = true)
    (a29 : PySem.W.nsIn K mainGlobals "_law_raised" = some (some (.ref f29)))
    (l29 : K.lookup f29 = some ⟨oc29, od29, .func (PySem.W.fnOf "_law_raised" "_law_raised" (defArgs sRai) (defBody sRai) (defScope sRai) .none kV29 dc29 pm29 an29 cd29 ct29), sl29⟩)
    (c29 : PySem.W.codeIn K cd29 "_law_raised" = true)
    (k29 : PySem.W.keepIn K (.ref f29) = true)
    (a30 : PySem.W.nsIn K mainGlobals "_law_invalid" = some (some (.ref f30)))
    (l30 : K.lookup f30 = some ⟨oc30, od30, .func (PySem.W.fnOf "_law_invalid" "_law_invalid" (defArgs sInv) (defBody sInv) (defScope sInv) .none kV30 dc30 pm30 an30 cd30 ct30), sl30⟩)
    (c30 : PySem.W.codeIn K cd30 "_law_invalid" = true)
    (k30 : PySem.W.keepIn K (.ref f30) = true)
    (a31 : PySem.W.nsIn K mainGlobals "_law_right" = some (some (.ref f31)))
    (l31 : K.lookup f31 = some ⟨oc31, od31, .func (PySem.W.fnOf "_law_right" "_law_right" (defArgs sRt) (defBody sRt) (defScope sRt) .none kV31 dc31 pm31 an31 cd31 ct31), sl31⟩)
    (c31 : PySem.W.codeIn K cd31 "_law_right" = true)
    (k31 : PySem.W.keepIn K (.ref f31) = true)
    (a32 : PySem.W.nsIn K mainGlobals "law" = some (some (.ref f32)))
    (l32 : K.lookup f32 = some ⟨oc32, od32, .func (PySem.W.fnOf "law" "law" (defArgs sLaw) (defBody sLaw) (defScope sLaw) .none kV32 dc32 pm32 an32 cd32 ct32), sl32⟩)
    (c32 : PySem.W.codeIn K cd32 "law" = true)
    (k32 : PySem.W.keepIn K (.ref f32) = true)
    (q0 : PySem.W.nsIn K mainGlobals "LARGEST_TABLE" = some (some (.int 16 tk0)))
    (z_max : PySem.W.nsIn K mainGlobals "max" = some none)
    (z_min : PySem.W.nsIn K mainGlobals "min" = some none)
    (z_len : PySem.W.nsIn K mainGlobals "len" = some none)
    (z_range : PySem.W.nsIn K mainGlobals "range" = some none)
    (z_repr : PySem.W.nsIn K mainGlobals "repr" = some none)
    (z_isinstance : PySem.W.nsIn K mainGlobals "isinstance" = some none)
    (z_all : PySem.W.nsIn K mainGlobals "all" = some none)
    (z_enumerate : PySem.W.nsIn K mainGlobals "enumerate" = some none)
    (z_tuple : PySem.W.nsIn K mainGlobals "tuple" = some none)
    (z_dict : PySem.W.nsIn K mainGlobals "dict" = some none)
    (z_str : PySem.W.nsIn K mainGlobals "str" = some none)
    (z_int : PySem.W.nsIn K mainGlobals "int" = some none)
    (z_bool : PySem.W.nsIn K mainGlobals "bool" = some none)
    (z_list : PySem.W.nsIn K mainGlobals "list" = some none)
    (z_set : PySem.W.nsIn K mainGlobals "set" = some none)
    (z_sorted : PySem.W.nsIn K mainGlobals "sorted" = some none)
    (tL : PySem.W.typeIn K (.ref f7) = some (.type "function"))
    (sCl : PySem.W.subIn K (.ref C) (.type "list") = some false)
    (sCt : PySem.W.subIn K (.ref C) (.type "tuple") = some false)
    : ∃ fd : FuncData, (∀ (s : Shared) (v : Value), BindsTo s fd ⟨[v], []⟩ [("script", v)]) ∧ ∀ base : Heap, K.In base → base.Ns mainGlobals mg → (∃ o, base.get? sysModules = some o) → GOk l.prog w K mg base CX0 10 fa fd ["script"] (spLaw K) := by
  have e := hfa.symm.trans (PySem.W.mg_of X G a32)
  cases e
  have F0 := fun_mk (st := sIsInt) l0 c0 k0
  have b0 := F0.binds (ps := ["value"]) fun _ _ _ _ _ _ us hl => match us, hl with | [_], _ => rfl
  have m0 := PySem.W.mg_of X G a0
  have F1 := fun_mk (st := sIsList) l1 c1 k1
  have b1 := F1.binds (ps := ["value", "least", "most"]) fun _ _ _ _ _ _ us hl => match us, hl with | [_, _, _], _ => rfl
  have m1 := PySem.W.mg_of X G a1
  have F2 := fun_mk (st := sBelow) l2 c2 k2
  have b2 := F2.binds (ps := ["value", "limit"]) fun _ _ _ _ _ _ us hl => match us, hl with | [_, _], _ => rfl
  have m2 := PySem.W.mg_of X G a2
  have F3 := fun_mk (st := sNumList) l3 c3 k3
  have b3 := F3.binds (ps := ["value", "least", "most", "limit"]) fun _ _ _ _ _ _ us hl => match us, hl with | [_, _, _, _], _ => rfl
  have m3 := PySem.W.mg_of X G a3
  have F4 := fun_mk (st := sAreRows) l4 c4 k4
  have b4 := F4.binds (ps := ["rows"]) fun _ _ _ _ _ _ us hl => match us, hl with | [_], _ => rfl
  have m4 := PySem.W.mg_of X G a4
  have F5 := fun_mk (st := sWrong) l5 c5 k5
  have b5 := F5.binds (ps := ["rows"]) fun _ _ _ _ _ _ us hl => match us, hl with | [_], _ => rfl
  have m5 := PySem.W.mg_of X G a5
  have F6 := fun_mk (st := sInit) l6 c6 k6
  have b6 := F6.binds (ps := ["self", "rows"]) fun _ _ _ _ _ _ us hl => match us, hl with | [_, _], _ => rfl
  have F7 := fun_mk (st := sLen) l7 c7 k7
  have b7 := F7.binds (ps := ["self"]) fun _ _ _ _ _ _ us hl => match us, hl with | [_], _ => rfl
  have F8 := fun_mk (st := sRowsM) l8 c8 k8
  have b8 := F8.binds (ps := ["self"]) fun _ _ _ _ _ _ us hl => match us, hl with | [_], _ => rfl
  have F9 := fun_mk (st := sChkE) l9 c9 k9
  have b9 := F9.binds (ps := ["table", "element"]) fun _ _ _ _ _ _ us hl => match us, hl with | [_, _], _ => rfl
  have m9 := PySem.W.mg_of X G a9
  have F10 := fun_mk (st := sPrd) l10 c10 k10
  have b10 := F10.binds (ps := ["self", "first", "second"]) fun _ _ _ _ _ _ us hl => match us, hl with | [_, _, _], _ => rfl
  have F11 := fun_mk (st := sCell) l11 c11 k11
  have b11 := F11.binds (ps := ["script", "k"]) fun _ _ _ _ _ _ us hl => match us, hl with | [_, _], _ => rfl
  have m11 := PySem.W.mg_of X G a11
  have F12 := fun_mk (st := sBox) l12 c12 k12
  have b12 := F12.binds (ps := ["cell"]) fun _ _ _ _ _ _ us hl => match us, hl with | [_], _ => rfl
  have m12 := PySem.W.mg_of X G a12
  have F13 := fun_mk (st := sTake) l13 c13 k13
  have b13 := F13.binds (ps := ["box", "size"]) fun _ _ _ _ _ _ us hl => match us, hl with | [_, _], _ => rfl
  have m13 := PySem.W.mg_of X G a13
  have F14 := fun_mk (st := sMaps) l14 c14 k14
  have b14 := F14.binds (ps := ["box"]) fun _ _ _ _ _ _ us hl => match us, hl with | [_], _ => rfl
  have m14 := PySem.W.mg_of X G a14
  have F15 := fun_mk (st := sPlain) l15 c15 k15
  have b15 := F15.binds (ps := ["kind", "n"]) fun _ _ _ _ _ _ us hl => match us, hl with | [_, _], _ => rfl
  have m15 := PySem.W.mg_of X G a15
  have F16 := fun_mk (st := sExt) l16 c16 k16
  have b16 := F16.binds (ps := ["rows", "kind"]) fun _ _ _ _ _ _ us hl => match us, hl with | [_, _], _ => rfl
  have m16 := PySem.W.mg_of X G a16
  have F17 := fun_mk (st := sGrid) l17 c17 k17
  have b17 := F17.binds (ps := ["box"]) fun _ _ _ _ _ _ us hl => match us, hl with | [_], _ => rfl
  have m17 := PySem.W.mg_of X G a17
  have F18 := fun_mk (st := sWords) l18 c18 k18
  have b18 := F18.binds (ps := []) fun _ _ _ _ _ _ us hl => match us, hl with | [], _ => rfl
  have m18 := PySem.W.mg_of X G a18
  have F19 := fun_mk (st := sPairs) l19 c19 k19
  have b19 := F19.binds (ps := ["one", "other"]) fun _ _ _ _ _ _ us hl => match us, hl with | [_, _], _ => rfl
  have m19 := PySem.W.mg_of X G a19
  have F20 := fun_mk (st := sRows) l20 c20 k20
  have b20 := F20.binds (ps := ["box"]) fun _ _ _ _ _ _ us hl => match us, hl with | [_], _ => rfl
  have m20 := PySem.W.mg_of X G a20
  have F21 := fun_mk (st := sEiO) l21 c21 k21
  have b21 := F21.binds (ps := ["self", "value"]) fun _ _ _ _ _ _ us hl => match us, hl with | [_, _], _ => rfl
  have F22 := fun_mk (st := sEqT) l22 c22 k22
  have b22 := F22.binds (ps := ["self", "other"]) fun _ _ _ _ _ _ us hl => match us, hl with | [_, _], _ => rfl
  have F23 := fun_mk (st := sIdn) l23 c23 k23
  have b23 := F23.binds (ps := ["self"]) fun _ _ _ _ _ _ us hl => match us, hl with | [_], _ => rfl
  have F24 := fun_mk (st := sIdem) l24 c24 k24
  have b24 := F24.binds (ps := ["self"]) fun _ _ _ _ _ _ us hl => match us, hl with | [_], _ => rfl
  have F25 := fun_mk (st := sTo) l25 c25 k25
  have b25 := F25.binds (ps := ["self", "originals"]) fun _ _ _ _ _ _ us hl => match us, hl with | [_, _], _ => rfl
  have F26 := fun_mk (st := sRen) l26 c26 k26
  have b26 := F26.binds (ps := ["self", "order"]) fun _ _ _ _ _ _ us hl => match us, hl with | [_, _], _ => rfl
  have F27 := fun_mk (st := sOrd) l27 c27 k27
  have b27 := F27.binds (ps := ["box", "n"]) fun _ _ _ _ _ _ us hl => match us, hl with | [_, _], _ => rfl
  have m27 := PySem.W.mg_of X G a27
  have F28 := fun_mk (st := sNum) l28 c28 k28
  have b28 := F28.binds (ps := ["rows", "order"]) fun _ _ _ _ _ _ us hl => match us, hl with | [_, _], _ => rfl
  have m28 := PySem.W.mg_of X G a28
  have F29 := fun_mk (st := sRai) l29 c29 k29
  have b29 := F29.binds (ps := ["table", "value"]) fun _ _ _ _ _ _ us hl => match us, hl with | [_, _], _ => rfl
  have m29 := PySem.W.mg_of X G a29
  have F30 := fun_mk (st := sInv) l30 c30 k30
  have b30 := F30.binds (ps := ["box", "order"]) fun _ _ _ _ _ _ us hl => match us, hl with | [_, _], _ => rfl
  have m30 := PySem.W.mg_of X G a30
  have F31 := fun_mk (st := sRt) l31 c31 k31
  have b31 := F31.binds (ps := ["box", "rows"]) fun _ _ _ _ _ _ us hl => match us, hl with | [_, _], _ => rfl
  have m31 := PySem.W.mg_of X G a31
  have F32 := fun_mk (st := sLaw) l32 c32 k32
  have b32 := F32.binds (ps := ["script"]) fun _ _ _ _ _ _ us hl => match us, hl with | [_], _ => rfl
  have m32 := PySem.W.mg_of X G a32
  have M : Mn mg := ⟨PySem.W.mg_none_of X G z_max, PySem.W.mg_none_of X G z_min, PySem.W.mg_none_of X G z_len, PySem.W.mg_none_of X G z_range, PySem.W.mg_none_of X G z_repr, PySem.W.mg_none_of X G z_isinstance, PySem.W.mg_none_of X G z_all, PySem.W.mg_none_of X G z_enumerate, PySem.W.mg_none_of X G z_tuple, PySem.W.mg_none_of X G z_dict, PySem.W.mg_none_of X G z_str, PySem.W.mg_none_of X G z_int, PySem.W.mg_none_of X G z_bool, PySem.W.mg_none_of X G z_list⟩
  refine ⟨PySem.W.fnOf "law" "law" (defArgs sLaw) (defBody sLaw) (defScope sLaw) .none kV32 dc32 pm32 an32 cd32 ct32, fun s v => .of_eq rfl, fun base _ _ hS => ?_⟩
  have T : CTx K mg C := ⟨⟨pg, hd, po, sa⟩, nR, PySem.W.mg_of X G aC⟩
  have Y : CTi K C := ⟨ya, yn, yt, ym⟩
  have EO : ETx K mg "InvalidOrder" "value" CO f21 := ⟨⟨clCO, saCO, exCO, tyCO, kCO⟩, ⟨gaCO, ggCO, exCO, hdCO⟩, a21, t21, nvCO, PySem.W.mg_of X G aCO⟩
  have G0 := ok_isint (P := l.prog) (w := w) (base := base) F0 M
  have G1 := ok_islist (P := l.prog) (w := w) (base := base) F1 M
  have G2 := ok_below F2 G0 b0 k0 m0
  have G3 := ok_numlist F3 M G1 b1 k1 m1 G2 b2 k2 m2
  have G4 := ok_arerows F4 M ⟨_, PySem.W.mg_of X G q0⟩ G1 b1 k1 m1 G3 b3 k3 m3
  have G5 := ok_wrong (P := l.prog) (w := w) (base := base) F5 M
  have G6 := ok_init F6 M T G4 b4 k4 m4 G5 b5 k5 m5
  have G7 := ok_len (P := l.prog) (w := w) (base := base) F7 M T
  have G8 := ok_rowsM (P := l.prog) (w := w) (base := base) F8 M T
  have h_rows : Meth K C "rows" f8 := ⟨a8, i8, k8⟩
  have G9 := ok_chkE F9 M G2 b2 k2 m2 G7 b7 a7 tL
  have G10 := ok_prd F10 T G9 b9 k9 m9
  have h_product : Meth K C "product" f10 := ⟨a10, i10, k10⟩
  have G11 := ok_cell (P := l.prog) (w := w) (base := base) F11 M
  have G12 := ok_box (P := l.prog) (w := w) (base := base) F12 M
  have G13 := ok_take (P := l.prog) (w := w) (base := base) F13 M
  have G14 := ok_maps F14 M G13 b13 k13 m13
  have G15 := ok_plain (P := l.prog) (w := w) (base := base) F15 M
  have G16 := ok_ext (P := l.prog) (w := w) (base := base) F16 M
  have G17 := ok_grid F17 M G13 b13 k13 m13
  have G18 := ok_words (P := l.prog) (w := w) (base := base) F18 M
  have G19 := ok_pairs (P := l.prog) (w := w) (base := base) F19 M
  have G20 := ok_rows F20 M G13 b13 k13 m13 G14 b14 k14 m14 G17 b17 k17 m17 G18 b18 k18 m18 G15 b15 k15 m15 G16 b16 k16 m16 G19 b19 k19 m19
  have G21 := ok_eiO (P := l.prog) (w := w) (base := base) (mg := mg) (C := CO) F21
  have G22 := ok_eqT (P := l.prog) (w := w) (base := base) F22 M T Y
  have G23 := ok_idn (P := l.prog) (w := w) (base := base) F23 M T
  have h_identity : Meth K C "identity" f23 := ⟨a23, i23, k23⟩
  have G24 := ok_idem (P := l.prog) (w := w) (base := base) F24 M T
  have h_idempotents : Meth K C "idempotents" f24 := ⟨a24, i24, k24⟩
  have G25 := ok_to F25 M T ⟨mk, a6, i6, kc⟩ G6 b6
  have h__table_of : Meth K C "_table_of" f25 := ⟨a25, i25, k25⟩
  have G26 := ok_renX F26 M T (PySem.W.mg_none_of X G z_set) EO G21 b21 G3 b3 k3 m3 G25 b25 h__table_of
  have h_renumbered : Meth K C "renumbered" f26 := ⟨a26, i26, k26⟩
  have G27 := ok_ord F27 M G13 b13 k13 m13
  have G28 := ok_num (P := l.prog) (w := w) (base := base) F28 M
  have G29 := ok_rai F29 T EO (exm_mk EO.ox suCO) G26 b26 h_renumbered
  have G30 := ok_inv F30 M (PySem.W.mg_none_of X G z_sorted) G13 b13 k13 m13
  have G31 := ok_right F31 M T Y (PySem.W.mg_none_of X G z_sorted) hS G27 b27 k27 m27 G28 b28 k28 m28 G13 b13 k13 m13 G26 b26 h_renumbered G8 b8 h_rows G23 b23 h_identity G24 b24 h_idempotents G22 b22 a22 i22 nN ym ⟨mk, a6, i6, kc⟩ G6 b6
  exact ok_law F32 M T Y sCl sCt hS G11 b11 k11 m11 G12 b12 k12 m12 G20 b20 k20 m20 G31 b31 k31 m31 G30 b30 k30 m30 G27 b27 k27 m27 G8 b8 h_rows G10 b10 h_product G29 b29 k29 m29 ⟨mk, a6, i6, kc⟩ G6 b6
theorem walk {l : PySem.W.OpenLaw} {q : Program} {loose : List Str} {XP : (Str → Option Value) → Heap → Prop} {YP : World → Heap → Prop} {d : DefRec} {K : Params → PySem.W.Frag} (hn : l.most = some 63) (hdf : d.params.defaults = []) (him : PyProof.Rows.importsNone q = true)
    (hY : ∀ (w : World) (h : Heap), YP w h → (K w.params).In h)
    (F : ∀ (w : World) (mg : Str → Option Value) (fa : Addr) (h : Heap), (K w.params).In h → h.Ns mainGlobals mg → mg d.name = some (.ref fa) →
      ∃ fd : FuncData, (∀ (s : Shared) (u : Value), BindsTo s fd ⟨[u], []⟩ [("script", u)]) ∧ ∀ base : Heap, (K w.params).In base → base.Ns mainGlobals mg → (∃ o, base.get? sysModules = some o) → GOk l.prog w (K w.params) mg base CX0 10 fa fd ["script"] (spLaw (K w.params))) :
    PySem.W.WalkO q loose XP YP l.row.toRowW d [] (fun f vs => PySem.call f vs) :=
  walk_g (n := 63) (k := 10) (x := "script") (sp := spLaw) hn (by decide) hdf ⟨rfl, by decide, by decide⟩ him hY F fun _ _ a ns hl _ hS => ⟨a, ns, rfl, hS, hl, fun _ => rfl⟩
end L
open PySem PySem.W PyProof.Rows
set_option maxRecDepth 100000 in
set_option pp.maxSteps 400 in
set_option maxHeartbeats 0 in
theorem PySem.Challenge.cw_producttrees_k08_renumbered_tables_holds : PySem.Challenge.rw_producttrees_k08_renumbered_tables.Holds := by
  w_on; o_law; k_head; (case hw => w_witness2)
  k_fill
  refine L.walk (l := PySem.Challenge.rw_producttrees_k08_renumbered_tables) rfl rfl (by decide +kernel) (fun w h Y => PySem.W.kIn_of Y) ?F
  case F =>
    intro w mg fa h KX G hmg
    refine' L.all_mk KX G hmg ?aC ?pg ?hd ?po ?sa ?mk ?kc ?nR ?ya ?yn ?yt ?ym ?nN ?aCO ?clCO ?saCO ?exCO ?tyCO ?kCO ?gaCO ?ggCO ?hdCO ?suCO ?nvCO ?a0 ?l0 ?c0 ?k0 ?a1 ?l1 ?c1 ?k1 ?a2 ?l2 ?c2 ?k2 ?a3 ?l3 ?c3 ?k3 ?a4 ?l4 ?c4 ?k4 ?a5 ?l5 ?c5 ?k5 ?a6 ?i6 ?l6 ?c6 ?k6 ?a7 ?i7 ?l7 ?c7 ?k7 ?a8 ?i8 ?l8 ?c8 ?k8 ?a9 ?l9 ?c9 ?k9 ?a10 ?i10 ?l10 ?c10 ?k10 ?a11 ?l11 ?c11 ?k11 ?a12 ?l12 ?c12 ?k12 ?a13 ?l13 ?c13 ?k13 ?a14 ?l14 ?c14 ?k14 ?a15 ?l15 ?c15 ?k15 ?a16 ?l16 ?c16 ?k16 ?a17 ?l17 ?c17 ?k17 ?a18 ?l18 ?c18 ?k18 ?a19 ?l19 ?c19 ?k19 ?a20 ?l20 ?c20 ?k20 ?a21 ?t21 ?l21 ?c21 ?k21 ?a22 ?i22 ?l22 ?c22 ?k22 ?a23 ?i23 ?l23 ?c23 ?k23 ?a24 ?i24 ?l24 ?c24 ?k24 ?a25 ?i25 ?l25 ?c25 ?k25 ?a26 ?i26 ?l26 ?c26 ?k26 ?a27 ?l27 ?c27 ?k27 ?a28 ?l28 ?c28 ?k28 ?a29 ?l29 ?c29 ?k29 ?a30 ?l30 ?c30 ?k30 ?a31 ?l31 ?c31 ?k31 ?a32 ?l32 ?c32 ?k32 ?q0 ?z_max ?z_min ?z_len ?z_range ?z_repr ?z_isinstance ?z_all ?z_enumerate ?z_tuple ?z_dict ?z_str ?z_int ?z_bool ?z_list ?z_set ?z_sorted ?tL ?sCl ?sCt
    (case aC => k_is)
    (case pg => k_is)
    (case hd => k_is)
    (case po => k_is)
    (case sa => k_is)
    (case mk => k_is)
    (case kc => k_is)
    (case nR => k_is)
    (case ya => k_is)
    (case yn => k_is)
    (case yt => k_is)
    (case ym => k_is)
    (case nN => k_is)
    (case aCO => k_is)
    (case clCO => exact ⟨_, _, _, _, _, _, _, _, _, _, _, _, _, _, _, by k_is, by decide +kernel⟩)
    (case saCO => k_is)
    (case exCO => k_is)
    (case tyCO => k_is)
    (case kCO => k_is)
    (case gaCO => k_is)
    (case ggCO => k_is)
    (case hdCO => k_is)
    (case suCO => k_is)
    (case nvCO => k_is)
    (case a0 => k_is)
    (case l0 => k_is)
    (case c0 => k_is)
    (case k0 => k_is)
    (case a1 => k_is)
    (case l1 => k_is)
    (case c1 => k_is)
    (case k1 => k_is)
    (case a2 => k_is)
    (case l2 => k_is)
    (case c2 => k_is)
    (case k2 => k_is)
    (case a3 => k_is)
    (case l3 => k_is)
    (case c3 => k_is)
    (case k3 => k_is)
    (case a4 => k_is)
    (case l4 => k_is)
    (case c4 => k_is)
    (case k4 => k_is)
    (case a5 => k_is)
    (case l5 => k_is)
    (case c5 => k_is)
    (case k5 => k_is)
    (case a6 => k_is)
    (case i6 => k_is)
    (case l6 => k_is)
    (case c6 => k_is)
    (case k6 => k_is)
    (case a7 => k_is)
    (case i7 => k_is)
    (case l7 => k_is)
    (case c7 => k_is)
    (case k7 => k_is)
    (case a8 => k_is)
    (case i8 => k_is)
    (case l8 => k_is)
    (case c8 => k_is)
    (case k8 => k_is)
    (case a9 => k_is)
    (case l9 => k_is)
    (case c9 => k_is)
    (case k9 => k_is)
    (case a10 => k_is)
    (case i10 => k_is)
    (case l10 => k_is)
    (case c10 => k_is)
    (case k10 => k_is)
    (case a11 => k_is)
    (case l11 => k_is)
    (case c11 => k_is)
    (case k11 => k_is)
    (case a12 => k_is)
    (case l12 => k_is)
    (case c12 => k_is)
    (case k12 => k_is)
    (case a13 => k_is)
    (case l13 => k_is)
    (case c13 => k_is)
    (case k13 => k_is)
    (case a14 => k_is)
    (case l14 => k_is)
    (case c14 => k_is)
    (case k14 => k_is)
    (case a15 => k_is)
    (case l15 => k_is)
    (case c15 => k_is)
    (case k15 => k_is)
    (case a16 => k_is)
    (case l16 => k_is)
    (case c16 => k_is)
    (case k16 => k_is)
    (case a17 => k_is)
    (case l17 => k_is)
    (case c17 => k_is)
    (case k17 => k_is)
    (case a18 => k_is)
    (case l18 => k_is)
    (case c18 => k_is)
    (case k18 => k_is)
    (case a19 => k_is)
    (case l19 => k_is)
    (case c19 => k_is)
    (case k19 => k_is)
    (case a20 => k_is)
    (case l20 => k_is)
    (case c20 => k_is)
    (case k20 => k_is)
    (case a21 => k_is)
    (case t21 => k_is)
    (case l21 => k_is)
    (case c21 => k_is)
    (case k21 => k_is)
    (case a22 => k_is)
    (case i22 => k_is)
    (case l22 => k_is)
    (case c22 => k_is)
    (case k22 => k_is)
    (case a23 => k_is)
    (case i23 => k_is)
    (case l23 => k_is)
    (case c23 => k_is)
    (case k23 => k_is)
    (case a24 => k_is)
    (case i24 => k_is)
    (case l24 => k_is)
    (case c24 => k_is)
    (case k24 => k_is)
    (case a25 => k_is)
    (case i25 => k_is)
    (case l25 => k_is)
    (case c25 => k_is)
    (case k25 => k_is)
    (case a26 => k_is)
    (case i26 => k_is)
    (case l26 => k_is)
    (case c26 => k_is)
    (case k26 => k_is)
    (case a27 => k_is)
    (case l27 => k_is)
    (case c27 => k_is)
    (case k27 => k_is)
    (case a28 => k_is)
    (case l28 => k_is)
    (case c28 => k_is)
    (case k28 => k_is)
    (case a29 => k_is)
    (case l29 => k_is)
    (case c29 => k_is)
    (case k29 => k_is)
    (case a30 => k_is)
    (case l30 => k_is)
    (case c30 => k_is)
    (case k30 => k_is)
    (case a31 => k_is)
    (case l31 => k_is)
    (case c31 => k_is)
    (case k31 => k_is)
    (case a32 => k_is)
    (case l32 => k_is)
    (case c32 => k_is)
    (case k32 => k_is)
    (case q0 => k_is)
    (case z_max => k_is)
    (case z_min => k_is)
    (case z_len => k_is)
    (case z_range => k_is)
    (case z_repr => k_is)
    (case z_isinstance => k_is)
    (case z_all => k_is)
    (case z_enumerate => k_is)
    (case z_tuple => k_is)
    (case z_dict => k_is)
    (case z_str => k_is)
    (case z_int => k_is)
    (case z_bool => k_is)
    (case z_list => k_is)
    (case z_set => k_is)
    (case z_sorted => k_is)
    (case tL => k_is)
    (case sCl => k_is)
    (case sCt => k_is)

