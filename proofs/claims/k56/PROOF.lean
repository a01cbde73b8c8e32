import PyProof.Rows.All
import Wide.All
import OpenK.AllK
import Wide.FinOn
import HandS.ForMost
import HandS.IsInst
import HandS.RaiseMore
import HandS.Defaults
import HandS.Wide
import HandS.Walk
import HandS.ForExc
import HandS.ExcInit
import HandS.ExcField
import HandS.ExcOwn
import HandS.Deep
import HandS.Conv
import HandS.OwnEq
import HandS.NamedTupGet
import HandS.Strs
import HandS.SetFor
import HandS.TupAny
import KE.IntTextLaws
import KE.OsScanText
import HandS.StrMore
import PyProof.StrOps2
import PySem.Challenge.RW_producttrees_k56_tables_of_pairs
set_option Elab.async false
set_option linter.all false
set_option maxRecDepth 100000
set_option maxHeartbeats 4000000
/-! Own layer: data trees with dicts (Dq), repr of them, defs that know that no repr runs (GOk). -/
namespace KX
open PySem PySem.Spec PyProof.Rows L2
/-- a dict's key as data -/
def kD : Key → PyData
  | .inl i => .int i
  | .inr x => .str x
mutual
/-- the value x stands for the data d in the abstract heap -/
inductive Dq (H : Hp) : V → PyData → Prop
  | non : Dq H .non .none
  | bl (b : Bool) : Dq H (.bl b) (.bool b)
  | int (i : Int) : Dq H (.int i) (.int i)
  | str (x : Str) : Dq H (.str x) (.str x)
  | lst {a : Addr} {xs : List V} {ds : List PyData} : H a = some (.lst xs) → DqAll H xs ds → Dq H (.ref a) (.list ds)
  | tup {a : Addr} {xs : List V} {ds : List PyData} : H a = some (.tup xs) → DqAll H xs ds → Dq H (.ref a) (.tuple ds)
  | dct {a : Addr} {kvs : List (Key × V)} {ds : List (PyData × PyData)} : H a = some (.dK kvs) → DqKv H kvs ds → Dq H (.ref a) (.dict ds)
inductive DqAll (H : Hp) : List V → List PyData → Prop
  | nil : DqAll H [] []
  | cons {v : V} {vs : List V} {d : PyData} {ds : List PyData} : Dq H v d → DqAll H vs ds → DqAll H (v :: vs) (d :: ds)
inductive DqKv (H : Hp) : List (Key × V) → List (PyData × PyData) → Prop
  | nil : DqKv H [] []
  | cons {k : Key} {v : V} {r : List (Key × V)} {d : PyData} {ds : List (PyData × PyData)} : Dq H v d → DqKv H r ds → DqKv H ((k, v) :: r) ((kD k, d) :: ds)
end
def Trk (H : Hp) (as : List Addr) : Prop := ∀ a, a ∈ as → H a ≠ none
theorem Trk.nil {H : Hp} : Trk H [] := fun _ h => nomatch h
theorem Trk.app {H : Hp} {as bs : List Addr} (h1 : Trk H as) (h2 : Trk H bs) : Trk H (as ++ bs) := fun a h => (List.mem_append.mp h).elim (h1 a) (h2 a)
theorem Trk.one {H : Hp} {a : Addr} {o : HO} {as : List Addr} (h : H a = some o) (h2 : Trk H as) : Trk H (a :: as) := fun b hb => by
  rcases List.mem_cons.mp hb with e | hb
  · subst e; rw [h]; simp
  · exact h2 b hb
section
variable {X : Cx} {pins : List (Addr × Obj)} {σ : L2.St} {H : Hp} {s : Shared}
mutual
theorem Dq.reads (I : Inv X pins σ H s) : ∀ (d : PyData) (v : V) (u : Value), Dq H v d → RelV v u → ∃ as, Reads s.heap u d as ∧ Trk H as
  | .none, _, _, h, r => by cases h; cases r; exact ⟨_, Reads.none, Trk.nil⟩
  | .bool b, _, _, h, r => by cases h; cases r; exact ⟨_, Reads.bool b, Trk.nil⟩
  | .int i, _, _, h, r => by cases h; obtain ⟨t, rfl⟩ := r; exact ⟨_, Reads.int i t, Trk.nil⟩
  | .str x, _, _, h, r => by cases h; obtain ⟨t, rfl⟩ := r; exact ⟨_, Reads.str x t, Trk.nil⟩
  | .list ds, _, _, h, r => by
    cases h with
    | @lst a xs _ hs ha =>
      cases r
      obtain ⟨_, its, n, rv, ho⟩ := (show ObjOk X.prog X.w H s.heap a (.lst xs) from I.hok _ _ hs)
      obtain ⟨as, hr, tr⟩ := Dq.readsAll I ds _ its ha rv
      exact ⟨_, Reads.list ho rfl rfl (by simpa using hr), Trk.one hs tr⟩
  | .tuple ds, _, _, h, r => by
    cases h with
    | @tup a xs _ hs ha =>
      cases r
      obtain ⟨_, its, rv, o, ho, hc, n, hd⟩ := (show ObjOk X.prog X.w H s.heap a (.tup xs) from I.hok _ _ hs)
      obtain ⟨as, hr, tr⟩ := Dq.readsAll I ds _ its ha rv
      exact ⟨_, Reads.tuple ho hc hd (by simpa using hr), tr⟩
  | .dict ds, _, _, h, r => by
    cases h with
    | @dct a kvs _ hs ha =>
      cases r
      obtain ⟨_, _, vs, rv, o, es, ep, ho, hx, hd, _, hp, _⟩ := (show ObjOk X.prog X.w H s.heap a (.dK kvs) from I.hok _ _ hs)
      obtain ⟨as, bs, h1, h2, t1, t2⟩ := Dq.readsKv I ds kvs vs es.toList ha rv hp
      exact ⟨_, Reads.dict ho hx.1 hd h1 h2, Trk.app (Trk.one hs t1) t2⟩
theorem Dq.readsAll (I : Inv X pins σ H s) : ∀ (ds : List PyData) (vs : List V) (us : List Value), DqAll H vs ds → Vals vs us → ∃ as, ReadsAll s.heap us ds as ∧ Trk H as
  | [], _, _, h, r => by cases h; cases r; exact ⟨_, ReadsAll.nil, Trk.nil⟩
  | d :: ds, _, _, h, r => by
    cases h with
    | cons h1 h2 =>
      cases r with
      | cons r1 r2 =>
        obtain ⟨as, q1, t1⟩ := Dq.reads I d _ _ h1 r1
        obtain ⟨bs, q2, t2⟩ := Dq.readsAll I ds _ _ h2 r2
        exact ⟨_, ReadsAll.cons q1 q2, Trk.app t1 t2⟩
theorem Dq.readsKv (I : Inv X pins σ H s) : ∀ (ds : List (PyData × PyData)) (kvs : List (Key × V)) (vs : List (Key × Value)) (es : List DictEntry), DqKv H kvs ds → KV kvs vs → Pairs (mixKind X.prog X.w) es vs →
    ∃ as bs, ReadsAll s.heap (es.map (·.key)) (ds.map (·.1)) as ∧ ReadsAll s.heap (es.map (·.val)) (ds.map (·.2)) bs ∧ Trk H as ∧ Trk H bs
  | [], _, _, _, h, r, p => by cases h; cases r; cases p; exact ⟨_, _, ReadsAll.nil, ReadsAll.nil, Trk.nil, Trk.nil⟩
  | (_, d) :: ds, _, _, _, h, r, p => by
    cases h with
    | @cons k v _ _ _ h1 h2 =>
      cases r with
      | cons r1 r2 =>
        cases p with
        | cons p1 p2 p3 =>
          obtain ⟨as, bs, q1, q2, t1, t2⟩ := Dq.readsKv I ds _ _ _ h2 r2 p3
          obtain ⟨e1, rv⟩ := r1
          rw [← e1] at p1
          rw [← p2] at rv
          obtain ⟨cs, q3, t3⟩ := Dq.reads I d _ _ h1 rv
          rcases keyIs_shape (show keyIs k _ = true from p1) with ⟨i, t, rfl, e⟩ | ⟨x, t, rfl, e⟩
          · exact ⟨_, _, ReadsAll.cons (by show Reads s.heap (DictEntry.key _) (.int i) []; rw [e]; exact Reads.int i t) q1, ReadsAll.cons q3 q2, Trk.app Trk.nil t1, Trk.app t3 t2⟩
          · exact ⟨_, _, ReadsAll.cons (by show Reads s.heap (DictEntry.key _) (.str x) []; rw [e]; exact Reads.str x t) q1, ReadsAll.cons q3 q2, Trk.app Trk.nil t1, Trk.app t3 t2⟩
end
end
section
variable {X : Cx}
/-- repr of a value without parts -/
theorem call_repr_b : CallR X (.builtin "repr") (fun xs H Q => ∃ b : Bool, xs = [.bl b] ∧ Q (.str (PyData.bool b).shown) H) := by
  intro pins s σ H xs us Q I r h
  obtain ⟨b, rfl, q⟩ := h
  obtain ⟨u, rfl, rx⟩ := vals1 r
  cases rx
  exact PySem.P.repr_of_bool ⟨.str _, H, I.tok _, ⟨_, rfl⟩, q⟩
/-- repr of data of any depth, where no repr runs further out -/
def rRepr : List V → Hp → VK → Prop := fun xs H Q => ∃ (x : V) (d : PyData), xs = [x] ∧ Dq H x d ∧ d.showable = true ∧ d.depth ≤ 60 ∧ d.shown.length ≤ sizeLine ∧ Q (.str d.shown) H
theorem call_repr_q (hS : ∃ o, X.base.get? sysModules = some o) (hg : X.A.guards = some []) (hu : X.A.units + 64 < cLine) : CallR X (.builtin "repr") rRepr := by
  intro pins s σ H xs us Q I r h
  obtain ⟨x, d, rfl, hd, hs, hdp, hl, q⟩ := h
  obtain ⟨u, rfl, rx⟩ := vals1 r
  obtain ⟨as, hr, tr⟩ := Dq.reads I d x u hd rx
  obtain ⟨o, ho⟩ := hS
  have hsm : sysModules ∉ as := fun hm => tr _ hm (I.bs _ _ ho).2
  cases hr with
  | none => exact PySem.P.repr_of_none ⟨.str _, H, I.tok _, ⟨_, rfl⟩, q⟩
  | bool b => exact PySem.P.repr_of_bool ⟨.str _, H, I.tok _, ⟨_, rfl⟩, q⟩
  | int i t => exact PySem.P.repr_of_int (by simpa [PyData.showable] using hs) ⟨.str _, H, I.tok _, ⟨_, rfl⟩, q⟩
  | str y t => exact PySem.P.repr_of_str ⟨.str _, H, I.tok _, ⟨_, rfl⟩, q⟩ hl
  | list h1 h2 h3 h4 => exact repr_of_reads' (.list h1 h2 h3 h4) hs (fun _ => hsm) hg (by omega) (fun _ _ e => e) (fun h' u tk hk => ⟨.str _, H, I.kept hk, ⟨u, rfl⟩, q⟩) hl
  | tuple h1 h2 h3 h4 => exact repr_of_reads' (.tuple h1 h2 h3 h4) hs (fun _ => hsm) hg (by omega) (fun _ _ e => e) (fun h' u tk hk => ⟨.str _, H, I.kept hk, ⟨u, rfl⟩, q⟩) hl
  | dict h1 h2 h3 h4 h5 => exact repr_of_reads' (.dict h1 h2 h3 h4 h5) hs (fun _ => hsm) hg (by omega) (fun _ _ e => e) (fun h' u tk hk => ⟨.str _, H, I.kept hk, ⟨u, rfl⟩, q⟩) hl
/-- an expression by what is known of its value -/
theorem pe_mo {e : Expr} {t : TE} (he : PE X e t) : PE X e (fun σ H Q => ∃ R : VK, t σ H R ∧ ∀ x H1, R x H1 → Q x H1) :=
  ⟨fun pins s σ H Q I ⟨R, h, k⟩ => thn (he.run pins s σ H R I h) fun u s1 ⟨x, H1, I1, r, q⟩ => ⟨x, H1, I1, r, k x H1 q⟩⟩
/-- a test by what is known of its answer -/
theorem pt_mo {e : Expr} {t : TT} (he : PT X e t) : PT X e (fun σ H Q => ∃ R : Bool → Hp → Prop, t σ H R ∧ ∀ b H1, R b H1 → Q b H1) :=
  ⟨fun pins s σ H Q I ⟨R, h, k⟩ => thn (he.run pins s σ H R I h) fun b s1 ⟨H1, I1, q⟩ => ⟨H1, I1, k b H1 q⟩⟩
/-- a statement that is never come to -/
theorem ps_dead {st : Stmt} : PS X st (fun _ _ _ => False) := ⟨fun _ _ _ _ _ _ h => h.elim⟩
theorem pss_dead {st : List Stmt} : PSs X st (fun _ _ _ => False) := ⟨fun _ _ _ _ _ _ h => h.elim⟩
end
end KX

set_option Elab.async false
set_option linter.all false
set_option maxRecDepth 100000
set_option maxHeartbeats 4000000
/-! Defs that may use that no repr runs further out (GOk), their calls, and the law's entry for them. -/
namespace KX
open PySem PySem.Spec PyProof.Rows L2
/-- as FnOk, of calls in whose surroundings no container's repr runs -/
structure GOk (P : Program) (w : World) (K : PySem.W.Frag) (mg : Str → Option Value) (base : Heap) (CX : CXT) (k : Nat) (f : Addr) (fd : FuncData) (ps : List Str) (sp : Sp) : Prop where
  arity : ∀ vs H Q E, sp vs H Q E → vs.length = ps.length
  go : ∀ (A : Around) (out : List Env) (s : Shared) (H : Hp) (args : Args) (us : List Value) (vs : List V) (Q : VK) (E : XK),
    Room k A → A.guards = some [] → Env0 P w K mg base A out s H → BindsTo s fd args (ps.zip us) → Vals vs us → sp vs H Q E →
    codeAny (model P w) A (.call (.ref f) args) (CR CX out P w H s Q E) s
theorem FnOk.g {P : Program} {w : World} {K : PySem.W.Frag} {mg : Str → Option Value} {base : Heap} {CX : CXT} {k : Nat} {f : Addr} {fd : FuncData} {ps : List Str} {sp : Sp}
    (F : FnOk P w K mg base CX k f fd ps sp) : GOk P w K mg base CX k f fd ps sp := ⟨F.len, fun A out s H args us vs Q E hr _ => F.run A out s H args us vs Q E hr⟩
section
variable {P : Program} {w : World} {K : PySem.W.Frag} {mg : Str → Option Value} {base : Heap}
/-- a def of the text, by its body, where no repr runs further out -/
theorem gok {CX : CXT} {x qual : Str} {st : Stmt} {f : Addr} {fd : FuncData} {N ps : List Str} {k : Nat} {sp : Sp} (F : Fun K x qual st f fd) (S : FnScope N ps (defScope st))
    (ar : ∀ vs H Q E, sp vs H Q E → vs.length = ps.length)
    (body : ∀ (cdv : Value) (A : Around) (out : List Env) (s : Shared) (H : Hp) (vs : List V) (Q : VK) (E : XK),
      Room k (A.deeper (envOfC qual (defScope st) s.heap.objs.size f cdv)) → A.guards = some [] → sp vs H Q E →
      ∃ t, PSs (cxOf CX P w K mg base N qual (defScope st) f cdv A out s H E).nox (defBody st) t ∧ t { nx := fun _ H' => Q .non H', rt := Q } (start N vs) H) :
    GOk P w K mg base CX (k + 1) f fd ps sp := by
  obtain ⟨oc, od, kV, doc, pm, an, cdv, ct, osl, rfl, lk, hcd⟩ := F.ex
  refine ⟨ar, fun A out s H args us vs Q E hr hA e0 hb r hsp => ?_⟩
  -- the library's rule for a def is about every surroundings: it is asked for a promise that carries this one's guards along
  have hl := ar _ _ _ _ hsp
  have kin : K.In s.heap := e0.mod.kin.keeps fun b o e => (e0.bs b o e).1
  have par : ∀ y ∈ ps.zip us, (defScope st).names.lookup y.1 = some .local ∨
      ((defScope st).names.lookup y.1 = some .cell ∧ ((cellsFrom (s.heap.objs.size + 1) (defScope st).names []).lookup y.1).isSome = true) := by
    rintro ⟨n, v⟩ hy
    exact (S.par n (List.of_mem_zip hy).1).imp id fun q => ⟨q, PySem.W.cellsFrom_some _ _ _ (.inl q)⟩
  refine codeAny_call_function hr.depth (kin _ _ lk) rfl S.co S.gen rfl (PySem.W.codeRec_of kin hcd) (hb _ _ _ _ (wpAny_newFunctionEnv_cells S.kind par ?_))
  rintro _ rfl s1 x
  refine ⟨(e0.mod.nolimit.keeps fun b o e => (e0.bs b o e).1).keeps x.toInCall.keep, codeAny_func ?_⟩
  obtain ⟨t, ht, hq⟩ := body cdv A out s H vs Q E (hr.deeper _) hA hsp
  have I := inv_start (P := P) (w := w) (mg := mg) (CX := CX) (E := E) S hr.hd e0 hl r x
  refine wpAny_mono (ht.nox.run [] s1 _ H _ I hq) (fun fl s' hs => ?_) fun _ _ hs => hs
  match fl, hs with
  | .ret u, ⟨v, _, H', J, rv, q⟩ => exact ⟨v, H', J.os, J.bare, J.base, J.hok, rv, q⟩
  | .next, ⟨_, H', J, q⟩ => exact ⟨V.non, H', J.os, J.bare, J.base, J.hok, rfl, q⟩
  | .brk, ⟨_, _, _, q⟩ => exact q.elim
  | .cont, ⟨_, _, _, q⟩ => exact q.elim
end
section
variable {X : Cx} {CX : CXT} {k : Nat} {f : Addr} {fd : FuncData} {ps : List Str} {sp : Sp} {dvs : List V} {ds : List Value} {E : XK} {x : Str} {p pos : Pos} {e : Expr} {es : List Expr} {t : TA}
/-- the call of such a def where no repr runs further out -/
theorem pe_g (F : GOk X.prog X.w X.K X.mg X.base CX k f fd ps sp) (hA : X.A.guards = some []) (hr : Room k X.A) (hg : Gl X x) (hm : X.mg x = some (.ref f)) (hk : PySem.W.keepIn X.K (.ref f) = true)
    (hb : Binds X.K fd ps ds) (hd : Vals dvs ds) (hx : Passes CX X E) (ha : PA X (e :: es) t) (hdb : (x == ("__debug__" : Str)) = false := by decide)
    (he : starEach (e :: es) X.env = (false, eval e X.env) :: starEach es X.env := by rfl) (hpl : (backTo pos (starEach es X.env)).any (·.1) = false := by rfl) :
    PE X (.Call (.Name x p) (e :: es) [] pos) (tCall sp dvs E t) := ⟨fun pins s σ H Q I h => by
  refine wpAny_Call_Name_kw (ld_glob I hg hm (PySem.W.callWith_K (h₀ := X.base) I.ok.mod.kin hk (thn (ha.run pos pins s σ H _ I h) ?_) he hpl) hdb)
  rintro us s1 ⟨vs, H1, I1, r, q⟩
  have r2 : Vals (vs ++ dvs) (us ++ ds) := r.append hd
  have hl : (us ++ ds).length = ps.length := by rw [← r2.length]; exact F.arity _ _ _ _ q
  refine ⟨I1.kIn, wpAny_call (codeAny_mono (F.go X.A X.stack s1 H1 ⟨us, []⟩ (us ++ ds) (vs ++ dvs) Q E hr hA I1.env0 (hb s1 us I1.kIn hl) r2 q) fun r s' hq => ?_)⟩
  match r, hq with
  | .error e, hq => exact hx pins σ H1 s1 e s' I1 hq
  | .ok (.ret u), hq => exact I1.after hq⟩
end
section
variable {X : Cx} {CX : CXT} {k : Nat} {f : Addr} {fd : FuncData} {ps ks : List Str} {sp : Sp} {E : XK} {x : Str} {p pos : Pos} {kws : List Keyword} {tk : TA} {g : List Value → List Value → List Value} {gV : List V → List V → List V}
/-- f(k = v, ..), every argument by its name -/
theorem pe_kw0 (F : FnOk X.prog X.w X.K X.mg X.base CX k f fd ps sp) (hr : Room k X.A) (hg : Gl X x) (hm : X.mg x = some (.ref f)) (hk : PySem.W.keepIn X.K (.ref f) = true) (hb : KBinds X.K fd ps ks g gV) (hx : Passes CX X E)
    (hkw : PK X kws tk) (hall : (backToKw pos (keywordEach kws X.env)).all (·.1.isSome) = true := by rfl) (hks : (backToKw pos (keywordEach kws X.env)).filterMap (·.1) = ks := by rfl) (hdb : (x == ("__debug__" : Str)) = false := by decide)
    (hpl : ((backTo pos (starEach [] X.env)).any (·.1) || (backToKw pos (keywordEach kws X.env)).any (·.1.isNone)) = false := by rfl) :
    PE X (.Call (.Name x p) [] kws pos) (tCallK sp gV E tNil tk) := ⟨fun pins s σ H Q I h => by
  refine wpAny_Call_Name_kw (ld_glob I hg hm (PySem.W.callWith_KW0 (h₀ := X.base) I.ok.mod.kin hk hall (thn (hkw.run pos pins s σ H _ I h) ?_) hpl) hdb)
  rintro ws s2 ⟨zs, H2, I2, rz, q2⟩
  rw [hks]
  exact ⟨I2.kIn, run_fnk (us := []) (vs := []) F hr hb hx I2 .nil rz q2⟩⟩
end
/-- one parameter, by its place or by its name -/
theorem kb1 {K : PySem.W.Frag} {fd : FuncData} {a : Str} (h : ∀ u : Value, bindArgs fd ⟨[u], []⟩ = pure [(a, u)]) (h2 : ∀ u : Value, bindArgs fd ⟨[], [(a, u)]⟩ = pure [(a, u)]) : KBinds K fd [a] [a] (fun us ws => us ++ ws) (fun us ws => us ++ ws) where
  to := fun s us ws _ hl => by
    match us, ws, hl with
    | [], [w], _ => exact .of_eq (h2 w)
    | [u], [], _ => exact .of_eq (h u)
  rel := fun r q => r.append q
/-- what the law's def is called with: base holds sys.modules, and no repr runs -/
theorem law_g {P : Program} {w : World} {K : PySem.W.Frag} {mg mb : Str → Option Value} {k : Nat} {fa a : Addr} {fd : FuncData} {x : Str} {sp : Sp} {s₁ : Shared} {vs : List Value} {ns : List Int}
    (kin : K.In s₁.heap) (hns : s₁.heap.Ns mainGlobals mg) (hb : s₁.heap.Ns builtinsNs mb) (hbb : ∀ x : Str, x ≠ "__name__" → mb x = bootBuiltins x) (hlim : s₁.heap.NoLimit) (hsys : ∃ mm, s₁.heap.Ns sysModules mm) (hg : s₁.gens = #[])
    (ha : s₁.heap.get? a = some { cls := .type "list", data := .seq vs.toArray }) (hi : IntsAre vs ns) (hl : ns.length ≤ sizeLine) (hr : Room k callerA)
    (F : ∀ base : Heap, K.In base → base.Ns mainGlobals mg → (∃ o, base.get? sysModules = some o) → GOk P w K mg base CX0 k fa fd [x] sp) (hbind : ∀ (s : Shared) (u : Value), BindsTo s fd ⟨[u], []⟩ [(x, u)])
    (hsp : ∀ H : Hp, Only H → SqL K H a (ns.map V.int) → sp [.ref a] H (fun v _ => v = .bl true) fun _ _ _ => False) :
    codeAny (model P w) callerA (.call (.ref fa) ⟨[.ref a], []⟩) (fun r s' => r = .ok (.ret (.bool true)) ∧ OldK s₁.heap s'.heap ∧ s'.os = s₁.os ∧ AllBare s'.gens) s₁ := by
  have rv := vals_ints hi
  have nV := hi.length
  let ob : Obj := { cls := .type "list", data := .seq vs.toArray }
  suffices core : ∀ H : Hp, Only H → SqL K H a (ns.map V.int) → HOk P w H s₁.heap → (∀ b, H b ≠ none → b = a ∧ K.lookup a = none) →
      codeAny (model P w) callerA (.call (.ref fa) ⟨[.ref a], []⟩) (fun r s' => r = .ok (.ret (.bool true)) ∧ OldK s₁.heap s'.heap ∧ s'.os = s₁.os ∧ AllBare s'.gens) s₁ by
    cases hk : K.lookup a with
    | some o =>
      have e := kin a o hk
      rw [ha] at e
      cases e
      exact core (fun _ => none) (fun _ => .inl rfl) (.inr ⟨_, vs.toArray, _, hk, rfl, rfl, rfl, by rw [List.size_toArray, nV]; exact hl, by simpa using rv⟩) (fun _ _ z => nomatch z) fun _ z => absurd rfl z
    | none =>
      refine core (fun b => if b = a then some (.frz ob (.lst (ns.map V.int))) else none) (fun b => ?_) (.inl (.inr ⟨ob, if_pos rfl⟩)) (fun b u z => ?_) (fun b z => ?_)
      · by_cases hb : b = a
        · exact .inr ⟨_, _, if_pos hb⟩
        · exact .inl (if_neg hb)
      · by_cases hb : b = a
        · have z' := (if_pos hb).symm.trans z
          cases z'; subst hb
          exact ⟨ha, by rw [List.length_map]; exact hl, vs, _, rv, ha⟩
        · exact nomatch (if_neg hb).symm.trans z
      · by_cases hb : b = a
        · exact ⟨hb, hk⟩
        · exact absurd (if_neg hb) z
  intro H hO hS hok hA
  have keep : ∀ {b : Addr} {o : Obj}, s₁.heap.get? b = some o → H b = none → (hidT s₁.heap H).get? b = some o := fun e n => hidT_get e n
  have free : ∀ {b : Addr} {o : Obj}, s₁.heap.get? b = some o → (∀ es ep, o.data = .dict es ep → H b = none) := fun {b o} e es ep d => by
    refine Classical.byContradiction fun q => ?_
    obtain ⟨e', _⟩ := hA b q
    rw [e', ha] at e; cases e
    exact nomatch d
  have ns2 : ∀ {b : Addr} {m : Str → Option Value}, s₁.heap.Ns b m → (hidT s₁.heap H).Ns b m := fun {b m} ⟨o, es, ep, e, d, r⟩ => ⟨o, es, ep, keep e (free e _ _ d), d, r⟩
  have kb : K.In (hidT s₁.heap H) := fun b o e => keep (kin b o e) <| Classical.byContradiction fun q => by
    obtain ⟨e', n⟩ := hA b q
    rw [e', n] at e; cases e
  have M : Mod K mg (hidT s₁.heap H) := ⟨kb, ns2 hns, ⟨mb, ns2 hb, hbb⟩, hlim.elim fun mc h => ⟨mc, ns2 h.1, h.2⟩⟩
  have e0 : Env0 P w K mg (hidT s₁.heap H) callerA [] s₁ H := ⟨rfl, M, fun b o e => of_hidT e, Nat.le_of_eq (hidT_size _ _), trivial, fun _ hb => (nomatch hb), hok, .of_eq hg⟩
  have sys : ∃ o, (hidT s₁.heap H).get? sysModules = some o := hsys.elim fun mm h => (ns2 h).elim fun o h => h.elim fun _ h => h.elim fun _ h => ⟨o, h.1⟩
  refine codeAny_mono ((F _ kb (ns2 hns) sys).go callerA [] s₁ H ⟨[.ref a], []⟩ [.ref a] [.ref a] _ _ hr rfl e0 (hbind s₁ (.ref a)) (.cons rfl .nil) (hsp H hO hS)) fun r s' h => ?_
  match r, h with
  | .error e, h => exact h.elim
  | .ok (.ret u), ⟨v, H', os, bare, un, hok', r', q⟩ =>
    have q' : v = .bl true := q
    subst q'
    obtain rfl : u = Value.bool true := r'
    refine ⟨rfl, OldK.of_keep fun b o e => ?_, os, bare⟩
    cases q : H b with
    | none => exact un.keep b o e q (fun z => nomatch z) (fun z => nomatch z)
    | some u =>
      rcases hO b with z | ⟨_, xs, z⟩
      · rw [q] at z; cases z
      · obtain ⟨e1, _⟩ := hok b _ z
        obtain ⟨e2, _⟩ := hok' b _ (un.frzs b _ _ z)
        rw [e] at e1; cases e1
        exact e2
/-- the goal that k_head leaves, by the law's promise -/
theorem walk_g {l : PySem.W.OpenLaw} {n k : Nat} {q : Program} {loose : List Str} {XP : (Str → Option Value) → Heap → Prop} {YP : World → Heap → Prop} {d : DefRec} {K : Params → PySem.W.Frag} {sp : PySem.W.Frag → Sp} {x : Str}
    (hn : l.most = some n) (hn2 : n ≤ sizeLine) (hdf : d.params.defaults = []) (hr : Room k callerA) (him : importsNone q = true) (hY : ∀ (w : World) (h : Heap), YP w h → (K w.params).In h)
    (F : ∀ (w : World) (mg : Str → Option Value) (fa : Addr) (h : Heap), (K w.params).In h → h.Ns mainGlobals mg → mg d.name = some (.ref fa) →
      ∃ fd : FuncData, (∀ (s : Shared) (u : Value), BindsTo s fd ⟨[u], []⟩ [(x, u)]) ∧
        ∀ base : Heap, (K w.params).In base → base.Ns mainGlobals mg → (∃ o, base.get? sysModules = some o) → GOk l.prog w (K w.params) mg base CX0 k fa fd [x] (sp (K w.params)))
    (hsp : ∀ (K : PySem.W.Frag) (H : Hp) (a : Addr) (ns : List Int), ns.length ≤ n → Only H → SqL K H a (ns.map V.int) → sp K [.ref a] H (fun v _ => v = .bl true) fun _ _ _ => False) :
    PySem.W.WalkO q loose XP YP l.row.toRowW d [] (fun f vs => PySem.call f vs) := by
  refine Att.attach_call hn hdf fun w s₀ s₁ mg mb fa o pm cd doc a vs ns G Y ho hd hcd hmg hobj hints hlen hg => ?_
  obtain ⟨fd, hb, hF⟩ := F w mg fa _ (hY w _ Y) G.T.g hmg
  obtain ⟨mm, hmm, _⟩ := (G.T.seer him).mods
  exact law_g (hY w _ Y) G.T.g G.T.b G.T.builtins G.T.nolimit ⟨mm, hmm⟩ hg hobj hints (Nat.le_trans hlen hn2) hr hF hb fun H hO hS => hsp _ H a ns hlen hO hS
end KX

set_option Elab.async false
set_option linter.all false
set_option maxRecDepth 100000
set_option maxHeartbeats 4000000
/-! Own layer: short texts, picks by a drawn index. -/
namespace KX
open PySem PySem.Spec PyProof.Rows L2
/-- a short text of codes that repr shows in at most ten signs each -/
def Ss (n : Nat) (z : Str) : Prop := z.length ≤ n ∧ ∀ c, c ∈ z.cps.toList → c < 1114112
theorem Ss.mono {n m : Nat} {z : Str} (h : Ss n z) (l : n ≤ m) : Ss m z := ⟨Nat.le_trans h.1 l, h.2⟩
theorem Ss.app {n m : Nat} {a b : Str} (h : Ss n a) (g : Ss m b) : Ss (n + m) (a ++ b) := by
  refine ⟨by rw [strLen_append]; exact Nat.add_le_add h.1 g.1, fun c hc => ?_⟩
  have e : (a ++ b).cps.toList = a.cps.toList ++ b.cps.toList := Array.toList_append
  rw [e] at hc
  exact (List.mem_append.mp hc).elim (h.2 c) (g.2 c)
theorem Ss.cut {n : Nat} {a : Str} (h : Ss n a) (lo hi : Option Int) : Ss n (cutS a lo hi) := by
  refine ⟨Nat.le_trans (cutS_length a lo hi) h.1, fun c hc => h.2 c ?_⟩
  have hc' : c ∈ (a.cps.toList.drop (HT.sIx a.length 0 lo)).take (HT.sIx a.length a.length hi - HT.sIx a.length 0 lo) := by simpa [cutS] using hc
  exact List.mem_of_mem_drop (List.mem_of_mem_take hc')
theorem Ss.sign {c : Nat} (h : c < 1114112) : Ss 1 ⟨#[c]⟩ := ⟨Nat.le_refl 1, fun d hd => by simp at hd; subst hd; exact h⟩
theorem Ss.nil : Ss 0 (Str.ofString "") := ⟨by decide, by decide⟩
theorem Ss.join {m : Nat} : ∀ {ys : List Str}, (∀ y, y ∈ ys → Ss m y) → Ss (ys.length * m) (Str.join (Str.ofString "") ys)
  | [], _ => by rw [List.length_nil, Nat.zero_mul]; exact Ss.nil
  | [x], h => by rw [List.length_singleton, Nat.one_mul]; exact h x (List.mem_singleton.mpr rfl)
  | x :: z :: r, h => by
    have h1 := h x List.mem_cons_self
    have h2 := Ss.join (ys := z :: r) fun y hy => h y (List.mem_cons_of_mem _ hy)
    have h3 := (h1.app Ss.nil).app h2
    refine Ss.mono (show Ss _ (x ++ Str.ofString "" ++ Str.join (Str.ofString "") (z :: r)) from h3) ?_
    simp only [List.length_cons]
    rw [Nat.succ_mul (r.length + 1) m]
    omega
theorem Ss.joinT {m : Nat} {ys : List Str} (h : ∀ y, y ∈ ys → Ss m y) : Ss (ys.length * m) (Txt.join (Str.ofString "") ys) := by
  rw [show Txt.join (Str.ofString "") ys = Str.join (Str.ofString "") ys from StrLaws.glued_eq_join _ ys]; exact Ss.join h
theorem Ss.sum {m : Nat} : ∀ {ys : List Str}, (∀ y, y ∈ ys → Ss m y) → (ys.map (·.length)).sum ≤ ys.length * m
  | [], _ => by simp
  | x :: r, h => by
    have h1 := (h x List.mem_cons_self).1
    have h2 := Ss.sum (ys := r) fun y hy => h y (List.mem_cons_of_mem _ hy)
    simp only [List.map_cons, List.sum_cons, List.length_cons, Nat.succ_mul]
    omega
/-- an item by an index in bounds -/
theorem pick {α : Type} {xs : List α} {i : Int} (h0 : 0 ≤ i) (h1 : i < (xs.length : Int)) : ∃ (j : Nat) (v : α), xs[j]? = some v ∧ v ∈ xs ∧ i = (j : Int) ∧ atI xs i = some v := by
  have hj : i.toNat < xs.length := by omega
  have e : i = ((i.toNat : Nat) : Int) := by omega
  refine ⟨i.toNat, xs[i.toNat], List.getElem?_eq_getElem hj, List.getElem_mem hj, e, ?_⟩
  have q : atI xs ((i.toNat : Nat) : Int) = some xs[i.toNat] := atI_nat (List.getElem?_eq_getElem hj)
  rw [← e] at q
  exact q
theorem pickI {xs : List Int} {i : Int} (h0 : 0 ≤ i) (h1 : i < (xs.length : Int)) : ∃ m, m ∈ xs ∧ atI (xs.map V.int) i = some (.int m) := by
  obtain ⟨j, v, h2, h3, h4, h5⟩ := pick (xs := xs.map V.int) h0 (by rw [List.length_map]; exact h1)
  obtain ⟨m, hm, rfl⟩ := List.mem_map.mp h3
  exact ⟨m, hm, h5⟩
/-- data that repr shows in few signs -/
structure OkD (n W : Nat) (d : PyData) : Prop where
  short : d.leavesShort 110 = true
  shows : d.showable = true
  deep : d.depth ≤ n
  wt : d.weight ≤ W
theorem OkD.mono {n m W U : Nat} {d : PyData} (h : OkD n W d) (h1 : n ≤ m) (h2 : W ≤ U) : OkD m U d := ⟨h.short, h.shows, Nat.le_trans h.deep h1, Nat.le_trans h.wt h2⟩
theorem OkD.len {n W : Nat} {d : PyData} (h : OkD n W d) (hW : W ≤ 100000) : d.shown.length ≤ sizeLine := by
  have h1 := PyData.shown_le 110 (by decide) d h.short
  have h2 := h.wt
  rw [sizeLine_eq]
  have h3 : (110 + 2) * d.weight ≤ 112 * 100000 := Nat.mul_le_mul_left 112 (by omega)
  omega
theorem OkD.none : OkD 0 0 .none := ⟨rfl, rfl, Nat.le_refl _, Nat.le_refl _⟩
theorem OkD.bool (b : Bool) : OkD 0 0 (.bool b) := ⟨rfl, rfl, Nat.le_refl _, Nat.le_refl _⟩
theorem OkD.str {n : Nat} {z : Str} (h : Ss n z) : OkD 0 n (.str z) := by
  refine ⟨?_, rfl, Nat.le_refl _, h.1⟩
  simp only [PyData.leavesShort, List.all_eq_true, decide_eq_true_eq]
  exact fun c hc => Nat.lt_trans (h.2 c hc) (by decide)
theorem OkD.int {i : Int} (h : i.natAbs < 2 ^ 98) : OkD 0 100 (.int i) := by
  have hl : i.natAbs.log2 < 98 := by
    by_cases z : i.natAbs = 0
    · rw [z]; decide
    · exact (Nat.log2_lt z).mpr h
  refine ⟨?_, ?_, Nat.le_refl _, ?_⟩
  · have q := int_text_length_le (a := i) (k := 98) (by decide) hl
    have e : (PyData.shown (.int i)).length = (toString i).length := PySem.ofString_length _
    simp only [PyData.leavesShort, decide_eq_true_eq]
    omega
  · simp only [PyData.showable, decide_eq_true_eq]; omega
  · simp only [PyData.weight]; split <;> omega
theorem OkD.intB {i : Int} (h : i.natAbs < 2 ^ 104) : OkD 0 106 (.int i) := by
  have hl : i.natAbs.log2 < 104 := by
    by_cases z : i.natAbs = 0
    · rw [z]; decide
    · exact (Nat.log2_lt z).mpr h
  refine ⟨?_, ?_, Nat.le_refl _, ?_⟩
  · have q := int_text_length_le (a := i) (k := 104) (by decide) hl
    have e : (PyData.shown (.int i)).length = (toString i).length := PySem.ofString_length _
    simp only [PyData.leavesShort, decide_eq_true_eq]
    omega
  · simp only [PyData.showable, decide_eq_true_eq]; omega
  · simp only [PyData.weight]; split <;> omega
/-- what is new in H', behind H -/
def nw (H H' : Hp) : Hp := fun b => match H b with
  | none => H' b
  | some _ => none
theorem nw_at {H H' : Hp} {b : Addr} (h : H b = none) : nw H H' b = H' b := by unfold nw; rw [h]
theorem nw_some {H H' : Hp} {b : Addr} {o : HO} (h : nw H H' b = some o) : H b = none ∧ H' b = some o := by
  unfold nw at h
  cases e : H b with
  | none => rw [e] at h; exact ⟨rfl, h⟩
  | some u => rw [e] at h; cases h
theorem nw_same {H H' : Hp} : Same (nw H H') H' := fun b o h => (nw_some h).2
mutual
theorem Dq.same {H G : Hp} (s : Same H G) : ∀ (d : PyData) (v : V), Dq H v d → Dq G v d
  | .none, _, h => by cases h; exact .non
  | .bool b, _, h => by cases h; exact .bl b
  | .int i, _, h => by cases h; exact .int i
  | .str x, _, h => by cases h; exact .str x
  | .list ds, _, h => by cases h with | lst h1 h2 => exact .lst (s _ _ h1) (DqAll.same s ds _ h2)
  | .tuple ds, _, h => by cases h with | tup h1 h2 => exact .tup (s _ _ h1) (DqAll.same s ds _ h2)
  | .dict ds, _, h => by cases h with | dct h1 h2 => exact .dct (s _ _ h1) (DqKv.same s ds _ h2)
theorem DqAll.same {H G : Hp} (s : Same H G) : ∀ (ds : List PyData) (vs : List V), DqAll H vs ds → DqAll G vs ds
  | [], _, h => by cases h; exact .nil
  | d :: ds, _, h => by cases h with | cons h1 h2 => exact .cons (Dq.same s d _ h1) (DqAll.same s ds _ h2)
theorem DqKv.same {H G : Hp} (s : Same H G) : ∀ (ds : List (PyData × PyData)) (kvs : List (Key × V)), DqKv H kvs ds → DqKv G kvs ds
  | [], _, h => by cases h; exact .nil
  | (_, d) :: ds, _, h => by cases h with | cons h1 h2 => exact .cons (Dq.same s d _ h1) (DqKv.same s ds _ h2)
end
/-- the value stands for some data of at most this depth and weight -/
def Dd (n W : Nat) (H : Hp) (v : V) : Prop := ∃ d, Dq H v d ∧ OkD n W d
theorem Dd.same {n W : Nat} {H G : Hp} {v : V} (h : Dd n W H v) (s : Same H G) : Dd n W G v := let ⟨d, a, b⟩ := h; ⟨d, Dq.same s d v a, b⟩
theorem Dd.mono {n m W U : Nat} {H : Hp} {v : V} (h : Dd n W H v) (h1 : n ≤ m) (h2 : W ≤ U) : Dd m U H v := let ⟨d, a, b⟩ := h; ⟨d, a, b.mono h1 h2⟩
theorem Dd.items {n W : Nat} {H : Hp} : ∀ {vs : List V}, (∀ v, v ∈ vs → Dd n W H v) → ∃ ds, DqAll H vs ds ∧ PyData.leavesShortAll 110 ds = true ∧ PyData.showableAll ds = true ∧ PyData.depthAll ds ≤ n ∧ PyData.weightAll ds ≤ vs.length * (W + 1)
  | [], _ => ⟨[], .nil, rfl, rfl, Nat.zero_le _, Nat.zero_le _⟩
  | v :: r, h => by
    obtain ⟨d, h1, h2⟩ := h v List.mem_cons_self
    obtain ⟨ds, g1, g2, g3, g4, g5⟩ := Dd.items (vs := r) fun u hu => h u (List.mem_cons_of_mem _ hu)
    refine ⟨d :: ds, .cons h1 g1, ?_, ?_, ?_, ?_⟩
    · simp only [PyData.leavesShortAll, h2.short, g2, Bool.and_self]
    · simp only [PyData.showableAll, h2.shows, g3, Bool.and_self]
    · have := h2.deep
      simp only [PyData.depthAll]; omega
    · have := h2.wt
      simp only [PyData.weightAll, List.length_cons, Nat.succ_mul]; omega
theorem Dd.lst {n W m : Nat} {H : Hp} {a : Addr} {vs : List V} (h : H a = some (.lst vs)) (l : vs.length ≤ m) (hv : ∀ v, v ∈ vs → Dd n W H v) : Dd (n + 1) (m * (W + 1)) H (.ref a) := by
  obtain ⟨ds, g1, g2, g3, g4, g5⟩ := Dd.items hv
  refine ⟨.list ds, .lst h g1, ⟨by simpa only [PyData.leavesShort] using g2, by simpa only [PyData.showable] using g3, by simp only [PyData.depth]; omega, ?_⟩⟩
  have := Nat.mul_le_mul_right (W + 1) l
  simp only [PyData.weight]; omega
theorem Dd.tup {n W m : Nat} {H : Hp} {a : Addr} {vs : List V} (h : H a = some (.tup vs)) (l : vs.length ≤ m) (hv : ∀ v, v ∈ vs → Dd n W H v) : Dd (n + 1) (m * (W + 1)) H (.ref a) := by
  obtain ⟨ds, g1, g2, g3, g4, g5⟩ := Dd.items hv
  refine ⟨.tuple ds, .tup h g1, ⟨by simpa only [PyData.leavesShort] using g2, by simpa only [PyData.showable] using g3, by simp only [PyData.depth]; omega, ?_⟩⟩
  have := Nat.mul_le_mul_right (W + 1) l
  simp only [PyData.weight]; omega
/-- a key is a short text -/
def KeyS (k : Key) : Prop := ∃ z, k = Sum.inr z ∧ Ss 9 z
theorem Dd.pairs {n W : Nat} {H : Hp} : ∀ {kvs : List (Key × V)}, (∀ kv, kv ∈ kvs → KeyS kv.1 ∧ Dd n W H kv.2) → ∃ ds, DqKv H kvs ds ∧ PyData.leavesShortKv 110 ds = true ∧ PyData.showableKv ds = true ∧ PyData.depthKv ds ≤ n ∧ PyData.weightKv ds ≤ kvs.length * (W + 11)
  | [], _ => ⟨[], .nil, rfl, rfl, Nat.zero_le _, Nat.zero_le _⟩
  | (k, v) :: r, h => by
    obtain ⟨⟨z, e, hz⟩, d, h1, h2⟩ := h (k, v) List.mem_cons_self
    obtain ⟨ds, g1, g2, g3, g4, g5⟩ := Dd.pairs (kvs := r) fun u hu => h u (List.mem_cons_of_mem _ hu)
    have e' : k = Sum.inr z := e
    subst e'
    have hk := OkD.str hz
    refine ⟨(kD (Sum.inr z), d) :: ds, .cons h1 g1, ?_, ?_, ?_, ?_⟩
    · show (PyData.leavesShort 110 (.str z) && d.leavesShort 110 && PyData.leavesShortKv 110 ds) = true
      rw [hk.short, h2.short, g2]; rfl
    · show (PyData.showable (.str z) && d.showable && PyData.showableKv ds) = true
      rw [hk.shows, h2.shows, g3]; rfl
    · have := h2.deep
      show max (max (PyData.depth (.str z)) d.depth) (PyData.depthKv ds) ≤ n
      have e0 : PyData.depth (.str z) = 0 := rfl
      omega
    · have w1 := h2.wt
      have w2 := hk.wt
      show PyData.weight (.str z) + d.weight + 2 + PyData.weightKv ds ≤ _
      simp only [List.length_cons, Nat.succ_mul]; omega
theorem Dd.dct {n W m : Nat} {H : Hp} {a : Addr} {kvs : List (Key × V)} (h : H a = some (.dK kvs)) (l : kvs.length ≤ m) (hv : ∀ kv, kv ∈ kvs → KeyS kv.1 ∧ Dd n W H kv.2) : Dd (n + 1) (m * (W + 11)) H (.ref a) := by
  obtain ⟨ds, g1, g2, g3, g4, g5⟩ := Dd.pairs hv
  refine ⟨.dict ds, .dct h g1, ⟨by simpa only [PyData.leavesShort] using g2, by simpa only [PyData.showable] using g3, by simp only [PyData.depth]; omega, ?_⟩⟩
  have := Nat.mul_le_mul_right (W + 11) l
  simp only [PyData.weight]; omega
theorem putK_all {p : Key × V → Prop} {k : Key} {v : V} (hv : p (k, v)) {kvs : List (Key × V)} (h : ∀ kv, kv ∈ kvs → p kv) : (∀ kv, kv ∈ putK kvs k v → p kv) ∧ (putK kvs k v).length ≤ kvs.length + 1 := by
  unfold putK
  split
  · refine ⟨fun kv hm => ?_, by rw [List.length_map]; omega⟩
    obtain ⟨x, hx, rfl⟩ := List.mem_map.mp hm
    by_cases e : x.1 = k
    · rw [if_pos e, e]; exact hv
    · rw [if_neg e]; exact h x hx
  · refine ⟨fun kv hm => ?_, by rw [List.length_append]; exact Nat.le_refl _⟩
    rcases List.mem_append.mp hm with q | q
    · exact h kv q
    · rw [List.mem_singleton.mp q]; exact hv
theorem mergeK_all {p : Key × V → Prop} : ∀ {more kvs : List (Key × V)}, (∀ kv, kv ∈ more → p kv) → (∀ kv, kv ∈ kvs → p kv) → (∀ kv, kv ∈ mergeK kvs more → p kv) ∧ (mergeK kvs more).length ≤ kvs.length + more.length
  | [], _, _, h => ⟨h, Nat.le_refl _⟩
  | (k, v) :: r, kvs, hm, h => by
    have h1 := putK_all (hm (k, v) List.mem_cons_self) h
    have h2 := mergeK_all (more := r) (kvs := putK kvs k v) (fun kv q => hm kv (List.mem_cons_of_mem _ q)) h1.1
    refine ⟨h2.1, ?_⟩
    have := h1.2
    have := h2.2
    show (mergeK (putK kvs k v) r).length ≤ kvs.length + (r.length + 1)
    omega
theorem KeyS.num {i : Nat} (h : i < 10) : KeyS (Sum.inr (Str.ofString (toString (i : Int)))) := by
  refine ⟨_, rfl, ?_⟩
  have hd : ∀ j : Fin 10, (Str.ofString (toString ((j.val : Nat) : Int))).length ≤ 9 ∧ ∀ c, c ∈ (Str.ofString (toString ((j.val : Nat) : Int))).cps.toList → c < 1114112 := by decide +kernel
  exact hd ⟨i, h⟩
end KX

set_option Elab.async false
set_option linter.all false
set_option maxRecDepth 100000
set_option maxHeartbeats 4000000
/-! Own layer: try with several clauses «except C as n», each of them the only one that takes the error; the clauses behind are never looked at. -/
namespace KX
open PySem PySem.Spec PyProof.Rows L2
abbrev Cla := Value × Nat × (Addr → Value → Option Addr → TS)
/-- behind a suite the clause's name is gone -/
def gone (D : Ends) (i : Nat) : Ends := { nx := fun τ G => D.nx (τ.set i none) G, rt := D.rt, bk := fun τ G => D.bk (τ.set i none) G, ct := fun τ G => D.ct (τ.set i none) G }
def wTo (K : PySem.W.Frag) (D : Ends) : List Cla → WX
  | [] => fun _ _ _ _ => False
  | (c, i, ts) :: r => fun cls d σ H => ∃ b, PySem.W.exmOne K cls c = some b ∧ (b = true → ∀ a, H a = none → ts a cls d (gone D i) (σ.set i (some (.ref a))) H) ∧ (b = false → wTo K D r cls d σ H)
inductive Clauses (X : Cx) : List ExceptHandler → List Cla → Prop
  | rest {hds : List ExceptHandler} : Clauses X hds []
  | cons {x n : Str} {c : Value} {i : Nat} {ts : Addr → Value → Option Addr → TS} {st : Stmt} {more : List Stmt} {np pos' : Pos} {hds : List ExceptHandler} {l : List Cla} (hc : Names X x c) (hi : X.N[i]? = some n) (hl : X.env.kindOf n = some .local)
      (su : ∀ (a : Addr) (oe : Obj) (cls : Value) (d : Option Addr) (pn : List (Addr × Obj)), Zc cls d oe → (∃ vs, oe.data = .fields vs) → PSs (X.suite a ((a, oe) :: pn)) (st :: more) (ts a cls d)) (r : Clauses X hds l) :
      Clauses X (.ExceptHandler (some (.Name x np)) (some n) (st :: more) pos' :: hds) ((c, i, ts) :: l)
section
variable {X : Cx} {body : List Stmt} {h0 : ExceptHandler} {hds : List ExceptHandler} {l : List Cla} {pos : Pos} {tb : WX → TS}
theorem ps_try_to (hs : X.stack = X.env :: X.outer) (hf : X.env.frame = some X.env.locals) (nd : X.N.Nodup) (cl : Clauses X (h0 :: hds) l)
    (hb : ∀ (W : WX) (pn : List (Addr × Obj)) (xe : Value → Shared → Prop), Takes (X.tr pn xe) W → PassesOwn (model X.prog X.w) X.A X.env xe → PSs (X.tr pn xe) body (tb W)) :
    PS X (.Try body (h0 :: hds) [] [] pos) (fun D σ H => tb (wTo X.K D l) D σ H) := ⟨fun pins s σ H D I h => by
  have ok := I.ok
  have fr : X.A.frames = some (X.env :: X.outer) := ok.frames.trans (congrArg some hs)
  let after : Value → Shared → Prop := fun e s1 => wpAny (model X.prog X.w) X.A (noteFrame e X.env) (fun _ s2 =>
    wpAny (model X.prog X.w) X.A (setFlight e none) (fun _ s3 => wpAny (model X.prog X.w) X.A (handleBy e X.env (h0 :: hds)) (SP X pins D) X.xe s3) X.xe s2) X.xe s1
  refine wpAny_Try_except (wpAny_mono ((hb (wTo X.K D l) (X.pn ++ pins) after (fun u s1 z => ?_) PassesOwn.looking).run [] s σ H D (I.toTry _) h) (fun fl s1 z => ?_) fun _ _ z => z)
  · obtain ⟨a, B, s0, pins1, σ1, H1, cls, d, rfl, J0, nb, up, sky, na, os, ag, wish⟩ := z
    have J : Inv X pins σ1 H1 s0 := J0.ofTry ok
    show wpAny (model X.prog X.w) X.A (noteFrame (.ref a) X.env) _ _ _
    refine Sky.land Zc.steady fr hf (by rw [← hs]; exact sky) fun h3 fl3 up3 => ?_
    have J3 : Inv X pins σ1 H1 { s1 with heap := h3 } := J.landed nb fl3.1 (up.trans up3) os ag
    obtain ⟨oe, vs, he, hz, hd⟩ := fl3.there
    have off : a ∉ frs (X.env :: X.outer) := fun m => by
      obtain ⟨_, o1, e1, nf⟩ := fl3.2.2.1.mem m
      exact nf _ ((Option.some.inj (e1.symm.trans he)) ▸ hd)
    have offL : a ≠ X.env.locals := fun e => off (List.mem_filterMap.mpr ⟨X.env, List.mem_cons_self, by rw [hf, e]⟩)
    have offF : a ∉ X.fs := fun m => by
      obtain ⟨en, m1, m2⟩ := List.mem_filterMap.mp m
      exact off (List.mem_filterMap.mpr ⟨en, List.mem_cons_of_mem _ m1, m2⟩)
    have S3 := J3.suite he hd na offL offF
    have ty : PySem.W.Looks (model X.prog X.w) h3 (typeOf (.ref a)) cls := fun A' Q' E' t k q => wpAny_typeOf_ref (k _ _ he) (hz.1 ▸ q)
    clear h
    revert cl wish
    generalize h0 :: hds = all
    intro cl
    induction cl with
    | rest => exact fun z => z.elim
    | @cons x n c i ts st more np pos' hds' l' hc hi hl su r ih =>
      rintro ⟨b, hb1, yes, no⟩
      refine wpAny_handleBy_cons (codeAny_handlers_test ?_) (by intro e; cases e)
      have name : ∀ {Q' : Value → Shared → Prop} {E' : Value → Shared → Prop}, Q' c { s1 with heap := h3 } → wpAny (model X.prog X.w) (X.A.mark (some (.ref a))) (eval (.Name x np) X.env) Q' E' { s1 with heap := h3 } := fun q => by
        obtain ⟨g, db, m | ⟨m, bt, nn⟩⟩ := hc
        · exact ld_glob (X := X.suite a ((a, oe) :: (X.pn ++ pins))) S3 g m q db
        · exact ld_blt (X := X.suite a ((a, oe) :: (X.pn ++ pins))) S3 g m bt q nn db
      refine name ((PySem.W.exm_one J3.kIn ty hb1).here ?_)
      cases b with
      | false => exact ih (no rfl)
      | true =>
        refine codeAny_handlers_suite_as (HandSPX.lands_againZ fl3 fun h4 fl4 up4 => ?_)
        have J4 : Inv X pins σ1 H1 { s1 with heap := h4 } := J.landed nb fl4.1 ((up.trans up3).trans up4) os ag
        obtain ⟨oe4, vs4, he4, hz4, hd4⟩ := fl4.there
        refine store_ok (X := X.suite a ((a, oe4) :: (X.pn ++ pins))) (v := .ref a) (J4.suite he4 hd4 na offL offF) nd hi (.inl hl) rfl (fun s5 S5 => ?_) (.inr hl)
        refine wpAny_mono ((su a oe4 cls d (X.pn ++ pins) hz4 ⟨_, hd4⟩).run [] s5 _ H1 _ S5 (yes rfl a na)) (fun fl s6 z => ?_) fun _ _ z => z.elim
        have leave : ∀ {τ : L2.St} {G : Hp} {R : Shared → Prop}, Inv (X.suite a ((a, oe4) :: (X.pn ++ pins))) [] τ G s6 → (∀ s7, Inv X pins (τ.set i none) G s7 → R s7) →
            wpAny (model X.prog X.w) X.A (do bindName X.env n .none; unbindBehindTheSuite X.env n pos') (fun _ s7 => R s7) X.xe s6 := fun S hq => gone_ok (S.unsuite ok) nd hi hl hq
        match fl, z with
        | .next, ⟨_, _, S, q⟩ => exact leave S fun _ K7 => ⟨_, _, K7, q⟩
        | .brk, ⟨_, _, S, q⟩ => exact leave S fun _ K7 => ⟨_, _, K7, q⟩
        | .cont, ⟨_, _, S, q⟩ => exact leave S fun _ K7 => ⟨_, _, K7, q⟩
        | .ret u, ⟨_, _, _, S, rv, q⟩ => exact leave S fun _ K7 => ⟨_, _, _, K7, rv, q⟩
  · match fl, z with
    | .next, ⟨_, _, K7, q⟩ => exact wpAny_execs_nil ⟨_, _, K7.ofTry ok, q⟩
    | .brk, ⟨_, _, K7, q⟩ => exact ⟨_, _, K7.ofTry ok, q⟩
    | .cont, ⟨_, _, K7, q⟩ => exact ⟨_, _, K7.ofTry ok, q⟩
    | .ret u, ⟨_, _, _, K7, rv, q⟩ => exact ⟨_, _, _, K7.ofTry ok, rv, q⟩⟩
end
end KX

set_option Elab.async false
set_option linter.all false
set_option maxRecDepth 100000
set_option maxHeartbeats 4000000
/-! Own layer: the tables that the laws draw are associative. Plain lists and numbers. -/
namespace KX
/-- the product of a and b by the rows -/
def mu (tb : List (List Int)) (a b : Nat) : Int := (tb.getD a []).getD b 0
/-- a square of elements -/
structure Sqr (tb : List (List Int)) : Prop where
  le : 1 ≤ tb.length
  ge : tb.length ≤ 16
  row : ∀ r, r ∈ tb → r.length = tb.length
  el : ∀ a b, a < tb.length → b < tb.length → 0 ≤ mu tb a b ∧ mu tb a b < (tb.length : Int)
/-- (a*b)*c is a*(b*c) -/
def rt (tb : List (List Int)) (a b c : Nat) : Prop := mu tb (mu tb a b).toNat c = mu tb a (mu tb b c).toNat
/-- an associative table -/
structure Tb (tb : List (List Int)) : Prop where
  sq : Sqr tb
  as : ∀ a b c, a < tb.length → b < tb.length → c < tb.length → rt tb a b c
/-- the table of a function -/
def tab (n : Nat) (f : Nat → Nat → Nat) : List (List Int) := (List.range n).map fun a => (List.range n).map fun b => ((f a b : Nat) : Int)
theorem tab_len (n : Nat) (f : Nat → Nat → Nat) : (tab n f).length = n := by unfold tab; rw [List.length_map, List.length_range]
theorem tab_row {n : Nat} {f : Nat → Nat → Nat} {a : Nat} (h : a < n) : (tab n f)[a]? = some ((List.range n).map fun b => ((f a b : Nat) : Int)) := by
  unfold tab
  rw [List.getElem?_map, List.getElem?_range h]; rfl
theorem tab_mu {n : Nat} {f : Nat → Nat → Nat} {a b : Nat} (ha : a < n) (hb : b < n) : mu (tab n f) a b = (f a b : Int) := by
  have e : (tab n f).getD a [] = (List.range n).map fun b => ((f a b : Nat) : Int) := by rw [List.getD_eq_getElem?_getD, tab_row ha]; rfl
  unfold mu
  rw [e, List.getD_eq_getElem?_getD, List.getElem?_map, List.getElem?_range hb]; rfl
/-- a function below n that is associative there -/
structure Asf (n : Nat) (f : Nat → Nat → Nat) : Prop where
  lt : ∀ a b, a < n → b < n → f a b < n
  as : ∀ a b c, a < n → b < n → c < n → f (f a b) c = f a (f b c)
theorem tab_tb {n : Nat} {f : Nat → Nat → Nat} (h1 : 1 ≤ n) (h16 : n ≤ 16) (F : Asf n f) : Tb (tab n f) := by
  have L := tab_len n f
  refine ⟨⟨by rw [L]; exact h1, by rw [L]; exact h16, fun r hr => ?_, fun a b ha hb => ?_⟩, fun a b c ha hb hc => ?_⟩
  · rw [L]
    obtain ⟨a, _, rfl⟩ := List.mem_map.mp hr
    rw [List.length_map, List.length_range]
  · rw [L] at *
    rw [tab_mu ha hb]
    have := F.lt a b ha hb
    omega
  · rw [L] at ha hb hc
    unfold rt
    rw [tab_mu ha hb, tab_mu hb hc, Int.toNat_natCast, Int.toNat_natCast, tab_mu (F.lt a b ha hb) hc, tab_mu ha (F.lt b c hb hc), F.as a b c ha hb hc]
/-- every square table is the table of its own function -/
theorem tab_of {tb : List (List Int)} (S : Sqr tb) : tb = tab tb.length fun a b => (mu tb a b).toNat := by
  refine List.ext_getElem? fun a => ?_
  by_cases ha : a < tb.length
  · rw [tab_row ha, List.getElem?_eq_getElem ha]
    refine congrArg some (List.ext_getElem? fun b => ?_)
    have hl := S.row tb[a] (List.getElem_mem ha)
    by_cases hb : b < tb.length
    · have e := S.el a b ha hb
      have em : mu tb a b = tb[a][b] := by
        unfold mu
        rw [List.getD_eq_getElem?_getD, List.getD_eq_getElem?_getD, List.getElem?_eq_getElem ha]
        show (tb[a][b]?).getD 0 = _
        rw [List.getElem?_eq_getElem (by omega)]; rfl
      rw [List.getElem?_map, List.getElem?_range hb, List.getElem?_eq_getElem (by omega)]
      show some tb[a][b] = some (((mu tb a b).toNat : Nat) : Int)
      rw [Int.toNat_of_nonneg e.1, em]
    · rw [List.getElem?_eq_none (by omega), List.getElem?_eq_none (by rw [List.length_map, List.length_range]; omega)]
  · rw [List.getElem?_eq_none (by omega), List.getElem?_eq_none (by rw [tab_len]; omega)]
theorem asf_of {tb : List (List Int)} (T : Tb tb) : Asf tb.length fun a b => (mu tb a b).toNat := by
  have lt : ∀ a b, a < tb.length → b < tb.length → (mu tb a b).toNat < tb.length := fun a b ha hb => by
    have := T.sq.el a b ha hb; omega
  refine ⟨lt, fun a b c ha hb hc => ?_⟩
  have h := T.as a b c ha hb hc
  unfold rt at h
  show (mu tb (mu tb a b).toNat c).toNat = (mu tb a (mu tb b c).toNat).toNat
  rw [h]
/-! ### the drawn tables -/
/-- _law_plain -/
def fpl (kind n a b : Nat) : Nat := match kind with
  | 0 => a
  | 1 => b
  | 2 => min a b
  | 3 => (a + b) % n
  | 4 => min (a + b) (n - 1)
  | _ => if 0 < a then a else b
theorem asf_plain (kind n : Nat) (h : 1 ≤ n) : Asf n (fpl kind n) := by
  match kind with
  | 0 => exact ⟨fun a b ha hb => ha, fun a b c ha hb hc => rfl⟩
  | 1 => exact ⟨fun a b ha hb => hb, fun a b c ha hb hc => rfl⟩
  | 2 => exact ⟨fun a b ha hb => by show min a b < n; omega, fun a b c ha hb hc => by show min (min a b) c = min a (min b c); omega⟩
  | 3 => exact ⟨fun a b ha hb => Nat.mod_lt _ (by omega), fun a b c ha hb hc => by show ((a + b) % n + c) % n = (a + (b + c) % n) % n; rw [Nat.mod_add_mod, Nat.add_mod_mod, Nat.add_assoc]⟩
  | 4 => exact ⟨fun a b ha hb => by show min (a + b) (n - 1) < n; omega, fun a b c ha hb hc => by show min (min (a + b) (n - 1) + c) (n - 1) = min (a + min (b + c) (n - 1)) (n - 1); omega⟩
  | k + 5 =>
    refine ⟨fun a b ha hb => ?_, fun a b c ha hb hc => ?_⟩
    · show (if 0 < a then a else b) < n
      split <;> omega
    · show (if 0 < (if 0 < a then a else b) then (if 0 < a then a else b) else c) = (if 0 < a then a else (if 0 < b then b else c))
      by_cases h1 : 0 < a
      · simp only [if_pos h1]
      · simp only [if_neg h1]
/-- _law_extended -/
def fex (kind n : Nat) (f : Nat → Nat → Nat) (a b : Nat) : Nat := if a < n ∧ b < n then f a b else if kind = 0 then n else if a < n then a else b
theorem asf_extended {kind n : Nat} {f : Nat → Nat → Nat} (F : Asf n f) : Asf (n + 1) (fex kind n f) := by
  have lt := F.lt
  refine ⟨fun a b ha hb => ?_, fun a b c ha hb hc => ?_⟩
  · unfold fex
    split
    · rename_i h; have := lt a b h.1 h.2; omega
    · split
      · omega
      · split <;> omega
  · by_cases h1 : a < n
    · by_cases h2 : b < n
      · have hab := lt a b h1 h2
        by_cases h3 : c < n
        · have hbc := lt b c h2 h3
          unfold fex
          rw [if_pos (show a < n ∧ b < n from ⟨h1, h2⟩), if_pos (show b < n ∧ c < n from ⟨h2, h3⟩), if_pos ⟨hab, h3⟩, if_pos ⟨h1, hbc⟩]
          exact F.as a b c h1 h2 h3
        · have ec : c = n := by omega
          subst ec
          unfold fex
          rw [if_pos (show a < c ∧ b < c from ⟨h1, h2⟩), if_neg (show ¬ (f a b < c ∧ c < c) by omega), if_neg (show ¬ (b < c ∧ c < c) by omega)]
          by_cases k0 : kind = 0
          · rw [if_pos k0, if_pos k0, if_neg (show ¬ (a < c ∧ c < c) by omega), if_pos k0]
          · rw [if_neg k0, if_neg k0, if_pos hab, if_pos h2, if_pos ⟨h1, h2⟩]
      · have eb : b = n := by omega
        subst eb
        by_cases k0 : kind = 0
        · have e1 : ∀ x, fex kind b f x b = b := fun x => by unfold fex; rw [if_neg (by omega), if_pos k0]
          have e2 : ∀ x, fex kind b f b x = b := fun x => by unfold fex; rw [if_neg (by omega), if_pos k0]
          rw [e1, e2, e1]
        · have e1 : fex kind b f a b = a := by unfold fex; rw [if_neg (by omega), if_neg k0, if_pos h1]
          have e2 : fex kind b f b c = c := by unfold fex; rw [if_neg (by omega), if_neg k0, if_neg (by omega)]
          rw [e1, e2]
    · have ea : a = n := by omega
      subst ea
      by_cases k0 : kind = 0
      · have e2 : ∀ x, fex kind a f a x = a := fun x => by unfold fex; rw [if_neg (by omega), if_pos k0]
        rw [e2, e2, e2]
      · have e2 : ∀ x, fex kind a f a x = x := fun x => by unfold fex; rw [if_neg (by omega), if_neg k0, if_neg (by omega)]
        rw [e2, e2]
/-- _law_pairs -/
def fpr (n : Nat) (f g : Nat → Nat → Nat) (a b : Nat) : Nat := f (a / n) (b / n) * n + g (a % n) (b % n)
theorem asf_pairs {m n : Nat} {f g : Nat → Nat → Nat} (hn : 1 ≤ n) (F : Asf m f) (G : Asf n g) : Asf (m * n) (fpr n f g) := by
  have dv : ∀ a, a < m * n → a / n < m := fun a h => (Nat.div_lt_iff_lt_mul (by omega)).mpr h
  have md : ∀ a, a % n < n := fun a => Nat.mod_lt _ (by omega)
  have d1 : ∀ x y, y < n → (x * n + y) / n = x := fun x y h => by rw [Nat.add_comm, Nat.add_mul_div_right _ _ (by omega), Nat.div_eq_of_lt h, Nat.zero_add]
  have d2 : ∀ x y, y < n → (x * n + y) % n = y := fun x y h => by rw [Nat.add_comm, Nat.add_mul_mod_self_right, Nat.mod_eq_of_lt h]
  refine ⟨fun a b ha hb => ?_, fun a b c ha hb hc => ?_⟩
  · have h1 := F.lt _ _ (dv a ha) (dv b hb)
    have h2 := G.lt _ _ (md a) (md b)
    unfold fpr
    have h3 : (f (a / n) (b / n) + 1) * n ≤ m * n := Nat.mul_le_mul_right n h1
    rw [Nat.succ_mul] at h3
    omega
  · unfold fpr
    rw [d1 _ _ (G.lt _ _ (md a) (md b)), d2 _ _ (G.lt _ _ (md a) (md b)), d1 _ _ (G.lt _ _ (md b) (md c)), d2 _ _ (G.lt _ _ (md b) (md c)), F.as _ _ _ (dv a ha) (dv b hb) (dv c hc), G.as _ _ _ (md a) (md b) (md c)]
/-- _law_grid -/
def fgr (s : Nat → Nat) (a b : Nat) : Nat := a / 4 * 4 + (a / 2 + b / 2 + s (a % 2 * 2 + b / 4)) % 2 * 2 + b % 2
theorem asf_grid (s : Nat → Nat) (hs : ∀ i, s i < 2) : Asf 8 (fgr s) := by
  have key : ∀ p q r t : Fin 2, ∀ a b c : Fin 8,
      fgr (fun i => [p.val, q.val, r.val, t.val].getD i 0) a.val b.val < 8 ∧
      fgr (fun i => [p.val, q.val, r.val, t.val].getD i 0) (fgr (fun i => [p.val, q.val, r.val, t.val].getD i 0) a.val b.val) c.val = fgr (fun i => [p.val, q.val, r.val, t.val].getD i 0) a.val (fgr (fun i => [p.val, q.val, r.val, t.val].getD i 0) b.val c.val) := by decide +kernel
  have e : ∀ a b, a < 8 → b < 8 → fgr s a b = fgr (fun i => [s 0, s 1, s 2, s 3].getD i 0) a b := fun a b ha hb => by
    unfold fgr
    have h4 : a % 2 * 2 + b / 4 < 4 := by omega
    have : s (a % 2 * 2 + b / 4) = [s 0, s 1, s 2, s 3].getD (a % 2 * 2 + b / 4) 0 := by
      generalize a % 2 * 2 + b / 4 = i at h4
      match i, h4 with
      | 0, _ => rfl
      | 1, _ => rfl
      | 2, _ => rfl
      | 3, _ => rfl
    rw [this]
  have k := key ⟨s 0, hs 0⟩ ⟨s 1, hs 1⟩ ⟨s 2, hs 2⟩ ⟨s 3, hs 3⟩
  refine ⟨fun a b ha hb => ?_, fun a b c ha hb hc => ?_⟩
  · rw [e a b ha hb]; exact (k ⟨a, ha⟩ ⟨b, hb⟩ ⟨0, by decide⟩).1
  · have hab := (k ⟨a, ha⟩ ⟨b, hb⟩ ⟨0, by decide⟩).1
    have hbc := (k ⟨b, hb⟩ ⟨c, hc⟩ ⟨0, by decide⟩).1
    rw [e a b ha hb, e b c hb hc, e _ c hab hc, e a _ ha hbc]
    exact (k ⟨a, ha⟩ ⟨b, hb⟩ ⟨c, hc⟩).2
/-! ### other numbers of the elements -/
/-- the place of x in the order -/
def plc (o : List Nat) (x : Nat) : Nat := o.idxOf x
def frn (o : List Nat) (f : Nat → Nat → Nat) (i j : Nat) : Nat := plc o (f (o.getD i 0) (o.getD j 0))
theorem asf_renum {n : Nat} {f : Nat → Nat → Nat} {o : List Nat} (F : Asf n f) (hp : o.Perm (List.range n)) : Asf n (frn o f) := by
  have hl : o.length = n := by rw [hp.length_eq, List.length_range]
  have hm : ∀ x, x ∈ o ↔ x < n := fun x => by rw [hp.mem_iff, List.mem_range]
  have at_ : ∀ i, i < n → o.getD i 0 < n := fun i hi => by
    rw [List.getD_eq_getElem?_getD, List.getElem?_eq_getElem (by omega)]
    exact (hm _).mp (List.getElem_mem _)
  have pl : ∀ x, x < n → plc o x < n := fun x hx => by
    have := List.idxOf_lt_length_of_mem ((hm x).mpr hx); unfold plc; omega
  have back : ∀ x, x < n → o.getD (plc o x) 0 = x := fun x hx => by
    have h := List.idxOf_lt_length_of_mem ((hm x).mpr hx)
    unfold plc
    rw [List.getD_eq_getElem?_getD, List.getElem?_eq_getElem h, Option.getD_some]
    exact List.getElem_idxOf h
  refine ⟨fun a b ha hb => pl _ (F.lt _ _ (at_ a ha) (at_ b hb)), fun a b c ha hb hc => ?_⟩
  have h1 := F.lt _ _ (at_ a ha) (at_ b hb)
  have h2 := F.lt _ _ (at_ b hb) (at_ c hc)
  unfold frn
  rw [back _ h1, back _ h2, F.as _ _ _ (at_ a ha) (at_ b hb) (at_ c hc)]
end KX

set_option Elab.async false
set_option linter.all false
set_option maxRecDepth 100000
set_option maxHeartbeats 4000000
namespace L
open PySem L2 KX

def top (i : Nat) : Stmt := PySem.Challenge.pw_producttrees_k56_tables_of_pairs.main.body.getD i (.Pass ⟨0, 0, 0, 0⟩)
abbrev sCell : Stmt := top 24
abbrev sBox : Stmt := top 25
abbrev sTake : Stmt := top 26
/-- the names of built-ins are the built-ins' -/
structure Mn (mg : Str → Option Value) : Prop where
  max : mg "max" = none
  min : mg "min" = none
  len : mg "len" = none
  range : mg "range" = none
  repr : mg "repr" = none
  isin : mg "isinstance" = none
  all : mg "all" = none
  enum : mg "enumerate" = none
  tuple : mg "tuple" = none
  dict : mg "dict" = none
  str : mg "str" = none
  int : mg "int" = none
  bool : mg "bool" = none
  list : mg "list" = none
/-- the box of a cell stands at p -/
def Bx (H : Hp) (p : Addr) : Prop := ∃ b0 b1 b2 : Int, H p = some (.lst [.int b0, .int b1, .int b2]) ∧ 0 ≤ b0 ∧ 0 ≤ b1 ∧ b1 < 2147483647 ∧ 0 ≤ b2
/-- all but what stands at p is as it was -/
def Sx (p : Addr) (H H' : Hp) : Prop := ∀ b o, b ≠ p → H b = some o → H' b = some o
def spCell (K : PySem.W.Frag) : Sp := fun vs H Q _ => ∃ (a : Addr) (ns : List Int) (k : Int), vs = [.ref a, .int k] ∧ SqL K H a (ns.map V.int) ∧ 0 ≤ k ∧ ∀ c : Int, Q (.int c) H
def spBox : Sp := fun vs H Q _ => ∃ c : Int, vs = [.int c] ∧ ∀ p H', Same H H' → H p = none → Bx H' p → Q (.ref p) H'
def spTake : Sp := fun vs H Q _ => ∃ (p : Addr) (n : Int), vs = [.ref p, .int n] ∧ Bx H p ∧ 0 < n ∧ n < 316912650057057350374175801344 ∧ ∀ (r : Int) H', 0 ≤ r → r < n → Bx H' p → Sx p H H' → Q (.int r) H'
section
variable {P : Program} {w : World} {K : PySem.W.Frag} {mg : Str → Option Value} {base : Heap} {f : Addr} {fd : FuncData}
theorem scCell : FnScope ["script", "k"] ["script", "k"] (defScope sCell) := ⟨rfl, rfl, rfl, by decide +kernel, rfl, by decide +kernel, by decide +kernel⟩
theorem ok_cell (F : Fun K "_law_cell" "_law_cell" sCell f fd) (M : Mn mg) : FnOk P w K mg base CX0 1 f fd ["script", "k"] (spCell K) := by
  refine F.ok scCell (fun vs H Q E h => ?_) (fun cdv A outer s H vs Q E hr h => ?_)
  · obtain ⟨a, ns, k, rfl, _⟩ := h
    rfl
  obtain ⟨a, ns, k, rfl, hS, hk, q⟩ := h
  refine ⟨_, pss_cons (ps_if (pt_cmpR op_lt (pv 1) (pe_callB call_len_seq (by rfl) M.len PySem.boot_len (pa_cons (pv 0) pa_nil)) (nomark _)) (pss_one (ps_ret (pe_ix ix_list (pv 0) (pv 1) (fun _ _ => rfl)))) pss_nil)
    (pss_one (ps_ret (pe_op op_add (pe_op op_mul pe_int (pv 1)) pe_int))), ?_⟩
  refine ⟨_, rfl, _, rfl, a, _, rfl, .inl hS, _, _, rfl, rfl, _, rfl, ?_⟩
  refine ite2 (fun c => ?_) (fun c => ?_)
  · have c' : k < (((ns.map V.int).length : Nat) : Int) := of_decide_eq_true c
    rw [List.length_map] at c'
    have hlt : k.toNat < ns.length := by omega
    refine ⟨_, rfl, _, rfl, a, _, _, V.int ns[k.toNat], rfl, rfl, hS, at_of (j := k.toNat) (by omega) (by rw [List.getElem?_map, List.getElem?_eq_getElem hlt]; rfl), q _⟩
  · exact ⟨_, rfl, _, _, rfl, rfl, .inl ⟨by decide, by decide⟩, _, _, rfl, rfl, q _⟩
theorem scBox : FnScope ["cell"] ["cell"] (defScope sBox) := ⟨rfl, rfl, rfl, by decide +kernel, rfl, by decide +kernel, by decide +kernel⟩
theorem ok_box (F : Fun K "_law_box" "_law_box" sBox f fd) (M : Mn mg) : FnOk P w K mg base CX0 1 f fd ["cell"] spBox := by
  refine F.ok scBox (fun vs H Q E h => ?_) (fun cdv A outer s H vs Q E hr h => ?_)
  · obtain ⟨c, rfl, _⟩ := h
    rfl
  obtain ⟨c, rfl, q⟩ := h
  refine ⟨_, pss_one (ps_ret (pe_lst (pa_cons (pe_callB (call_max2 rfl) (by rfl) M.max (by decide +kernel) (pa_cons pe_int (pa_cons (pe_op op_sub (pv 0) (pe_op op_pow pe_int pe_int)) pa_nil)))
    (pa_cons (pe_op op_mod (pv 0) pe_int) (pa_cons pe_int pa_nil))))), ?_⟩
  refine ⟨_, rfl, _, _, rfl, rfl, ⟨by decide, by decide, by decide⟩, _, _, rfl, rfl, _, _, rfl, _, rfl, _, _, rfl, rfl, (by show (0 : Int) < 2147483629; decide), (by show 3 ≤ sizeLine; decide), fun p hp => ?_⟩
  refine q p _ (fun b o e => by rw [upd_ne (ne_of_none e hp)]; exact e) hp ⟨_, _, _, upd_same, ?_, Int.emod_nonneg _ (by decide), ?_, Int.le_refl 0⟩
  · split <;> omega
  · have := Int.emod_lt_of_pos c (show (0 : Int) < 2147483629 by decide)
    omega
theorem scTake : FnScope ["box", "size", "digit", "mixed"] ["box", "size"] (defScope sTake) := ⟨rfl, rfl, rfl, by decide +kernel, rfl, by decide +kernel, by decide +kernel⟩
theorem ok_take (F : Fun K "_law_take" "_law_take" sTake f fd) (M : Mn mg) : FnOk P w K mg base CX0 1 f fd ["box", "size"] spTake := by
  refine F.ok scTake (fun vs H Q E h => ?_) (fun cdv A outer s H vs Q E hr h => ?_)
  · obtain ⟨p, n, rfl, _⟩ := h
    rfl
  obtain ⟨p, n, rfl, ⟨b0, b1, b2, hp, z0, z1, z1', z2⟩, n0, n1, q⟩ := h
  refine ⟨_, pss_cons (ps_if (pt_cmpR op_gt (pe_ix ix_list (pv 0) pe_int (fun _ _ => rfl)) pe_int (nomark _))
      (pss_cons (ps_set (i := 2) scTake.nd rfl (Or.inl rfl) (pe_op op_mod (pe_ix ix_list (pv 0) pe_int (fun _ _ => rfl)) (pv 1)))
      (pss_cons (ps_asg (pe_op op_fdivW (pe_ix ix_list (pv 0) pe_int (fun _ _ => rfl)) (pv 1)) (pg_sub (pv 0) pe_int set_list))
      (pss_one (ps_ret (pv 2))))) pss_nil)
    (pss_cons (ps_asg (pe_op op_add (pe_ix ix_list (pv 0) pe_int (fun _ _ => rfl)) pe_int) (pg_sub (pv 0) pe_int set_list))
    (pss_cons (ps_set (i := 3) scTake.nd rfl (Or.inl rfl) (pe_op op_mod (pe_op op_add (pe_op op_add (pe_op op_mul (pe_ix ix_list (pv 0) pe_int (fun _ _ => rfl)) pe_int) (pe_op op_mul pe_int (pe_ix ix_list (pv 0) pe_int (fun _ _ => rfl)))) pe_int) pe_int))
    (pss_cons (ps_asg (pe_op op_mod (pe_op op_add (pe_op op_pow (pv 3) pe_int) (pe_op op_mul pe_int (pe_ix ix_list (pv 0) pe_int (fun _ _ => rfl)))) pe_int) (pg_sub (pv 0) pe_int set_list))
    (pss_one (ps_ret (pe_op op_mod (pe_op op_fdiv (pe_ix ix_list (pv 0) pe_int (fun _ _ => rfl)) pe_int) (pv 1))))))), ?_⟩
  refine ⟨_, rfl, p, _, _, _, rfl, rfl, SqL.of hp, rfl, _, _, rfl, rfl, _, rfl, ?_⟩
  refine ite2 (fun c => ?_) (fun c => ?_)
  · refine ⟨_, rfl, p, _, _, _, rfl, rfl, SqL.of hp, rfl, _, rfl, _, _, rfl, rfl, n0, ?_⟩
    refine ⟨_, rfl, p, _, _, _, rfl, rfl, SqL.of hp, rfl, _, rfl, _, _, rfl, rfl, wide_div (b := 98) n0 (by omega) (by decide) (by decide), _, rfl, p, _, _, 0, rfl, rfl, hp, rfl, ?_⟩
    refine ⟨_, rfl, q _ _ (Int.emod_nonneg _ (by omega)) (Int.emod_lt_of_pos _ n0) ⟨_, _, _, upd_same, Int.ediv_nonneg z0 (by omega), z1, z1', z2⟩ fun b o hb e => by rw [upd_ne hb]; exact e⟩
  · refine ⟨_, rfl, p, _, _, _, rfl, rfl, SqL.of hp, rfl, _, _, rfl, rfl, _, rfl, p, _, _, 2, rfl, rfl, hp, rfl, ?_⟩
    have h1 : ∀ o, (upd H p o) p = some o := fun o => upd_same
    refine ⟨_, rfl, p, _, _, _, rfl, rfl, SqL.of (h1 _), rfl, _, _, rfl, rfl, .inr ⟨by decide, by decide⟩, _, rfl, p, _, _, _, rfl, rfl, SqL.of (h1 _), rfl, _, _, rfl, rfl, .inl ⟨by decide, by decide⟩, _, _, rfl, rfl, _, _, rfl, rfl, _, _, rfl, rfl, (by show (0 : Int) < 2147483647; decide), ?_⟩
    have m0 : ∀ x : Int, 0 ≤ x % 2147483647 := fun x => Int.emod_nonneg _ (by decide)
    have m1 : ∀ x : Int, x % 2147483647 < 2147483647 := fun x => Int.emod_lt_of_pos _ (by decide)
    refine ⟨_, rfl, _, _, rfl, rfl, ⟨by decide, by decide, ?_⟩, _, rfl, p, _, _, _, rfl, rfl, SqL.of (h1 _), rfl, _, _, rfl, rfl, .inl ⟨by decide, by decide⟩, _, _, rfl, rfl, _, _, rfl, rfl, (by show (0 : Int) < 2147483647; decide), _, rfl, p, _, _, 1, rfl, rfl, (h1 _), rfl, ?_⟩
    · have a0 := m0 (b1 * 48271 + 69621 * (b2 + 1) + 7)
      have a1 := m1 (b1 * 48271 + 69621 * (b2 + 1) + 7)
      omega
    · refine ⟨_, rfl, p, _, _, _, rfl, rfl, SqL.of upd_same, rfl, _, _, rfl, rfl, ⟨by decide, by decide⟩, _, rfl, _, _, rfl, rfl, n0, ?_⟩
      refine q _ _ (Int.emod_nonneg _ (by omega)) (Int.emod_lt_of_pos _ n0) ⟨_, _, _, upd_same, z0, m0 _, m1 _, (by omega)⟩ fun b o hb e => by rw [upd_ne hb, upd_ne hb]; exact e
end
theorem Sx.refl {p : Addr} (H : Hp) : Sx p H H := fun _ _ _ e => e
theorem Sx.trans {p : Addr} {H G J : Hp} (a : Sx p H G) (b : Sx p G J) : Sx p H J := fun c o n e => b c o n (a c o n e)
theorem Sx.of {p : Addr} {H G : Hp} (a : Same H G) : Sx p H G := fun c o _ e => a c o e
theorem Sx.new {p q : Addr} {H : Hp} {o : HO} (h : H q = none) : Sx p H (upd H q o) := fun c u _ e => by rw [upd_ne (ne_of_none e h)]; exact e
theorem Bx.new {p q : Addr} {H : Hp} {o : HO} (b : Bx H p) (h : H q = none) : Bx (upd H q o) p := by
  obtain ⟨b0, b1, b2, e, r⟩ := b
  exact ⟨b0, b1, b2, by rw [upd_ne (ne_of_none e h)]; exact e, r⟩
theorem Bx.ne {p q : Addr} {H : Hp} (b : Bx H p) (h : H q = none) : q ≠ p := by
  obtain ⟨b0, b1, b2, e, r⟩ := b
  exact (ne_of_none e h).symm
theorem Bx.at_ne {p q : Addr} {H : Hp} {o : HO} (b : Bx H p) (h : q ≠ p) : Bx (upd H q o) p := by
  obtain ⟨b0, b1, b2, e, r⟩ := b
  exact ⟨b0, b1, b2, by rw [upd_ne h.symm]; exact e, r⟩
theorem Sx.free {p q : Addr} {H G : Hp} (s : Sx p H G) (b : Bx G p) (h : G q = none) : H q = none := by
  cases e : H q with
  | none => rfl
  | some o =>
    have n := b.ne h
    rw [s q o n e] at h
    cases h
theorem Bx.nn {p : Addr} {H : Hp} (b : Bx H p) : H p ≠ none := by
  obtain ⟨b0, b1, b2, e, r⟩ := b
  rw [e]; exact fun z => nomatch z
/-- what was new stays, where only p changes -/
theorem nw_step {p : Addr} {H G J : Hp} (b : Bx H p) (s : Sx p G J) : Same (nw H G) (nw H J) := fun c o h => by
  obtain ⟨h1, h2⟩ := nw_some h
  rw [nw_at h1]
  exact s c o (fun z => b.nn (z ▸ h1)) h2
/-- what is new behind a later heap is new behind an earlier one -/
theorem nw_back {p : Addr} {H G J : Hp} (s : Sx p H G) (b : Bx G p) : Same (nw G J) (nw H J) := fun c o h => by
  obtain ⟨h1, h2⟩ := nw_some h
  rw [nw_at (s.free b h1)]
  exact h2
end L

set_option Elab.async false
set_option linter.all false
set_option maxRecDepth 100000
set_option maxHeartbeats 4000000
namespace L
open PySem L2 KX
abbrev sIsInt : Stmt := top 10
/-- what isinstance tells of a value -/
def Isi (K : PySem.W.Frag) (H : Hp) (v : V) (b1 b2 : Bool) : Prop := ∃ t, TyX K H v t ∧ PySem.W.kitOne K t (.type "int") = some b1 ∧ PySem.W.kitOne K t (.type "bool") = some b2
def spIsInt (K : PySem.W.Frag) : Sp := fun vs H Q _ => ∃ v b1 b2, vs = [v] ∧ Isi K H v b1 b2 ∧ Q (.bl (b1 && !b2)) H
section
variable {P : Program} {w : World} {K : PySem.W.Frag} {mg : Str → Option Value} {base : Heap} {f g gn : Addr} {fd gd gnd : FuncData}
theorem scIsInt : FnScope ["value"] ["value"] (defScope sIsInt) := ⟨rfl, rfl, rfl, by decide +kernel, rfl, by decide +kernel, by decide +kernel⟩
theorem ok_isint (F : Fun K "is_integer" "is_integer" sIsInt f fd) (M : Mn mg) : FnOk P w K mg base CX0 1 f fd ["value"] (spIsInt K) := by
  refine F.ok scIsInt (fun vs H Q E h => ?_) (fun cdv A outer s H vs Q E hr h => ?_)
  · obtain ⟨v, b1, b2, rfl, _⟩ := h
    rfl
  obtain ⟨v, b1, b2, rfl, ⟨t, ty, k1, k2⟩, q⟩ := h
  refine ⟨_, pss_one (ps_ret (pe_and (pe_callB call_isi (by rfl) M.isin (by decide +kernel) (pa_cons (pv 0) (pa_cons (pe_bltn (v := .ty "int") (by rfl) M.int (by decide +kernel) rfl) pa_nil)))
    (pe_one (pe_not (pe_callB call_isi (by rfl) M.isin (by decide +kernel) (pa_cons (pv 0) (pa_cons (pe_bltn (v := .ty "bool") (by rfl) M.bool (by decide +kernel) rfl) pa_nil))))))), ?_⟩
  refine ⟨_, rfl, v, .ty "int", t, .type "int", b1, rfl, .ty _, ty, k1, b1, rfl, ?_⟩
  cases b1 with
  | false => exact iteF q
  | true => exact iteT ⟨_, rfl, v, .ty "bool", t, .type "bool", b2, rfl, .ty _, ty, k2, b2, rfl, q⟩
end

abbrev sIsList : Stmt := top 11
abbrev sBelow : Stmt := top 12
abbrev sNumList : Stmt := top 13
abbrev sAreRows : Stmt := top 19
abbrev sWrong : Stmt := top 20
theorem TyX.same {K : PySem.W.Frag} {H G : Hp} (s : Same H G) {v : V} {t : Value} (h : TyX K H v t) : TyX K G v t := by
  cases h with
  | base b =>
    cases b with
    | non => exact .base .non
    | bl b => exact .base (.bl b)
    | int i => exact .base (.int i)
    | str x => exact .base (.str x)
    | flt x => exact .base (.flt x)
    | lst e => exact .base (.lst (s _ _ e))
    | frz e => exact .base (.frz (s _ _ e))
    | tup e => exact .base (.tup (s _ _ e))
    | dK e => exact .base (.dK (s _ _ e))
    | dT e => exact .base (.dT (s _ _ e))
    | ins e a b c d f => exact .base (.ins (s _ _ e) a b c d f)
  | byt b => exact .byt b
  | set e => exact .set (s _ _ e)
  | kList e c => exact .kList e c
  | kTuple e c => exact .kTuple e c
  | kDict e c => exact .kDict e c
  | fTuple e => exact .fTuple (s _ _ e)
  | fDict e => exact .fDict (s _ _ e)
theorem Isi.same {K : PySem.W.Frag} {H G : Hp} (s : Same H G) {v : V} {a b : Bool} (h : Isi K H v a b) : Isi K G v a b := let ⟨t, h1, h2, h3⟩ := h; ⟨t, TyX.same s h1, h2, h3⟩
theorem Same.tup {K : PySem.W.Frag} {H H' : Hp} {a : Addr} {xs : List V} (e : Same H H') (h : SqT K H a xs) : SqT K H' a xs := by
  rcases h with (h | ⟨o, h⟩) | h
  · exact .inl (.inl (e _ _ h))
  · exact .inl (.inr ⟨o, e _ _ h⟩)
  · exact .inr h
theorem Same.new {H : Hp} {p : Addr} (h : H p = none) (o : HO) : Same H (upd H p o) := fun b u e => by rw [upd_ne (ne_of_none e h)]; exact e
/-- a list or a tuple is to be read at v -/
def Sq (K : PySem.W.Frag) (H : Hp) (v : V) (xs : List V) : Prop := ∃ a, v = .ref a ∧ (SqL K H a xs ∨ SqT K H a xs)
theorem Sq.same {K : PySem.W.Frag} {H G : Hp} {v : V} {xs : List V} (s : Same H G) (h : Sq K H v xs) : Sq K G v xs := let ⟨a, e, h⟩ := h; ⟨a, e, h.imp (fun z => Same.seq s z) (fun z => Same.tup s z)⟩
theorem SqL.ty {K : PySem.W.Frag} {H : Hp} {a : Addr} {xs : List V} (h : SqL K H a xs) : TyX K H (.ref a) (.type "list") := by
  rcases h with (h | ⟨o, h⟩) | ⟨o, its, n, h, c, _⟩
  · exact .base (.lst h)
  · exact .base (.frz h)
  · exact .kList h c
theorem SqT.ty {K : PySem.W.Frag} {H : Hp} {a : Addr} {xs : List V} (h : SqT K H a xs) : TyX K H (.ref a) (.type "tuple") := by
  rcases h with (h | ⟨o, h⟩) | ⟨o, its, n, h, c, _⟩
  · exact .base (.tup h)
  · exact .fTuple h
  · exact .kTuple h c
theorem Sq.ty {K : PySem.W.Frag} {H : Hp} {v : V} {xs : List V} (h : Sq K H v xs) : ∃ t, TyX K H v t ∧ PySem.W.kitAny K t [.type "list", .type "tuple"] = some true := by
  obtain ⟨a, rfl, h | h⟩ := h
  · exact ⟨_, SqL.ty h, kitAny_cons (b := true) (kit_ty (by decide +kernel)) (fun z => nomatch z) fun _ => rfl⟩
  · exact ⟨_, SqT.ty h, kitAny_cons (b := false) (kit_ty (by decide +kernel)) (fun _ => kitAny_cons (b := true) (kit_ty (by decide +kernel)) (fun z => nomatch z) fun _ => rfl) fun z => nomatch z⟩
/-- no list and no tuple -/
def NoSq (K : PySem.W.Frag) (H : Hp) (v : V) : Prop := ∃ t, TyX K H v t ∧ PySem.W.kitAny K t [.type "list", .type "tuple"] = some false
theorem NoSq.same {K : PySem.W.Frag} {H G : Hp} {v : V} (s : Same H G) (h : NoSq K H v) : NoSq K G v := let ⟨t, a, b⟩ := h; ⟨t, TyX.same s a, b⟩
/-- an item: an int, or something that is_integer refuses -/
def Itm (K : PySem.W.Frag) (H : Hp) (v : V) : Prop := (∃ i, v = .int i) ∨ ((∀ i, v ≠ .int i) ∧ ∃ b1 b2, Isi K H v b1 b2 ∧ (b1 && !b2) = false)
theorem Itm.same {K : PySem.W.Frag} {H G : Hp} {v : V} (s : Same H G) (h : Itm K H v) : Itm K G v := h.imp id fun ⟨a, b1, b2, c, d⟩ => ⟨a, b1, b2, c.same s, d⟩
def nb (lim : Int) : V → Bool
  | .int i => decide (0 ≤ i) && decide (i < lim)
  | _ => false
def spIsList (K : PySem.W.Frag) : Sp := fun vs H Q _ => ∃ v lo hi, vs = [v, .int lo, .int hi] ∧
  ((∃ xs, Sq K H v xs ∧ ∀ H', Same H H' → Q (.bl (decide (lo ≤ (xs.length : Int)) && decide ((xs.length : Int) ≤ hi))) H') ∨ (NoSq K H v ∧ ∀ H', Same H H' → Q (.bl false) H'))
def spBelow (K : PySem.W.Frag) : Sp := fun vs H Q _ => ∃ v lim, vs = [v, .int lim] ∧ Itm K H v ∧ Q (.bl (nb lim v)) H
def spNumList (K : PySem.W.Frag) : Sp := fun vs H Q _ => ∃ v lo hi lim, vs = [v, .int lo, .int hi, .int lim] ∧
  ((∃ xs, Sq K H v xs ∧ (∀ x, x ∈ xs → Itm K H x) ∧ xs.length < 1000000 ∧ ∀ H', Same H H' → Q (.bl (decide (lo ≤ (xs.length : Int)) && decide ((xs.length : Int) ≤ hi) && xs.all (nb lim))) H') ∨ (NoSq K H v ∧ ∀ H', Same H H' → Q (.bl false) H'))
section
variable {P : Program} {w : World} {K : PySem.W.Frag} {mg : Str → Option Value} {base : Heap} {f g gn : Addr} {fd gd gnd : FuncData}
theorem scIsList : FnScope ["value", "least", "most"] ["value", "least", "most"] (defScope sIsList) := ⟨rfl, rfl, rfl, by decide +kernel, rfl, by decide +kernel, by decide +kernel⟩
theorem ok_islist (F : Fun K "is_list" "is_list" sIsList f fd) (M : Mn mg) : FnOk P w K mg base CX0 1 f fd ["value", "least", "most"] (spIsList K) := by
  refine F.ok scIsList (fun vs H Q E h => ?_) (fun cdv A outer s H vs Q E hr h => ?_)
  · obtain ⟨v, lo, hi, rfl, _⟩ := h
    rfl
  obtain ⟨v, lo, hi, rfl, h⟩ := h
  refine ⟨_, pss_one (ps_ret (pe_and (pe_callB call_isiT (by rfl) M.isin (by decide +kernel) (pa_cons (pv 0) (pa_cons (pe_tup (pa_cons (pe_bltn (v := .ty "list") (by rfl) M.list (by decide +kernel) rfl)
      (pa_cons (pe_bltn (v := .ty "tuple") (by rfl) M.tuple (by decide +kernel) rfl) pa_nil))) pa_nil)))
    (pe_one (pe_chain op_le op_le (pv 1) (pe_callB call_len_seq (by rfl) M.len PySem.boot_len (pa_cons (pv 0) pa_nil)) (pv 2))))), ?_⟩
  refine ⟨_, rfl, (by show 2 ≤ sizeLine; decide), fun tp htp => ?_⟩
  have ss := Same.new htp (.tup [V.ty "list", V.ty "tuple"])
  rcases h with ⟨xs, hs, q⟩ | ⟨hs, q⟩
  · obtain ⟨t, ty, kt⟩ := (hs.same ss).ty
    refine ⟨v, tp, _, t, _, true, rfl, upd_same, .cons (.ty _) (.cons (.ty _) .nil), ty, kt, true, rfl, iteT ?_⟩
    obtain ⟨a, rfl, hs2⟩ := hs.same ss
    refine ⟨_, rfl, _, rfl, a, xs, rfl, hs2, _, _, rfl, rfl, _, rfl, ?_⟩
    refine ite2 (fun c => ⟨_, rfl, _, _, rfl, rfl, ?_⟩) (fun c => ?_)
    · have q' := q _ ss
      rw [c] at q'
      exact q'
    · have q' := q _ ss
      rw [Bool.eq_false_iff.mpr c] at q'
      exact q'
  · obtain ⟨t, ty, kt⟩ := hs.same ss
    exact ⟨v, tp, _, t, _, false, rfl, upd_same, .cons (.ty _) (.cons (.ty _) .nil), ty, kt, false, rfl, iteF (q _ ss)⟩
theorem scBelow : FnScope ["value", "limit"] ["value", "limit"] (defScope sBelow) := ⟨rfl, rfl, rfl, by decide +kernel, rfl, by decide +kernel, by decide +kernel⟩
theorem ok_below (F : Fun K "is_number_below" "is_number_below" sBelow f fd) (G : FnOk P w K mg base CX0 1 g gd ["value"] (spIsInt K)) (bG : Binds K gd ["value"] []) (kG : PySem.W.keepIn K (.ref g) = true) (mG : mg "is_integer" = some (.ref g)) :
    FnOk P w K mg base CX0 2 f fd ["value", "limit"] (spBelow K) := by
  refine F.ok scBelow (fun vs H Q E h => ?_) (fun cdv A outer s H vs Q E hr h => ?_)
  · obtain ⟨v, lim, rfl, _⟩ := h
    rfl
  obtain ⟨v, lim, rfl, h, q⟩ := h
  refine ⟨_, pss_one (ps_ret (pe_and (pe_call G hr rfl mG kG bG .nil pass0 (pa_cons (pv 0) pa_nil)) (pe_one (pe_chain op_le op_lt pe_int (pv 0) (pv 1))))), ?_⟩
  rcases h with ⟨i, rfl⟩ | ⟨ni, b1, b2, hi, hb⟩
  · refine ⟨_, rfl, _, true, false, rfl, ⟨_, .base (.int i), kit_ty (by decide +kernel), kit_ty (by decide +kernel)⟩, true, rfl, iteT ⟨_, rfl, _, _, rfl, rfl, _, rfl, ?_⟩⟩
    refine ite2 (fun c => ⟨_, rfl, _, _, rfl, rfl, ?_⟩) (fun c => ?_)
    · have e : nb lim (.int i) = decide (i < lim) := by show (decide (0 ≤ i) && decide (i < lim)) = _; rw [c]; rfl
      rw [e] at q
      exact q
    · have e : nb lim (.int i) = false := by show (decide (0 ≤ i) && decide (i < lim)) = _; rw [Bool.eq_false_iff.mpr c]; rfl
      rw [e] at q
      exact q
  · refine ⟨_, rfl, v, b1, b2, rfl, hi, _, rfl, ?_⟩
    rw [hb]
    have e : nb lim v = false := by
      cases v with
      | int i => exact absurd rfl (ni i)
      | _ => rfl
    rw [e] at q
    exact iteF q
theorem scNumList : FnScope ["value", "least", "most", "limit", "item"] ["value", "least", "most", "limit"] (defScope sNumList) := ⟨rfl, rfl, rfl, by decide +kernel, rfl, by decide +kernel, by decide +kernel⟩
theorem ok_numlist (F : Fun K "is_number_list" "is_number_list" sNumList f fd) (M : Mn mg)
    (G : FnOk P w K mg base CX0 1 g gd ["value", "least", "most"] (spIsList K)) (bG : Binds K gd ["value", "least", "most"] []) (kG : PySem.W.keepIn K (.ref g) = true) (mG : mg "is_list" = some (.ref g))
    (N : FnOk P w K mg base CX0 2 gn gnd ["value", "limit"] (spBelow K)) (bN : Binds K gnd ["value", "limit"] []) (kN : PySem.W.keepIn K (.ref gn) = true) (mN : mg "is_number_below" = some (.ref gn)) :
    FnOk P w K mg base CX0 3 f fd ["value", "least", "most", "limit"] (spNumList K) := by
  refine F.ok scNumList (fun vs H Q E h => ?_) (fun cdv A outer s H vs Q E hr h => ?_)
  · obtain ⟨v, lo, hi, lim, rfl, _⟩ := h
    rfl
  obtain ⟨v, lo, hi, lim, rfl, h⟩ := h
  have hr1 : Room 1 _ := hr.mono (by decide)
  rcases h with ⟨xs, hs, ht, hz, q⟩ | ⟨hs, q⟩
  · -- a list or a tuple: the walk over it is one of two
    have key : ∀ (D : Addr) (G : Hp), Same H G → G D = none → ∀ (i : Nat) (J : Hp), (Same H J ∧ J D = some (.lst (((xs.take i).map (nb lim)).map V.bl))) → ∀ x, xs[i]? = some x → Itm K J x ∧
        ∃ acc, J D = some (.lst acc) ∧ acc.length < sizeLine ∧ (Same H (upd J D (.lst (acc ++ [V.bl (nb lim x)]))) ∧ (upd J D (.lst (acc ++ [V.bl (nb lim x)]))) D = some (.lst (((xs.take (i + 1)).map (nb lim)).map V.bl))) := by
      intro D G sG hD i J ⟨sJ, eD⟩ x hx
      have hD0 : H D = none := sG.free hD
      refine ⟨(ht x (List.mem_of_getElem? hx)).same sJ, _, eD, ?_, fun b o e => by rw [upd_ne (ne_of_none e hD0)]; exact sJ b o e, ?_⟩
      · rw [List.length_map, List.length_map, List.length_take, sizeLine_eq]; omega
      · rw [upd_same, List.take_add_one, hx, List.map_append, List.map_append]; rfl
    have fin : ∀ (D : Addr) (J : Hp), (Same H J ∧ J D = some (.lst (((xs.take xs.length).map (nb lim)).map V.bl))) → (decide (lo ≤ (xs.length : Int)) && decide ((xs.length : Int) ≤ hi)) = true → rAll K [.ref D] J Q := by
      intro D J ⟨sJ, eD⟩ hc
      rw [List.take_length] at eD
      refine ⟨D, _, rfl, SqL.of eD, ?_⟩
      have e2 : (xs.map (nb lim)).all id = xs.all (nb lim) := by rw [List.all_map]; rfl
      have q' := q J sJ
      rw [hc] at q'
      rw [e2]
      exact q'
    obtain ⟨a, rfl, hl | hl⟩ := id hs
    · refine ⟨_, pss_one (ps_ret (pe_and (pe_call G hr1 rfl mG kG bG .nil pass0 (pa_cons (pv 0) (pa_cons (pv 1) (pa_cons (pv 2) pa_nil))))
        (pe_one (pe_callB (cr_all rfl) (by rfl) M.all (by decide +kernel) (pa_cons (pe_lc (own := [("item", 4)]) (g := gName 4) (tt := tYes) rfl scNumList.nd (pi_list (pv 0))
          (blkOk_by (N := ["value", "least", "most", "limit", "item"]) (sc := defScope sNumList) (by decide +kernel)) (fun _ _ _ _ _ => pg_name (i := 4) scNumList.nd rfl (Or.inl rfl)) (fun _ _ _ _ _ => pts_nil)
          (fun _ _ _ _ _ => pe_call N hr rfl mN kN bN .nil pass0 (pa_cons (pv 4) (pa_cons (pv 3) pa_nil)))) pa_nil))))), ?_⟩
      refine ⟨_, rfl, _, rfl, _, rfl, _, lo, hi, rfl, .inl ⟨xs, hs, fun G sG => ⟨_, rfl, ite2 (fun c => ?_) (fun c => ?_)⟩⟩⟩
      · refine ⟨_, rfl, a, rfl, ⟨_, sG.seq hl⟩, fun D hD => lc_list (xs := xs) (fun i J => Same H J ∧ J D = some (.lst (((xs.take i).map (nb lim)).map V.bl)))
          ⟨fun b o e => by rw [upd_ne (ne_of_none (sG b o e) hD)]; exact sG b o e, upd_same⟩ (fun i J _ z => z.1.seq hl) (fun i x J hx z => ?_) fun J z => fin D J z c⟩
        obtain ⟨k1, k2⟩ := key D G sG hD i J z x hx
        exact ⟨rfl, _, rfl, _, rfl, x, lim, rfl, k1, k2⟩
      · have q' := q G sG
        rw [Bool.eq_false_iff.mpr c] at q'
        exact q'
    · refine ⟨_, pss_one (ps_ret (pe_and (pe_call G hr1 rfl mG kG bG .nil pass0 (pa_cons (pv 0) (pa_cons (pv 1) (pa_cons (pv 2) pa_nil))))
        (pe_one (pe_callB (cr_all rfl) (by rfl) M.all (by decide +kernel) (pa_cons (pe_lc (own := [("item", 4)]) (g := gName 4) (tt := tYes) rfl scNumList.nd (pi_tup (pv 0))
          (blkOk_by (N := ["value", "least", "most", "limit", "item"]) (sc := defScope sNumList) (by decide +kernel)) (fun _ _ _ _ _ => pg_name (i := 4) scNumList.nd rfl (Or.inl rfl)) (fun _ _ _ _ _ => pts_nil)
          (fun _ _ _ _ _ => pe_call N hr rfl mN kN bN .nil pass0 (pa_cons (pv 4) (pa_cons (pv 3) pa_nil)))) pa_nil))))), ?_⟩
      refine ⟨_, rfl, _, rfl, _, rfl, _, lo, hi, rfl, .inl ⟨xs, hs, fun G sG => ⟨_, rfl, ite2 (fun c => ?_) (fun c => ?_)⟩⟩⟩
      · refine ⟨_, rfl, a, rfl, ⟨_, Same.tup sG hl⟩, fun D hD => lc_tup (xs := xs) (fun i J => Same H J ∧ J D = some (.lst (((xs.take i).map (nb lim)).map V.bl)))
          ⟨fun b o e => by rw [upd_ne (ne_of_none (sG b o e) hD)]; exact sG b o e, upd_same⟩ (fun i J _ z => Same.tup z.1 hl) (fun i x J hx z => ?_) fun J z => fin D J z c⟩
        obtain ⟨k1, k2⟩ := key D G sG hD i J z x hx
        exact ⟨rfl, _, rfl, _, rfl, x, lim, rfl, k1, k2⟩
      · have q' := q G sG
        rw [Bool.eq_false_iff.mpr c] at q'
        exact q'
  · refine ⟨_, pss_one (ps_ret (pe_and (pe_call G hr1 rfl mG kG bG .nil pass0 (pa_cons (pv 0) (pa_cons (pv 1) (pa_cons (pv 2) pa_nil))))
        (pe_one (pe_callB (cr_all rfl) (by rfl) M.all (by decide +kernel) (pa_cons (pe_lc (own := [("item", 4)]) (g := gName 4) (tt := tYes) rfl scNumList.nd (pi_list (pv 0))
          (blkOk_by (N := ["value", "least", "most", "limit", "item"]) (sc := defScope sNumList) (by decide +kernel)) (fun _ _ _ _ _ => pg_name (i := 4) scNumList.nd rfl (Or.inl rfl)) (fun _ _ _ _ _ => pts_nil)
          (fun _ _ _ _ _ => pe_call N hr rfl mN kN bN .nil pass0 (pa_cons (pv 4) (pa_cons (pv 3) pa_nil)))) pa_nil))))), ?_⟩
    exact ⟨_, rfl, _, rfl, _, rfl, v, lo, hi, rfl, .inr ⟨hs, fun G sG => ⟨_, rfl, iteF (q G sG)⟩⟩⟩
end

abbrev sInit : Stmt := inClass (top 16) 0
section
variable {X : Cx}
/-- what a for walks: a list or a tuple -/
def iSq (K : PySem.W.Frag) (tl : TE) : TI := fun σ H R => iList K tl σ H R ∨ iTup K tl σ H R
theorem pi_sq {tg l : Expr} {tl : TE} (h : PE X l tl) : PI X tg l (iSq X.K tl) := ⟨fun pins s σ H R I q => q.elim (fun z => (pi_list h).run pins s σ H R I z) fun z => (pi_tup h).run pins s σ H R I z⟩
theorem isq_of {K : PySem.W.Frag} {i : Nat} {σ : L2.St} {H : Hp} {v : V} {xs : List V} {R : It → Hp → Prop} (e : σ[i]? = some (some v)) (h : Sq K H v xs) (k : ∀ J, Walk J xs.length (Same H) (YAt xs) → R J H) : iSq K (tVar i) σ H R := by
  obtain ⟨a, rfl, h | h⟩ := h
  · exact .inl ⟨_, e, a, rfl, ⟨_, h⟩, k _ (walk_list.mono (fun G s => s.seq h) fun _ _ _ _ _ _ y => y)⟩
  · exact .inr ⟨_, e, a, rfl, ⟨_, h⟩, k _ (walk_tup.mono (fun G s => Same.tup s h) fun _ _ _ _ _ _ y => y)⟩
theorem rix_of {K : PySem.W.Frag} {H : Hp} {v x : V} {xs : List V} {z : Int} {i : Nat} {Q : VK} (h : Sq K H v xs) (ez : z = (i : Int)) (hx : xs[i]? = some x) (q : Q x H) : rIx K v (.int z) H Q := by
  obtain ⟨a, rfl, h | h⟩ := h
  · exact .inl ⟨a, xs, z, x, rfl, rfl, h, at_of ez hx, q⟩
  · exact .inr (.inl ⟨a, xs, z, x, rfl, rfl, h, at_of ez hx, q⟩)
theorem call_len_sq : CallR X (.builtin "len") (fun vs H Q => ∃ v xs, vs = [v] ∧ Sq X.K H v xs ∧ Q (.int xs.length) H) := by
  intro pins s σ H xs us Q I r h
  obtain ⟨v, ys, rfl, ⟨a, rfl, h⟩, q⟩ := h
  exact call_len_seq pins s σ H _ us Q I r ⟨a, ys, rfl, h, q⟩
end
/-- a row: a list or tuple of items, or neither -/
def RowD (K : PySem.W.Frag) (H : Hp) (x : V) : Option (List V) → Prop
  | some xs => Sq K H x xs ∧ (∀ y, y ∈ xs → Itm K H y) ∧ xs.length < 1000000
  | none => NoSq K H x
theorem RowD.same {K : PySem.W.Frag} {H G : Hp} (s : Same H G) {x : V} : ∀ {o : Option (List V)}, RowD K H x o → RowD K G x o
  | some xs, h => ⟨h.1.same s, fun y hy => (h.2.1 y hy).same s, h.2.2⟩
  | none, h => NoSq.same s h
def rb (n : Nat) : Option (List V) → Bool
  | some xs => decide ((n : Int) ≤ (xs.length : Int)) && decide ((xs.length : Int) ≤ (n : Int)) && xs.all (nb (n : Int))
  | none => false
def spAreRows (K : PySem.W.Frag) : Sp := fun vs H Q _ => ∃ v, vs = [v] ∧ ((NoSq K H v ∧ ∀ H', Same H H' → Q (.bl false) H') ∨
  ∃ rs os, Sq K H v rs ∧ Paired (RowD K H) rs os ∧ ∀ H', Same H H' → Q (.bl (decide ((1 : Int) ≤ (rs.length : Int)) && decide ((rs.length : Int) ≤ 16) && os.all (rb rs.length))) H')
theorem pair_at {α β : Type} {F : α → β → Prop} : ∀ {as : List α} {bs : List β} {i : Nat} {a : α}, Paired F as bs → as[i]? = some a → ∃ b, bs[i]? = some b ∧ F a b
  | _, _, _, _, .nil, e => by simp at e
  | _, _, 0, _, .cons h _, e => by simp at e; subst e; exact ⟨_, rfl, h⟩
  | _, _, i + 1, a, .cons _ t, e => by
    obtain ⟨b, h1, h2⟩ := pair_at (i := i) (a := a) t (by simpa using e)
    exact ⟨b, by simpa using h1, h2⟩
section
variable {P : Program} {w : World} {K : PySem.W.Frag} {mg : Str → Option Value} {base : Heap} {f g gn : Addr} {fd gd gnd : FuncData}
theorem scAreRows : FnScope ["rows", "size", "row"] ["rows"] (defScope sAreRows) := ⟨rfl, rfl, rfl, by decide +kernel, rfl, by decide +kernel, by decide +kernel⟩
theorem ok_arerows (F : Fun K "_are_rows" "_are_rows" sAreRows f fd) (M : Mn mg) (mL : ∃ t, mg "LARGEST_TABLE" = some (.int 16 t))
    (G : FnOk P w K mg base CX0 1 g gd ["value", "least", "most"] (spIsList K)) (bG : Binds K gd ["value", "least", "most"] []) (kG : PySem.W.keepIn K (.ref g) = true) (mG : mg "is_list" = some (.ref g))
    (N : FnOk P w K mg base CX0 3 gn gnd ["value", "least", "most", "limit"] (spNumList K)) (bN : Binds K gnd ["value", "least", "most", "limit"] []) (kN : PySem.W.keepIn K (.ref gn) = true) (mN : mg "is_number_list" = some (.ref gn)) :
    FnOk P w K mg base CX0 4 f fd ["rows"] (spAreRows K) := by
  refine F.ok scAreRows (fun vs H Q E h => ?_) (fun cdv A outer s H vs Q E hr h => ?_)
  · obtain ⟨v, rfl, _⟩ := h
    rfl
  obtain ⟨v, rfl, h⟩ := h
  obtain ⟨tok, mL⟩ := mL
  have hr1 : Room 1 _ := hr.mono (by decide)
  refine ⟨_, pss_cons (ps_if (pt_not (pt_val (pe_call G hr1 rfl mG kG bG .nil pass0 (pa_cons (pv 0) (pa_cons pe_int (pa_cons (pe_glob (v := .int 16) (by rfl) mL ⟨_, rfl⟩) pa_nil)))))) (pss_one (ps_ret pe_bl)) pss_nil)
    (pss_cons (ps_set (i := 1) scAreRows.nd rfl (Or.inr rfl) (pe_callB call_len_sq (by rfl) M.len PySem.boot_len (pa_cons (pv 0) pa_nil)))
    (pss_one (ps_ret (pe_callB (cr_all rfl) (by rfl) M.all (by decide +kernel) (pa_cons (pe_lc (own := [("row", 2)]) (g := gName 2) (tt := tYes) rfl scAreRows.nd (pi_sq (pv 0))
      (blkOk_by (N := ["rows", "size", "row"]) (sc := defScope sAreRows) (by decide +kernel)) (fun _ _ _ _ _ => pg_name (i := 2) scAreRows.nd rfl (Or.inl rfl)) (fun _ _ _ _ _ => pts_nil)
      (fun _ _ _ _ _ => pe_call N hr rfl mN kN bN .nil pass0 (pa_cons (pv 2) (pa_cons (pv 1) (pa_cons (pv 1) (pa_cons (pv 1) pa_nil)))))) pa_nil))))), ?_⟩
  rcases h with ⟨hs, q⟩ | ⟨rs, os, hs, pr, q⟩
  · exact ⟨_, rfl, v, 1, 16, rfl, .inr ⟨hs, fun J sJ => ⟨false, rfl, iteT (q J sJ)⟩⟩⟩
  · refine ⟨_, rfl, v, 1, 16, rfl, .inl ⟨rs, hs, fun J sJ => ⟨_, rfl, ?_⟩⟩⟩
    cases hc : (decide ((1 : Int) ≤ (rs.length : Int)) && decide ((rs.length : Int) ≤ 16)) with
    | false =>
      have q' := q J sJ
      rw [hc] at q'
      exact iteT q'
    | true =>
      have hl : rs.length ≤ 16 := by
        have := of_decide_eq_true (Bool.and_eq_true_iff.mp hc).2
        omega
      refine iteF ⟨_, rfl, v, rs, rfl, hs.same sJ, ?_⟩
      refine isq_of (v := v) rfl (hs.same sJ) fun It wk D hD => ?_
      refine lc_it wk (fun i J2 => Same J J2 ∧ J2 D = some (.lst (((os.take i).map (rb rs.length)).map V.bl))) ⟨fun b o e => by rw [upd_ne (ne_of_none e hD)]; exact e, upd_same⟩ (fun _ _ _ z => z.1) ?_ ?_
      · rintro i x Jz J2 hi ⟨s2, eD⟩ ⟨rfl, hx⟩
        obtain ⟨o, ho, hrow⟩ := pair_at pr hx
        have hrow' := hrow.same (sJ.trans s2)
        refine ⟨rfl, _, rfl, _, rfl, _, rfl, _, rfl, x, _, _, _, rfl, ?_⟩
        have fin : ∀ G2, Same J2 G2 → ∃ acc, G2 D = some (.lst acc) ∧ acc.length < sizeLine ∧ (Same J (upd G2 D (.lst (acc ++ [V.bl (rb rs.length o)]))) ∧ (upd G2 D (.lst (acc ++ [V.bl (rb rs.length o)]))) D = some (.lst (((os.take (i + 1)).map (rb rs.length)).map V.bl))) := fun G2 s3 => by
          refine ⟨_, s3 _ _ eD, ?_, fun b o e => by rw [upd_ne (ne_of_none e hD)]; exact s3 _ _ (s2 b o e), ?_⟩
          · rw [List.length_map, List.length_map, List.length_take, sizeLine_eq]; omega
          · rw [upd_same, List.take_add_one, ho, List.map_append, List.map_append]; rfl
        cases o with
        | none => exact .inr ⟨hrow', fun G2 s3 => fin G2 s3⟩
        | some xs => exact .inl ⟨xs, hrow'.1, hrow'.2.1, hrow'.2.2, fun G2 s3 => fin G2 s3⟩
      · rintro J2 ⟨s2, eD⟩
        have tk : os.take rs.length = os := by rw [show rs.length = os.length from pr.length]; exact List.take_length
        rw [tk] at eD
        refine ⟨D, _, rfl, SqL.of eD, ?_⟩
        have e2 : (os.map (rb rs.length)).all id = os.all (rb rs.length) := by rw [List.all_map]; rfl
        have q' := q J2 (sJ.trans s2)
        rw [hc] at q'
        rw [e2]
        exact q'
end
/-- the rows tb are to be read at v -/
def Rws (K : PySem.W.Frag) (H : Hp) (v : V) (tb : List (List Int)) : Prop := ∃ rs, Sq K H v rs ∧ Paired (fun x row => Sq K H x (row.map V.int)) rs tb
theorem Rws.same {K : PySem.W.Frag} {H G : Hp} (s : Same H G) {v : V} {tb : List (List Int)} (h : Rws K H v tb) : Rws K G v tb :=
  let ⟨rs, a, b⟩ := h
  ⟨rs, a.same s, L2.Paired.mapP b fun _ _ z => z.same s⟩
theorem Rws.len {K : PySem.W.Frag} {H : Hp} {v : V} {tb : List (List Int)} {rs : List V} (b : Paired (fun x row => Sq K H x (row.map V.int)) rs tb) : rs.length = tb.length := b.length
/-- rows[i], then its item j -/
theorem Rws.at_ {K : PySem.W.Frag} {H : Hp} {v : V} {tb : List (List Int)} (h : Rws K H v tb) (S : Sqr tb) {i : Nat} (hi : i < tb.length) :
    ∃ rs x, Sq K H v rs ∧ rs[i]? = some x ∧ Sq K H x ((tb.getD i []).map V.int) ∧ ∀ j, j < tb.length → ((tb.getD i []).map V.int)[j]? = some (.int (mu tb i j)) := by
  obtain ⟨rs, a, b⟩ := h
  have hi' : i < rs.length := by rw [b.length]; exact hi
  obtain ⟨row, h1, h2⟩ := pair_at b (List.getElem?_eq_getElem hi')
  have e : tb.getD i [] = row := by rw [List.getD_eq_getElem?_getD, h1]; rfl
  refine ⟨rs, rs[i], a, List.getElem?_eq_getElem hi', by rw [e]; exact h2, fun j hj => ?_⟩
  have hr : row.length = tb.length := S.row row (List.mem_of_getElem? h1)
  unfold mu
  rw [e, List.getElem?_map, List.getElem?_eq_getElem (by omega), List.getD_eq_getElem?_getD, List.getElem?_eq_getElem (by omega)]
  rfl
def lexlt (x y : Nat × Nat × Nat) : Prop := x.1 < y.1 ∨ (x.1 = y.1 ∧ (x.2.1 < y.2.1 ∨ (x.2.1 = y.2.1 ∧ x.2.2 < y.2.2)))
def spWrong (K : PySem.W.Frag) : Sp := fun vs H Q _ => ∃ v tb, vs = [v] ∧ Rws K H v tb ∧ Sqr tb ∧
  ((∀ a b c, a < tb.length → b < tb.length → c < tb.length → rt tb a b c) → Q .non H) ∧
  (∀ a b c, a < tb.length → b < tb.length → c < tb.length → ¬ rt tb a b c →
    (∀ a' b' c', a' < tb.length → b' < tb.length → c' < tb.length → lexlt (a', b', c') (a, b, c) → rt tb a' b' c') → ∀ p, H p = none → Q (.ref p) (upd H p (.tup [.int a, .int b, .int c])))
/-- a product table stands at p -/
structure TbA (K : PySem.W.Frag) (C : Addr) (H : Hp) (p : Addr) (tb : List (List Int)) : Prop where
  ob : ∃ dx t rs, H p = some (.ins C dx [("_rows", .ref t)]) ∧ SqT K H t rs ∧ Paired (fun x row => ∃ r, x = V.ref r ∧ SqT K H r (row.map V.int)) rs tb
def spInit (K : PySem.W.Frag) (C : Addr) : Sp := fun vs H Q _ => ∃ p dx v tb, vs = [.ref p, v] ∧ H p = some (.ins C dx []) ∧ Rws K H v tb ∧ Sqr tb ∧ (∀ a b c, a < tb.length → b < tb.length → c < tb.length → rt tb a b c) ∧
  (∀ a, v = .ref a → a ≠ p) ∧ ∀ H', TbA K C H' p tb → (∀ b o, b ≠ p → H b = some o → H' b = some o) → Q .non H'
section
variable {P : Program} {w : World} {K : PySem.W.Frag} {mg : Str → Option Value} {base : Heap} {f g gn : Addr} {fd gd gnd : FuncData}
theorem scWrong : FnScope ["rows", "size", "a", "b", "c"] ["rows"] (defScope sWrong) := ⟨rfl, rfl, rfl, by decide +kernel, rfl, by decide +kernel, by decide +kernel⟩
theorem ok_wrong (F : Fun K "_first_wrong_triple" "_first_wrong_triple" sWrong f fd) (M : Mn mg) : FnOk P w K mg base CX0 1 f fd ["rows"] (spWrong K) := by
  refine F.ok scWrong (fun vs H Q E h => ?_) (fun cdv A outer s H vs Q E hr h => ?_)
  · obtain ⟨v, tb, rfl, _⟩ := h
    rfl
  obtain ⟨v, tb, rfl, hR, S, q1, q2⟩ := h
  have ix : ∀ {X : Cx}, IxR X (rIx X.K) := fun {X} => ix_seq
  refine ⟨_, pss_cons (ps_set (i := 1) scWrong.nd rfl (Or.inl rfl) (pe_callB call_len_sq (by rfl) M.len PySem.boot_len (pa_cons (pv 0) pa_nil)))
    (pss_cons (ps_for PassesOwn.never rfl (pi_range1 (by rfl) M.range (pa_cons (pv 1) pa_nil)) (pg_name (i := 2) scWrong.nd rfl (Or.inl rfl))
      (pss_one (ps_for PassesOwn.never rfl (pi_range1 (by rfl) M.range (pa_cons (pv 1) pa_nil)) (pg_name (i := 3) scWrong.nd rfl (Or.inl rfl))
        (pss_one (ps_for PassesOwn.never rfl (pi_range1 (by rfl) M.range (pa_cons (pv 1) pa_nil)) (pg_name (i := 4) scWrong.nd rfl (Or.inl rfl))
          (pss_one (ps_if (pt_cmpR op_ne (pe_ix ix_seq (pe_ix ix_seq (pv 0) (pe_ix ix_seq (pe_ix ix_seq (pv 0) (pv 2) (fun _ _ => rfl)) (pv 3) (fun _ _ => rfl)) (fun _ _ => rfl)) (pv 4) (fun _ _ => rfl))
            (pe_ix ix_seq (pe_ix ix_seq (pv 0) (pv 2) (fun _ _ => rfl)) (pe_ix ix_seq (pe_ix ix_seq (pv 0) (pv 3) (fun _ _ => rfl)) (pv 4) (fun _ _ => rfl)) (fun _ _ => rfl)) (nomark _))
            (pss_one (ps_ret (pe_tup (pa_cons (pv 2) (pa_cons (pv 3) (pa_cons (pv 4) pa_nil)))))) pss_nil)))))))
    (pss_one (ps_ret pe_non))), ?_⟩
  have n16 := S.ge
  obtain ⟨rs0, hs0, pr0⟩ := id hR
  have l0 : rs0.length = tb.length := pr0.length
  refine ⟨_, rfl, v, rs0, rfl, hs0, ?_⟩
  rw [l0]
  refine ⟨_, rfl, (tb.length : Int), rfl, by omega, by omega, ?_⟩
  refine for_range (lo := 0) (n := tb.length) (fun a σ J => H = J ∧ (∃ x y z, σ = [some v, some (.int tb.length), x, y, z]) ∧ ∀ a' b c, a' < a → b < tb.length → c < tb.length → rt tb a' b c)
    ⟨rfl, ⟨_, _, _, rfl⟩, fun _ _ _ z => absurd z (Nat.not_lt_zero _)⟩ ?_ ?_
  · rintro a _ _ ha ⟨rfl, ⟨x, y, z, rfl⟩, hA⟩
    refine ⟨_, rfl, (tb.length : Int), rfl, by omega, by omega, ?_⟩
    refine for_range (lo := 0) (n := tb.length) (fun b σ J => H = J ∧ (∃ y z, σ = [some v, some (.int tb.length), some (.int (0 + (a : Int))), y, z]) ∧ ∀ b' c, b' < b → c < tb.length → rt tb a b' c)
      ⟨rfl, ⟨_, _, rfl⟩, fun _ _ z => absurd z (Nat.not_lt_zero _)⟩ ?_ ?_
    · rintro b _ _ hb ⟨rfl, ⟨y, z, rfl⟩, hB⟩
      refine ⟨_, rfl, (tb.length : Int), rfl, by omega, by omega, ?_⟩
      refine for_range (lo := 0) (n := tb.length) (fun c σ J => H = J ∧ (∃ z, σ = [some v, some (.int tb.length), some (.int (0 + (a : Int))), some (.int (0 + (b : Int))), z]) ∧ ∀ c', c' < c → rt tb a b c')
        ⟨rfl, ⟨_, rfl⟩, fun _ z => absurd z (Nat.not_lt_zero _)⟩ ?_ ?_
      · rintro c _ _ hc ⟨rfl, ⟨z, rfl⟩, hC⟩
        obtain ⟨ra, xa, sa, ea, ta, ga⟩ := hR.at_ S ha
        obtain ⟨rb', xb, sb, eb, tb', gb⟩ := hR.at_ S hb
        have e1 := S.el a b ha hb
        have e2 := S.el b c hb hc
        obtain ⟨rm, xm, sm, em, tm, gm⟩ := hR.at_ S (i := (mu tb a b).toNat) (by omega)
        refine ⟨_, rfl, _, rfl, _, rfl, rix_of sa (by omega) ea ⟨_, rfl, rix_of ta (by omega) (ga b hb) (rix_of sm (by omega) em ⟨_, rfl, rix_of tm (by omega) (gm c hc) ?_⟩)⟩⟩
        refine ⟨_, rfl, _, rfl, rix_of sa (by omega) ea ⟨_, rfl, _, rfl, rix_of sb (by omega) eb ⟨_, rfl, rix_of tb' (by omega) (gb c hc) (rix_of ta (i := (mu tb b c).toNat) (by omega) (ga _ (by omega)) ⟨rfl, _, rfl, ?_⟩)⟩⟩⟩
        have ed : ∀ x y : Int, (!decide (V.int x = V.int y)) = true ↔ x ≠ y := fun x y => by
          rw [Bool.not_eq_true', decide_eq_false_iff_not]
          exact ⟨fun h e => h (by rw [e]), fun h e => h (V.int.inj e)⟩
        refine ite2 (fun k => ?_) (fun k => ?_)
        · have nr : ¬ rt tb a b c := (ed _ _).mp k
          refine ⟨_, rfl, _, rfl, _, rfl, (by show 3 ≤ sizeLine; decide), fun p hp => ?_⟩
          have q' := q2 a b c ha hb hc nr (fun a' b' c' h1 h2 h3 hl => by
            rcases hl with hl | ⟨rfl, hl | ⟨rfl, hl⟩⟩
            · exact hA a' b' c' hl h2 h3
            · exact hB b' c' hl h3
            · exact hC c' hl) p hp
          have z0 : ∀ n : Nat, (0 : Int) + (n : Int) = (n : Int) := fun n => Int.zero_add _
          rw [z0, z0, z0]
          exact q'
        · refine ⟨rfl, ⟨_, rfl⟩, fun c' hc' => ?_⟩
          rcases Nat.lt_succ_iff_lt_or_eq.mp hc' with h | rfl
          · exact hC c' h
          · exact Classical.byContradiction fun nr => k ((ed _ _).mpr nr)
      · rintro _ _ ⟨rfl, ⟨z, rfl⟩, hC⟩
        refine ⟨rfl, ⟨_, _, rfl⟩, fun b' c' h1 h2 => ?_⟩
        rcases Nat.lt_succ_iff_lt_or_eq.mp h1 with h | rfl
        · exact hB b' c' h h2
        · exact hC c' h2
    · rintro _ _ ⟨rfl, ⟨y, z, rfl⟩, hB⟩
      refine ⟨rfl, ⟨_, _, _, rfl⟩, fun a' b' c' h1 h2 h3 => ?_⟩
      rcases Nat.lt_succ_iff_lt_or_eq.mp h1 with h | rfl
      · exact hA a' b' c' h h2 h3
      · exact hB b' c' h2 h3
  · rintro _ _ ⟨rfl, ⟨x, y, z, rfl⟩, hA⟩
    exact q1 fun a b c h1 h2 h3 => hA a b c h1 h2 h3
end

section
variable {X : Cx}
/-- x is not True, x an int or a truth value -/
theorem op_notIB : OpR X (compareOp .IsNot) (fun x y H Q => ∃ b : Bool, y = .bl b ∧ ((∃ a : Bool, x = .bl a ∧ Q (.bl (!decide (a = b))) H) ∨ (∃ i, x = .int i ∧ Q (.bl true) H))) := by
  intro pins s σ H x y v u Q I rx ry h
  obtain ⟨b, rfl, h⟩ := h
  cases (show u = Value.bool b from ry)
  rcases h with ⟨a, rfl, q⟩ | ⟨i, rfl, q⟩
  · cases (show v = Value.bool a from rx)
    by_cases e : a = b
    · subst e
      exact wpAny_isNot_self rfl ⟨.bl false, H, I, rfl, by simpa using q⟩
    · exact wpAny_isNot_other rfl (fun z => e (Value.bool.inj z)) ⟨.bl true, H, I, rfl, by simpa [e] using q⟩
  · obtain ⟨t, rfl⟩ := (show ∃ t, v = Value.int i t from rx)
    exact wpAny_isNot_other rfl (fun z => nomatch z) ⟨.bl true, H, I, rfl, q⟩
end
/-- tuple(x), the written part told -/
def rTpl (K : PySem.W.Frag) : List V → Hp → VK → Prop := fun xs H Q => ∃ (p : Addr) (ys : List V), xs = [.ref p] ∧ ((SqL K H p ys ∧ ∀ l, H l = none → Q (.ref l) (upd H l (.tup ys))) ∨ (SqT K H p ys ∧ Q (.ref p) H))
theorem ctuple {X : Cx} {K : PySem.W.Frag} (hK : X.K = K) : CallR X (.type "tuple") (rTpl K) := by
  subst hK
  exact call_tuple_of
/-- what the checks of a class's instances need of the class -/
structure CTx (K : PySem.W.Frag) (mg : Str → Option Value) (C : Addr) : Prop where
  cl : Cls K C
  nR : NoAttr K C "_rows"
  mgC : mg "ProductTable" = some (.ref C)
theorem pair_map {α β γ : Type} {F : α → β → Prop} {G : α → γ → Prop} {g : β → γ} : ∀ {as : List α} {bs : List β}, Paired F as bs → (∀ a b, b ∈ bs → F a b → G a (g b)) → Paired G as (bs.map g)
  | _, _, .nil, _ => .nil
  | _, _, .cons h t, k => .cons (k _ _ List.mem_cons_self h) (pair_map t fun a b m => k a b (List.mem_cons_of_mem _ m))
theorem SqT.upd {K : PySem.W.Frag} {H : Hp} {p r C dx : Addr} {fs : List (Str × V)} {xs : List V} {o : HO} (hp : H p = some (.ins C dx fs)) (h : SqT K H r xs) : SqT K (upd H p o) r xs := by
  rcases h with (h | ⟨ob, h⟩) | h
  · exact .inl (.inl (by rw [upd_ne (ne_of h hp (by intro z; cases z))]; exact h))
  · exact .inl (.inr ⟨ob, by rw [upd_ne (ne_of h hp (by intro z; cases z))]; exact h⟩)
  · exact .inr h
theorem rows_true {tb : List (List Int)} (S : Sqr tb) : (decide ((1 : Int) ≤ (tb.length : Int)) && decide ((tb.length : Int) ≤ 16) && (tb.map fun row => some (row.map V.int)).all (rb tb.length)) = true := by
  have h1 := S.le
  have h2 := S.ge
  rw [decide_eq_true (show (1 : Int) ≤ (tb.length : Int) by omega), decide_eq_true (show (tb.length : Int) ≤ 16 by omega)]
  rw [List.all_map]
  show (tb.all _) = true
  rw [List.all_eq_true]
  intro row hr
  obtain ⟨i, hi, rfl⟩ := List.mem_iff_getElem.mp hr
  have hl := S.row _ hr
  show (decide ((tb.length : Int) ≤ ((tb[i].map V.int).length : Int)) && decide (((tb[i].map V.int).length : Int) ≤ (tb.length : Int)) && (tb[i].map V.int).all (nb (tb.length : Int))) = true
  rw [List.length_map, hl, decide_eq_true (Int.le_refl _), Bool.true_and, Bool.true_and, List.all_map, List.all_eq_true]
  intro m hm
  obtain ⟨j, hj, rfl⟩ := List.mem_iff_getElem.mp hm
  have e := S.el i j hi (by omega)
  have em : mu tb i j = tb[i][j] := by
    unfold mu
    rw [List.getD_eq_getElem?_getD, List.getD_eq_getElem?_getD, List.getElem?_eq_getElem hi]
    show (tb[i][j]?).getD 0 = _
    rw [List.getElem?_eq_getElem hj]; rfl
  rw [em] at e
  show (decide (0 ≤ tb[i][j]) && decide (tb[i][j] < (tb.length : Int))) = true
  rw [decide_eq_true e.1, decide_eq_true e.2]; rfl
theorem rows_rowd {K : PySem.W.Frag} {H : Hp} {tb : List (List Int)} {rs : List V} (S : Sqr tb) (h : Paired (fun x row => Sq K H x (row.map V.int)) rs tb) : Paired (RowD K H) rs (tb.map fun row => some (row.map V.int)) :=
  pair_map h fun x row hm z => ⟨z, fun y hy => by obtain ⟨i, _, rfl⟩ := List.mem_map.mp hy; exact .inl ⟨i, rfl⟩, by
    have h1 := S.row row hm
    have h2 := S.ge
    rw [List.length_map]; omega⟩
section
variable {P : Program} {w : World} {K : PySem.W.Frag} {mg : Str → Option Value} {base : Heap} {f g gn : Addr} {fd gd gnd : FuncData}
theorem scInit : FnScope ["self", "rows", "triple", "row"] ["self", "rows"] (defScope sInit) := ⟨rfl, rfl, rfl, by decide +kernel, rfl, by decide +kernel, by decide +kernel⟩
theorem ok_init {C : Addr} (F : Fun K "__init__" "ProductTable.__init__" sInit f fd) (M : Mn mg) (T : CTx K mg C)
    (G : FnOk P w K mg base CX0 4 g gd ["rows"] (spAreRows K)) (bG : Binds K gd ["rows"] []) (kG : PySem.W.keepIn K (.ref g) = true) (mG : mg "_are_rows" = some (.ref g))
    (N : FnOk P w K mg base CX0 1 gn gnd ["rows"] (spWrong K)) (bN : Binds K gnd ["rows"] []) (kN : PySem.W.keepIn K (.ref gn) = true) (mN : mg "_first_wrong_triple" = some (.ref gn)) :
    FnOk P w K mg base CX0 5 f fd ["self", "rows"] (spInit K C) := by
  refine F.ok scInit (fun vs H Q E h => ?_) (fun cdv A outer s H vs Q E hr h => ?_)
  · obtain ⟨p, dx, v, tb, rfl, _⟩ := h
    rfl
  obtain ⟨p, dx, v, tb, rfl, hp, hR, S, as, _, q⟩ := h
  have hr1 : Room 1 _ := hr.mono (by decide)
  refine ⟨_, pss_cons (ps_if (pt_not (pt_val (pe_call G hr rfl mG kG bG .nil pass0 (pa_cons (pv 1) pa_nil)))) pss_dead pss_nil)
    (pss_cons (ps_set (i := 2) scInit.nd rfl (Or.inl rfl) (pe_call N hr1 rfl mN kN bN .nil pass0 (pa_cons (pv 1) pa_nil)))
    (pss_cons (ps_if (pt_cmp (pc_notN (pv 2))) pss_dead pss_nil)
    (pss_one (ps_fld (pv 0) (pe_callTy call_tuple_of (by rfl) M.tuple (by decide +kernel) (pa_cons (pe_lc (own := [("row", 3)]) (g := gName 3) (tt := tYes) rfl scInit.nd (pi_sq (pv 1))
      (blkOk_by (N := ["self", "rows", "triple", "row"]) (sc := defScope sInit) (by decide +kernel)) (fun _ _ _ _ _ => pg_name (i := 3) scInit.nd rfl (Or.inl rfl)) (fun _ _ _ _ _ => pts_nil)
      (fun _ _ _ _ _ => pe_callTy (T := "tuple") (ctuple (K := K) rfl) (by rfl) M.tuple (by decide +kernel) (pa_cons (pv 3) pa_nil))) pa_nil)) rfl)))), ?_⟩
  obtain ⟨rs, hs, pr⟩ := id hR
  have ln : rs.length = tb.length := pr.length
  refine ⟨_, rfl, v, rfl, .inr ⟨rs, _, hs, rows_rowd S pr, fun J sJ => ⟨_, rfl, ?_⟩⟩⟩
  rw [ln, rows_true S]
  refine iteF ⟨_, rfl, v, tb, rfl, hR.same sJ, S, fun _ => ?_, fun a b c ha hb hc n => absurd (as a b c ha hb hc) n⟩
  refine ⟨_, rfl, _, rfl, iteF ?_⟩
  refine isq_of (v := v) rfl (hs.same sJ) fun It wk D hD => ?_
  rw [ln] at wk
  refine lc_it wk (fun i J2 => Same J J2 ∧ ∃ ts : List Addr, J2 D = some (.lst (ts.map V.ref)) ∧ ts.length = i ∧ Paired (fun r row => SqT K J2 r (row.map V.int)) ts (tb.take i))
    ⟨fun b o e => by rw [upd_ne (ne_of_none e hD)]; exact e, [], upd_same, rfl, .nil⟩ (fun _ _ _ z => z.1) ?_ ?_
  · rintro i x Jz J2 hi ⟨s2, ts, eD, lt, pt⟩ ⟨rfl, hx⟩
    obtain ⟨row, hrow, hsq⟩ := pair_at pr hx
    have tk : tb.take (i + 1) = tb.take i ++ [row] := by rw [List.take_add_one, hrow]; rfl
    have n16 := S.ge
    have app : ∀ {as : List Addr} {bs : List (List Int)} {F : Addr → List Int → Prop} {c : Addr} {kv : List Int}, Paired F as bs → F c kv → Paired F (as ++ [c]) (bs ++ [kv]) := by
      intro as bs F c kv h hc
      induction h with
      | nil => exact .cons hc .nil
      | cons h1 _ ih => exact .cons h1 ih
    have fin : ∀ (r : Addr) (J3 : Hp), Same J2 J3 → SqT K J3 r (row.map V.int) → ∃ acc, J3 D = some (.lst acc) ∧ acc.length < sizeLine ∧ (Same J (upd J3 D (.lst (acc ++ [V.ref r]))) ∧
        ∃ ts' : List Addr, (upd J3 D (.lst (acc ++ [V.ref r]))) D = some (.lst (ts'.map V.ref)) ∧ ts'.length = i + 1 ∧ Paired (fun c row => SqT K (upd J3 D (.lst (acc ++ [V.ref r]))) c (row.map V.int)) ts' (tb.take (i + 1))) := fun r J3 s3 hr3 => by
      have keep : ∀ {c : Addr} {xs : List V} {acc : List V}, SqT K J3 c xs → SqT K (upd J3 D (.lst acc)) c xs := fun {c xs acc} h => by
        have e3 := s3 _ _ eD
        rcases h with (h | ⟨ob, h⟩) | h
        · exact .inl (.inl (by rw [upd_ne (ne_of h e3 (by intro z; cases z))]; exact h))
        · exact .inl (.inr ⟨ob, by rw [upd_ne (ne_of h e3 (by intro z; cases z))]; exact h⟩)
        · exact .inr h
      refine ⟨_, s3 _ _ eD, ?_, fun b o e => by rw [upd_ne (ne_of_none e hD)]; exact s3 _ _ (s2 b o e), ts ++ [r], ?_, by simp [lt], ?_⟩
      · rw [List.length_map, lt, sizeLine_eq]; omega
      · rw [upd_same, List.map_append]; rfl
      · rw [tk]
        exact app (L2.Paired.mapP pt fun c row' h => keep (Same.tup s3 h)) (keep hr3)
    obtain ⟨a, rfl, ha | ha⟩ := hsq.same (sJ.trans s2)
    · exact ⟨rfl, _, rfl, a, _, rfl, .inl ⟨ha, fun l hl => fin l _ (Same.new hl _) (SqT.of upd_same)⟩⟩
    · exact ⟨rfl, _, rfl, a, _, rfl, .inr ⟨ha, fin a J2 (Same.refl _) ha⟩⟩
  · rintro J2 ⟨s2, ts, eD, lt, pt⟩
    rw [List.take_of_length_le (Nat.le_refl _)] at pt
    refine ⟨D, _, rfl, .inl ⟨SqL.of eD, fun t ht => ?_⟩⟩
    have s3 : Same H (upd J2 t (.tup (ts.map V.ref))) := (sJ.trans s2).trans (Same.new ht _)
    refine ⟨_, rfl, p, C, dx, [], rfl, s3 _ _ hp, T.cl, T.nR, (by show 0 < 1000; decide), ?_⟩
    refine q _ ⟨dx, t, ts.map V.ref, upd_same, SqT.upd (s3 _ _ hp) (SqT.of upd_same), ?_⟩ fun b o hb e => by rw [upd_ne hb]; exact s3 _ _ e
    have h1 : Paired (fun r row => SqT K (upd (upd J2 t (.tup (ts.map V.ref))) p (.ins C dx [("_rows", .ref t)])) r (row.map V.int)) ts tb := L2.Paired.mapP pt fun c row h => SqT.upd (s3 _ _ hp) (Same.tup (Same.new ht _) h)
    have h2 : ∀ {as : List Addr} {bs : List (List Int)} {Fn : Addr → List Int → Prop}, Paired Fn as bs → Paired (fun x row => ∃ r, x = V.ref r ∧ Fn r row) (as.map V.ref) bs := by
      intro as bs Fn h
      induction h with
      | nil => exact .nil
      | cons h1 _ ih => exact .cons ⟨_, rfl, h1⟩ ih
    exact h2 h1
end
end L

set_option Elab.async false
set_option linter.all false
set_option maxRecDepth 100000
set_option maxHeartbeats 4000000
namespace L
open PySem L2 KX
abbrev sPlain : Stmt := top 28
abbrev sExt : Stmt := top 29
abbrev sGrid : Stmt := top 30
abbrev sPairs : Stmt := top 32
/-- a list of lists of ints stands at v -/
def RowsL (G : Hp) (v : V) (tb : List (List Int)) : Prop := ∃ a rs, v = .ref a ∧ G a = some (.lst (rs.map V.ref)) ∧ Paired (fun r row => G r = some (.lst (row.map V.int))) rs tb
theorem RowsL.same {G J : Hp} {v : V} {tb : List (List Int)} (s : Same G J) (h : RowsL G v tb) : RowsL J v tb := let ⟨a, rs, e, h1, h2⟩ := h; ⟨a, rs, e, s _ _ h1, L2.Paired.mapP h2 fun _ _ z => s _ _ z⟩
theorem pair_refs {K : PySem.W.Frag} {G : Hp} {rs : List Addr} {tb : List (List Int)} (h : Paired (fun r row => G r = some (.lst (row.map V.int))) rs tb) : Paired (fun x row => Sq K G x (row.map V.int)) (rs.map V.ref) tb := by
  induction h with
  | nil => exact .nil
  | cons h _ ih => exact .cons ⟨_, rfl, .inl (SqL.of h)⟩ ih
theorem RowsL.rws {K : PySem.W.Frag} {G : Hp} {v : V} {tb : List (List Int)} (h : RowsL G v tb) : Rws K G v tb := let ⟨a, rs, e, h1, h2⟩ := h; ⟨rs.map V.ref, ⟨a, e, .inl (SqL.of h1)⟩, pair_refs h2⟩
theorem pair_app {α β : Type} {F : α → β → Prop} {as : List α} {bs : List β} {a : α} {b : β} (h : Paired F as bs) (k : F a b) : Paired F (as ++ [a]) (bs ++ [b]) := by
  induction h with
  | nil => exact .cons k .nil
  | cons h1 _ ih => exact .cons h1 ih
/-- a list of new rows is being made at fa -/
structure Part (H J : Hp) (fa : Addr) (rows : List (List Int)) : Prop where
  same : Same H J
  new : H fa = none
  at_ : ∃ rs, J fa = some (.lst (rs.map V.ref)) ∧ Paired (fun r row => r ≠ fa ∧ H r = none ∧ J r = some (.lst (row.map V.int))) rs rows
theorem Part.to {H J G : Hp} {fa : Addr} {rows : List (List Int)} (h : Part H J fa rows) (s : Same J G) : Part H G fa rows :=
  let ⟨rs, e, p⟩ := h.at_
  ⟨h.same.trans s, h.new, rs, s _ _ e, L2.Paired.mapP p fun _ _ z => ⟨z.1, z.2.1, s _ _ z.2.2⟩⟩
theorem Part.start {H G : Hp} {fa : Addr} (s : Same H G) (h : G fa = none) : Part H (upd G fa (.lst [])) fa [] := ⟨s.trans (Same.new h _), s.free h, [], upd_same, .nil⟩
theorem Part.add {H J G : Hp} {fa q : Addr} {rows : List (List Int)} {row : List Int} (h : Part H J fa rows) (s : Same J G) (n : J q = none) (e : G q = some (.lst (row.map V.int))) :
    ∃ acc, G fa = some (.lst acc) ∧ acc.length = rows.length ∧ Part H (upd G fa (.lst (acc ++ [V.ref q]))) fa (rows ++ [row]) := by
  obtain ⟨rs, e1, p⟩ := (h.to s).at_
  obtain ⟨rs0, e0, _⟩ := h.at_
  have nq : q ≠ fa := (ne_of_none e0 n).symm
  refine ⟨_, e1, by rw [List.length_map]; exact p.length, fun b o eb => ?_, h.new, rs ++ [q], by rw [upd_same, List.map_append]; rfl, ?_⟩
  · rw [upd_ne (ne_of_none eb h.new)]; exact (h.to s).same _ _ eb
  · refine pair_app (L2.Paired.mapP p fun r row z => ⟨z.1, z.2.1, by rw [upd_ne z.1]; exact z.2.2⟩) ⟨nq, h.same.free n, by rw [upd_ne nq]; exact e⟩
theorem Part.fin {H J : Hp} {fa : Addr} {tb : List (List Int)} (h : Part H J fa tb) : RowsL (nw H J) (.ref fa) tb :=
  let ⟨rs, e, p⟩ := h.at_
  ⟨fa, rs, rfl, by rw [nw_at h.new]; exact e, L2.Paired.mapP p fun _ _ z => by rw [nw_at z.2.1]; exact z.2.2⟩
/-- what a table's row holds ahead of place b -/
def rowTo (f : Nat → Nat → Nat) (a b : Nat) : List Int := (List.range b).map fun b => ((f a b : Nat) : Int)
theorem rowTo_next {f : Nat → Nat → Nat} {a b : Nat} : rowTo f a (b + 1) = rowTo f a b ++ [((f a b : Nat) : Int)] := by unfold rowTo; rw [List.range_succ, List.map_append]; rfl
theorem rowTo_len {f : Nat → Nat → Nat} {a b : Nat} : ((rowTo f a b).map V.int).length = b := by unfold rowTo; rw [List.length_map, List.length_map, List.length_range]
/-- the rows ahead of row a -/
def rowsTo (n : Nat) (f : Nat → Nat → Nat) (a : Nat) : List (List Int) := (List.range a).map fun a => rowTo f a n
theorem rowsTo_next {n : Nat} {f : Nat → Nat → Nat} {a : Nat} : rowsTo n f (a + 1) = rowsTo n f a ++ [rowTo f a n] := by unfold rowsTo; rw [List.range_succ, List.map_append]; rfl
theorem rowsTo_len {n : Nat} {f : Nat → Nat → Nat} {a : Nat} : (rowsTo n f a).length = a := by unfold rowsTo; rw [List.length_map, List.length_range]
theorem rowsTo_all {n : Nat} {f : Nat → Nat → Nat} : rowsTo n f n = tab n f := rfl
theorem z0 (n : Nat) : (0 : Int) + (n : Int) = (n : Int) := Int.zero_add _
def spPlain : Sp := fun vs H Q _ => ∃ kind n : Nat, vs = [.int kind, .int n] ∧ kind < 6 ∧ 1 ≤ n ∧ n ≤ 16 ∧ ∀ v H', RowsL (nw H H') v (tab n (fpl kind n)) → Same H H' → Q v H'
section
variable {P : Program} {w : World} {K : PySem.W.Frag} {mg : Str → Option Value} {base : Heap} {f g gn : Addr} {fd gd gnd : FuncData}
theorem scPlain : FnScope ["kind", "n", "found", "a", "row", "b", "some"] ["kind", "n"] (defScope sPlain) := ⟨rfl, rfl, rfl, by decide +kernel, rfl, by decide +kernel, by decide +kernel⟩
theorem ok_plain (F : Fun K "_law_plain" "_law_plain" sPlain f fd) (M : Mn mg) : FnOk P w K mg base CX0 1 f fd ["kind", "n"] spPlain := by
  refine F.ok scPlain (fun vs H Q E h => ?_) (fun cdv A outer s H vs Q E hr h => ?_)
  · obtain ⟨kind, n, rfl, _⟩ := h
    rfl
  obtain ⟨kind, n, rfl, hk, h1, h16, q⟩ := h
  refine ⟨_, pss_cons (ps_set (i := 2) scPlain.nd rfl (Or.inl rfl) (pe_lst pa_nil))
    (pss_cons (ps_for PassesOwn.never rfl (pi_range1 (by rfl) M.range (pa_cons (pv 1) pa_nil)) (pg_name (i := 3) scPlain.nd rfl (Or.inl rfl))
      (pss_cons (ps_set (i := 4) scPlain.nd rfl (Or.inl rfl) (pe_lst pa_nil))
      (pss_cons (ps_for PassesOwn.never rfl (pi_range1 (by rfl) M.range (pa_cons (pv 1) pa_nil)) (pg_name (i := 5) scPlain.nd rfl (Or.inl rfl))
        (pss_cons (ps_set (i := 6) scPlain.nd rfl (Or.inl rfl) (pe_lst (pa_cons (pv 3) (pa_cons (pv 5) (pa_cons (pe_callB (call_min2 rfl) (by rfl) M.min (by decide +kernel) (pa_cons (pv 3) (pa_cons (pv 5) pa_nil)))
          (pa_cons (pe_op op_mod (pe_op op_add (pv 3) (pv 5)) (pv 1)) pa_nil))))))
        (pss_one (ps_expr (pe_bm PySem.F.plainAttrs_list PySem.F.slot_list_append PySem.F.type_list_append mt_append (pv 4) (pa_cons (pe_ix ix_list (pe_op op_cat (pv 6)
          (pe_lst (pa_cons (pe_callB (call_min2 rfl) (by rfl) M.min (by decide +kernel) (pa_cons (pe_op op_add (pv 3) (pv 5)) (pa_cons (pe_op op_sub (pv 1) pe_int) pa_nil)))
            (pa_cons (pe_mo (pe_ifExp (pt_cmpR op_gt (pv 3) pe_int (nomark _)) (pv 3) (pv 5))) pa_nil)))) (pv 0) (fun _ _ => rfl)) pa_nil))))))
      (pss_one (ps_expr (pe_bm PySem.F.plainAttrs_list PySem.F.slot_list_append PySem.F.type_list_append mt_append (pv 2) (pa_cons (pv 4) pa_nil)))))))
    (pss_one (ps_ret (pv 2)))), ?_⟩
  refine ⟨(by show 0 ≤ sizeLine; decide), fun fa hfa => ?_⟩
  refine ⟨_, rfl, (n : Int), rfl, by omega, by omega, ?_⟩
  refine for_range (lo := 0) (n := (n : Int).toNat) (fun a σ J => Part H J fa (rowsTo n (fpl kind n) a) ∧ ∃ x3 x4 x5 x6, σ = [some (.int kind), some (.int n), some (.ref fa), x3, x4, x5, x6])
    ⟨Part.start (Same.refl H) hfa, _, _, _, _, rfl⟩ ?_ ?_
  · rintro a _ J ha ⟨pa, x3, x4, x5, x6, rfl⟩
    have ha' : a < n := by simpa using ha
    refine ⟨(by show 0 ≤ sizeLine; decide), fun qa hqa => ?_⟩
    refine ⟨_, rfl, (n : Int), rfl, by omega, by omega, ?_⟩
    refine for_range (lo := 0) (n := (n : Int).toNat) (fun b σ G => Same J G ∧ G qa = some (.lst ((rowTo (fpl kind n) a b).map V.int)) ∧ ∃ x5 x6, σ = [some (.int kind), some (.int n), some (.ref fa), some (.int (0 + (a : Int))), some (.ref qa), x5, x6])
      ⟨Same.new hqa _, upd_same, _, _, rfl⟩ ?_ ?_
    · rintro b _ G hb ⟨sG, eq, y5, y6, rfl⟩
      have hb' : b < n := by simpa using hb
      refine ⟨_, rfl, _, rfl, _, rfl, _, rfl, _, _, rfl, _, rfl, _, rfl, _, _, rfl, rfl, _, rfl, _, _, rfl, rfl, (by show (0 : Int) < (n : Int); omega), (by show 4 ≤ sizeLine; decide), fun sa hsa => ?_⟩
      have e1 : ∀ o, (upd G sa o) qa = some (.lst ((rowTo (fpl kind n) a b).map V.int)) := fun o => by rw [upd_ne (ne_of_none eq hsa)]; exact eq
      refine ⟨_, rfl, Or.inl ⟨rfl, _, SqL.of (e1 _)⟩, _, rfl, _, rfl, _, rfl, _, _, rfl, rfl, _, rfl, _, _, rfl, rfl, _, _, rfl, ?_⟩
      -- a if a > 0 else b
      refine ⟨fun x G1 => _ = G1 ∧ x = .int ((if 0 < a then a else b : Nat) : Int), ⟨_, rfl, _, _, rfl, rfl, _, rfl, ite2 (fun c => ⟨_, rfl, rfl, ?_⟩) (fun c => ⟨_, rfl, rfl, ?_⟩)⟩, ?_⟩
      · have c' : (0 : Int) < 0 + (a : Int) := of_decide_eq_true c
        rw [if_pos (show 0 < a by omega), z0]
      · have c' : ¬ (0 : Int) < 0 + (a : Int) := of_decide_eq_false (Bool.eq_false_iff.mpr c)
        rw [if_neg (show ¬ 0 < a by omega), z0]
      rintro _ _ ⟨rfl, rfl⟩
      refine ⟨(by show 2 ≤ sizeLine; decide), fun l2 hl2 => ?_⟩
      have s2 := Same.new hl2 (.lst [.int (if (n : Int) - 1 < 0 + (a : Int) + (0 + (b : Int)) then (n : Int) - 1 else 0 + (a : Int) + (0 + (b : Int))), .int ((if 0 < a then a else b : Nat) : Int)])
      refine ⟨sa, l2, _, _, rfl, rfl, s2 _ _ upd_same, upd_same, (by show 4 + 2 ≤ sizeLine; decide), fun p6 hp6 => ?_⟩
      have s6 := Same.new hp6 (.lst ([V.int (0 + (a : Int)), .int (0 + (b : Int)), .int (if 0 + (b : Int) < 0 + (a : Int) then 0 + (b : Int) else 0 + (a : Int)), .int ((0 + (a : Int) + (0 + (b : Int))) % (n : Int))] ++
        [.int (if (n : Int) - 1 < 0 + (a : Int) + (0 + (b : Int)) then (n : Int) - 1 else 0 + (a : Int) + (0 + (b : Int))), .int ((if 0 < a then a else b : Nat) : Int)]))
      refine ⟨_, rfl, p6, _, (kind : Int), .int ((fpl kind n a b : Nat) : Int), rfl, rfl, SqL.of upd_same, at_of (j := kind) rfl ?_, qa, _, _, rfl, rfl, s6 _ _ (s2 _ _ (e1 _)), ?_, ?_⟩
      · rw [z0, z0]
        match kind, hk with
        | 0, _ => rfl
        | 1, _ => rfl
        | 2, _ =>
          show some (V.int (if (b : Int) < (a : Int) then (b : Int) else (a : Int))) = some (V.int ((min a b : Nat) : Int))
          refine congrArg (fun z => some (V.int z)) ?_
          split <;> omega
        | 3, _ =>
          show some (V.int (((a : Int) + (b : Int)) % (n : Int))) = some (V.int (((a + b) % n : Nat) : Int))
          refine congrArg (fun z => some (V.int z)) ?_
          rw [Int.natCast_emod, Int.natCast_add]
        | 4, _ =>
          show some (V.int (if (n : Int) - 1 < (a : Int) + (b : Int) then (n : Int) - 1 else (a : Int) + (b : Int))) = some (V.int ((min (a + b) (n - 1) : Nat) : Int))
          refine congrArg (fun z => some (V.int z)) ?_
          split <;> omega
        | 5, _ => rfl
      · rw [rowTo_len]; exact small1000 (by omega)
      · refine ⟨fun c o ec => ?_, ?_, _, _, rfl⟩
        · rw [upd_ne (ne_of_none ec hqa)]
          exact s6 _ _ (s2 _ _ (Same.new hsa _ _ _ (sG c o ec)))
        · rw [upd_same, rowTo_next, List.map_append]; rfl
    · rintro _ G ⟨sG, eq, y5, y6, rfl⟩
      obtain ⟨acc, e1, l1, p1⟩ := pa.add sG hqa eq
      refine ⟨_, rfl, Or.inl ⟨rfl, _, SqL.of e1⟩, _, rfl, fa, acc, _, rfl, rfl, e1, by rw [l1, rowsTo_len]; exact small1000 (by omega), ?_, _, _, _, _, rfl⟩
      have en : (n : Int).toNat = n := Int.toNat_natCast n
      rw [en] at p1
      rw [rowsTo_next]
      exact p1
  · rintro _ J ⟨pa, x3, x4, x5, x6, rfl⟩
    have pa' : Part H J fa (tab n (fpl kind n)) := by
      have e : (n : Int).toNat = n := Int.toNat_natCast n
      rw [e] at pa
      exact pa
    exact ⟨_, rfl, q _ _ pa'.fin pa'.same⟩
end
end L

set_option Elab.async false
set_option linter.all false
set_option maxRecDepth 100000
set_option maxHeartbeats 4000000
namespace L
open PySem L2 KX
theorem ixl {X : Cx} {K : PySem.W.Frag} (hK : X.K = K) : IxR X (rIxL K) := by subst hK; exact ix_list
theorem lenl {X : Cx} {K : PySem.W.Frag} (hK : X.K = K) : CallR X (.builtin "len") (fun xs H Q => ∃ p ys, xs = [.ref p] ∧ (SqL K H p ys ∨ SqT K H p ys) ∧ Q (.int ys.length) H) := by subst hK; exact call_len_seq
theorem fex_row {kind n a b : Nat} {f : Nat → Nat → Nat} (ha : a < n) (hb : b < n) : fex kind n f a b = f a b := if_pos ⟨ha, hb⟩
theorem rowTo_congr {f g : Nat → Nat → Nat} {a : Nat} : ∀ {b : Nat}, (∀ c, c < b → f a c = g a c) → rowTo f a b = rowTo g a b
  | 0, _ => rfl
  | b + 1, h => by rw [rowTo_next, rowTo_next, rowTo_congr (b := b) fun c hc => h c (by omega), h b (by omega)]
def spExt : Sp := fun vs H Q _ => ∃ (v : V) (kind n : Nat) (f : Nat → Nat → Nat), vs = [v, .int kind] ∧ kind < 2 ∧ 1 ≤ n ∧ n < 16 ∧ RowsL H v (tab n f) ∧ ∀ v' H', RowsL (nw H H') v' (tab (n + 1) (fex kind n f)) → Same H H' → Q v' H'
def spPairs : Sp := fun vs H Q _ => ∃ (v u : V) (m n : Nat) (f g : Nat → Nat → Nat), vs = [v, u] ∧ 1 ≤ m ∧ 1 ≤ n ∧ m * n ≤ 16 ∧ RowsL H v (tab m f) ∧ RowsL H u (tab n g) ∧ ∀ v' H', RowsL (nw H H') v' (tab (m * n) (fpr n f g)) → Same H H' → Q v' H'
def spGrid : Sp := fun vs H Q _ => ∃ p, vs = [.ref p] ∧ Bx H p ∧ ∀ v H' (s : Nat → Nat), (∀ i, s i < 2) → RowsL (nw H H') v (tab 8 (fgr s)) → Bx H' p → Sx p H H' → Q v H'
section
variable {P : Program} {w : World} {K : PySem.W.Frag} {mg : Str → Option Value} {base : Heap} {f g gn : Addr} {fd gd gnd : FuncData}
theorem scExt : FnScope ["rows", "kind", "n", "found", "a", "row", "b"] ["rows", "kind"] (defScope sExt) := ⟨rfl, rfl, rfl, by decide +kernel, rfl, by decide +kernel, by decide +kernel⟩
theorem ok_ext (F : Fun K "_law_extended" "_law_extended" sExt f fd) (M : Mn mg) : FnOk P w K mg base CX0 1 f fd ["rows", "kind"] spExt := by
  refine F.ok scExt (fun vs H Q E h => ?_) (fun cdv A outer s H vs Q E hr h => ?_)
  · obtain ⟨v, kind, n, f, rfl, _⟩ := h
    rfl
  obtain ⟨v, kind, n, f, rfl, hk, h1, h16, hR, q⟩ := h
  refine ⟨_, pss_cons (ps_set (i := 2) scExt.nd rfl (Or.inr rfl) (pe_callB call_len_seq (by rfl) M.len PySem.boot_len (pa_cons (pv 0) pa_nil)))
    (pss_cons (ps_setLc (i := 3) (own := [("a", 4), ("row", 5)]) (g := gTup _ 2 (gCons (gName 4) (gCons (gName 5) gNil))) (tt := tYes) rfl scExt.nd rfl rfl (sw_true rfl rfl rfl (by decide +kernel))
      (pi_enum (by rfl) M.enum (pa_cons (pv 0) pa_nil)) (blkOk_by (N := ["rows", "kind", "n", "found", "a", "row", "b"]) (sc := defScope sExt) (by decide +kernel))
      (fun _ _ _ _ _ => pg_tup rfl (pgs_cons (pg_name (i := 4) scExt.nd rfl (Or.inl rfl)) (pgs_cons (pg_name (i := 5) scExt.nd rfl (Or.inl rfl)) pgs_nil))) (fun _ _ _ _ _ => pts_nil)
      (fun _ _ _ _ _ => pe_op op_cat (pv 5) (pe_lst (pa_cons (pe_ix (ixl (K := K) rfl) (pe_lst (pa_cons (pv 2) (pa_cons (pv 4) pa_nil))) (pv 1) (fun _ _ => rfl)) pa_nil))))
    (pss_one (ps_ret (pe_op op_cat (pv 3) (pe_lst (pa_cons (pe_op op_cat (pe_lc (own := [("b", 6)]) (g := gName 6) (tt := tYes) rfl scExt.nd (pi_range1 (by rfl) M.range (pa_cons (pv 2) pa_nil))
      (blkOk_by (N := ["rows", "kind", "n", "found", "a", "row", "b"]) (sc := defScope sExt) (by decide +kernel)) (fun _ _ _ _ _ => pg_name (i := 6) scExt.nd rfl (Or.inl rfl)) (fun _ _ _ _ _ => pts_nil)
      (fun _ _ _ _ _ => pe_ix (ixl (K := K) rfl) (pe_lst (pa_cons (pv 2) (pa_cons (pv 6) pa_nil))) (pv 1) (fun _ _ => rfl))) (pe_lst (pa_cons (pv 2) pa_nil))) pa_nil)))))), ?_⟩
  obtain ⟨a0, rs, rfl, ea, pr⟩ := hR
  have ln : rs.length = n := by rw [pr.length, tab_len]
  refine ⟨_, rfl, a0, _, rfl, .inl (SqL.of ea), ?_⟩
  rw [List.length_map, ln]
  refine ⟨_, rfl, a0, rs.map V.ref, rfl, SqL.of ea, fun D hD => ?_⟩
  let f' := fex kind n f
  have pick2 : ∀ x : Int, atI [V.int (n : Int), .int x] (kind : Int) = some (.int (if kind = 0 then (n : Int) else x)) := fun x => by
    match kind, hk with
    | 0, _ => rfl
    | 1, _ => rfl
  refine lc_it (walk_enum (xs := rs.map V.ref)) (fun i J => Part H J D (rowsTo (n + 1) f' i)) (Part.start (Same.refl H) hD) (fun i J _ z => SqL.of (z.same _ _ ea)) ?_ ?_
  · rintro i x J J1 hi pa ⟨T, x1, y1, rfl, hT, rfl, g1, g2⟩
    cases g1
    have hi' : i < n := by rw [List.length_map, ln] at hi; exact hi
    obtain ⟨r, hr0, rfl⟩ : ∃ r, rs[i]? = some r ∧ y1 = V.ref r := by
      have g3 : (rs.map V.ref)[i]? = some y1 := g2
      rw [List.getElem?_map] at g3
      obtain ⟨r, h2, h3⟩ := Option.map_eq_some_iff.mp g3
      exact ⟨r, h2, h3.symm⟩
    obtain ⟨row, hrow, er⟩ := pair_at pr hr0
    rw [tab_row hi'] at hrow
    cases hrow
    refine ⟨T, _, rfl, SqT.of upd_same, rfl, _, _, rfl, _, _, rfl, rfl, rfl, _, rfl, _, rfl, _, rfl, (by show 2 ≤ sizeLine; decide), fun l1 hl1 => ?_⟩
    have s1 := Same.new hT (.tup [.int (i : Nat), .ref r])
    have s2 := Same.new hl1 (.lst [.int (n : Int), .int ((i : Nat) : Int)])
    refine ⟨_, rfl, l1, _, _, _, rfl, rfl, SqL.of upd_same, pick2 _, (by show 1 ≤ sizeLine; decide), fun l2 hl2 => ?_⟩
    have s3 := Same.new hl2 (.lst [.int (if kind = 0 then (n : Int) else ((i : Nat) : Int))])
    refine ⟨r, l2, _, _, rfl, rfl, s3 _ _ (s2 _ _ (s1 _ _ (pa.same _ _ er))), upd_same, ?_, fun qa hqa => ?_⟩
    · rw [List.length_map, List.length_map, List.length_range]; exact Nat.le_of_lt (small1000 (by show n + 1 ≤ 1000; omega))
    have sall := ((s1.trans s2).trans s3).trans (Same.new hqa (.lst ((((List.range n).map fun b => ((f i b : Nat) : Int)).map V.int) ++ [.int (if kind = 0 then (n : Int) else ((i : Nat) : Int))])))
    have er2 : rowTo f' i (n + 1) = ((List.range n).map fun b => ((f i b : Nat) : Int)) ++ [if kind = 0 then (n : Int) else ((i : Nat) : Int)] := by
      rw [rowTo_next]
      have e1 : rowTo f' i n = (List.range n).map fun b => ((f i b : Nat) : Int) := rowTo_congr (g := f) fun c hc => fex_row hi' hc
      rw [e1]
      refine congrArg (fun z => _ ++ [z]) ?_
      show ((fex kind n f i n : Nat) : Int) = _
      unfold fex
      rw [if_neg (show ¬ (i < n ∧ n < n) by omega)]
      split
      · rfl
      · first | rfl | rw [if_pos hi']
    obtain ⟨acc, e1, lac, p1⟩ := pa.add (q := qa) (row := rowTo f' i (n + 1)) sall (((s1.trans s2).trans s3).free hqa) (by rw [upd_same, er2, List.map_append]; rfl)
    refine ⟨acc, e1, by rw [lac, rowsTo_len]; exact small1000 (by omega), ?_⟩
    rw [rowsTo_next]
    exact p1
  · rintro J pa
    rw [List.length_map, ln] at pa
    refine ⟨_, rfl, _, rfl, n, rfl, by omega, by omega, fun D2 hD2 => ?_⟩
    refine lc_range (lo := 0) (n := (n : Int).toNat) (fun b G => Same J G ∧ G D2 = some (.lst ((rowTo f' n b).map V.int))) ⟨Same.new hD2 _, upd_same⟩ ?_ ?_
    · rintro b G hb ⟨sG, eD⟩
      have hb' : b < n := by simpa using hb
      refine ⟨rfl, _, rfl, _, rfl, (by show 2 ≤ sizeLine; decide), fun l1 hl1 => ?_⟩
      refine ⟨_, rfl, l1, _, _, _, rfl, rfl, SqL.of upd_same, pick2 _, _, Same.new hl1 _ _ _ eD, by rw [rowTo_len]; exact small1000 (by omega), fun c o ec => ?_, ?_⟩
      · rw [upd_ne (ne_of_none ec hD2)]; exact Same.new hl1 _ _ _ (sG c o ec)
      · rw [upd_same, rowTo_next, List.map_append, z0]
        refine congrArg (fun z => some (HO.lst (_ ++ [V.int z]))) ?_
        show _ = ((fex kind n f n b : Nat) : Int)
        unfold fex
        rw [if_neg (show ¬ (n < n ∧ b < n) by omega)]
        split
        · rfl
        · first | rfl | rw [if_neg (show ¬ n < n by omega)]
    · rintro G ⟨sG, eD⟩
      have en : (n : Int).toNat = n := Int.toNat_natCast n
      rw [en] at eD
      refine ⟨_, rfl, (by show 1 ≤ sizeLine; decide), fun l3 hl3 => ?_⟩
      have t1 := Same.new hl3 (.lst [.int (n : Int)])
      refine ⟨D2, l3, _, _, rfl, rfl, t1 _ _ eD, upd_same, by rw [rowTo_len]; exact Nat.le_of_lt (small1000 (by show n + 1 ≤ 1000; omega)), fun q2 hq2 => ?_⟩
      have t2 := Same.new hq2 (.lst ((rowTo f' n n).map V.int ++ [.int (n : Int)]))
      refine ⟨(by show 1 ≤ sizeLine; decide), fun l4 hl4 => ?_⟩
      have t3 := Same.new hl4 (.lst [.ref q2])
      have pa' := pa.to (((sG.trans t1).trans t2).trans t3)
      obtain ⟨rs', e', p'⟩ := pa'.at_
      have lr : rs'.length = n := by rw [p'.length, rowsTo_len]
      refine ⟨D, l4, _, _, rfl, rfl, e', upd_same, by rw [List.length_map, lr]; exact Nat.le_of_lt (small1000 (by show n + 1 ≤ 1000; omega)), fun q3 hq3 => ?_⟩
      have t4 := Same.new hq3 (.lst (rs'.map V.ref ++ [.ref q2]))
      have hq3n : H q3 = none := pa'.same.free hq3
      have hq2n : H q2 = none := (pa.same.trans (sG.trans t1)).free hq2
      refine q _ _ ⟨q3, rs' ++ [q2], rfl, by rw [nw_at hq3n, upd_same, List.map_append]; rfl, ?_⟩ (pa'.same.trans t4)
      have e3 : tab (n + 1) (fex kind n f) = rowsTo (n + 1) f' n ++ [rowTo f' n (n + 1)] := by rw [← rowsTo_next, rowsTo_all]
      rw [e3]
      refine pair_app (L2.Paired.mapP p' fun r row z => by rw [nw_at z.2.1]; exact t4 _ _ z.2.2) ?_
      rw [nw_at hq2n]
      refine (t4 _ _ (t3 _ _ upd_same)).trans ?_
      rw [rowTo_next, List.map_append]
      refine congrArg (fun z => some (HO.lst (_ ++ [V.int z]))) ?_
      show _ = ((fex kind n f n n : Nat) : Int)
      unfold fex
      rw [if_neg (show ¬ (n < n ∧ n < n) by omega)]
      split
      · rfl
      · first | rfl | rw [if_neg (show ¬ n < n by omega)]
theorem scPairs : FnScope ["one", "other", "n", "found", "a", "row", "b", "first"] ["one", "other"] (defScope sPairs) := ⟨rfl, rfl, rfl, by decide +kernel, rfl, by decide +kernel, by decide +kernel⟩
theorem ok_pairs (F : Fun K "_law_pairs" "_law_pairs" sPairs f fd) (M : Mn mg) : FnOk P w K mg base CX0 1 f fd ["one", "other"] spPairs := by
  refine F.ok scPairs (fun vs H Q E h => ?_) (fun cdv A outer s H vs Q E hr h => ?_)
  · obtain ⟨v, u, m, n, f, g, rfl, _⟩ := h
    rfl
  obtain ⟨v, u, m, n, f, g, rfl, hm, hn, h16, hR, hU, q⟩ := h
  refine ⟨_, pss_cons (ps_set (i := 2) scPairs.nd rfl (Or.inl rfl) (pe_callB call_len_seq (by rfl) M.len PySem.boot_len (pa_cons (pv 1) pa_nil)))
    (pss_cons (ps_set (i := 3) scPairs.nd rfl (Or.inl rfl) (pe_lst pa_nil))
    (pss_cons (ps_for PassesOwn.never rfl (pi_range1 (by rfl) M.range (pa_cons (pe_op op_mul (pe_callB call_len_seq (by rfl) M.len PySem.boot_len (pa_cons (pv 0) pa_nil)) (pv 2)) pa_nil)) (pg_name (i := 4) scPairs.nd rfl (Or.inl rfl))
      (pss_cons (ps_set (i := 5) scPairs.nd rfl (Or.inl rfl) (pe_lst pa_nil))
      (pss_cons (ps_for PassesOwn.never rfl (pi_range1 (by rfl) M.range (pa_cons (pe_op op_mul (pe_callB call_len_seq (by rfl) M.len PySem.boot_len (pa_cons (pv 0) pa_nil)) (pv 2)) pa_nil)) (pg_name (i := 6) scPairs.nd rfl (Or.inl rfl))
        (pss_cons (ps_set (i := 7) scPairs.nd rfl (Or.inl rfl) (pe_ix ix_list (pe_ix ix_list (pv 0) (pe_op op_fdiv (pv 4) (pv 2)) (fun _ _ => rfl)) (pe_op op_fdiv (pv 6) (pv 2)) (fun _ _ => rfl)))
        (pss_one (ps_expr (pe_bm PySem.F.plainAttrs_list PySem.F.slot_list_append PySem.F.type_list_append mt_append (pv 5) (pa_cons (pe_op op_add (pe_op op_mul (pv 7) (pv 2))
          (pe_ix ix_list (pe_ix ix_list (pv 1) (pe_op op_mod (pv 4) (pv 2)) (fun _ _ => rfl)) (pe_op op_mod (pv 6) (pv 2)) (fun _ _ => rfl))) pa_nil))))))
      (pss_one (ps_expr (pe_bm PySem.F.plainAttrs_list PySem.F.slot_list_append PySem.F.type_list_append mt_append (pv 3) (pa_cons (pv 5) pa_nil)))))))
    (pss_one (ps_ret (pv 3))))), ?_⟩
  obtain ⟨a1, rs1, rfl, e1, pr1⟩ := id hR
  obtain ⟨a2, rs2, rfl, e2, pr2⟩ := id hU
  have l1 : rs1.length = m := by rw [pr1.length, tab_len]
  have l2 : rs2.length = n := by rw [pr2.length, tab_len]
  have hnn : n ≤ 16 := Nat.le_trans (by have := Nat.mul_le_mul_right n hm; rw [Nat.one_mul] at this; exact this) h16
  have hmm : m ≤ 16 := Nat.le_trans (by have := Nat.mul_le_mul_left m hn; rw [Nat.mul_one] at this; exact this) h16
  have mnI : ((m : Int) * (n : Int)) = ((m * n : Nat) : Int) := (Int.natCast_mul m n).symm
  refine ⟨_, rfl, a2, _, rfl, .inl (SqL.of e2), ?_⟩
  rw [List.length_map, l2]
  refine ⟨(by show 0 ≤ sizeLine; decide), fun fa hfa => ?_⟩
  have s0 := Same.new hfa (.lst [])
  refine ⟨_, rfl, a1, _, rfl, .inl (SqL.of (s0 _ _ e1)), ?_⟩
  rw [List.length_map, l1]
  refine ⟨_, rfl, _, _, rfl, rfl, .inl ⟨by omega, by omega⟩, (m : Int) * (n : Int), rfl, by rw [mnI]; omega, by rw [mnI]; omega, ?_⟩
  rw [mnI]
  have dv : ∀ a, a < m * n → a / n < m := fun a h => (Nat.div_lt_iff_lt_mul (by omega)).mpr h
  have md : ∀ a, a % n < n := fun a => Nat.mod_lt _ (by omega)
  refine for_range (lo := 0) (n := ((m * n : Nat) : Int).toNat) (fun a σ J => Part H J fa (rowsTo (m * n) (fpr n f g) a) ∧ ∃ x4 x5 x6 x7, σ = [some (.ref a1), some (.ref a2), some (.int n), some (.ref fa), x4, x5, x6, x7])
    ⟨Part.start (Same.refl H) hfa, _, _, _, _, rfl⟩ ?_ ?_
  · rintro a _ J ha ⟨pa, x4, x5, x6, x7, rfl⟩
    have ha' : a < m * n := by rw [Int.toNat_natCast] at ha; exact ha
    refine ⟨(by show 0 ≤ sizeLine; decide), fun qa hqa => ?_⟩
    have sJq := Same.new hqa (.lst [])
    refine ⟨_, rfl, a1, _, rfl, .inl (SqL.of (sJq _ _ (pa.same _ _ e1))), ?_⟩
    rw [List.length_map, l1]
    refine ⟨_, rfl, _, _, rfl, rfl, .inl ⟨by omega, by omega⟩, (m : Int) * (n : Int), rfl, by rw [mnI]; omega, by rw [mnI]; omega, ?_⟩
    rw [mnI]
    refine for_range (lo := 0) (n := ((m * n : Nat) : Int).toNat) (fun b σ G => Same J G ∧ G qa = some (.lst ((rowTo (fpr n f g) a b).map V.int)) ∧ ∃ x6 x7, σ = [some (.ref a1), some (.ref a2), some (.int n), some (.ref fa), some (.int (0 + (a : Int))), some (.ref qa), x6, x7])
      ⟨sJq, upd_same, _, _, rfl⟩ ?_ ?_
    · rintro b _ G hb ⟨sG, eq, y6, y7, rfl⟩
      have hb' : b < m * n := by rw [Int.toNat_natCast] at hb; exact hb
      have cell : ∀ {K' : PySem.W.Frag} {m n : Nat} {f : Nat → Nat → Nat} {c : Addr} {rs : List Addr} {i j : Nat}, H c = some (.lst (rs.map V.ref)) → Paired (fun r row => H r = some (.lst (row.map V.int))) rs (tab m f) → i < m → j < m →
          ∃ r, SqL K' G c (rs.map V.ref) ∧ (rs.map V.ref)[i]? = some (V.ref r) ∧ SqL K' G r (((List.range m).map fun b => ((f i b : Nat) : Int)).map V.int) ∧ (((List.range m).map fun b => ((f i b : Nat) : Int)).map V.int)[j]? = some (.int ((f i j : Nat) : Int)) := fun {K' m n f c rs i j} ec pc hi hj => by
        have hir : i < rs.length := by rw [pc.length, tab_len]; exact hi
        obtain ⟨row, h1, h2⟩ := pair_at pc (List.getElem?_eq_getElem hir)
        rw [tab_row hi] at h1
        cases h1
        refine ⟨rs[i], SqL.of (sG _ _ (pa.same _ _ ec)), by rw [List.getElem?_map, List.getElem?_eq_getElem hir]; rfl, SqL.of (sG _ _ (pa.same _ _ h2)), ?_⟩
        rw [List.getElem?_map, List.getElem?_map, List.getElem?_range hj]; rfl
      obtain ⟨r1, c1, c2, c3, c4⟩ := cell (K' := K) (n := n) e1 pr1 (dv a ha') (dv b hb')
      obtain ⟨r2, d1, d2, d3, d4⟩ := cell (K' := K) (n := n) e2 pr2 (md a) (md b)
      have eD : ∀ x : Nat, ((0 : Int) + (x : Int)) / (n : Int) = ((x / n : Nat) : Int) := fun x => by rw [z0]; exact (Int.natCast_ediv x n).symm
      have eM : ∀ x : Nat, ((0 : Int) + (x : Int)) % (n : Int) = ((x % n : Nat) : Int) := fun x => by rw [z0]; exact (Int.natCast_emod x n).symm
      refine ⟨_, rfl, _, rfl, _, rfl, _, _, rfl, rfl, ⟨by omega, by omega⟩, a1, _, _, _, rfl, rfl, c1, at_of (eD a) c2, _, rfl, _, rfl, _, _, rfl, rfl, ⟨by omega, by omega⟩, r1, _, _, _, rfl, rfl, c3, at_of (eD b) c4, ?_⟩
      refine ⟨_, rfl, Or.inl ⟨rfl, _, SqL.of eq⟩, _, rfl, _, rfl, _, _, rfl, rfl, .inr ⟨by omega, by omega⟩, _, rfl, _, rfl, _, rfl, _, _, rfl, rfl, (by show (0 : Int) < (n : Int); omega), a2, _, _, _, rfl, rfl, d1, at_of (eM a) d2,
        _, rfl, _, rfl, _, _, rfl, rfl, (by show (0 : Int) < (n : Int); omega), r2, _, _, _, rfl, rfl, d3, at_of (eM b) d4, _, _, rfl, rfl, qa, _, _, rfl, rfl, eq, by rw [rowTo_len]; exact small1000 (by omega), ?_⟩
      refine ⟨fun c o ec => by rw [upd_ne (ne_of_none ec hqa)]; exact sG c o ec, ?_, _, _, rfl⟩
      rw [upd_same, rowTo_next, List.map_append]
      refine congrArg (fun z => some (HO.lst (_ ++ [V.int z]))) ?_
      show ((f (a / n) (b / n) : Nat) : Int) * (n : Int) + ((g (a % n) (b % n) : Nat) : Int) = ((f (a / n) (b / n) * n + g (a % n) (b % n) : Nat) : Int)
      rw [Int.natCast_add, Int.natCast_mul]
    · rintro _ G ⟨sG, eq, y6, y7, rfl⟩
      obtain ⟨acc, ea, la, p1⟩ := pa.add sG hqa eq
      refine ⟨_, rfl, Or.inl ⟨rfl, _, SqL.of ea⟩, _, rfl, fa, acc, _, rfl, rfl, ea, by rw [la, rowsTo_len]; exact small1000 (by omega), ?_, _, _, _, _, rfl⟩
      rw [Int.toNat_natCast] at p1
      rw [rowsTo_next]
      exact p1
  · rintro _ J ⟨pa, x4, x5, x6, x7, rfl⟩
    have pa' : Part H J fa (tab (m * n) (fpr n f g)) := by
      rw [Int.toNat_natCast] at pa
      exact pa
    exact ⟨_, rfl, q _ _ pa'.fin pa'.same⟩
theorem scGrid : FnScope ["box", "shift", "found", "a", "row", "b", "value", "k"] ["box"] (defScope sGrid) := ⟨rfl, rfl, rfl, by decide +kernel, rfl, by decide +kernel, by decide +kernel⟩
theorem ok_grid (F : Fun K "_law_grid" "_law_grid" sGrid f fd) (M : Mn mg) (G : FnOk P w K mg base CX0 1 g gd ["box", "size"] spTake) (bG : Binds K gd ["box", "size"] []) (kG : PySem.W.keepIn K (.ref g) = true) (mG : mg "_law_take" = some (.ref g)) :
    FnOk P w K mg base CX0 2 f fd ["box"] spGrid := by
  refine F.ok scGrid (fun vs H Q E h => ?_) (fun cdv A outer s H vs Q E hr h => ?_)
  · obtain ⟨p, rfl, _⟩ := h
    rfl
  obtain ⟨p, rfl, hb, q⟩ := h
  refine ⟨_, pss_cons (ps_setLc (i := 1) (own := [("k", 7)]) (g := gName 7) (tt := tYes) rfl scGrid.nd rfl rfl (sw_true rfl rfl rfl (by decide +kernel)) (pi_range1 (by rfl) M.range (pa_cons pe_int pa_nil))
      (blkOk_by (N := ["box", "shift", "found", "a", "row", "b", "value", "k"]) (sc := defScope sGrid) (by decide +kernel)) (fun _ _ _ _ _ => pg_name (i := 7) scGrid.nd rfl (Or.inl rfl)) (fun _ _ _ _ _ => pts_nil)
      (fun _ _ _ _ _ => pe_call G hr (by rfl) mG kG bG .nil pass0 (pa_cons (pv 0) (pa_cons pe_int pa_nil))))
    (pss_cons (ps_set (i := 2) scGrid.nd rfl (Or.inl rfl) (pe_lst pa_nil))
    (pss_cons (ps_for PassesOwn.never rfl (pi_range1 (by rfl) M.range (pa_cons pe_int pa_nil)) (pg_name (i := 3) scGrid.nd rfl (Or.inl rfl))
      (pss_cons (ps_set (i := 4) scGrid.nd rfl (Or.inl rfl) (pe_lst pa_nil))
      (pss_cons (ps_for PassesOwn.never rfl (pi_range1 (by rfl) M.range (pa_cons pe_int pa_nil)) (pg_name (i := 5) scGrid.nd rfl (Or.inl rfl))
        (pss_cons (ps_set (i := 6) scGrid.nd rfl (Or.inl rfl) (pe_op op_mod (pe_op op_add (pe_op op_add (pe_op op_fdiv (pv 3) pe_int) (pe_op op_fdiv (pv 5) pe_int))
          (pe_ix ix_list (pv 1) (pe_op op_add (pe_op op_mul (pe_op op_mod (pv 3) pe_int) pe_int) (pe_op op_fdiv (pv 5) pe_int)) (fun _ _ => rfl))) pe_int))
        (pss_one (ps_expr (pe_bm PySem.F.plainAttrs_list PySem.F.slot_list_append PySem.F.type_list_append mt_append (pv 4) (pa_cons (pe_op op_add (pe_op op_add (pe_op op_mul (pe_op op_fdiv (pv 3) pe_int) pe_int)
          (pe_op op_mul (pv 6) pe_int)) (pe_op op_mod (pv 5) pe_int)) pa_nil))))))
      (pss_one (ps_expr (pe_bm PySem.F.plainAttrs_list PySem.F.slot_list_append PySem.F.type_list_append mt_append (pv 2) (pa_cons (pv 4) pa_nil)))))))
    (pss_one (ps_ret (pv 2))))), ?_⟩
  refine ⟨4, rfl, by decide, by decide, fun D hD => ?_⟩
  have nD : D ≠ p := hb.ne hD
  refine lc_range (lo := 0) (n := Int.toNat 4) (fun i J => Bx J p ∧ Sx p H J ∧ ∃ xs : List Nat, J D = some (.lst (xs.map fun x : Nat => V.int ((x : Nat) : Int))) ∧ xs.length = i ∧ ∀ x, x ∈ xs → x < 2)
    ⟨hb.new hD, Sx.new hD, [], upd_same, rfl, fun _ z => nomatch z⟩ ?_ ?_
  · rintro i J hi ⟨bJ, sJ, xs, eD, lx, hx⟩
    have hi4 : i < 4 := hi
    refine ⟨rfl, _, rfl, p, 2, rfl, bJ, by decide, by decide, fun r J1 ra rb bJ1 sJ1 => ?_⟩
    refine ⟨_, sJ1 D _ nD eD, by rw [List.length_map, lx]; exact small1000 (by omega), bJ1.at_ne nD, fun b o hbp e => ?_, xs ++ [r.toNat], ?_, by simp [lx], fun x h => ?_⟩
    · rw [upd_ne (ne_of_none e hD)]; exact sJ1 b o hbp (sJ b o hbp e)
    · rw [upd_same, List.map_append]
      show _ = some (HO.lst (_ ++ [V.int ((r.toNat : Nat) : Int)]))
      rw [Int.toNat_of_nonneg ra]
    · rcases List.mem_append.mp h with h | h
      · exact hx x h
      · rw [List.mem_singleton.mp h]; omega
  · rintro H1 ⟨b1, s1, xs, eD, lx, hx⟩
    have lx4 : xs.length = 4 := lx
    let sh : Nat → Nat := fun i => xs.getD i 0
    have hsh : ∀ i, sh i < 2 := fun i => by
      show xs.getD i 0 < 2
      rw [List.getD_eq_getElem?_getD]
      by_cases h : i < xs.length
      · rw [List.getElem?_eq_getElem h]; exact hx _ (List.getElem_mem h)
      · rw [List.getElem?_eq_none (by omega)]; decide
    refine ⟨(by show 0 ≤ sizeLine; decide), fun fa hfa => ?_⟩
    refine ⟨8, rfl, by decide, by decide, ?_⟩
    refine for_range (lo := 0) (n := Int.toNat 8) (fun a σ J => Part H1 J fa (rowsTo 8 (fgr sh) a) ∧ ∃ x3 x4 x5 x6 x7, σ = [some (.ref p), some (.ref D), some (.ref fa), x3, x4, x5, x6, x7])
      ⟨Part.start (Same.refl H1) hfa, _, _, _, _, _, rfl⟩ ?_ ?_
    · rintro a _ J ha ⟨pa, x3, x4, x5, x6, x7, rfl⟩
      have ha' : a < 8 := ha
      refine ⟨(by show 0 ≤ sizeLine; decide), fun qa hqa => ?_⟩
      refine ⟨8, rfl, by decide, by decide, ?_⟩
      refine for_range (lo := 0) (n := Int.toNat 8) (fun b σ G => Same J G ∧ G qa = some (.lst ((rowTo (fgr sh) a b).map V.int)) ∧ ∃ x5 x6 x7, σ = [some (.ref p), some (.ref D), some (.ref fa), some (.int (0 + (a : Int))), some (.ref qa), x5, x6, x7])
        ⟨Same.new hqa _, upd_same, _, _, _, rfl⟩ ?_ ?_
      · rintro b _ G hb2 ⟨sG, eq, y5, y6, y7, rfl⟩
        have hb' : b < 8 := hb2
        have h4 : a % 2 * 2 + b / 4 < 4 := by omega
        have at4 : (xs.map fun x : Nat => V.int ((x : Nat) : Int))[a % 2 * 2 + b / 4]? = some (.int ((sh (a % 2 * 2 + b / 4) : Nat) : Int)) := by
          rw [List.getElem?_map, List.getElem?_eq_getElem (by omega)]
          show some (V.int ((xs[a % 2 * 2 + b / 4] : Nat) : Int)) = some (V.int ((xs.getD (a % 2 * 2 + b / 4) 0 : Nat) : Int))
          rw [List.getD_eq_getElem?_getD, List.getElem?_eq_getElem (by omega)]; rfl
        refine ⟨_, rfl, _, _, rfl, rfl, ⟨by decide, by decide⟩, _, rfl, _, _, rfl, rfl, ⟨by decide, by decide⟩, _, _, rfl, rfl, _, rfl, _, rfl, _, _, rfl, rfl, (by show (0 : Int) < 2; decide), _, _, rfl, rfl, .inr ⟨by decide, by decide⟩, _, rfl, _, _, rfl, rfl, ⟨by decide, by decide⟩, _, _, rfl, rfl,
          D, _, _, _, rfl, rfl, SqL.of (sG _ _ (pa.same _ _ eD)), at_of (j := a % 2 * 2 + b / 4) (by omega) at4, _, _, rfl, rfl, _, _, rfl, rfl, (by show (0 : Int) < 2; decide), ?_⟩
        refine ⟨_, rfl, Or.inl ⟨rfl, _, SqL.of eq⟩, _, rfl, _, _, rfl, rfl, ⟨by decide, by decide⟩, _, _, rfl, rfl, .inr ⟨by decide, by decide⟩, _, rfl, _, _, rfl, rfl, .inr ⟨by decide, by decide⟩, _, _, rfl, rfl, _, rfl, _, _, rfl, rfl, (by show (0 : Int) < 2; decide), _, _, rfl, rfl,
          qa, _, _, rfl, rfl, eq, by rw [rowTo_len]; exact small1000 (by omega), ?_⟩
        refine ⟨fun c o ec => by rw [upd_ne (ne_of_none ec hqa)]; exact sG c o ec, ?_, _, _, _, rfl⟩
        rw [upd_same, rowTo_next, List.map_append]
        refine congrArg (fun z => some (HO.lst (_ ++ [V.int z]))) ?_
        show (0 + (a : Int)) / 4 * 4 + ((0 + (a : Int)) / 2 + (0 + (b : Int)) / 2 + ((sh (a % 2 * 2 + b / 4) : Nat) : Int)) % 2 * 2 + (0 + (b : Int)) % 2 = ((a / 4 * 4 + (a / 2 + b / 2 + sh (a % 2 * 2 + b / 4)) % 2 * 2 + b % 2 : Nat) : Int)
        generalize sh (a % 2 * 2 + b / 4) = z
        omega
      · rintro _ G ⟨sG, eq, y5, y6, y7, rfl⟩
        obtain ⟨acc, ea, la, p1⟩ := pa.add sG hqa eq
        refine ⟨_, rfl, Or.inl ⟨rfl, _, SqL.of ea⟩, _, rfl, fa, acc, _, rfl, rfl, ea, by rw [la, rowsTo_len]; exact small1000 (by omega), ?_, _, _, _, _, _, rfl⟩
        rw [rowsTo_next]
        exact p1
    · rintro _ J ⟨pa, x3, x4, x5, x6, x7, rfl⟩
      have pa' : Part H1 J fa (tab 8 (fgr sh)) := pa
      have bJ : Bx J p := by
        obtain ⟨c0, c1, c2, e, z⟩ := b1
        exact ⟨c0, c1, c2, pa'.same _ _ e, z⟩
      exact ⟨_, rfl, q _ _ sh hsh (pa'.fin.same (nw_back s1 b1)) bJ (s1.trans (Sx.of pa'.same))⟩
end
end L

set_option Elab.async false
set_option linter.all false
set_option maxRecDepth 100000
set_option maxHeartbeats 4000000
namespace L
open PySem L2 KX
abbrev sWords : Stmt := top 31
def wds : List Str := ["a", "b", "aa", "ab", "ba", "bb", ""]
def wd (i : Nat) : Str := wds.getD i ""
def fwd (a b : Nat) : Nat := if a < 2 ∧ b < 2 then 2 + 2 * a + b else 6
theorem asf_words : Asf 7 fwd := by
  refine ⟨fun a b ha hb => by unfold fwd; split <;> omega, fun a b c ha hb hc => ?_⟩
  have e : ∀ x y, ¬ fwd x y < 2 := fun x y => by unfold fwd; split <;> omega
  have l : fwd (fwd a b) c = 6 := if_neg fun z => e a b z.1
  have r : fwd a (fwd b c) = 6 := if_neg fun z => e b c z.2
  rw [l, r]
def bothOf (x y : Str) : Str := if (!decide (V.str x = V.str "")) = true then (if (!decide (V.str y = V.str "")) = true then x ++ y else "") else ""
def keyOf (z : Str) : Str := if decide (((z.length : Nat) : Int) < 3) = true then z else ""
def wOk (a b : Nat) : Bool := (wds[fwd a b]? == some (keyOf (bothOf (wd a) (wd b)))) && decide ((wd a).length + (wd b).length ≤ 4) && decide ((bothOf (wd a) (wd b)).length ≤ 4) &&
  eqV (.str (keyOf (bothOf (wd a) (wd b)))) (.str (keyOf (bothOf (wd a) (wd b)))) && (List.range (fwd a b)).all fun m => !eqV (.str (wd m)) (.str (keyOf (bothOf (wd a) (wd b))))
theorem wOk_all : ((List.range 7).all fun a => (List.range 7).all fun b => wOk a b) = true := by decide +kernel
theorem wd_at {m : Nat} {z : V} (h : (wds.map V.str)[m]? = some z) : z = .str (wd m) := by
  rw [List.getElem?_map] at h
  obtain ⟨x, h1, rfl⟩ := Option.map_eq_some_iff.mp h
  unfold wd
  rw [List.getD_eq_getElem?_getD, h1]; rfl
theorem w_facts {a b : Nat} (ha : a < 7) (hb : b < 7) : (wds.map V.str)[fwd a b]? = some (.str (keyOf (bothOf (wd a) (wd b)))) ∧ (wd a).length + (wd b).length ≤ 4 ∧ (bothOf (wd a) (wd b)).length ≤ 4 ∧
    eqV (.str (keyOf (bothOf (wd a) (wd b)))) (.str (keyOf (bothOf (wd a) (wd b)))) = true ∧ ∀ (m : Nat) (z' : V), m < fwd a b → (wds.map V.str)[m]? = some z' → eqV z' (.str (keyOf (bothOf (wd a) (wd b)))) = false := by
  have h := List.all_eq_true.mp (List.all_eq_true.mp wOk_all a (List.mem_range.mpr ha)) b (List.mem_range.mpr hb)
  unfold wOk at h
  obtain ⟨h, h5⟩ := Bool.and_eq_true_iff.mp h
  obtain ⟨h, h4⟩ := Bool.and_eq_true_iff.mp h
  obtain ⟨h, h3⟩ := Bool.and_eq_true_iff.mp h
  obtain ⟨h1, h2⟩ := Bool.and_eq_true_iff.mp h
  refine ⟨by rw [List.getElem?_map, eq_of_beq h1]; rfl, of_decide_eq_true h2, of_decide_eq_true h3, h4, fun m z' hm hz => ?_⟩
  have e := List.all_eq_true.mp h5 m (List.mem_range.mpr hm)
  rw [wd_at hz]
  exact Bool.not_eq_true' _ |>.mp e
def spWords : Sp := fun vs H Q _ => vs = [] ∧ ∀ v H', RowsL (nw H H') v (tab 7 fwd) → Same H H' → Q v H'
section
variable {P : Program} {w : World} {K : PySem.W.Frag} {mg : Str → Option Value} {base : Heap} {f g gn : Addr} {fd gd gnd : FuncData}
theorem scWords : FnScope ["words", "found", "one", "row", "other", "both"] [] (defScope sWords) := ⟨rfl, rfl, rfl, by decide +kernel, rfl, by decide +kernel, by decide +kernel⟩
theorem ok_words (F : Fun K "_law_words" "_law_words" sWords f fd) (M : Mn mg) : FnOk P w K mg base CX0 1 f fd [] spWords := by
  refine F.ok scWords (fun vs H Q E h => ?_) (fun cdv A outer s H vs Q E hr h => ?_)
  · obtain ⟨rfl, _⟩ := h
    rfl
  obtain ⟨rfl, q⟩ := h
  refine ⟨_, pss_cons (ps_set (i := 0) scWords.nd rfl (Or.inl rfl) (pe_lst (pa_cons pe_str (pa_cons pe_str (pa_cons pe_str (pa_cons pe_str (pa_cons pe_str (pa_cons pe_str (pa_cons pe_str pa_nil)))))))))
    (pss_cons (ps_set (i := 1) scWords.nd rfl (Or.inl rfl) (pe_lst pa_nil))
    (pss_cons (ps_for PassesOwn.never rfl (pi_list (pv 0)) (pg_name (i := 2) scWords.nd rfl (Or.inl rfl))
      (pss_cons (ps_set (i := 3) scWords.nd rfl (Or.inl rfl) (pe_lst pa_nil))
      (pss_cons (ps_for PassesOwn.never rfl (pi_list (pv 0)) (pg_name (i := 4) scWords.nd rfl (Or.inl rfl))
        (pss_cons (ps_set (i := 5) scWords.nd rfl (Or.inl rfl) (pe_mo (pe_ifExp (pw_and (pt_cmpR op_ne (pv 2) pe_str (nomark _)) (pw_and1 (pt_cmpR op_ne (pv 4) pe_str (nomark _)))).pt (pe_op op_add_str (pv 2) (pv 4)) pe_str)))
        (pss_one (ps_expr (pe_bm PySem.F.plainAttrs_list PySem.F.slot_list_append PySem.F.type_list_append mt_append (pv 3) (pa_cons
          (pe_bm PySem.F.plainAttrs_list PySem.F.slot_list_index PySem.F.type_list_index mt_index (pv 0) (pa_cons
            (pe_mo (pe_ifExp (pt_cmpR op_lt (pe_callB call_len_str (by rfl) M.len PySem.boot_len (pa_cons (pv 5) pa_nil)) pe_int (nomark _)) (pv 5) pe_str)) pa_nil)) pa_nil))))))
      (pss_one (ps_expr (pe_bm PySem.F.plainAttrs_list PySem.F.slot_list_append PySem.F.type_list_append mt_append (pv 1) (pa_cons (pv 3) pa_nil)))))))
    (pss_one (ps_ret (pv 1))))), ?_⟩
  refine ⟨(by show 7 ≤ sizeLine; decide), fun wa hwa => ?_⟩
  have s0 : Same H (upd H wa (.lst (wds.map V.str))) := Same.new hwa _
  have e0 : (upd H wa (.lst (wds.map V.str))) wa = some (.lst (wds.map V.str)) := upd_same
  refine ⟨(by show 0 ≤ sizeLine; decide), fun fa hfa => ?_⟩
  have hwf : wa ≠ fa := ne_of_none e0 hfa
  have hfn : H fa = none := s0.free hfa
  have L7 : (wds.map V.str).length = 7 := rfl
  refine ⟨_, rfl, wa, rfl, ⟨_, SqL.of (by rw [upd_ne hwf]; exact e0)⟩, ?_⟩
  refine for_it (walk_list (xs := wds.map V.str)) (fun a σ J => J wa = some (.lst (wds.map V.str)) ∧ Part H J fa (rowsTo 7 fwd a) ∧ ∃ x2 x3 x4 x5, σ = [some (.ref wa), some (.ref fa), x2, x3, x4, x5])
    ⟨by rw [upd_ne hwf]; exact e0, ⟨s0.trans (Same.new hfa _), hfn, [], upd_same, .nil⟩, _, _, _, _, rfl⟩ (fun i σ J _ z => SqL.of z.1) ?_ ?_
  · rintro a x _ J J1 ha ⟨eW, pa, x2, x3, x4, x5, rfl⟩ ⟨rfl, hx⟩
    cases wd_at hx
    refine ⟨(by show 0 ≤ sizeLine; decide), fun qa hqa => ?_⟩
    have hwq : wa ≠ qa := ne_of_none eW hqa
    refine ⟨_, rfl, wa, rfl, ⟨_, SqL.of (by rw [upd_ne hwq]; exact eW)⟩, ?_⟩
    refine for_it (walk_list (xs := wds.map V.str)) (fun b σ G => G wa = some (.lst (wds.map V.str)) ∧ Same J1 G ∧ G qa = some (.lst ((rowTo fwd a b).map V.int)) ∧ ∃ x4 x5, σ = [some (.ref wa), some (.ref fa), some (.str (wd a)), some (.ref qa), x4, x5])
      ⟨by rw [upd_ne hwq]; exact eW, Same.new hqa _, upd_same, _, _, rfl⟩ (fun i σ J _ z => SqL.of z.1) ?_ ?_
    · rintro b y _ G G1 hb ⟨eW2, sG, eq, y4, y5, rfl⟩ ⟨rfl, hy⟩
      cases wd_at hy
      obtain ⟨f1, f2, f3, f4, f5⟩ := w_facts (a := a) (b := b) ha hb
      refine ⟨fun z G2 => G1 = G2 ∧ z = .str (bothOf (wd a) (wd b)), ?_, ?_⟩
      · have le : (wd a).length + (wd b).length ≤ sizeLine := Nat.le_trans f2 (by decide)
        refine ⟨_, rfl, rfl, _, rfl, ite2 (fun c => ⟨_, rfl, rfl, _, rfl, ite2 (fun d => ⟨_, rfl, _, rfl, _, _, rfl, rfl, le, rfl, ?_⟩) fun d => ⟨rfl, ?_⟩⟩) fun c => iteF ⟨rfl, ?_⟩⟩
        · unfold bothOf; rw [if_pos c, if_pos d]
        · unfold bothOf; rw [if_pos c, if_neg d]
        · unfold bothOf; rw [if_neg c]
      rintro _ _ ⟨rfl, rfl⟩
      refine ⟨_, rfl, Or.inl ⟨rfl, _, SqL.of eq⟩, _, rfl, Or.inl ⟨rfl, _, SqL.of eW2⟩, fun z G2 => G1 = G2 ∧ z = .str (keyOf (bothOf (wd a) (wd b))), ?_, ?_⟩
      · refine ⟨_, rfl, _, rfl, Nat.le_trans f3 (by decide), _, _, rfl, rfl, _, rfl, ite2 (fun c => ⟨_, rfl, rfl, ?_⟩) fun c => ⟨rfl, ?_⟩⟩
        · unfold keyOf; rw [if_pos c]
        · unfold keyOf; rw [if_neg c]
      rintro _ _ ⟨rfl, rfl⟩
      refine ⟨wa, _, _, fwd a b, _, rfl, rfl, SqL.of eW2, rfl, rfl, f1, f4, f5, qa, _, _, rfl, rfl, eq, by rw [rowTo_len]; exact small1000 (by have : b < 7 := hb; omega), ?_⟩
      refine ⟨by rw [upd_ne hwq]; exact eW2, fun c o ec => by rw [upd_ne (ne_of_none ec hqa)]; exact sG c o ec, ?_, _, _, rfl⟩
      rw [upd_same, rowTo_next, List.map_append]; rfl
    · rintro _ G ⟨eW2, sG, eq, y4, y5, rfl⟩
      obtain ⟨acc, ea, la, p1⟩ := pa.add sG hqa eq
      refine ⟨_, rfl, Or.inl ⟨rfl, _, SqL.of ea⟩, _, rfl, fa, acc, _, rfl, rfl, ea, by rw [la, rowsTo_len]; exact small1000 (by have : a < 7 := ha; omega), by rw [upd_ne hwf]; exact eW2, ?_, _, _, _, _, rfl⟩
      rw [rowsTo_next]
      exact p1
  · rintro _ J ⟨eW, pa, x2, x3, x4, x5, rfl⟩
    have pa' : Part H J fa (tab 7 fwd) := pa
    exact ⟨_, rfl, q _ _ pa'.fin pa'.same⟩
end
end L

set_option Elab.async false
set_option linter.all false
set_option maxRecDepth 100000
set_option maxHeartbeats 4000000
/-! Own layer: tables of maps under composition. Plain lists and numbers. -/
namespace KX
/-- a map of k states -/
def Mp (k : Nat) (m : List Nat) : Prop := m.length = k ∧ ∀ x, x ∈ m → x < k
/-- first x, then y -/
def cmp (x y : List Nat) : List Nat := x.map fun s => y.getD s 0
theorem getD_lt {k : Nat} {m : List Nat} (h : Mp k m) {s : Nat} (hs : s < k) : m.getD s 0 < k := by
  have hl : s < m.length := by rw [h.1]; exact hs
  rw [List.getD_eq_getElem?_getD, List.getElem?_eq_getElem hl]
  exact h.2 _ (List.getElem_mem hl)
theorem cmp_mp {k : Nat} {x y : List Nat} (hx : Mp k x) (hy : Mp k y) : Mp k (cmp x y) := by
  refine ⟨by unfold cmp; rw [List.length_map]; exact hx.1, fun z hz => ?_⟩
  obtain ⟨s, hs, rfl⟩ := List.mem_map.mp hz
  exact getD_lt hy (hx.2 s hs)
theorem cmp_as {k : Nat} {x y z : List Nat} (hx : Mp k x) (hy : Mp k y) : cmp (cmp x y) z = cmp x (cmp y z) := by
  unfold cmp
  rw [List.map_map]
  refine List.map_congr_left fun s hs => ?_
  have hl : s < y.length := by rw [hy.1]; exact hx.2 s hs
  show z.getD (y.getD s 0) 0 = (y.map fun s => z.getD s 0).getD s 0
  rw [List.getD_eq_getElem?_getD (l := y.map _), List.getElem?_map, List.getElem?_eq_getElem hl, List.getD_eq_getElem?_getD (l := y), List.getElem?_eq_getElem hl]; rfl
/-- made of letters -/
inductive Gen (ls : List (List Nat)) : List Nat → Prop
  | base {l : List Nat} : l ∈ ls → Gen ls l
  | step {x l : List Nat} : Gen ls x → l ∈ ls → Gen ls (cmp x l)
theorem Gen.mp {k : Nat} {ls : List (List Nat)} (hl : ∀ l, l ∈ ls → Mp k l) {m : List Nat} (g : Gen ls m) : Mp k m := by
  induction g with
  | base h => exact hl _ h
  | step _ h ih => exact cmp_mp ih (hl _ h)
theorem gen_closed {k : Nat} {ls ms : List (List Nat)} (hl : ∀ l, l ∈ ls → Mp k l) (hg : ∀ x, x ∈ ms → Gen ls x) (hc : ∀ x, x ∈ ms → ∀ l, l ∈ ls → cmp x l ∈ ms) {x y : List Nat} (hx : x ∈ ms) (g : Gen ls y) : cmp x y ∈ ms := by
  induction g with
  | base h => exact hc x hx _ h
  | step g h ih =>
    rw [← cmp_as ((hg x hx).mp hl) (g.mp hl)]
    exact hc _ ih _ h
/-- the place of a map -/
def fmp (ms : List (List Nat)) (a b : Nat) : Nat := ms.idxOf (cmp (ms.getD a []) (ms.getD b []))
theorem getD_mem {ms : List (List Nat)} {a : Nat} (h : a < ms.length) : ms.getD a [] ∈ ms := by
  rw [List.getD_eq_getElem?_getD, List.getElem?_eq_getElem h]
  exact List.getElem_mem h
theorem idx_get {ms : List (List Nat)} {m : List Nat} (h : m ∈ ms) : ms.idxOf m < ms.length ∧ ms[ms.idxOf m]? = some m := by
  have hl : ms.idxOf m < ms.length := List.idxOf_lt_length_iff.mpr h
  exact ⟨hl, by rw [List.getElem?_eq_getElem hl, List.getElem_idxOf hl]⟩
theorem idx_ahead {ms : List (List Nat)} {m : List Nat} : ∀ {j : Nat} {z : List Nat}, j < ms.idxOf m → ms[j]? = some z → z ≠ m := by
  induction ms with
  | nil => intro j z h e; cases e
  | cons a ms ih =>
    intro j z h e hz
    subst hz
    rw [List.idxOf_cons] at h
    by_cases ha : a = z
    · subst ha
      rw [show (a == a) = true from beq_self_eq_true a] at h
      exact absurd h (Nat.not_lt_zero _)
    · rw [show (a == z) = false from beq_eq_false_iff_ne.mpr ha] at h
      cases j with
      | zero => exact ha (Option.some.inj e)
      | succ j =>
        have h' : j + 1 < ms.idxOf z + 1 := h
        exact ih (j := j) (by omega) e rfl
/-- a list of maps closed under composition -/
structure Cl (k : Nat) (ms : List (List Nat)) : Prop where
  mp : ∀ m, m ∈ ms → Mp k m
  cl : ∀ x, x ∈ ms → ∀ y, y ∈ ms → cmp x y ∈ ms
theorem Cl.at_ {k : Nat} {ms : List (List Nat)} (C : Cl k ms) {a b : Nat} (ha : a < ms.length) (hb : b < ms.length) : fmp ms a b < ms.length ∧ ms[fmp ms a b]? = some (cmp (ms.getD a []) (ms.getD b [])) :=
  idx_get (C.cl _ (getD_mem ha) _ (getD_mem hb))
theorem asf_maps {k : Nat} {ms : List (List Nat)} (C : Cl k ms) : Asf ms.length (fmp ms) := by
  refine ⟨fun a b ha hb => (C.at_ ha hb).1, fun a b c ha hb hc => ?_⟩
  have h1 := C.at_ ha hb
  have h2 := C.at_ hb hc
  have e1 : ms.getD (fmp ms a b) [] = cmp (ms.getD a []) (ms.getD b []) := by rw [List.getD_eq_getElem?_getD, h1.2]; rfl
  have e2 : ms.getD (fmp ms b c) [] = cmp (ms.getD b []) (ms.getD c []) := by rw [List.getD_eq_getElem?_getD, h2.2]; rfl
  unfold fmp at *
  rw [e1, e2, cmp_as (C.mp _ (getD_mem ha)) (C.mp _ (getD_mem hb))]
/-- what the search knows: letters ls, found ms, i of them walked -/
structure Srch (k : Nat) (ls ms : List (List Nat)) (i : Nat) : Prop where
  lm : ∀ l, l ∈ ls → Mp k l
  sub : ∀ l, l ∈ ls → l ∈ ms
  gen : ∀ x, x ∈ ms → Gen ls x
  done : ∀ j, j < i → ∀ x, ms[j]? = some x → ∀ l, l ∈ ls → cmp x l ∈ ms
theorem Srch.cl {k : Nat} {ls ms : List (List Nat)} {i : Nat} (S : Srch k ls ms i) (h : ms.length ≤ i) : Cl k ms := by
  refine ⟨fun m hm => (S.gen m hm).mp S.lm, fun x hx y hy => gen_closed S.lm S.gen (fun x hx l hl => ?_) hx (S.gen y hy)⟩
  obtain ⟨j, hj, rfl⟩ := List.mem_iff_getElem.mp hx
  exact S.done j (by omega) _ (List.getElem?_eq_getElem hj) l hl
theorem Srch.more {k : Nat} {ls ms : List (List Nat)} {i : Nat} (S : Srch k ls ms i) {m : List Nat} (g : Gen ls m) (hi : i ≤ ms.length) : Srch k ls (ms ++ [m]) i := by
  refine ⟨S.lm, fun l hl => List.mem_append_left _ (S.sub l hl), fun x hx => ?_, fun j hj x hx l hl => ?_⟩
  · rcases List.mem_append.mp hx with h | h
    · exact S.gen x h
    · rw [List.mem_singleton.mp h]; exact g
  · rw [List.getElem?_append_left (by omega)] at hx
    exact List.mem_append_left _ (S.done j hj x hx l hl)
end KX

set_option Elab.async false
set_option linter.all false
set_option maxRecDepth 100000
set_option maxHeartbeats 4000000
namespace L
open PySem L2 KX
abbrev sMaps : Stmt := top 27
/-! ### tuples of numbers as data -/
def nv (m : List Nat) : List V := m.map fun x : Nat => V.int ((x : Nat) : Int)
def nD (m : List Nat) : List PyData := m.map fun x : Nat => PyData.int ((x : Nat) : Int)
def tD (m : List Nat) : PyData := .tuple (nD m)
theorem nD_lay : ∀ m : List Nat, PyData.canLayAll0 (nD m) = true
  | [] => by unfold nD; simp [PyData.canLayAll0]
  | x :: m => by
    have h := nD_lay m
    unfold nD at h ⊢
    simp [PyData.canLayAll0, PyData.canLay0, h]
theorem nD_depth : ∀ m : List Nat, PyData.depthAll (nD m) = 0
  | [] => by unfold nD; simp [PyData.depthAll]
  | x :: m => by
    have h := nD_depth m
    unfold nD at h ⊢
    simp [PyData.depthAll, PyData.depth, h]
theorem tD_lay : ∀ ms : List (List Nat), PyData.canLayAll0 (ms.map tD) = true
  | [] => by simp [PyData.canLayAll0]
  | m :: ms => by
    have h := tD_lay ms
    have h2 := nD_lay m
    simp only [List.map_cons, PyData.canLayAll0, tD, PyData.canLay0, h2, Bool.true_and]
    exact h
theorem tD_depth : ∀ ms : List (List Nat), PyData.depthAll (ms.map tD) ≤ 1
  | [] => by simp [PyData.depthAll]
  | m :: ms => by
    have h := tD_depth ms
    have h2 := nD_depth m
    have h3 : (tD m).depth = 1 := by unfold tD; simp only [PyData.depth, h2]
    simp only [List.map_cons, PyData.depthAll, h3]
    omega
theorem tD_shaped (m : List Nat) : SeqAt.shaped (tD m) = true := by
  have h2 : (tD m).depth = 1 := by unfold tD; simp only [PyData.depth, nD_depth m]
  have h1 : (tD m).canLay0 = true := by unfold tD; simp only [PyData.canLay0]; exact nD_lay m
  show ((tD m).canLay0 && decide ((tD m).depth ≤ 64)) = true
  rw [Bool.and_eq_true]
  exact ⟨h1, decide_eq_true (by omega)⟩
theorem tDs_shaped (ms : List (List Nat)) : SeqAt.shaped (.list (ms.map tD)) = true := by
  have h1 := tD_depth ms
  have h2 : PyData.depth (.list (ms.map tD)) ≤ 64 := by
    simp only [PyData.depth]
    omega
  show (PyData.canLay0 (.list (ms.map tD)) && decide (PyData.depth (.list (ms.map tD)) ≤ 64)) = true
  rw [Bool.and_eq_true]
  exact ⟨by simp only [PyData.canLay0]; exact tD_lay ms, decide_eq_true h2⟩
theorem nD_eqv : ∀ a b : List Nat, PyData.eqvAll (nD a) (nD b) = decide (a = b)
  | [], [] => by unfold nD; simp [PyData.eqvAll]
  | [], _ :: _ => by unfold nD; simp [PyData.eqvAll]
  | _ :: _, [] => by unfold nD; simp [PyData.eqvAll]
  | x :: a, y :: b => by
    have h := nD_eqv a b
    unfold nD at h ⊢
    simp only [List.map_cons, PyData.eqvAll, PyData.eqv, h]
    by_cases e : x = y
    · subst e
      rw [show (((x : Int) == (x : Int))) = true from beq_self_eq_true _, Bool.true_and]
      by_cases e2 : a = b
      · subst e2; simp
      · rw [decide_eq_false e2, decide_eq_false fun z => e2 (List.cons.inj z).2]
    · rw [show (((x : Int) == (y : Int))) = false from beq_eq_false_iff_ne.mpr (by omega), Bool.false_and, decide_eq_false fun z => e (List.cons.inj z).1]
theorem tD_eqv (a b : List Nat) : PyData.eqv (tD a) (tD b) = decide (a = b) := by
  unfold tD
  simp only [PyData.eqv]
  exact nD_eqv a b
theorem tD_any (ms : List (List Nat)) (m : List Nat) : ((ms.map tD).any fun z => PyData.eqv z (tD m)) = decide (m ∈ ms) := by
  rw [List.any_map]
  rw [Bool.eq_iff_iff, List.any_eq_true, decide_eq_true_iff]
  constructor
  · rintro ⟨x, hx, e⟩
    have e' : PyData.eqv (tD x) (tD m) = true := e
    rw [tD_eqv] at e'
    exact (of_decide_eq_true e') ▸ hx
  · intro h
    refine ⟨m, h, ?_⟩
    show PyData.eqv (tD m) (tD m) = true
    rw [tD_eqv]; exact decide_eq_true rfl
theorem dp_nv {K : PySem.W.Frag} {G : Hp} : ∀ m : List Nat, DpAll K G (nv m) (nD m)
  | [] => .nil
  | x :: m => .cons (.int _) (dp_nv m)
theorem dp_tup {K : PySem.W.Frag} {G : Hp} {t : Addr} {m : List Nat} (h : G t = some (.tup (nv m))) : Dp K G (.ref t) (tD m) := .tup (SqT.of h) (dp_nv m)
theorem dp_tups {K : PySem.W.Frag} {G : Hp} {ts : List Addr} {ms : List (List Nat)} (h : Paired (fun t m => G t = some (.tup (nv m))) ts ms) : DpAll K G (ts.map V.ref) (ms.map tD) := by
  induction h with
  | nil => exact .nil
  | cons h _ ih => exact .cons (dp_tup h) ih
/-- the maps found so far stand at fa -/
structure Mi (H : Hp) (p fa : Addr) (J : Hp) (ms : List (List Nat)) : Prop where
  bx : Bx J p
  sx : Sx p H J
  nf : H fa = none
  np : fa ≠ p
  fm : ∃ ts, J fa = some (.lst (ts.map V.ref)) ∧ Paired (fun t m => J t = some (.tup (nv m))) ts ms
section
variable {H J G : Hp} {p fa q : Addr} {ms : List (List Nat)} {m : List Nat}
theorem Bx.same (b : Bx H p) (s : Same H J) : Bx J p := let ⟨b0, b1, b2, e, r⟩ := b; ⟨b0, b1, b2, s _ _ e, r⟩
theorem Mi.to (h : Mi H p fa J ms) (s : Same J G) : Mi H p fa G ms :=
  let ⟨ts, e, pr⟩ := h.fm
  ⟨h.bx.same s, h.sx.trans (Sx.of s), h.nf, h.np, ts, s _ _ e, L2.Paired.mapP pr fun _ _ z => s _ _ z⟩
theorem Bx.ne_tup {t : Addr} {xs : List V} (b : Bx H p) (h : H t = some (.tup xs)) : t ≠ p := fun z => by
  obtain ⟨b0, b1, b2, e, r⟩ := b
  rw [z, e] at h
  cases h
theorem Mi.took (h : Mi H p fa J ms) (s : Sx p J G) (b : Bx G p) : Mi H p fa G ms :=
  let ⟨ts, e, pr⟩ := h.fm
  ⟨b, h.sx.trans s, h.nf, h.np, ts, s _ _ h.np e, L2.Paired.mapP pr fun _ _ z => s _ _ (h.bx.ne_tup z) z⟩
theorem Mi.start (b : Bx G p) (s : Sx p H G) (n : G fa = none) : Mi H p fa (upd G fa (.lst [])) [] :=
  ⟨b.new n, s.trans (Sx.new n), s.free b n, b.ne n, [], upd_same, .nil⟩
theorem Mi.add (h : Mi H p fa J ms) (e : J q = some (.tup (nv m))) : ∃ acc, J fa = some (.lst acc) ∧ acc.length = ms.length ∧ Mi H p fa (upd J fa (.lst (acc ++ [V.ref q]))) (ms ++ [m]) := by
  obtain ⟨ts, e1, pr⟩ := h.fm
  refine ⟨_, e1, by rw [List.length_map]; exact pr.length, h.bx.at_ne h.np, fun b o nb eb => by rw [upd_ne (ne_of_none eb h.nf)]; exact h.sx b o nb eb, h.nf, h.np, ts ++ [q], by rw [upd_same, List.map_append]; rfl, ?_⟩
  have nt : ∀ {t : Addr} {xs : List V}, J t = some (.tup xs) → t ≠ fa := fun {t xs} z y => by rw [y, e1] at z; cases z
  exact pair_app (L2.Paired.mapP pr fun t m z => by rw [upd_ne (nt z)]; exact z) (by rw [upd_ne (nt e)]; exact e)
theorem Mi.sq {K : PySem.W.Frag} (h : Mi H p fa J ms) : ∃ xs, SqL K J fa xs ∧ xs.length = ms.length := let ⟨ts, e, pr⟩ := h.fm; ⟨_, SqL.of e, by rw [List.length_map]; exact pr.length⟩
theorem Mi.dp {K : PySem.W.Frag} (h : Mi H p fa J ms) : Dp K J (.ref fa) (.list (ms.map tD)) := let ⟨ts, e, pr⟩ := h.fm; .lst (SqL.of e) (dp_tups pr)
end
end L

set_option Elab.async false
set_option linter.all false
set_option maxRecDepth 100000
set_option maxHeartbeats 4000000
namespace L
open PySem L2 KX
theorem ixt {X : Cx} {K : PySem.W.Frag} (hK : X.K = K) : IxR X (rIxT K) := by subst hK; exact ix_tup
theorem pit {X : Cx} {K : PySem.W.Frag} (hK : X.K = K) {tg l : Expr} {tl : TE} (h : PE X l tl) : PI X tg l (iTup K tl) := by subst hK; exact pi_tup h
theorem pe_idx {X : Cx} {K : PySem.W.Frag} (hK : X.K = K) (hu : X.A.units + 65 < cLine) {o e : Expr} {apos cpos : Pos} {to : TE} {t : TA} (ho : PE X o to) (ha : PA X [e] t)
    (hbase : attributeBase o "index" X.env (eval o X.env) = eval o X.env := by rfl)
    (hfew : ((backTo cpos (starEach [e] X.env)).all (fun x => !x.1) && (backToKw cpos (keywordEach [] X.env)).all (fun x => x.1.isSome)
      && decide (([e] : List Expr).length + ([] : List Keyword).length + (if ([] : List Keyword).isEmpty then 0 else 1) < 30)) = true := by rfl)
    (hline : (apos.endLine == cpos.line) = true := by rfl) (hs : starEach [e] X.env = (false, eval e X.env) :: starEach [] X.env := by rfl) (hplain : (backTo cpos (starEach [] X.env)).any (·.1) = false := by rfl) :
    PE X (.Call (.Attribute o "index" apos) [e] [] cpos) (tBM K "list" (rIndexD K) to t) := by
  subst hK
  exact pe_bm PySem.F.plainAttrs_list PySem.F.slot_list_index PySem.F.type_list_index (mt_indexD hu) ho ha hbase hfew hline hs hplain
theorem hu65 {k : Nat} {A : Around} (r : Room k A) : A.units + 65 < cLine := by have := r.un; omega
def scReached : Scope := { kind := .function, names := [(Str.ofString ".0", .local), (Str.ofString "other", .cell), (Str.ofString "tuple", .globalImplicit), (Str.ofString "one", .cell)], isGenerator := false, isCoroutine := false }
/-- the letters stand at la -/
def Lt (la : Addr) (ts : List Addr) (ms : List (List Nat)) (J : Hp) : Prop := J la = some (.lst (ts.map V.ref)) ∧ Paired (fun t m => J t = some (.tup (nv m))) ts ms
theorem Lt.to {la : Addr} {ts : List Addr} {ms : List (List Nat)} {J G : Hp} (h : Lt la ts ms J) (s : Same J G) : Lt la ts ms G := ⟨s _ _ h.1, L2.Paired.mapP h.2 fun _ _ z => s _ _ z⟩
theorem Lt.upd {la fa : Addr} {ts : List Addr} {ms : List (List Nat)} {J : Hp} {acc xs : List V} (h : Lt la ts ms J) (n : la ≠ fa) (e : J fa = some (.lst acc)) : Lt la ts ms (upd J fa (.lst xs)) :=
  ⟨by rw [upd_ne n]; exact h.1, L2.Paired.mapP h.2 fun t m z => by rw [upd_ne fun y => by rw [y, e] at z; cases z]; exact z⟩
theorem nv_at {m : List Nat} {i : Nat} {v : V} (h : (nv m)[i]? = some v) : ∃ x : Nat, m[i]? = some x ∧ v = .int (x : Int) := by
  unfold nv at h
  rw [List.getElem?_map] at h
  obtain ⟨x, h1, h2⟩ := Option.map_eq_some_iff.mp h
  exact ⟨x, h1, h2.symm⟩
theorem nv_get {k : Nat} {m : List Nat} (h : Mp k m) {s : Nat} (hs : s < k) : (nv m)[s]? = some (.int ((m.getD s 0 : Nat) : Int)) := by
  have hl : s < m.length := by rw [h.1]; exact hs
  unfold nv
  rw [List.getElem?_map, List.getD_eq_getElem?_getD, List.getElem?_eq_getElem hl]; rfl
theorem nv_len (m : List Nat) : (nv m).length = m.length := by unfold nv; rw [List.length_map]
theorem cmp_take {x l : List Nat} {b s : Nat} (h : x[b]? = some s) : (cmp x l).take (b + 1) = (cmp x l).take b ++ [l.getD s 0] := by
  rw [List.take_add_one]
  unfold cmp
  rw [List.getElem?_map, h]; rfl
theorem ref_at {ts : List Addr} {i : Nat} {v : V} (h : (ts.map V.ref)[i]? = some v) : ∃ t, ts[i]? = some t ∧ v = .ref t := by
  rw [List.getElem?_map] at h
  obtain ⟨x, h1, h2⟩ := Option.map_eq_some_iff.mp h
  exact ⟨x, h1, h2.symm⟩
theorem pair_to {α β : Type} {F : α → β → Prop} : ∀ {as : List α} {bs : List β} {i : Nat} {b : β}, Paired F as bs → bs[i]? = some b → ∃ a, as[i]? = some a ∧ F a b
  | _, _, _, _, .nil, e => by simp at e
  | _, _, 0, _, .cons h _, e => by simp at e; subst e; exact ⟨_, rfl, h⟩
  | _, _, i + 1, _, .cons _ t, e => by
    simp at e
    obtain ⟨a, h1, h2⟩ := pair_to t e
    exact ⟨a, by simpa using h1, h2⟩
def spMaps : Sp := fun vs H Q _ => ∃ p, vs = [.ref p] ∧ Bx H p ∧ ∀ v H', (v = .non ∨ ∃ n f, 1 ≤ n ∧ n ≤ 16 ∧ Asf n f ∧ RowsL (nw H H') v (tab n f)) → Bx H' p → Sx p H H' → Q v H'
abbrev nMaps : List Str := ["box", "size", "found", "turn", "one", "letters", "at", "letter", "rows", "reached", "state", "other"]
section
variable {P : Program} {w : World} {K : PySem.W.Frag} {mg : Str → Option Value} {base : Heap} {f g gn : Addr} {fd gd gnd : FuncData}
theorem scMaps : FnScope nMaps ["box"] (defScope sMaps) := ⟨rfl, rfl, rfl, by decide +kernel, rfl, by decide +kernel, by decide +kernel⟩
theorem ok_maps (F : Fun K "_law_maps" "_law_maps" sMaps f fd) (M : Mn mg) (G : FnOk P w K mg base CX0 1 g gd ["box", "size"] spTake) (bG : Binds K gd ["box", "size"] []) (kG : PySem.W.keepIn K (.ref g) = true) (mG : mg "_law_take" = some (.ref g)) :
    FnOk P w K mg base CX0 2 f fd ["box"] spMaps := by
  refine F.ok scMaps (fun vs H Q E h => ?_) (fun cdv A outer s H vs Q E hr h => ?_)
  · obtain ⟨p, rfl, _⟩ := h
    rfl
  obtain ⟨p, rfl, hb, q⟩ := h
  refine ⟨_, pss_cons (ps_set (i := 1) scMaps.nd rfl (Or.inr rfl) (pe_op op_add pe_int (pe_call G hr (by rfl) mG kG bG .nil pass0 (pa_cons (pv 0) (pa_cons pe_int pa_nil)))))
    (pss_cons (ps_set (i := 2) scMaps.nd rfl (Or.inr rfl) (pe_lst pa_nil))
    (pss_cons (ps_for PassesOwn.never rfl (pi_range1 (by rfl) M.range (pa_cons (pe_op op_add pe_int (pe_call G hr (by rfl) mG kG bG .nil pass0 (pa_cons (pv 0) (pa_cons pe_int pa_nil)))) pa_nil)) (pg_name (i := 3) scMaps.nd rfl (Or.inl rfl))
      (pss_cons (ps_set (i := 4) scMaps.nd rfl (Or.inr rfl) (pe_callTy call_tuple_of (by rfl) M.tuple (by decide +kernel) (pa_cons (pe_lc (own := [("state", 10)]) (g := gName 10) (tt := tYes) rfl scMaps.nd (pi_range1 (by rfl) M.range (pa_cons (pv 1) pa_nil))
        (blkOk_by (N := nMaps) (sc := defScope sMaps) (by decide +kernel)) (fun _ _ _ _ _ => pg_name (i := 10) scMaps.nd rfl (Or.inl rfl)) (fun _ _ _ _ _ => pts_nil)
        (fun _ _ _ _ _ => pe_call G hr (by rfl) mG kG bG .nil pass0 (pa_cons (pv 0) (pa_cons (pv 1) pa_nil)))) pa_nil)))
      (pss_one (ps_if (pt_cmpR (op_notInD (hu65 hr)) (pv 4) (pv 2) rfl) (pss_one (ps_expr (pe_bm PySem.F.plainAttrs_list PySem.F.slot_list_append PySem.F.type_list_append mt_append (pv 2) (pa_cons (pv 4) pa_nil)))) pss_nil))))
    (pss_cons (ps_par (i := 5) (j := 6) rfl scMaps.nd rfl rfl (by decide) rfl rfl (pa_cons (pe_callTy call_list_of (by rfl) M.list (by decide +kernel) (pa_cons (pv 2) pa_nil)) (pa_cons pe_int pa_nil)) (by rfl))
    (pss_cons (ps_while PassesOwn.never (pt_mo (pw_and (pt_cmpR op_lt (pv 6) (pe_callB call_len_seq (by rfl) M.len PySem.boot_len (pa_cons (pv 2) pa_nil)) (nomark _))
        (pw_and1 (pt_cmpR op_lt (pe_callB call_len_seq (by rfl) M.len PySem.boot_len (pa_cons (pv 2) pa_nil)) pe_int (nomark _)))).pt)
      (pss_cons (ps_for PassesOwn.never rfl (pi_list (pv 5)) (pg_name (i := 7) scMaps.nd rfl (Or.inr rfl))
        (pss_cons (ps_set (i := 4) scMaps.nd rfl (Or.inr rfl) (pe_callTy call_tuple_of (by rfl) M.tuple (by decide +kernel) (pa_cons (pe_lc (own := [("state", 10)]) (g := gName 10) (tt := tYes) rfl scMaps.nd (pi_tup (pe_ix ix_list (pv 2) (pv 6) (fun _ _ => rfl)))
          (blkOk_by (N := nMaps) (sc := defScope sMaps) (by decide +kernel)) (fun _ _ _ _ _ => pg_name (i := 10) scMaps.nd rfl (Or.inl rfl)) (fun _ _ _ _ _ => pts_nil)
          (fun _ _ _ _ _ => pe_ix (ixt (K := K) rfl) (pv 7) (pv 10) (fun _ _ => rfl))) pa_nil)))
        (pss_one (ps_if (pt_cmpR (op_notInD (hu65 hr)) (pv 4) (pv 2) rfl) (pss_one (ps_expr (pe_bm PySem.F.plainAttrs_list PySem.F.slot_list_append PySem.F.type_list_append mt_append (pv 2) (pa_cons (pv 4) pa_nil)))) pss_nil))))
      (pss_one (ps_aug (i := 6) scMaps.nd rfl (.inl rfl) pe_int ip_add))))
    (pss_cons (ps_if (pt_cmpR op_gt (pe_callB call_len_seq (by rfl) M.len PySem.boot_len (pa_cons (pv 2) pa_nil)) pe_int (nomark _)) (pss_one (ps_ret pe_non)) pss_nil)
    (pss_cons (ps_set (i := 8) scMaps.nd rfl (Or.inl rfl) (pe_lst pa_nil))
    (pss_cons (ps_for PassesOwn.never rfl (pi_list (pv 2)) (pg_name (i := 4) scMaps.nd rfl (Or.inr rfl))
      (pss_cons (ps_setLc (i := 9) (own := [("other", 11)]) (g := gName 11) (tt := tYes) rfl scMaps.nd rfl rfl (sw_true rfl rfl rfl (by decide +kernel)) (pi_list (pv 2))
        (blkOk_by (N := nMaps) (sc := defScope sMaps) (by decide +kernel)) (fun _ _ _ _ _ => pg_name (i := 11) scMaps.nd rfl (Or.inr rfl)) (fun _ _ _ _ _ => pts_nil)
        (fun _ _ _ _ _ => pe_callTy (T := "tuple") (ctuple (K := K) rfl) (by rfl) M.tuple (by decide +kernel) (pa_cons (pe_lc (own := [("state", 10)]) (g := gName 10) (tt := tYes) rfl scMaps.nd (pit (K := K) rfl (pv 4))
          (blkOk_by (N := nMaps) (sc := scReached) (by decide +kernel)) (fun _ _ _ _ _ => pg_name (i := 10) scMaps.nd rfl (Or.inl rfl)) (fun _ _ _ _ _ => pts_nil)
          (fun _ _ _ _ _ => pe_ix (ixt (K := K) rfl) (pv 11) (pv 10) (fun _ _ => rfl))) pa_nil)))
      (pss_one (ps_expr (pe_bm PySem.F.plainAttrs_list PySem.F.slot_list_append PySem.F.type_list_append mt_append (pv 8) (pa_cons (pe_lc (own := [("other", 11)]) (g := gName 11) (tt := tYes) rfl scMaps.nd (pi_list (pv 9))
        (blkOk_by (N := nMaps) (sc := defScope sMaps) (by decide +kernel)) (fun _ _ _ _ _ => pg_name (i := 11) scMaps.nd rfl (Or.inl rfl)) (fun _ _ _ _ _ => pts_nil)
        (fun _ _ _ _ _ => pe_idx (K := K) rfl (hu65 hr) (pv 2) (pa_cons (pv 11) pa_nil))) pa_nil))))))
    (pss_one (ps_ret (pv 8)))))))))), ?_⟩
  have z05 : 0 ≤ sizeLine := by decide
  refine ⟨_, rfl, p, 3, rfl, hb, by decide, by decide, fun r J0 ra rb b0 s0 => ?_⟩
  obtain ⟨r, rfl⟩ := Int.eq_ofNat_of_zero_le ra
  refine ⟨_, _, rfl, rfl, ?_⟩
  have ek : (2 : Int) + ((r : Nat) : Int) = ((2 + r : Nat) : Int) := by omega
  dsimp only
  rw [ek]
  have k2 : 2 ≤ 2 + r := by omega
  have k4 : 2 + r ≤ 4 := by omega
  generalize 2 + r = k at k2 k4 ⊢
  refine ⟨z05, fun fa hfa => ?_⟩
  have m0 : Mi H p fa (upd J0 fa (.lst [])) [] := Mi.start b0 s0 hfa
  refine ⟨_, rfl, p, 3, rfl, m0.bx, by decide, by decide, fun t J1 ta tb b1 s1 => ?_⟩
  obtain ⟨t, rfl⟩ := Int.eq_ofNat_of_zero_le ta
  refine ⟨_, _, rfl, rfl, (1 : Int) + ((t : Nat) : Int), rfl, by omega, by omega, ?_⟩
  refine for_range (lo := 0) (n := ((1 : Int) + ((t : Nat) : Int)).toNat) (fun i σ J => ∃ ms, Mi H p fa J ms ∧ ms.length ≤ i ∧ (0 < i → 0 < ms.length) ∧ (∀ m, m ∈ ms → Mp k m) ∧ ∃ x3 x4 x5 x6 x7 x8 x9 x10 x11, σ = [some (.ref p), some (.int k), some (.ref fa), x3, x4, x5, x6, x7, x8, x9, x10, x11])
    ⟨[], m0.took s1 b1, Nat.le_refl _, fun z => absurd z (Nat.lt_irrefl 0), (fun _ z => nomatch z), _, _, _, _, _, _, _, _, _, rfl⟩ ?_ ?_
  · rintro i _ J hi ⟨ms, mi, l1, l2, l3, x3, x4, x5, x6, x7, x8, x9, x10, x11, rfl⟩
    refine ⟨_, rfl, (k : Int), rfl, by omega, by omega, fun D hD => ?_⟩
    have nD : D ≠ p := mi.bx.ne hD
    refine lc_range (lo := 0) (n := (k : Int).toNat) (fun i G => Bx G p ∧ Sx p J G ∧ ∃ xs : List Nat, G D = some (.lst (nv xs)) ∧ xs.length = i ∧ ∀ x, x ∈ xs → x < k)
      ⟨mi.bx.new hD, Sx.new hD, [], upd_same, rfl, fun _ z => nomatch z⟩ ?_ ?_
    · rintro j G hj ⟨bG, sG, xs, eD, lx, hx⟩
      have hjk : j < k := by simpa using hj
      refine ⟨rfl, _, rfl, _, rfl, p, (k : Int), rfl, bG, by omega, by omega, fun r G1 ra rb b1 s1 => ?_⟩
      obtain ⟨r, rfl⟩ := Int.eq_ofNat_of_zero_le ra
      refine ⟨_, s1 D _ nD eD, by rw [nv_len, lx]; exact small1000 (by omega), b1.at_ne nD, fun b o hbp e => ?_, xs ++ [r], ?_, by simp [lx], fun x h => ?_⟩
      · rw [upd_ne (ne_of_none e hD)]; exact s1 b o hbp (sG b o hbp e)
      · rw [upd_same]; unfold nv; rw [List.map_append]; rfl
      · rcases List.mem_append.mp h with h | h
        · exact hx x h
        · rw [List.mem_singleton.mp h]; omega
    · rintro G ⟨bG, sG, xs, eD, lx, hx⟩
      have lk : xs.length = k := by rw [lx]; exact Int.toNat_natCast k
      have mG := mi.took sG bG
      refine ⟨D, _, rfl, .inl ⟨SqL.of eD, fun l hl => ?_⟩⟩
      have mG1 := mG.to (Same.new hl (.tup (nv xs)))
      have el : (upd G l (.tup (nv xs))) l = some (.tup (nv xs)) := upd_same
      refine ⟨_, rfl, _, rfl, tD xs, ms.map tD, dp_tup el, mG1.dp, tD_shaped xs, tDs_shaped ms, _, rfl, ?_⟩
      rw [tD_any]
      have i4 : i < 4 := by omega
      refine ite2 (fun c => ?_) (fun c => ?_)
      · obtain ⟨acc, ea, la, m2⟩ := mG1.add el
        refine ⟨_, rfl, Or.inl ⟨rfl, _, SqL.of ea⟩, _, rfl, fa, acc, _, rfl, rfl, ea, by rw [la]; exact small1000 (by omega), ms ++ [xs], m2, by rw [List.length_append, List.length_singleton]; omega, fun _ => by rw [List.length_append, List.length_singleton]; omega, fun m hm => ?_, _, _, _, _, _, _, _, _, _, rfl⟩
        rcases List.mem_append.mp hm with h | h
        · exact l3 m h
        · rw [List.mem_singleton.mp h]; exact ⟨lk, hx⟩
      · have hin : xs ∈ ms := by
          by_cases hm : xs ∈ ms
          · exact hm
          · rw [decide_eq_false hm] at c; exact absurd rfl c
        exact ⟨ms, mG1, by omega, fun _ => List.length_pos_of_mem hin, l3, _, _, _, _, _, _, _, _, _, rfl⟩
  rintro _ J ⟨ms, mi, l1, l2, l3, x3, x4, x5, x6, x7, x8, x9, x10, x11, rfl⟩
  have ln3 : ms.length ≤ 3 := by omega
  have ln0 : 0 < ms.length := l2 (by omega)
  obtain ⟨ts, ets, pts⟩ := id mi.fm
  refine ⟨_, rfl, fa, _, rfl, .inl (SqL.of ets), fun la hla => ?_⟩
  refine ⟨_, _, rfl, ?_⟩
  have naf : la ≠ fa := (ne_of_none ets hla).symm
  have sla := Same.new hla (.lst (ts.map V.ref))
  have lts : ts.length = ms.length := pts.length
  dsimp only [tSeq]
  change tWhile _ _ _ [some (.ref p), some (.int k), some (.ref fa), x3, x4, some (.ref la), some (.int ((0 : Nat) : Int)), x7, x8, x9, x10, x11] _
  refine while_by (fun σ G => ∃ fs i, Mi H p fa G fs ∧ Lt la ts ms G ∧ Srch k ms fs i ∧ i ≤ fs.length ∧ i ≤ 17 ∧ fs.length ≤ 19 ∧ ∃ x3 x4 x7 x8 x9 x10 x11, σ = [some (.ref p), some (.int k), some (.ref fa), x3, x4, some (.ref la), some (.int (i : Nat)), x7, x8, x9, x10, x11])
    (fun σ _ => match σ.getD 6 none with | some (.int i) => 20 - i.toNat | _ => 0)
    ⟨ms, 0, mi.to sla, ⟨upd_same, L2.Paired.mapP pts fun _ _ z => sla _ _ z⟩, ⟨l3, fun _ h => h, fun x h => .base h, fun j hj => absurd hj (Nat.not_lt_zero _)⟩, Nat.zero_le _, by omega, by omega, _, _, _, _, _, _, _, rfl⟩ ?_ ?_
  rotate_left
  · rintro σ H Q Q' k ⟨R, h, r⟩
    exact ⟨R, h, fun x H1 z => k _ _ (r x H1 z)⟩
  rintro _ G ⟨fs, i, mG, lt, S, h1, h2, h3, x3, x4, x7, x8, x9, x10, x11, rfl⟩
  obtain ⟨xs, hxs, lxs⟩ := mG.sq (K := K)
  refine ⟨fun b G1 => G = G1 ∧ b = (decide (i < fs.length) && decide (fs.length < 17)), ?_, ?_⟩
  · refine ⟨_, rfl, _, rfl, fa, xs, rfl, .inl hxs, _, _, rfl, rfl, _, rfl, ite2 (fun c => ⟨_, rfl, fa, xs, rfl, .inl hxs, _, _, rfl, rfl, _, rfl, rfl, ?_⟩) (fun c => ⟨rfl, ?_⟩)⟩
    · have c' : ((i : Nat) : Int) < ((xs.length : Nat) : Int) := of_decide_eq_true c
      rw [decide_eq_true (show i < fs.length by omega), Bool.true_and, lxs]
      rw [Bool.eq_iff_iff, decide_eq_true_iff, decide_eq_true_iff]
      omega
    · have c' : ¬ ((i : Nat) : Int) < ((xs.length : Nat) : Int) := of_decide_eq_false (Bool.eq_false_iff.mpr c)
      rw [decide_eq_false (show ¬ i < fs.length by omega), Bool.false_and]
  rintro _ _ ⟨rfl, rfl⟩
  refine ite2 (fun c => ?_) (fun c => ?_)
  · obtain ⟨ca, cb⟩ := Bool.and_eq_true_iff.mp c
    have hi : i < fs.length := of_decide_eq_true ca
    have h17 : fs.length < 17 := of_decide_eq_true cb
    obtain ⟨x, hx⟩ : ∃ x, fs[i]? = some x := ⟨_, List.getElem?_eq_getElem hi⟩
    have xm : x ∈ fs := List.mem_of_getElem? hx
    have xk : Mp k x := (S.gen x xm).mp S.lm
    refine ⟨_, rfl, la, rfl, ⟨_, SqL.of lt.1⟩, ?_⟩
    refine for_it (walk_list (xs := ts.map V.ref)) (fun j σ G => ∃ gs, Mi H p fa G gs ∧ Lt la ts ms G ∧ Srch k ms gs i ∧ i < gs.length ∧ gs.length ≤ fs.length + j ∧ gs[i]? = some x ∧ (∀ l, l ∈ ms.take j → cmp x l ∈ gs) ∧
        ∃ x3 x4 x7 x8 x9 x10 x11, σ = [some (.ref p), some (.int k), some (.ref fa), x3, x4, some (.ref la), some (.int (i : Nat)), x7, x8, x9, x10, x11])
      ⟨fs, mG, lt, S, hi, Nat.le_refl _, hx, (fun _ z => by rw [List.take_zero] at z; cases z), _, _, _, _, _, _, _, rfl⟩ (fun _ _ _ _ ⟨_, _, z, _⟩ => SqL.of z.1) ?_ ?_
    · rintro j y _ G1 G2 hj ⟨gs, mG, lt, S, hi, hl, hx, hd, x3, x4, x7, x8, x9, x10, x11, rfl⟩ ⟨rfl, hy⟩
      have hj3 : j < ms.length := by rw [List.length_map, lts] at hj; exact hj
      obtain ⟨tl, htl, rfl⟩ := ref_at hy
      obtain ⟨l, hl1, el⟩ := pair_at lt.2 htl
      have lm : l ∈ ms := List.mem_of_getElem? hl1
      have lk : Mp k l := S.lm l lm
      obtain ⟨fts, efts, pf⟩ := id mG.fm
      obtain ⟨ti, hti, et⟩ := pair_to pf hx
      have wk : (nv x).length = k := by rw [nv_len]; exact xk.1
      refine ⟨_, rfl, _, rfl, fa, _, _, _, rfl, rfl, SqL.of efts, at_of (j := i) rfl (by rw [List.getElem?_map, hti]; rfl), ti, rfl, ⟨_, SqT.of et⟩, fun D hD => ?_⟩
      refine lc_it (walk_tup (xs := nv x)) (fun b G => Same G2 G ∧ G D = some (.lst (nv ((cmp x l).take b)))) ⟨Same.new hD _, upd_same⟩ (fun b G _ z => SqT.of (z.1 _ _ et)) ?_ ?_
      · rintro b v G3 G4 hb ⟨sG, eD⟩ ⟨rfl, hv⟩
        rw [wk] at hb
        obtain ⟨s, hs, rfl⟩ := nv_at hv
        have sk : s < k := xk.2 s (List.mem_of_getElem? hs)
        refine ⟨rfl, _, rfl, _, rfl, tl, _, _, _, rfl, rfl, SqT.of (sG _ _ el), at_of (j := s) rfl (nv_get lk sk), _, eD, ?_, fun c o ec => by rw [upd_ne (ne_of_none ec hD)]; exact sG c o ec, ?_⟩
        · rw [nv_len, List.length_take]; exact small1000 (by omega)
        · rw [upd_same, cmp_take hs]; unfold nv; rw [List.map_append]; rfl
      · rintro G3 ⟨sG, eD⟩
        rw [List.take_of_length_le (by rw [wk]; have := (cmp_mp xk lk).1; omega)] at eD
        refine ⟨D, _, rfl, .inl ⟨SqL.of eD, fun q hq => ?_⟩⟩
        have s3 : Same G2 (upd G3 q (.tup (nv (cmp x l)))) := sG.trans (Same.new hq _)
        have mG1 := mG.to s3
        have lt1 := lt.to s3
        have eq : (upd G3 q (.tup (nv (cmp x l)))) q = some (.tup (nv (cmp x l))) := upd_same
        have tk : ms.take (j + 1) = ms.take j ++ [l] := by rw [List.take_add_one, hl1]; rfl
        refine ⟨_, rfl, _, rfl, tD (cmp x l), gs.map tD, dp_tup eq, mG1.dp, tD_shaped _, tDs_shaped gs, _, rfl, ?_⟩
        rw [tD_any]
        refine ite2 (fun c => ?_) (fun c => ?_)
        · obtain ⟨acc, ea, lacc, m2⟩ := mG1.add eq
          refine ⟨_, rfl, Or.inl ⟨rfl, _, SqL.of ea⟩, _, rfl, fa, acc, _, rfl, rfl, ea, by rw [lacc]; exact small1000 (by omega), gs ++ [cmp x l], m2, lt1.upd naf ea, S.more (.step (S.gen x (List.mem_of_getElem? hx)) lm) (by omega), by rw [List.length_append, List.length_singleton]; omega,
            by rw [List.length_append, List.length_singleton]; omega, by rw [List.getElem?_append_left hi]; exact hx, fun l' hl' => ?_, _, _, _, _, _, _, _, rfl⟩
          rw [tk] at hl'
          rcases List.mem_append.mp hl' with h | h
          · exact List.mem_append_left _ (hd l' h)
          · rw [List.mem_singleton.mp h]; exact List.mem_append_right _ (List.mem_singleton.mpr rfl)
        · have hin : cmp x l ∈ gs := by
            by_cases hm : cmp x l ∈ gs
            · exact hm
            · rw [decide_eq_false hm] at c; exact absurd rfl c
          refine ⟨gs, mG1, lt1, S, hi, by omega, hx, fun l' hl' => ?_, _, _, _, _, _, _, _, rfl⟩
          rw [tk] at hl'
          rcases List.mem_append.mp hl' with h | h
          · exact hd l' h
          · rw [List.mem_singleton.mp h]; exact hin
    · rintro _ G1 ⟨gs, mG, lt, S', hi, hl, hx', hd, x3, x4, x7, x8, x9, x10, x11, rfl⟩
      rw [List.length_map, lts] at hl hd
      rw [List.take_of_length_le (Nat.le_refl _)] at hd
      refine ⟨_, rfl, _, _, rfl, rfl, ⟨gs, i + 1, mG, lt, ⟨S'.lm, S'.sub, S'.gen, fun j hj z hz l hl => ?_⟩, hi, by omega, by omega, _, _, _, _, _, _, _, rfl⟩, ?_⟩
      · by_cases e : j = i
        · subst e
          rw [hx'] at hz
          cases hz
          exact hd l hl
        · exact S'.done j (by omega) z hz l hl
      · show 20 - (((i : Nat) : Int) + 1).toNat < 20 - ((i : Nat) : Int).toNat
        omega
  · refine ⟨_, rfl, fa, xs, rfl, .inl hxs, _, _, rfl, rfl, _, rfl, ite2 (fun d => ?_) (fun d => ?_)⟩
    · exact q _ _ (.inl rfl) mG.bx mG.sx
    have d' : ¬ (16 : Int) < ((xs.length : Nat) : Int) := of_decide_eq_false (Bool.eq_false_iff.mpr d)
    have n16 : fs.length ≤ 16 := by omega
    have hi : fs.length ≤ i := by
      by_cases z : i < fs.length
      · exact absurd (by rw [decide_eq_true z, decide_eq_true (show fs.length < 17 by omega)]; rfl) c
      · omega
    have C : Cl k fs := S.cl hi
    have n1 : 1 ≤ fs.length := by
      obtain ⟨m, hm⟩ : ∃ m, m ∈ ms := ⟨_, List.getElem_mem ln0⟩
      exact List.length_pos_of_mem (S.sub m hm)
    obtain ⟨fts, efts, pf⟩ := id mG.fm
    have lf : fts.length = fs.length := pf.length
    refine ⟨z05, fun ra hra => ?_⟩
    refine ⟨_, rfl, fa, rfl, ⟨_, SqL.of (Same.new hra _ _ _ efts)⟩, ?_⟩
    refine for_it (walk_list (xs := fts.map V.ref)) (fun a σ J => Part G J ra (rowsTo fs.length (fmp fs) a) ∧ ∃ x3 x4 x5 x6 x7 x9 x10 x11, σ = [some (.ref p), some (.int k), some (.ref fa), x3, x4, x5, x6, x7, some (.ref ra), x9, x10, x11])
      ⟨Part.start (Same.refl G) hra, _, _, _, _, _, _, _, _, rfl⟩ (fun _ _ _ _ z => SqL.of (z.1.same _ _ efts)) ?_ ?_
    · rintro a y _ J1 J2 ha ⟨pa, x3, x4, x5, x6, x7, x9, x10, x11, rfl⟩ ⟨rfl, hy⟩
      have ha' : a < fs.length := by rw [List.length_map, lf] at ha; exact ha
      obtain ⟨ta, hta, rfl⟩ := ref_at hy
      obtain ⟨x, hx, ex⟩ := pair_at pf hta
      have xk : Mp k x := C.mp x (List.mem_of_getElem? hx)
      have wk : (nv x).length = k := by rw [nv_len]; exact xk.1
      have sGJ := pa.same
      refine ⟨_, rfl, fa, rfl, ⟨_, SqL.of (sGJ _ _ efts)⟩, fun D hD => ?_⟩
      refine lc_it (walk_list (xs := fts.map V.ref)) (fun b G3 => Same J2 G3 ∧ ∃ rts : List Addr, G3 D = some (.lst (rts.map V.ref)) ∧ rts.length = b ∧ Paired (fun t m => G3 t = some (.tup (nv m))) rts ((fs.take b).map (cmp x)))
        ⟨Same.new hD _, [], upd_same, rfl, .nil⟩ (fun b G3 _ z => SqL.of (z.1 _ _ (sGJ _ _ efts))) ?_ ?_
      · rintro b z G3 G4 hb ⟨sG, rts, eD, lr, pr⟩ ⟨rfl, hz⟩
        obtain ⟨tb, htb, rfl⟩ := ref_at hz
        obtain ⟨y, hy, ey⟩ := pair_at pf htb
        have yk : Mp k y := C.mp y (List.mem_of_getElem? hy)
        have hb' : b < fs.length := by rw [List.length_map, lf] at hb; exact hb
        have tk : fs.take (b + 1) = fs.take b ++ [y] := by rw [List.take_add_one, hy]; rfl
        refine ⟨rfl, _, rfl, ta, rfl, ⟨_, SqT.of (sG _ _ (sGJ _ _ ex))⟩, fun D2 hD2 => ?_⟩
        have nD : D ≠ D2 := ne_of_none eD hD2
        refine lc_it (walk_tup (xs := nv x)) (fun c G5 => Same G4 G5 ∧ G5 D2 = some (.lst (nv ((cmp x y).take c)))) ⟨Same.new hD2 _, upd_same⟩ (fun c G5 _ z => SqT.of (z.1 _ _ (sG _ _ (sGJ _ _ ex)))) ?_ ?_
        · rintro c v G5 G6 hc ⟨sG5, eD2⟩ ⟨rfl, hv⟩
          rw [wk] at hc
          obtain ⟨s, hs, rfl⟩ := nv_at hv
          have sk : s < k := xk.2 s (List.mem_of_getElem? hs)
          refine ⟨rfl, _, rfl, _, rfl, tb, _, _, _, rfl, rfl, SqT.of (sG5 _ _ (sG _ _ (sGJ _ _ ey))), at_of (j := s) rfl (nv_get yk sk), _, eD2, ?_, fun c o ec => by rw [upd_ne (ne_of_none ec hD2)]; exact sG5 c o ec, ?_⟩
          · rw [nv_len, List.length_take]; exact small1000 (by omega)
          · rw [upd_same, cmp_take hs]; unfold nv; rw [List.map_append]; rfl
        · rintro G5 ⟨sG5, eD2⟩
          rw [List.take_of_length_le (by rw [wk]; have := (cmp_mp xk yk).1; omega)] at eD2
          refine ⟨D2, _, rfl, .inl ⟨SqL.of eD2, fun t ht => ?_⟩⟩
          have s6 : Same G4 (upd G5 t (.tup (nv (cmp x y)))) := sG5.trans (Same.new ht _)
          have eD6 := s6 _ _ eD
          have nt : t ≠ D := (ne_of_none (sG5 _ _ eD) ht).symm
          have nDt : ∀ {c : Addr} {vs : List V}, G4 c = some (.tup vs) → c ≠ D := fun {c vs} z w => by rw [w, eD] at z; cases z
          refine ⟨_, eD6, by rw [List.length_map, lr]; exact small1000 (by omega), fun c o ec => by rw [upd_ne (ne_of_none ec hD)]; exact s6 _ _ (sG c o ec), rts ++ [t], by rw [upd_same, List.map_append]; rfl, by simp [lr], ?_⟩
          rw [tk, List.map_append]
          exact pair_app (L2.Paired.mapP pr fun c m z => by rw [upd_ne (nDt z)]; exact s6 _ _ z) (by rw [upd_ne nt, upd_same])
      · rintro G3 ⟨sG, rts, eD, lr, pr⟩
        rw [List.length_map, lf] at lr pr
        rw [List.take_of_length_le (Nat.le_refl _)] at pr
        have pa3 := pa.to sG
        obtain ⟨rs0, er, _⟩ := id pa3.at_
        refine ⟨_, rfl, Or.inl ⟨rfl, _, SqL.of er⟩, _, rfl, D, rfl, ⟨_, SqL.of eD⟩, fun D3 hD3 => ?_⟩
        refine lc_it (walk_list (xs := rts.map V.ref)) (fun b G5 => Same G3 G5 ∧ G5 D3 = some (.lst ((rowTo (fmp fs) a b).map V.int))) ⟨Same.new hD3 _, upd_same⟩ (fun b G5 _ z => SqL.of (z.1 _ _ eD)) ?_ ?_
        · rintro b z G5 G6 hb ⟨sG5, eD3⟩ ⟨rfl, hz⟩
          have hb' : b < fs.length := by rw [List.length_map, lr] at hb; exact hb
          obtain ⟨tz, htz, rfl⟩ := ref_at hz
          obtain ⟨m, hm, em⟩ := pair_at pr htz
          have em' : m = cmp (fs.getD a []) (fs.getD b []) := by
            rw [List.getElem?_map, List.getElem?_eq_getElem hb'] at hm
            rw [List.getD_eq_getElem?_getD, hx, List.getD_eq_getElem?_getD, List.getElem?_eq_getElem hb']
            exact (Option.some.inj hm).symm
          have at1 := C.at_ ha' hb'
          rw [← em'] at at1
          refine ⟨rfl, _, rfl, Or.inl ⟨rfl, _, SqL.of (sG5 _ _ (sG _ _ (sGJ _ _ efts)))⟩, _, rfl, fa, .ref tz, tD m, fs.map tD, fmp fs a b, tD m, rfl, rfl, .lst (SqL.of (sG5 _ _ (sG _ _ (sGJ _ _ efts)))) (dp_tups (L2.Paired.mapP pf fun _ _ w => sG5 _ _ (sG _ _ (sGJ _ _ w)))),
            dp_tup (sG5 _ _ em), tDs_shaped fs, tD_shaped m, by rw [List.getElem?_map, at1.2]; rfl, by rw [tD_eqv]; exact decide_eq_true rfl, fun j z' hj hz' => ?_, _, eD3, by rw [rowTo_len]; exact small1000 (by omega), fun c o ec => by rw [upd_ne (ne_of_none ec hD3)]; exact sG5 c o ec, ?_⟩
          · rw [List.getElem?_map] at hz'
            obtain ⟨w, hw, rfl⟩ := Option.map_eq_some_iff.mp hz'
            rw [tD_eqv]
            refine decide_eq_false (idx_ahead (ms := fs) (m := m) ?_ hw)
            unfold fmp at hj
            rw [← em'] at hj
            exact hj
          · rw [upd_same, rowTo_next, List.map_append]; rfl
        · rintro G5 ⟨sG5, eD3⟩
          rw [List.length_map, lr] at eD3
          obtain ⟨acc, ea, lacc, p1⟩ := pa.add (q := D3) (sG.trans sG5) (sG.free hD3) eD3
          refine ⟨ra, acc, _, rfl, rfl, ea, by rw [lacc, rowsTo_len]; exact small1000 (by omega), ?_, _, _, _, _, _, _, _, _, rfl⟩
          rw [rowsTo_next]
          exact p1
    · rintro _ J1 ⟨pa, x3, x4, x5, x6, x7, x9, x10, x11, rfl⟩
      have pa' : Part G J1 ra (tab fs.length (fmp fs)) := by
        rw [List.length_map, lf] at pa
        exact pa
      exact ⟨_, rfl, q _ _ (.inr ⟨_, _, n1, n16, asf_maps C, pa'.fin.same (nw_back mG.sx mG.bx)⟩) (mG.bx.same pa'.same) (mG.sx.trans (Sx.of pa'.same))⟩
end
end L

set_option Elab.async false
set_option linter.all false
set_option maxRecDepth 100000
set_option maxHeartbeats 4000000
namespace L
open PySem L2 KX
abbrev sRows : Stmt := top 33
theorem erase_pm {α : Type} : ∀ {l : List α} {i : Nat} {y : α}, l[i]? = some y → (y :: l.eraseIdx i).Perm l
  | [], _, _, h => by simp at h
  | x :: l, 0, y, h => by simp at h; subst h; exact List.Perm.refl _
  | x :: l, i + 1, y, h => (List.Perm.swap x y _).trans ((erase_pm (l := l) (i := i) (by simpa using h)).cons x)
theorem erase_nv : ∀ {m : List Nat} {i : Nat}, (nv m).eraseIdx i = nv (m.eraseIdx i)
  | [], _ => rfl
  | x :: m, 0 => rfl
  | x :: m, i + 1 => congrArg (V.int ((x : Nat) : Int) :: ·) (erase_nv (m := m) (i := i))
theorem idx_ahead1 {ms : List Nat} {m : Nat} : ∀ {j : Nat} {z : Nat}, j < ms.idxOf m → ms[j]? = some z → z ≠ m := by
  induction ms with
  | nil => intro j z h e; cases e
  | cons a ms ih =>
    intro j z h e hz
    subst hz
    rw [List.idxOf_cons] at h
    by_cases ha : a = z
    · subst ha
      rw [show (a == a) = true from beq_self_eq_true a] at h
      exact absurd h (Nat.not_lt_zero _)
    · rw [show (a == z) = false from beq_eq_false_iff_ne.mpr ha] at h
      cases j with
      | zero => exact ha (Option.some.inj e)
      | succ j =>
        have h' : j + 1 < ms.idxOf z + 1 := h
        exact ih (j := j) (by omega) e rfl
section
variable {X : Cx} {K : PySem.W.Frag}
/-- a statement by what is known behind it -/
theorem ps_cut {st : Stmt} {t : TS} (h : PS X st t) : PS X st (fun D σ H => ∃ R : L2.St → Hp → Prop, t { D with nx := R } σ H ∧ ∀ σ' H', R σ' H' → D.nx σ' H') := by
  refine ⟨fun pins s σ H D I ⟨R, h1, k⟩ => thn (h.run pins s σ H { D with nx := R } I h1) fun f s1 q => ?_⟩
  cases f with
  | next =>
    obtain ⟨σ', H', I', q⟩ := q
    exact ⟨σ', H', I', k _ _ q⟩
  | ret v => exact q
  | brk => exact q
  | cont => exact q
theorem pil (hK : X.K = K) {tg l : Expr} {tl : TE} (h : PE X l tl) : PI X tg l (iList K tl) := by subst hK; exact pi_list h
theorem pe_bK (hK : X.K = K) {o e : Expr} {to : TE} {t : TA} {r : V → List V → Hp → VK → Prop} {name : Str} {apos cpos : Pos} (h : PE X (.Call (.Attribute o name apos) [e] [] cpos) (tBM X.K "list" r to t)) :
    PE X (.Call (.Attribute o name apos) [e] [] cpos) (tBM K "list" r to t) := by subst hK; exact h
theorem mt_idx1 (hK : X.K = K) : MtR X "list.index" (rIndex K) := by subst hK; exact mt_index
end
def scOut : Scope := { kind := .function, names := [(Str.ofString ".0", .local), (Str.ofString "a", .cell), (Str.ofString "order", .cell), (Str.ofString "rows", .cell)], isGenerator := false, isCoroutine := false }
/-- the rows so far: a new table at v -/
structure RwAt (H : Hp) (p : Addr) (J : Hp) (v : V) (n : Nat) (f : Nat → Nat → Nat) : Prop where
  bx : Bx J p
  sx : Sx p H J
  n1 : 1 ≤ n
  n16 : n ≤ 16
  as : Asf n f
  rows : RowsL (nw H J) v (tab n f)
theorem nw_to {H J : Hp} : Same (nw H J) J := fun c o h => (nw_some h).2
theorem RwAt.took {H J G : Hp} {p : Addr} {v : V} {n : Nat} {f : Nat → Nat → Nat} (h : RwAt H p J v n f) (hb : Bx H p) (s : Sx p J G) (b : Bx G p) : RwAt H p G v n f := ⟨b, h.sx.trans s, h.n1, h.n16, h.as, h.rows.same (nw_step hb s)⟩
theorem RwAt.to {H J G : Hp} {p : Addr} {v : V} {n : Nat} {f : Nat → Nat → Nat} (h : RwAt H p J v n f) (hb : Bx H p) (s : Same J G) : RwAt H p G v n f := h.took hb (Sx.of s) (h.bx.same s)
theorem RwAt.of {H J G : Hp} {p : Addr} {v : V} {n : Nat} {f : Nat → Nat → Nat} (b : Bx J p) (sx : Sx p H J) (s : Same J G) (n1 : 1 ≤ n) (n16 : n ≤ 16) (as : Asf n f) (r : RowsL (nw J G) v (tab n f)) : RwAt H p G v n f :=
  ⟨b.same s, sx.trans (Sx.of s), n1, n16, as, r.same (nw_back sx b)⟩
theorem RwAt.ofS {H J G : Hp} {p : Addr} {v : V} {n : Nat} {f : Nat → Nat → Nat} (b : Bx J p) (sx : Sx p H J) (s : Sx p J G) (bG : Bx G p) (n1 : 1 ≤ n) (n16 : n ≤ 16) (as : Asf n f) (r : RowsL (nw J G) v (tab n f)) : RwAt H p G v n f :=
  ⟨bG, sx.trans s, n1, n16, as, r.same (nw_back sx b)⟩
/-- the rows as a list -/
theorem RwAt.lst {K : PySem.W.Frag} {H J : Hp} {p : Addr} {v : V} {n : Nat} {f : Nat → Nat → Nat} (h : RwAt H p J v n f) : ∃ a xs, v = .ref a ∧ SqL K J a xs ∧ xs.length = n :=
  let ⟨a, rs, e, ea, pr⟩ := h.rows
  ⟨a, _, e, SqL.of (nw_to _ _ ea), by rw [List.length_map, pr.length, tab_len]⟩
theorem RwAt.ne {H J : Hp} {p : Addr} {v : V} {n : Nat} {f : Nat → Nat → Nat} (h : RwAt H p J v n f) : v ≠ .non := fun e => by
  obtain ⟨a, rs, e', _⟩ := h.rows
  rw [e'] at e; cases e
theorem rg_nv (n : Nat) : rgV 0 (n : Int) = nv (List.range n) := by
  unfold rgV nv
  rw [Int.sub_zero, Int.toNat_natCast]
  exact List.map_congr_left fun x _ => by rw [Int.zero_add]
def spRows : Sp := fun vs H Q _ => ∃ p, vs = [.ref p] ∧ Bx H p ∧ ∀ v H' n f, RwAt H p H' v n f → Q v H'
abbrev nRows : List Str := ["box", "kind", "rows", "more", "other", "left", "order", "k", "b", "a"]
section
variable {P : Program} {w : World} {K : PySem.W.Frag} {mg : Str → Option Value} {base : Heap} {f g gn : Addr} {fd gd gnd : FuncData} {g1 g2 g3 g4 g5 g6 : Addr} {d1 d2 d3 d4 d5 d6 : FuncData}
theorem scRows : FnScope nRows ["box"] (defScope sRows) := ⟨rfl, rfl, rfl, by decide +kernel, rfl, by decide +kernel, by decide +kernel⟩
theorem ok_rows (F : Fun K "_law_rows" "_law_rows" sRows f fd) (M : Mn mg) (G : FnOk P w K mg base CX0 1 g gd ["box", "size"] spTake) (bG : Binds K gd ["box", "size"] []) (kG : PySem.W.keepIn K (.ref g) = true) (mG : mg "_law_take" = some (.ref g))
    (G1 : FnOk P w K mg base CX0 2 g1 d1 ["box"] spMaps) (b1 : Binds K d1 ["box"] []) (k1 : PySem.W.keepIn K (.ref g1) = true) (m1 : mg "_law_maps" = some (.ref g1))
    (G2 : FnOk P w K mg base CX0 2 g2 d2 ["box"] spGrid) (b2 : Binds K d2 ["box"] []) (k2 : PySem.W.keepIn K (.ref g2) = true) (m2 : mg "_law_grid" = some (.ref g2))
    (G3 : FnOk P w K mg base CX0 1 g3 d3 [] spWords) (b3 : Binds K d3 [] []) (k3 : PySem.W.keepIn K (.ref g3) = true) (m3 : mg "_law_words" = some (.ref g3))
    (G4 : FnOk P w K mg base CX0 1 g4 d4 ["kind", "n"] spPlain) (b4 : Binds K d4 ["kind", "n"] []) (k4 : PySem.W.keepIn K (.ref g4) = true) (m4 : mg "_law_plain" = some (.ref g4))
    (G5 : FnOk P w K mg base CX0 1 g5 d5 ["rows", "kind"] spExt) (b5 : Binds K d5 ["rows", "kind"] []) (k5 : PySem.W.keepIn K (.ref g5) = true) (m5 : mg "_law_extended" = some (.ref g5))
    (G6 : FnOk P w K mg base CX0 1 g6 d6 ["one", "other"] spPairs) (b6 : Binds K d6 ["one", "other"] []) (k6 : PySem.W.keepIn K (.ref g6) = true) (m6 : mg "_law_pairs" = some (.ref g6)) :
    FnOk P w K mg base CX0 3 f fd ["box"] spRows := by
  refine F.ok scRows (fun vs H Q E h => ?_) (fun cdv A outer s H vs Q E hr2 h => ?_)
  · obtain ⟨p, rfl, _⟩ := h
    rfl
  obtain ⟨p, rfl, hb, q⟩ := h
  have hr : Room 1 _ := hr2.mono (by decide)
  refine ⟨_, pss_cons (ps_asg (pe_tup (pa_cons (pe_call G hr (by rfl) mG kG bG .nil pass0 (pa_cons (pv 0) (pa_cons pe_int pa_nil))) (pa_cons pe_non pa_nil)))
      (pg_tup rfl (pgs_cons (pg_name (i := 1) scRows.nd rfl (Or.inl rfl)) (pgs_cons (pg_name (i := 2) scRows.nd rfl (Or.inr rfl)) pgs_nil))))
    (pss_cons (ps_cut (ps_if (pt_cmpR op_lt (pv 1) pe_int (nomark _)) (pss_one (ps_set (i := 2) scRows.nd rfl (Or.inr rfl) (pe_call G1 hr2 (by rfl) m1 k1 b1 .nil pass0 (pa_cons (pv 0) pa_nil))))
      (pss_one (ps_if (pt_cmpR op_eq (pv 1) pe_int (nomark _)) (pss_one (ps_set (i := 2) scRows.nd rfl (Or.inr rfl) (pe_call G2 hr2 (by rfl) m2 k2 b2 .nil pass0 (pa_cons (pv 0) pa_nil))))
        (pss_one (ps_if (pt_cmpR op_eq (pv 1) pe_int (nomark _)) (pss_one (ps_set (i := 2) scRows.nd rfl (Or.inr rfl) (pe_call0 G3 hr (by rfl) m3 k3 b3 .nil pass0))) pss_nil))))))
    (pss_cons (ps_cut (ps_if (pt_cmp (pc_isN (pv 2))) (pss_cons (ps_set (i := 1) scRows.nd rfl (Or.inl rfl) (pe_call G hr (by rfl) mG kG bG .nil pass0 (pa_cons (pv 0) (pa_cons pe_int pa_nil))))
      (pss_one (ps_set (i := 2) scRows.nd rfl (Or.inr rfl) (pe_call G4 hr (by rfl) m4 k4 b4 .nil pass0 (pa_cons (pv 1) (pa_cons (pe_op op_add pe_int (pe_call G hr (by rfl) mG kG bG .nil pass0 (pa_cons (pv 0) (pa_cons
        (pe_ix ix_list (pe_lst (pa_cons pe_int (pa_cons pe_int (pa_cons pe_int pa_nil)))) (pe_call G hr (by rfl) mG kG bG .nil pass0 (pa_cons (pv 0) (pa_cons pe_int pa_nil))) (fun _ _ => rfl)) pa_nil)))) pa_nil)))))) pss_nil))
    (pss_cons (ps_set (i := 3) scRows.nd rfl (Or.inl rfl) (pe_call G hr (by rfl) mG kG bG .nil pass0 (pa_cons (pv 0) (pa_cons pe_int pa_nil))))
    (pss_cons (ps_cut (ps_if (pt_mo (pw_and (pt_cmpR op_lt (pv 3) pe_int (nomark _)) (pw_and1 (pt_cmpR op_lt (pe_callB call_len_seq (by rfl) M.len PySem.boot_len (pa_cons (pv 2) pa_nil)) pe_int (nomark _)))).pt)
      (pss_one (ps_set (i := 2) scRows.nd rfl (Or.inr rfl) (pe_call G5 hr (by rfl) m5 k5 b5 .nil pass0 (pa_cons (pv 2) (pa_cons (pv 3) pa_nil))))) pss_nil))
    (pss_cons (ps_set (i := 4) scRows.nd rfl (Or.inl rfl) (pe_call G4 hr (by rfl) m4 k4 b4 .nil pass0 (pa_cons (pe_call G hr (by rfl) mG kG bG .nil pass0 (pa_cons (pv 0) (pa_cons pe_int pa_nil)))
      (pa_cons (pe_op op_add pe_int (pe_call G hr (by rfl) mG kG bG .nil pass0 (pa_cons (pv 0) (pa_cons pe_int pa_nil)))) pa_nil))))
    (pss_cons (ps_cut (ps_if (pw_and (pt_cmpR op_eq (pe_call G hr (by rfl) mG kG bG .nil pass0 (pa_cons (pv 0) (pa_cons pe_int pa_nil))) pe_int (nomark _))
        (pw_and1 (pt_cmpR op_le (pe_op op_mul (pe_callB call_len_seq (by rfl) M.len PySem.boot_len (pa_cons (pv 2) pa_nil)) (pe_callB call_len_seq (by rfl) M.len PySem.boot_len (pa_cons (pv 4) pa_nil))) pe_int (nomark _)))).pt
      (pss_one (ps_set (i := 2) scRows.nd rfl (Or.inr rfl) (pe_call G6 hr (by rfl) m6 k6 b6 .nil pass0 (pa_cons (pv 2) (pa_cons (pv 4) pa_nil))))) pss_nil))
    (pss_cons (ps_set (i := 5) scRows.nd rfl (Or.inr rfl) (pe_listRg rfl (by rfl) M.list (prg_1 (by rfl) M.range (pe_callB call_len_seq (by rfl) M.len PySem.boot_len (pa_cons (pv 2) pa_nil)))))
    (pss_cons (ps_set (i := 6) scRows.nd rfl (Or.inr rfl) (pe_lc (own := [("k", 7)]) (g := gName 7) (tt := tYes) rfl scRows.nd (pi_range1 (by rfl) M.range (pa_cons (pe_callB call_len_seq (by rfl) M.len PySem.boot_len (pa_cons (pv 2) pa_nil)) pa_nil))
      (blkOk_by (N := nRows) (sc := defScope sRows) (by decide +kernel)) (fun _ _ _ _ _ => pg_name (i := 7) scRows.nd rfl (Or.inl rfl)) (fun _ _ _ _ _ => pts_nil)
      (fun _ _ _ _ _ => pe_bK (K := K) rfl (pe_bm PySem.F.plainAttrs_list PySem.F.slot_list_pop PySem.F.type_list_pop mt_popAt (pv 5) (pa_cons (pe_call G hr (by rfl) mG kG bG .nil pass0 (pa_cons (pv 0)
        (pa_cons (pe_callB (lenl (K := K) rfl) (by rfl) M.len PySem.boot_len (pa_cons (pv 5) pa_nil)) pa_nil))) pa_nil)))))
    (pss_one (ps_ret (pe_lc (own := [("a", 9)]) (g := gName 9) (tt := tYes) rfl scRows.nd (pi_list (pv 6))
      (blkOk_by (N := nRows) (sc := defScope sRows) (by decide +kernel)) (fun _ _ _ _ _ => pg_name (i := 9) scRows.nd rfl (Or.inr rfl)) (fun _ _ _ _ _ => pts_nil)
      (fun _ _ _ _ _ => pe_lc (own := [("b", 8)]) (g := gName 8) (tt := tYes) rfl scRows.nd (pil (K := K) rfl (pv 6))
        (blkOk_by (N := nRows) (sc := scOut) (by decide +kernel)) (fun _ _ _ _ _ => pg_name (i := 8) scRows.nd rfl (Or.inl rfl)) (fun _ _ _ _ _ => pts_nil)
        (fun _ _ _ _ _ => pe_bK (K := K) rfl (pe_bm PySem.F.plainAttrs_list PySem.F.slot_list_index PySem.F.type_list_index (mt_idx1 (K := K) rfl) (pv 6)
          (pa_cons (pe_ix (ixl (K := K) rfl) (pe_ix (ixl (K := K) rfl) (pv 2) (pv 9) (fun _ _ => rfl)) (pv 8) (fun _ _ => rfl)) pa_nil))))))))))))))), ?_⟩
  refine ⟨_, rfl, p, 10, rfl, hb, by decide, by decide, fun r J ra rb bJ sJ => ?_⟩
  refine ⟨(by show 2 ≤ sizeLine; decide), fun t ht => ⟨t, _, rfl, SqT.of upd_same, rfl, _, _, rfl, _, _, rfl, rfl, ?_⟩⟩
  have bx1 : Bx (upd J t (.tup [.int r, .non])) p := bJ.new ht
  have sx1 : Sx p H (upd J t (.tup [.int r, .non])) := sJ.trans (Sx.new ht)
  refine ⟨fun σ G => ∃ v x1, Bx G p ∧ Sx p H G ∧ (v = .non ∨ ∃ n f, RwAt H p G v n f) ∧ ∃ x3 x4 x5 x6 x7 x8 x9, σ = [some (.ref p), x1, some v, x3, x4, x5, x6, x7, x8, x9], ?_, ?_⟩
  · refine ⟨_, rfl, _, _, rfl, rfl, _, rfl, ite2 (fun c => ?_) (fun c => ?_)⟩
    · refine ⟨_, rfl, p, rfl, bx1, fun v G hv b s => ⟨v, _, b, sx1.trans s, ?_, _, _, _, _, _, _, _, rfl⟩⟩
      rcases hv with hv | ⟨n, f, h1, h2, h3, h4⟩
      · exact .inl hv
      · exact .inr ⟨n, f, RwAt.ofS bx1 sx1 s b h1 h2 h3 h4⟩
    · refine ⟨_, rfl, rfl, _, rfl, ite2 (fun c => ?_) (fun c => ?_)⟩
      · exact ⟨_, rfl, p, rfl, bx1, fun v G sh hs rw b s => ⟨v, _, b, sx1.trans s, .inr ⟨8, fgr sh, RwAt.ofS bx1 sx1 s b (by decide) (by decide) (asf_grid sh hs) rw⟩, _, _, _, _, _, _, _, rfl⟩⟩
      · refine ⟨_, rfl, rfl, _, rfl, ite2 (fun c => ?_) (fun c => ?_)⟩
        · exact ⟨rfl, fun v G rw s => ⟨v, _, bx1.same s, sx1.trans (Sx.of s), .inr ⟨7, fwd, RwAt.of bx1 sx1 s (by decide) (by decide) asf_words rw⟩, _, _, _, _, _, _, _, rfl⟩⟩
        · exact ⟨.non, _, bx1, sx1, .inl rfl, _, _, _, _, _, _, _, rfl⟩
  rintro _ G ⟨v, x1, b, sx, hv, x3, x4, x5, x6, x7, x8, x9, rfl⟩
  refine ⟨fun σ G => ∃ v x1 n f, RwAt H p G v n f ∧ ∃ x3 x4 x5 x6 x7 x8 x9, σ = [some (.ref p), x1, some v, x3, x4, x5, x6, x7, x8, x9], ?_, ?_⟩
  · refine ⟨_, rfl, _, rfl, ite2 (fun c => ?_) (fun c => ?_)⟩
    · refine ⟨_, rfl, p, 6, rfl, b, by decide, by decide, fun kd G1 ka kb b1 s1 => ?_⟩
      obtain ⟨kd, rfl⟩ := Int.eq_ofNat_of_zero_le ka
      refine ⟨_, rfl, _, rfl, (by show 3 ≤ sizeLine; decide), fun l hl => ⟨_, rfl, p, 3, rfl, b1.new hl, by decide, by decide, fun i G2 ia ib b2 s2 => ?_⟩⟩
      have nl : l ≠ p := b1.ne hl
      have el : G2 l = some (.lst [.int 7, .int 7, .int 16]) := s2 l _ nl upd_same
      obtain ⟨z, hz, z1, z2⟩ : ∃ z : Int, atI [V.int 7, .int 7, .int 16] i = some (.int z) ∧ 0 < z ∧ z ≤ 16 := by
        obtain ⟨i, rfl⟩ := Int.eq_ofNat_of_zero_le ia
        have i3 : i < 3 := by omega
        match i, i3 with
        | 0, _ => exact ⟨7, rfl, by decide, by decide⟩
        | 1, _ => exact ⟨7, rfl, by decide, by decide⟩
        | 2, _ => exact ⟨16, rfl, by decide, by decide⟩
      refine ⟨l, _, _, _, rfl, rfl, SqL.of el, hz, p, z, rfl, b2, z1, by omega, fun m G3 ma mb b3 s3 => ?_⟩
      obtain ⟨m, rfl⟩ := Int.eq_ofNat_of_zero_le ma
      refine ⟨_, _, rfl, rfl, kd, 1 + m, congrArg (fun z => [V.int (kd : Int), V.int z]) (by omega), by omega, by omega, by omega, fun v' G4 rw s4 => ?_⟩
      have sx3 : Sx p H G3 := ((sx.trans s1).trans (Sx.new hl)).trans (s2.trans s3)
      exact ⟨v', _, 1 + m, fpl kd (1 + m), RwAt.of b3 sx3 s4 (by omega) (by omega) (asf_plain kd (1 + m) (by omega)) rw, _, _, _, _, _, _, _, rfl⟩
    · rcases hv with rfl | ⟨n, f, hv⟩
      · exact absurd (decide_eq_true rfl) c
      · exact ⟨v, _, n, f, hv, _, _, _, _, _, _, _, rfl⟩
  clear b sx hv x1
  rintro _ G ⟨v, x1, n, f, h, x3, x4, x5, x6, x7, x8, x9, rfl⟩
  refine ⟨_, rfl, p, 5, rfl, h.bx, by decide, by decide, fun mo G1 ma mb b1 s1 => ?_⟩
  obtain ⟨mo, rfl⟩ := Int.eq_ofNat_of_zero_le ma
  have h1 := h.took hb s1 b1
  refine ⟨fun σ G => ∃ v x1 x3 n f, RwAt H p G v n f ∧ ∃ x4 x5 x6 x7 x8 x9, σ = [some (.ref p), x1, some v, x3, x4, x5, x6, x7, x8, x9], ?_, ?_⟩
  · obtain ⟨a, xs, rfl, hxs, lxs⟩ := h1.lst (K := K)
    refine ⟨fun b G' => G1 = G' ∧ (b = true → mo < 2 ∧ n < 16), ?_, ?_⟩
    · refine ⟨_, rfl, _, _, rfl, rfl, _, rfl, ite2 (fun c => ⟨_, rfl, a, xs, rfl, .inl hxs, _, _, rfl, rfl, _, rfl, rfl, fun d => ?_⟩) (fun c => ⟨rfl, fun z => by cases z⟩)⟩
      have c' : ((mo : Nat) : Int) < 2 := of_decide_eq_true c
      have d' : ((xs.length : Nat) : Int) < 16 := of_decide_eq_true d
      exact ⟨by omega, by omega⟩
    rintro bb _ ⟨rfl, hbb⟩
    refine ite2 (fun c => ?_) (fun c => ?_)
    · obtain ⟨c1, c2⟩ := hbb c
      exact ⟨_, rfl, _, rfl, .ref a, mo, n, f, rfl, c1, h1.n1, c2, h1.rows.same nw_to, fun v' G2 rw sm => ⟨v', _, _, n + 1, fex mo n f, RwAt.of h1.bx h1.sx sm (by omega) (by omega) (asf_extended h1.as) rw, _, _, _, _, _, _, rfl⟩⟩
    · exact ⟨.ref a, _, _, n, f, h1, _, _, _, _, _, _, rfl⟩
  clear h h1 b1 s1
  rintro _ G ⟨v, x1, x3, n, f, h, x4, x5, x6, x7, x8, x9, rfl⟩
  refine ⟨_, rfl, p, 6, rfl, h.bx, by decide, by decide, fun kd G1 ka kb b1 s1 => ?_⟩
  obtain ⟨kd, rfl⟩ := Int.eq_ofNat_of_zero_le ka
  refine ⟨_, rfl, p, 3, rfl, b1, by decide, by decide, fun m G2 ma mb b2 s2 => ?_⟩
  obtain ⟨m, rfl⟩ := Int.eq_ofNat_of_zero_le ma
  refine ⟨_, _, rfl, rfl, kd, 2 + m, congrArg (fun z => [V.int (kd : Int), V.int z]) (by omega), by omega, by omega, by omega, fun v2 G3 rw2 sm2 => ?_⟩
  have h2 := (h.took hb (s1.trans s2) b2).to hb sm2
  have o2 : RwAt H p G3 v2 (2 + m) (fpl kd (2 + m)) := RwAt.of b2 (h.sx.trans (s1.trans s2)) sm2 (by omega) (by omega) (asf_plain kd (2 + m) (by omega)) rw2
  refine ⟨fun σ G => ∃ v x1 x3 n f, RwAt H p G v n f ∧ ∃ x4 x5 x6 x7 x8 x9, σ = [some (.ref p), x1, some v, x3, x4, x5, x6, x7, x8, x9], ?_, ?_⟩
  · refine ⟨_, rfl, p, 3, rfl, h2.bx, by decide, by decide, fun r G4 ra rb b4 s4 => ?_⟩
    have h3 := h2.took hb s4 b4
    have o3 := o2.took hb s4 b4
    have stay : ∃ (v' : V) (x1' x3' : Option V) (n' : Nat) (f' : Nat → Nat → Nat), RwAt H p G4 v' n' f' ∧ ∃ x4' x5' x6' x7' x8' x9', ([some (.ref p), x1, some v, x3, some v2, x5, x6, x7, x8, x9] : L2.St) = [some (.ref p), x1', some v', x3', x4', x5', x6', x7', x8', x9'] := ⟨v, _, _, n, f, h3, _, _, _, _, _, _, rfl⟩
    obtain ⟨a, xs, rfl, hxs, lxs⟩ := h3.lst (K := K)
    obtain ⟨a2, xs2, rfl, hxs2, lxs2⟩ := o3.lst (K := K)
    have hn16 := h3.n16
    refine ⟨rfl, _, rfl, ite2 (fun c => ⟨_, rfl, a, xs, rfl, .inl hxs, _, rfl, a2, xs2, rfl, .inl hxs2, _, _, rfl, rfl, .inl ⟨by omega, by omega⟩, _, _, rfl, rfl, _, rfl, ite2 (fun d => ?_) (fun d => stay)⟩) (fun c => iteF stay)⟩
    have d' : ((xs.length : Nat) : Int) * ((xs2.length : Nat) : Int) ≤ 16 := of_decide_eq_true d
    rw [lxs, lxs2] at d'
    have hmul : n * (2 + m) ≤ 16 := by
      have e := Int.natCast_mul n (2 + m)
      omega
    refine ⟨_, rfl, _, rfl, .ref a, .ref a2, n, 2 + m, f, fpl kd (2 + m), rfl, h3.n1, o3.n1, hmul, h3.rows.same nw_to, o3.rows.same nw_to, fun v' G5 rw sm => ⟨v', _, _, n * (2 + m), fpr (2 + m) f (fpl kd (2 + m)), RwAt.of h3.bx h3.sx sm ?_ hmul (asf_pairs o3.n1 h3.as o3.as) rw, _, _, _, _, _, _, rfl⟩⟩
    exact Nat.mul_pos h3.n1 o3.n1
  clear h2 o2 h b1 s1 b2 s2 sm2 rw2
  rintro _ G4 ⟨v, x1, x3, n, f, h, x4, x5, x6, x7, x8, x9, rfl⟩
  obtain ⟨av, xs, rfl, hxs, lxs⟩ := h.lst (K := K)
  have n1 := h.n1
  have n16 := h.n16
  refine ⟨_, rfl, av, xs, rfl, .inl hxs, _, rfl, RgOk.of_le (by omega) (by omega) (by omega) (by omega), fun la hla => ?_⟩
  rw [lxs, rg_nv]
  have nla : la ≠ p := h.bx.ne hla
  have sla : Same G4 (upd G4 la (.lst (nv (List.range n)))) := Same.new hla _
  have hl := h.to hb sla
  obtain ⟨_, xs', e', hxs', lxs'⟩ := hl.lst (K := K)
  cases e'
  refine ⟨_, rfl, av, xs', rfl, .inl hxs', _, rfl, by omega, by omega, fun D hD => ?_⟩
  have nDp : D ≠ p := hl.bx.ne hD
  have nDl : la ≠ D := ne_of_none (show (upd G4 la (.lst (nv (List.range n)))) la = some _ from upd_same) hD
  have D4 : G4 D = none := sla.free hD
  rw [lxs']
  refine lc_range (lo := 0) (n := ((n : Nat) : Int).toNat) (fun i J => Bx J p ∧ Sx p G4 J ∧ ∃ od lf : List Nat, J la = some (.lst (nv lf)) ∧ J D = some (.lst (nv od)) ∧ (od ++ lf).Perm (List.range n) ∧ od.length = i)
    ⟨hl.bx.new hD, (Sx.of sla).trans (Sx.new hD), [], List.range n, by rw [upd_ne nDl]; exact upd_same, upd_same, List.Perm.refl _, rfl⟩ ?_ ?_
  · rintro i J hi ⟨bJ, sJ, od, lf, eL, eD, pm, lo⟩
    have hi' : i < n := by simpa using hi
    have ll : lf.length = n - i := by
      have := pm.length_eq
      rw [List.length_append, List.length_range, lo] at this
      omega
    refine ⟨rfl, _, rfl, Or.inl ⟨rfl, _, SqL.of eL⟩, _, rfl, _, rfl, la, _, rfl, .inl (SqL.of eL), p, _, rfl, bJ, ?_, ?_, fun r J1 ra rb b1 s1 => ?_⟩
    · rw [nv_len]; omega
    · rw [nv_len]; omega
    rw [nv_len] at rb
    obtain ⟨r, rfl⟩ := Int.eq_ofNat_of_zero_le ra
    have hr : r < lf.length := by omega
    have eL1 := s1 la _ nla eL
    have eD1 := s1 D _ nDp eD
    have sq : seqIndex? ((r : Nat) : Int) (nv lf).length = some r := by
      unfold seqIndex?
      have h0 : ¬ ((r : Nat) : Int) < 0 := by omega
      simp only [if_neg h0]
      rw [nv_len, if_pos (by simp; omega), Int.toNat_natCast]
    refine ⟨la, nv lf, _, r, .int ((lf[r] : Nat) : Int), rfl, rfl, eL1, by omega, by omega, sq, by unfold nv; rw [List.getElem?_map, List.getElem?_eq_getElem hr]; rfl, ?_⟩
    refine ⟨nv od, by rw [upd_ne nDl.symm]; exact eD1, by rw [nv_len, lo]; exact small1000 (by omega), (b1.at_ne nla).at_ne nDp, fun b o hbp e => ?_, od ++ [lf[r]], lf.eraseIdx r, ?_, ?_, ?_, by simp [lo]⟩
    · rw [upd_ne (ne_of_none e D4), upd_ne (ne_of_none e hla)]; exact s1 b o hbp (sJ b o hbp e)
    · rw [upd_ne nDl, upd_same, erase_nv]
    · rw [upd_same]; unfold nv; rw [List.map_append]; rfl
    · refine List.Perm.trans ?_ pm
      rw [List.append_assoc]
      exact (erase_pm (List.getElem?_eq_getElem hr)).append_left od
  rintro J ⟨bJ, sJ, o, lf, eL, eD, pm, lo⟩
  rw [Int.toNat_natCast] at lo
  have lf0 : lf = [] := by
    have := pm.length_eq
    rw [List.length_append, List.length_range, lo] at this
    exact List.eq_nil_of_length_eq_zero (by omega)
  subst lf0
  rw [List.append_nil] at pm
  have hJ := h.took hb sJ bJ
  obtain ⟨av', rs, e', eR, pr⟩ := id hJ.rows
  cases e'
  have eR' := nw_to _ _ eR
  have om : ∀ x, x ∈ o → x < n := fun x hx => List.mem_range.mp (pm.mem_iff.mp hx)
  have oi : ∀ x, x < n → x ∈ o := fun x hx => pm.mem_iff.mpr (List.mem_range.mpr hx)
  refine ⟨_, rfl, D, rfl, ⟨_, SqL.of eD⟩, fun D4 hD4 => ?_⟩
  refine lc_it (walk_list (xs := nv o)) (fun i G => Part J G D4 (rowsTo n (frn o f) i)) (Part.start (Same.refl J) hD4) (fun i G _ z => SqL.of (z.same _ _ eD)) ?_ ?_
  · rintro i x G1 G2 hi pa ⟨rfl, hx⟩
    rw [nv_len, lo] at hi
    obtain ⟨ai, hai, rfl⟩ := nv_at hx
    have an : ai < n := om ai (List.mem_of_getElem? hai)
    refine ⟨rfl, _, rfl, D, rfl, ⟨_, SqL.of (pa.same _ _ eD)⟩, fun D5 hD5 => ?_⟩
    refine lc_it (walk_list (xs := nv o)) (fun j G => Same G2 G ∧ G D5 = some (.lst ((rowTo (frn o f) i j).map V.int))) ⟨Same.new hD5 _, upd_same⟩ (fun j G _ z => SqL.of (z.1 _ _ (pa.same _ _ eD))) ?_ ?_
    · rintro j y G3 G4' hj ⟨sG, e5⟩ ⟨rfl, hy⟩
      rw [nv_len, lo] at hj
      obtain ⟨bj, hbj, rfl⟩ := nv_at hy
      have bn : bj < n := om bj (List.mem_of_getElem? hbj)
      have lrs : rs.length = n := by rw [pr.length, tab_len]
      obtain ⟨row, hrow, er⟩ := pair_at pr (List.getElem?_eq_getElem (show ai < rs.length by omega))
      rw [tab_row an] at hrow
      cases hrow
      have er' := sG _ _ (pa.same _ _ (nw_to _ _ er))
      have fl := hJ.as.lt ai bj an bn
      have gt : o.idxOf (f ai bj) < o.length := List.idxOf_lt_length_iff.mpr (oi _ fl)
      refine ⟨rfl, _, rfl, Or.inl ⟨rfl, _, SqL.of (sG _ _ (pa.same _ _ eD))⟩, _, rfl, _, rfl, av, _, _, _, rfl, rfl, SqL.of (sG _ _ (pa.same _ _ eR')), at_of (j := ai) rfl (by rw [List.getElem?_map, List.getElem?_eq_getElem (show ai < rs.length by omega)]; rfl), _, rfl, rs[ai], _, _, .int ((f ai bj : Nat) : Int), rfl, rfl, SqL.of er',
        at_of (j := bj) rfl (by rw [List.getElem?_map, List.getElem?_map, List.getElem?_range bn]; rfl), ?_⟩
      refine ⟨D, nv o, .int ((f ai bj : Nat) : Int), o.idxOf (f ai bj), .int ((f ai bj : Nat) : Int), rfl, rfl, SqL.of (sG _ _ (pa.same _ _ eD)), rfl, ?_, ?_, beq_self_eq_true _, fun m z' hm hz' => ?_, _, e5, by rw [rowTo_len]; exact small1000 (by omega), fun c ob ec => by rw [upd_ne (ne_of_none ec hD5)]; exact sG c ob ec, ?_⟩
      · unfold nv; rw [List.all_map]; exact List.all_eq_true.mpr fun _ _ => rfl
      · unfold nv; rw [List.getElem?_map, List.getElem?_eq_getElem gt, List.getElem_idxOf gt]; rfl
      · obtain ⟨w, hw, rfl⟩ := nv_at hz'
        have ne := idx_ahead1 hm hw
        exact beq_eq_false_iff_ne.mpr (by omega)
      · rw [upd_same, rowTo_next, List.map_append]
        refine congrArg (fun z => some (HO.lst (_ ++ [V.int z]))) ?_
        show ((o.idxOf (f ai bj) : Nat) : Int) = ((frn o f i j : Nat) : Int)
        unfold frn plc
        rw [List.getD_eq_getElem?_getD, hai, List.getD_eq_getElem?_getD, hbj]; rfl
    · rintro G3 ⟨sG, e5⟩
      rw [nv_len, lo] at e5
      obtain ⟨acc, ea, lacc, p1⟩ := pa.add sG hD5 e5
      refine ⟨acc, ea, by rw [lacc, rowsTo_len]; exact small1000 (by omega), ?_⟩
      rw [rowsTo_next]
      exact p1
  · rintro G1 pa
    rw [nv_len, lo] at pa
    have pa' : Part J G1 D4 (tab n (frn o f)) := pa
    exact q _ _ n (frn o f) (RwAt.of hJ.bx hJ.sx pa'.same n1 n16 (asf_renum hJ.as pm) pa'.fin)
end
end L

set_option Elab.async false
set_option linter.all false
set_option maxRecDepth 100000
set_option maxHeartbeats 4000000
/-! Own layer: len of an own instance; a call of a def held as a value. -/
namespace KX
open PySem PySem.Spec PyProof.Rows L2
section
open PySem.W
variable {M : Model} {A : Around} {E : Value → Shared → Prop} {s : Shared} {K : Frag}
/-- a special method of the text -/
theorem cspecF {self : Value} {name : PySem.Str} {f : Addr} {args : List Value} {Q : Option Value → Shared → Prop} (X : K.In s.heap) (sp : Looks M s.heap (specialOf self name) (some (.ref f))) (tf : typeIn K (.ref f) = some (.type "function"))
    (hc : wpAny M A (call (.ref f) (self :: args)) (fun v => Q (some v)) E s) : wpAny M A (callSpecial? self name args) Q E s := by
  simp only [callSpecial?]
  refine wpAny_bind (sp.here ?_)
  refine wpAny_holding (wpAny_bind ((bind_fn X self tf).here ?_))
  exact wpAny_bind (wpAny_mono hc (fun v s' h' => wpAny_pure h') fun _ _ h' => h')
end
section
variable {X : Cx} {CX : CXT} {k : Nat} {C f : Addr} {fd : FuncData} {sp : Sp}
def rLenOwn (C : Addr) (sp : Sp) : List V → Hp → VK → Prop := fun xs H Q => ∃ (p dx : Addr) (fs : List (Str × V)), xs = [.ref p] ∧ H p = some (.ins C dx fs) ∧ sp [.ref p] H (fun v H1 => ∃ n : Nat, v = .int (n : Int) ∧ (n : Int) < 2 ^ 63 ∧ Q (.int n) H1) (fun _ _ _ => False)
theorem call_lenOwn (hm : PySem.W.findIn X.K (.ref C) "__len__" = some (some (.ref f))) (tf : PySem.W.typeIn X.K (.ref f) = some (.type "function")) (F : FnOk X.prog X.w X.K X.mg X.base CX0 k f fd ["self"] sp) (hr : Room (k + 1) X.A) (hb : Binds X.K fd ["self"] []) :
    CallR X (.builtin "len") (rLenOwn C sp) := by
  intro pins s σ H xs us Q I r h
  obtain ⟨p, dx, fs, rfl, hp, q⟩ := h
  obtain ⟨u, rfl, rx⟩ := vals1 r
  cases rx
  obtain ⟨mA, J, _⟩ := ins_get I.hok hp
  obtain ⟨od, J, _⟩ := J.look
  have sp1 : PySem.W.Looks (model X.prog X.w) s.heap (specialOf (.ref p) "__len__") (some (.ref f)) := J.type.andThen (PySem.W.looks_findIn I.kIn hm)
  have hl := F.len _ _ _ _ q
  have r2 : Vals [V.ref p] [Value.ref p] := .cons rfl .nil
  have e0 : Env0 X.prog X.w X.K X.mg X.base X.A.in1 X.stack s H := I.env0.in1
  have run : wpAny (model X.prog X.w) X.A.in1 (call (.ref f) [.ref p]) (fun r s' => ∃ n u, r = .int n u ∧ 0 ≤ n ∧ n < 2 ^ 63 ∧ EP X pins σ Q (.int n s'.toks) { s' with toks := s'.toks + 1 }) X.xe s := by
    refine wpAny_call (codeAny_mono (F.run X.A.in1 X.stack s H ⟨[.ref p], []⟩ [.ref p] [.ref p] _ _ hr.in1 e0 (by
      have := hb s [.ref p] I.kIn rfl
      simpa using this) r2 q) fun o s' hq => ?_)
    match o, hq with
    | .error u, hq => exact hq.elim
    | .ok (.ret u), hq =>
      obtain ⟨v, H1, I1, rv, n, rfl, hn, q'⟩ := I.after hq
      obtain ⟨t, rfl⟩ := rv
      exact ⟨n, t, rfl, by omega, hn, .int n, H1, I1.tok _, ⟨_, rfl⟩, q'⟩
    | .ok .next, hq => exact hq.elim
    | .ok .brk, hq => exact hq.elim
    | .ok .cont, hq => exact hq.elim
  refine Calls.call_function_entry kind_len plain_len entry_len (args_len1 _) ?_
  unfold Builtin.«len»
  refine wpAny_bind (m := oneArg "len" _) (wpAny_pure ?_)
  refine wpAny_bind (m := callSpecial? (.ref p) (PySem.Str.ofString "__len__")) (cspecF I.kIn sp1 tf (wpAny_mono run (fun r s' hr => ?_) fun _ _ y => y))
  obtain ⟨n, u, rfl, h0, h1, hq⟩ := hr
  refine wpAny_bind (wpAny_holding (wpAny_pure ?_))
  refine wpAny_bind (wpAny_letGo ?_)
  show wpAny _ _ (if n < 0 then _ else _) _ _ _
  rw [if_neg (by omega)]
  show wpAny _ _ (if n ≥ 2 ^ 63 then _ else _) _ _ _
  rw [if_neg (by omega)]
  exact wpAny_bind (wpAny_mkInt (wpAny_pure ⟨_, rfl, hq⟩))
end
/-- e(..), e one of some defs -/
structure Hld (P : Program) (w : World) (K : PySem.W.Frag) (mg : Str → Option Value) (base : Heap) (k : Nat) (f : Addr) (sp : Sp) : Prop where
  ex : ∃ (fd : FuncData) (ps : List Str), FnOk P w K mg base CX0 k f fd ps sp ∧ PySem.W.keepIn K (.ref f) = true ∧ Binds K fd ps []
def tCallV (S : Addr → Sp → Prop) (te : TE) (t : TA) : TE := fun σ H Q => te σ H fun x H0 => ∃ f sp, x = .ref f ∧ S f sp ∧ t σ H0 fun vs H1 => sp vs H1 Q (fun _ _ _ => False)
theorem Hld.of {P : Program} {w : World} {K : PySem.W.Frag} {mg : Str → Option Value} {base : Heap} {j k : Nat} {f : Addr} {fd : FuncData} {ps : List Str} {sp : Sp} (F : FnOk P w K mg base CX0 j f fd ps sp) (h : j ≤ k) (hk : PySem.W.keepIn K (.ref f) = true) (hb : Binds K fd ps []) : Hld P w K mg base k f sp :=
  ⟨fd, ps, ⟨F.len, fun A out s H args us vs Q E hr => F.run A out s H args us vs Q E (hr.mono h)⟩, hk, hb⟩
section
variable {X : Cx} {k : Nat} {o e : Expr} {es : List Expr} {t : TA} {te : TE} {pos : Pos}
theorem pe_callV {S : Addr → Sp → Prop} (A : ∀ f sp, S f sp → Hld X.prog X.w X.K X.mg X.base k f sp) (hr : Room k X.A) (ho : PE X o te) (ha : PA X (e :: es) t)
    (ht : eval (.Call o (e :: es) [] pos) X.env = (do callWith pos (← eval o X.env) [] (backTo pos (starEach (e :: es) X.env)) (backToKw pos (keywordEach [] X.env))) := by rfl)
    (hst : starEach (e :: es) X.env = (false, eval e X.env) :: starEach es X.env := by rfl) (hpl : (backTo pos (starEach es X.env)).any (·.1) = false := by rfl) : PE X (.Call o (e :: es) [] pos) (tCallV S te t) := ⟨fun pins s σ H Q I h => by
  rw [ht]
  refine wpAny_bind (thn (ho.run pins s σ H _ I h) fun u s1 ⟨x, H1, I1, rx, f, sp, ex, hS, q⟩ => ?_)
  subst ex
  obtain rfl : u = Value.ref f := rx
  obtain ⟨fd, ps, F, hk, hb⟩ := (A f sp hS).ex
  refine PySem.W.callWith_K (h₀ := X.base) I.ok.mod.kin hk (thn (ha.run pos pins s1 σ H1 _ I1 q) fun us s2 ⟨vs, H2, I2, r, q2⟩ => ⟨I2.kIn, ?_⟩) hst hpl
  have q3 : sp (vs ++ []) H2 Q (fun _ _ _ => False) := by rw [List.append_nil]; exact q2
  exact run_fn (us := us) (vs := vs) F hr hb .nil (fun _ _ _ _ _ _ _ z => z.elim) I2 r q3⟩
end
end KX

set_option Elab.async false
set_option linter.all false
set_option maxRecDepth 100000
set_option maxHeartbeats 4000000
/-! Own layer: set(a list of whole numbers), to be sorted or walked. -/
namespace KX
open PySem PySem.Spec PyProof.Rows L2
/-- an empty set, as it is made -/
abbrev freshSet (w : World) : Obj := { cls := .type "set", dict := none, data := .set #[] 0 (.fresh 0 0 (!w.params.followText "set-order")) }
abbrev listIt (l : Addr) : Obj := { cls := .type "list_iterator", data := .fields #[.ref l, .int 0 0] }
section
variable {P : Program} {w : World} {A : Around} {E : Value → Shared → Prop} {st : Shared}
/-- what stands behind set(l) -/
def SetMade (w : World) (st : Shared) (ns : List Int) (h' : Heap) (c : Nat) : Prop := SetR w h' st.heap.objs.size (fun j => decide (j ∈ ns)) c ∧ c ≤ ns.length ∧ ∀ b o, st.heap.get? b = some o → h'.get? b = some o
theorem set_init_list {l : Addr} {items : Array Value} (ns : List Int) (hh : A.handled = none) (hl : st.heap.IsList l items) (hit : IntsAre items.toList ns) (hb : ns.length + 1 < scanBound) :
    codeAny (model P w) A (.call (.builtin "set.__init__") ⟨[.ref st.heap.objs.size, .ref l], []⟩) (wants (fun r s₂ => r = .none ∧ ∃ h' tk c, s₂ = { st with heap := h', toks := tk } ∧ SetMade w st ns h' c) E) { st with heap := st.heap.push (freshSet w) } := by
  have hz : items.size = ns.length := by
    have := IntsAre.length hit
    rwa [Array.length_toList] at this
  have e0 : (st.heap.push (freshSet w)).get? st.heap.objs.size = some (freshSet w) := Heap.get?_push_size _ rfl
  have ty : Shared.TypeIs { st with heap := st.heap.push (freshSet w) } (.ref st.heap.objs.size) "set" := ⟨_, e0, rfl⟩
  refine codeAny_call_builtin F.called_set.init.plain F.entry_set_init (check_set_init_1 ty ?_)
  obtain ⟨⟨lcls, ldict, ldata, lslots⟩, hol, hcl, nl, hdl⟩ := hl
  simp only at hcl hdl
  subst hcl; subst hdl
  have hol2 : (st.heap.push (freshSet w)).get? l = some { cls := .type "list", dict := ldict, data := .seq items nl, slots := lslots } := Heap.get?_push_of_some _ hol
  have q1 := F.sub_list_set
  have q2 := F.sub_list_frozenset
  have q3 : (Value.type "list" == Value.type "dict") = false := by decide
  have isl : (st.heap.push (freshSet w)).IsList l items := ⟨_, hol2, rfl, nl, rfl⟩
  unfold Builtin.«set.__init__» noKeywords Builtin.Frozenset.updateFrom
  generalize hPI : pyIter = walk
  wp_walk
  subst hPI
  refine wpAny_pyIter_list isl ?_
  refine wpAny_bind (wpAny_runValue ?_)
  have small : l < st.heap.objs.size := Heap.lt_size hol
  have sz1 : (st.heap.push (freshSet w)).objs.size = st.heap.objs.size + 1 := Heap.size_push ..
  have calm3 : A.in1.in1.handled = none := by simp [hh]
  have apart : l ≠ (st.heap.push (freshSet w)).objs.size := by rw [sz1]; exact Nat.ne_of_lt (Nat.lt_succ_of_lt small)
  have off : st.heap.objs.size ∉ [(st.heap.push (freshSet w)).objs.size, l] := by
    rw [sz1]; simp only [List.mem_cons, List.not_mem_nil, or_false, not_or]
    exact ⟨Nat.ne_of_lt (Nat.lt_succ_self _), Nat.ne_of_gt small⟩
  have vals : ∀ (i : Nat) (v : Value), items[i]? = some v → ∃ k t, ns[i]? = some k ∧ v = .int k t := fun i v hv => by
    have hi : i < ns.length := hz ▸ (Array.getElem?_eq_some_iff.mp hv).1
    obtain ⟨t, e⟩ := IntsAre.int_at hit i v (by rw [Array.getElem?_toList]; exact hv)
    rw [List.getD_eq_getElem?_getD, List.getElem?_eq_getElem hi] at e
    exact ⟨ns[i], t, List.getElem?_eq_getElem hi, e⟩
  refine set_update_ints ((Walks.list calm3 _ l apart items).toS) st.heap.objs.size off ns hz hb vals (items.size - 0) 0 _ (by omega) (Nat.zero_le _)
    ⟨⟨_, Heap.get?_push_size _ rfl, rfl, rfl⟩, isl.push _⟩ ?first ?last
  case first =>
    have keep : ((st.heap.push (freshSet w)).push (listIt l)).get? st.heap.objs.size = some (freshSet w) := Heap.get?_push_of_some _ e0
    exact ⟨0, Nat.le_refl 0, setR_new_at keep⟩
  case last =>
    rintro ⟨h', g2, d2, tk, os2⟩ c hm hc hR
    have e1 : g2 = st.gens := hm.gens
    have e2 : d2 = st.drawn := hm.drawn
    have e3 : os2 = st.os := hm.os
    subst e1; subst e2; subst e3
    show wpAny _ _ _ _ _ _
    refine wpAny_pure ?_
    show wpAny _ _ (ret Value.none) _ _ _
    rw [hz] at hc
    refine wpAny_pure ⟨rfl, h', tk, c, rfl, hR, hc, fun b o e => ?_⟩
    have hlt : b < st.heap.objs.size := Heap.lt_size e
    refine hm.heap b o ?_ (Heap.get?_push_of_some _ (Heap.get?_push_of_some _ e))
    simp only [List.mem_cons, List.not_mem_nil, or_false, not_or]
    exact ⟨Nat.ne_of_lt hlt, by rw [sz1]; exact Nat.ne_of_lt (Nat.lt_succ_of_lt hlt)⟩
theorem set_of_list {l : Addr} {items : Array Value} (ns : List Int) {Q : Value → Shared → Prop} (hh : A.handled = none) (hl : st.heap.IsList l items) (hit : IntsAre items.toList ns) (hb : ns.length + 1 < scanBound)
    (h : ∀ h' tk c, SetMade w st ns h' c → Q (.ref st.heap.objs.size) { st with heap := h', toks := tk }) : wpAny (model P w) A (call (.type "set") [.ref l]) Q E st := by
  obtain ⟨c0, tl, hmro⟩ := F.called_set.mro
  have m1 := F.called_set.made
  have m2 := F.called_set.sub
  refine wpAny_call (codeAny_of_tree ?_)
  show wpAny _ _ (callAny (.type "set") _) _ _ _
  refine wpAny_pure ⟨Code.quiet_builtin _ (by decide +kernel), codeAny_builtin F.entry_type_call ?_⟩
  rw [Around.under_plain (weight_type_call_type "set" [.ref l] []) rfl]
  have t1 := F.called_set.notType
  have t2 := F.called_set.canCreate
  have t3 := F.typeCall_set_1 (.ref l)
  repeat (any_goals (first | assumption | wp_step))
  refine codeAny_mono (code_set_led1 (.ref l) (E := E) (Q₁ := fun ob s₁ => ob = .ref st.heap.objs.size ∧ s₁ = { st with heap := st.heap.push (freshSet w) }) ⟨rfl, rfl⟩) fun r s₁ hr => ?_
  match r, hr with
  | .error e, hr => exact hr
  | .ok .next, hr => exact hr.elim
  | .ok .brk, hr => exact hr.elim
  | .ok .cont, hr => exact hr.elim
  | .ok (.ret ob), hr =>
    obtain ⟨rfl, rfl⟩ := hr
    have e0 : (st.heap.push (freshSet w)).get? st.heap.objs.size = some (freshSet w) := Heap.get?_push_size _ rfl
    have ty : Shared.TypeIs { st with heap := st.heap.push (freshSet w) } (.ref st.heap.objs.size) "set" := ⟨_, e0, rfl⟩
    have i1 := F.called_set.init.lookup
    have i2 := F.called_set.init.bind (.ref st.heap.objs.size)
    repeat (any_goals (first | assumption | wp_step))
    refine codeAny_mono (set_init_list (P := P) (w := w) (A := A.in1) (E := E) ns ?_ hl hit hb) fun r₂ s₂ hr₂ => ?_
    · simp [hh]
    match r₂, hr₂ with
    | .error e, hr₂ => exact hr₂
    | .ok .next, hr₂ => exact hr₂.elim
    | .ok .brk, hr₂ => exact hr₂.elim
    | .ok .cont, hr₂ => exact hr₂.elim
    | .ok (.ret rr), hr₂ =>
      obtain ⟨rfl, h', tk, c, rfl, made⟩ := hr₂
      repeat (any_goals (first | assumption | wp_step))
      exact h _ _ _ made
end
section
variable {X : Cx}
/-- set(l), l a list of whole numbers -/
def rSetL (K : PySem.W.Frag) (w : World) : List V → Hp → VK → Prop := fun xs H Q => ∃ (l : Addr) (ns : List Int), xs = [.ref l] ∧ SqL K H l (ns.map V.int) ∧ ns.length ≤ 4000 ∧
  ∀ p c, H p = none → c ≤ ns.length → Q (.ref p) (upd H p (SetO w p (fun j => decide (j ∈ ns)) c))
theorem ct_set (hc : X.calm = true) {K : PySem.W.Frag} (hK : X.K = K) {w : World} (hw : X.w = w) : CallR X (.type "set") (rSetL K w) := by
  subst hK; subst hw
  intro pins s σ H xs us Q I r h
  obtain ⟨l, ns, rfl, hS, hn, q⟩ := h
  obtain ⟨u, rfl, rx⟩ := vals1 r
  cases rx
  obtain ⟨its, rv, pl, hz⟩ := I.list hS
  refine set_of_list ns (I.ok.hd hc) pl.isList (by simpa using ints_of_vals rv) (by unfold scanBound; omega) fun h' tk c ⟨R, hc', k⟩ => ?_
  exact ⟨.ref s.heap.objs.size, _, I.laid (t' := tk) k (Nat.le_refl _) (setO_new R), rfl, q _ c (I.hok.fresh (Nat.le_refl _)) hc'⟩
end
end KX

set_option Elab.async false
set_option linter.all false
set_option maxRecDepth 100000
set_option maxHeartbeats 4000000
namespace L
open PySem L2 KX
abbrev sLen : Stmt := inClass (top 16) 1
abbrev sRowsM : Stmt := inClass (top 16) 3
theorem clist {X : Cx} {K : PySem.W.Frag} (hK : X.K = K) : CallR X (.type "list") (fun xs H Q => ∃ p ys, xs = [.ref p] ∧ (SqL K H p ys ∨ SqT K H p ys) ∧ ∀ l, H l = none → Q (.ref l) (upd H l (.lst ys))) := by subst hK; exact call_list_of
theorem fldK {X : Cx} {K : PySem.W.Frag} (hK : X.K = K) {e : Expr} {f : Str} {ta : TE} {pos : Pos} (he : PE X e ta) (hb : attributeBase e f X.env (eval e X.env) = eval e X.env) : PE X (.Attribute e f pos) (tFld K ta f) := by subst hK; exact pe_fld he hb
/-! ### lists of ints as data -/
def iD (m : List Int) : List PyData := m.map PyData.int
theorem iD_lay : ∀ m : List Int, PyData.canLayAll0 (iD m) = true
  | [] => by unfold iD; simp [PyData.canLayAll0]
  | x :: m => by
    have h := iD_lay m
    unfold iD at h ⊢
    simp [PyData.canLayAll0, PyData.canLay0, h]
theorem iD_depth : ∀ m : List Int, PyData.depthAll (iD m) = 0
  | [] => by unfold iD; simp [PyData.depthAll]
  | x :: m => by
    have h := iD_depth m
    unfold iD at h ⊢
    simp [PyData.depthAll, PyData.depth, h]
theorem iD_shaped (m : List Int) : SeqAt.shaped (.list (iD m)) = true := by
  have h2 : PyData.depth (.list (iD m)) = 1 := by simp only [PyData.depth, iD_depth m]
  have h1 : PyData.canLay0 (.list (iD m)) = true := by simp only [PyData.canLay0]; exact iD_lay m
  show (PyData.canLay0 (.list (iD m)) && decide (PyData.depth (.list (iD m)) ≤ 64)) = true
  rw [Bool.and_eq_true]
  exact ⟨h1, decide_eq_true (by omega)⟩
theorem iD_eqvAll : ∀ a b : List Int, PyData.eqvAll (iD a) (iD b) = decide (a = b)
  | [], [] => by unfold iD; simp [PyData.eqvAll]
  | [], _ :: _ => by unfold iD; simp [PyData.eqvAll]
  | _ :: _, [] => by unfold iD; simp [PyData.eqvAll]
  | x :: a, y :: b => by
    have h := iD_eqvAll a b
    unfold iD at h ⊢
    simp only [List.map_cons, PyData.eqvAll, PyData.eqv, h]
    by_cases e : x = y
    · subst e
      rw [show (x == x) = true from beq_self_eq_true _, Bool.true_and]
      by_cases e2 : a = b
      · subst e2; simp
      · rw [decide_eq_false e2, decide_eq_false fun z => e2 (List.cons.inj z).2]
    · rw [show (x == y) = false from beq_eq_false_iff_ne.mpr e, Bool.false_and, decide_eq_false fun z => e (List.cons.inj z).1]
theorem iD_eqv (a b : List Int) : PyData.eqv (.list (iD a)) (.list (iD b)) = decide (a = b) := by
  simp only [PyData.eqv]; exact iD_eqvAll a b
theorem dp_ints {K : PySem.W.Frag} {G : Hp} : ∀ m : List Int, DpAll K G (m.map V.int) (iD m)
  | [] => .nil
  | x :: m => .cons (.int _) (dp_ints m)
/-- the numbers 0 .. n-1 -/
def nums (n : Nat) : List Int := (List.range n).map fun i : Nat => ((i : Nat) : Int)
theorem rg_nums (n : Nat) : rgV 0 (n : Int) = (nums n).map V.int := by
  unfold rgV nums
  rw [Int.sub_zero, Int.toNat_natCast, List.map_map]
  exact List.map_congr_left fun x _ => by rw [Int.zero_add]; rfl
def spLenM (K : PySem.W.Frag) (C : Addr) : Sp := fun vs H Q _ => ∃ p tb, vs = [.ref p] ∧ TbA K C H p tb ∧ Q (.int tb.length) H
def spRowsM (K : PySem.W.Frag) (C : Addr) : Sp := fun vs H Q _ => ∃ p tb, vs = [.ref p] ∧ TbA K C H p tb ∧ tb.length ≤ 16 ∧ ∀ v H', RowsL (nw H H') v tb → Same H H' → Q v H'
section
variable {P : Program} {w : World} {K : PySem.W.Frag} {mg : Str → Option Value} {base : Heap} {f g gn : Addr} {fd gd gnd : FuncData} {C CE fE : Addr} {dE : FuncData}
theorem scLen : FnScope ["self"] ["self"] (defScope sLen) := ⟨rfl, rfl, rfl, by decide +kernel, rfl, by decide +kernel, by decide +kernel⟩
theorem ok_len (F : Fun K "__len__" "ProductTable.__len__" sLen f fd) (M : Mn mg) (T : CTx K mg C) : FnOk P w K mg base CX0 1 f fd ["self"] (spLenM K C) := by
  refine F.ok scLen (fun vs H Q E h => ?_) (fun cdv A outer s H vs Q E hr h => ?_)
  · obtain ⟨p, tb, rfl, _⟩ := h
    rfl
  obtain ⟨p, tb, rfl, ⟨dx, t, rs, hp, ht, pr⟩, q⟩ := h
  refine ⟨_, pss_one (ps_ret (pe_callB call_len_seq (by rfl) M.len PySem.boot_len (pa_cons (pe_fld (pv 0) rfl) pa_nil))), ?_⟩
  refine ⟨_, rfl, p, C, dx, _, _, rfl, hp, T.cl, T.nR, rfl, t, rs, rfl, .inr ht, ?_⟩
  rw [pr.length]
  exact q
theorem scRowsM : FnScope ["self", "row"] ["self"] (defScope sRowsM) := ⟨rfl, rfl, rfl, by decide +kernel, rfl, by decide +kernel, by decide +kernel⟩
theorem ok_rowsM (F : Fun K "rows" "ProductTable.rows" sRowsM f fd) (M : Mn mg) (T : CTx K mg C) : FnOk P w K mg base CX0 1 f fd ["self"] (spRowsM K C) := by
  refine F.ok scRowsM (fun vs H Q E h => ?_) (fun cdv A outer s H vs Q E hr h => ?_)
  · obtain ⟨p, tb, rfl, _⟩ := h
    rfl
  obtain ⟨p, tb, rfl, ⟨dx, t, rs, hp, ht, pr⟩, n16, q⟩ := h
  refine ⟨_, pss_one (ps_ret (pe_lc (own := [("row", 1)]) (g := gName 1) (tt := tYes) rfl scRowsM.nd (pi_tup (pe_fld (pv 0) rfl))
    (blkOk_by (N := ["self", "row"]) (sc := defScope sRowsM) (by decide +kernel)) (fun _ _ _ _ _ => pg_name (i := 1) scRowsM.nd rfl (Or.inl rfl)) (fun _ _ _ _ _ => pts_nil)
    (fun _ _ _ _ _ => pe_callTy (T := "list") (clist (K := K) rfl) (by rfl) M.list (by decide +kernel) (pa_cons (pv 1) pa_nil)))), ?_⟩
  refine ⟨_, rfl, p, C, dx, _, _, rfl, hp, T.cl, T.nR, rfl, t, rfl, ⟨_, ht⟩, fun D hD => ?_⟩
  refine lc_it (walk_tup (xs := rs)) (fun i J => Part H J D (tb.take i)) (Part.start (Same.refl H) hD) (fun i J _ z => Same.tup z.same ht) ?_ ?_
  · rintro i x J J1 hi pa ⟨rfl, hx⟩
    obtain ⟨row, hrow, r, rfl, hr1⟩ := pair_at pr hx
    refine ⟨rfl, _, rfl, r, _, rfl, .inr (Same.tup pa.same hr1), fun l hl => ?_⟩
    have hi' : i < tb.length := by rw [← pr.length]; exact hi
    obtain ⟨acc, ea, la, p1⟩ := pa.add (q := l) (row := row) (Same.new hl _) hl upd_same
    have tk : tb.take (i + 1) = tb.take i ++ [row] := by rw [List.take_add_one, hrow]; rfl
    refine ⟨acc, ea, by rw [la, List.length_take]; exact small1000 (by omega), ?_⟩
    rw [tk]
    exact p1
  · rintro J pa
    rw [pr.length, List.take_of_length_le (Nat.le_refl _)] at pa
    exact q _ _ pa.fin pa.same
theorem row_at {H : Hp} {rs : List V} {tb : List (List Int)} (pr : Paired (fun x row => ∃ r, x = V.ref r ∧ SqT K H r (row.map V.int)) rs tb) (S : Sqr tb) {a : Nat} (ha : a < tb.length) :
    ∃ r, rs[a]? = some (V.ref r) ∧ SqT K H r ((tb.getD a []).map V.int) ∧ ∀ b, b < tb.length → ((tb.getD a []).map V.int)[b]? = some (.int (mu tb a b)) := by
  have hrs : a < rs.length := by rw [pr.length]; exact ha
  obtain ⟨row, h1, r, e1, hr1⟩ := pair_at pr (List.getElem?_eq_getElem hrs)
  have er : tb.getD a [] = row := by rw [List.getD_eq_getElem?_getD, h1]; rfl
  have hl : row.length = tb.length := S.row row (List.mem_of_getElem? h1)
  refine ⟨r, (List.getElem?_eq_getElem hrs).trans (congrArg some e1), by rw [er]; exact hr1, fun b hb => ?_⟩
  unfold mu
  rw [er, List.getElem?_map, List.getElem?_eq_getElem (by omega), List.getD_eq_getElem?_getD, List.getElem?_eq_getElem (by omega)]; rfl
end
end L

set_option Elab.async false
set_option linter.all false
set_option maxRecDepth 100000
set_option maxHeartbeats 4000000
/-! Own layer: exception classes «class C(..): def __init__(self, f): self.f = f»: made, raised, read in the suite. -/
namespace KX
open PySem PySem.Spec PyProof.Rows L2
/-- __init__ of such a class -/
def spEi (K : PySem.W.Frag) (C : Addr) (f : Str) : Sp := fun vs H Q _ => ∃ (a : Addr) (v : V), vs = [.ref a, v] ∧ H a = some (exo a C none) ∧ OexC K C ∧ PySem.W.findIn K (.ref C) f = some none ∧
  ∀ dx, H dx = none → dx ≠ a → Q .non (upd (upd H dx (exd dx [(f, v)])) a (exo a C (some dx)))
theorem exo_ne {e C d : Addr} (H : Hp) {o : HO} : (upd H e o) d = none → d ≠ e := fun h z => by rw [z, upd_same] at h; cases h
theorem made_heap {H : Hp} {a C dx : Addr} {o1 o2 o3 o4 : HO} (ha : H a = none) (n : dx ≠ a) : upd (del (upd (upd (upd H a o1) dx o2) a o3) a) dx o4 = upd H dx o4 := by
  funext b
  by_cases h1 : b = dx
  · subst h1; rw [upd_same, upd_same]
  · rw [upd_ne h1, upd_ne h1]
    by_cases h2 : b = a
    · subst h2; rw [del_same, ha]
    · rw [del_ne h2, upd_ne h2, upd_ne h1, upd_ne h2]
section
variable {X : Cx}
/-- arguments by what is known of them -/
def tMoA (ta : TA) : TA := fun σ H Q => ∃ R : List V → Hp → Prop, ta σ H R ∧ ∀ vs H1, R vs H1 → Q vs H1
theorem pa_mo {es : List Expr} {ta : TA} (h : PA X es ta) : PA X es (tMoA ta) :=
  ⟨fun pos pins s σ H Q I ⟨R, h1, k⟩ => thn (h.run pos pins s σ H R I h1) fun us s1 ⟨vs, H1, I1, r, q⟩ => ⟨vs, H1, I1, r, k vs H1 q⟩⟩
/-- C(e) -/
def tMkV (C : Addr) (f : Str) (ta : TA) : L2.St → Hp → XK → Prop := fun σ H Q => ∃ R : List V → Hp → Prop, ta σ H R ∧ ∀ vs H1, R vs H1 → ∃ v, vs = [v] ∧ ∀ d, H1 d = none → Q (.ref C) (some d) (upd H1 d (.xd [(f, v)]))
theorem pmk_val {x f ps1 ps2 : Str} {C fI : Addr} {k : Nat} {fd : FuncData} {e : Expr} {ta : TA} {p pos : Pos} (T : OexC X.K C) (iC : PySem.W.findIn X.K (.ref C) "__init__" = some (some (.ref fI))) (tI : PySem.W.typeIn X.K (.ref fI) = some (.type "function"))
    (noF : PySem.W.findIn X.K (.ref C) f = some none) (F1 : FnOk X.prog X.w X.K X.mg X.base CX0 k fI fd [ps1, ps2] (spEi X.K C f)) (hr : Room (k + 1) X.A) (hb : Binds X.K fd [ps1, ps2] []) (hg : Gl X x) (hm : X.mg x = some (.ref C)) (ha : PA X [e] ta)
    (hdb : (x == ("__debug__" : Str)) = false := by decide) (he : starEach [e] X.env = (false, eval e X.env) :: starEach [] X.env := by rfl) (hpl : (backTo pos (starEach [] X.env)).any (·.1) = false := by rfl) :
    PMk X (.Call (.Name x p) [e] [] pos) (tMkV C f ta) := by
  intro pins s σ H Q I h
  obtain ⟨R, h1, kk⟩ := h
  refine pmk_oex T iC tI F1 hr hb .nil (fun _ _ _ _ _ _ _ z => z.elim) hg hm (pa_mo ha) hdb he hpl pins s σ H Q I ⟨R, h1, fun vs H1 r => ?_⟩
  obtain ⟨v, rfl, q⟩ := kk vs H1 r
  refine ⟨(by show 1 ≤ 1000; decide), fun a hn => ⟨a, v, rfl, upd_same, T, noF, fun dx hdx nd => ⟨rfl, dx, [(f, v)], upd_same, by rw [upd_ne nd]; exact upd_same, ?_, ?_⟩⟩⟩
  · rw [upd_ne nd] at hdx; exact hdx
  · rw [made_heap (C := C) hn nd]
    refine q dx ?_
    rw [upd_ne nd] at hdx; exact hdx
end
section
variable {X : Cx} {k : Nat} {f : Addr} {fd : FuncData} {ps ks : List Str} {sp : Sp} {E : L2.St → XK} {x : Str} {p pos : Pos} {e : Expr} {es : List Expr} {kws : List Keyword} {t tk : TA} {g : List Value → List Value → List Value} {gV : List V → List V → List V}
/-- f(e, .., k = v, ..) in a try: what it raises is taken with the slots as they are -/
def tCallKS (sp : Sp) (gV : List V → List V → List V) (E : L2.St → XK) (t tk : TA) : TE := fun σ H Q => t σ H fun vs H1 => tk σ H1 fun zs H2 => sp (gV vs zs) H2 Q (E σ)
theorem pe_callKS (F : FnOk X.prog X.w X.K X.mg X.base (L2.CX X.prog X.w) k f fd ps sp) (hr : Room k X.A) (hg : Gl X x) (hm : X.mg x = some (.ref f)) (hk : PySem.W.keepIn X.K (.ref f) = true) (hb : KBinds X.K fd ps ks g gV) (hx : ∀ σ, PassesAt (L2.CX X.prog X.w) X σ (E σ))
    (ha : PA X (e :: es) t) (hkw : PK X kws tk) (hall : (backToKw pos (keywordEach kws X.env)).all (·.1.isSome) = true := by rfl) (hks : (backToKw pos (keywordEach kws X.env)).filterMap (·.1) = ks := by rfl) (hdb : (x == ("__debug__" : Str)) = false := by decide)
    (he : starEach (e :: es) X.env = (false, eval e X.env) :: starEach es X.env := by rfl) (hpl : ((backTo pos (starEach (e :: es) X.env)).any (·.1) || (backToKw pos (keywordEach kws X.env)).any (·.1.isNone)) = false := by rfl) :
    PE X (.Call (.Name x p) (e :: es) kws pos) (tCallKS sp gV E t tk) := ⟨fun pins s σ H Q I h => by
  refine wpAny_Call_Name_kw (ld_glob I hg hm (PySem.W.callWith_KW (h₀ := X.base) I.ok.mod.kin hk hall (thn (ha.run pos pins s σ H _ I h) ?_) hpl he) hdb)
  rintro us s1 ⟨vs, H1, I1, r, q⟩
  refine thn (hkw.run pos pins s1 σ H1 _ I1 q) ?_
  rintro ws s2 ⟨zs, H2, I2, rz, q2⟩
  rw [hks]
  refine ⟨I2.kIn, ?_⟩
  have r2 := hb.rel r rz
  have hl : (g us ws).length = ps.length := by rw [← r2.length]; exact F.len _ _ _ _ q2
  refine wpAny_call (codeAny_mono (F.run X.A X.stack s2 H2 ⟨us, ks.zip ws⟩ (g us ws) (gV vs zs) Q (E σ) hr I2.env0 (hb.to s2 us ws I2.kIn hl) r2 q2) fun o s' hq => ?_)
  match o, hq with
  | .error u, hq => exact hx σ pins H2 s2 u s' I2 hq
  | .ok (.ret u), hq => exact I2.after hq
  | .ok .next, hq => exact hq.elim
  | .ok .brk, hq => exact hq.elim
  | .ok .cont, hq => exact hq.elim⟩
end
/-- what an exception class's makers and readers need of it -/
structure ETx (K : PySem.W.Frag) (mg : Str → Option Value) (x f : Str) (C fI : Addr) : Prop where
  ox : OexC K C
  xf : XfC K C
  iC : PySem.W.findIn K (.ref C) "__init__" = some (some (.ref fI))
  tI : PySem.W.typeIn K (.ref fI) = some (.type "function")
  noF : PySem.W.findIn K (.ref C) f = some none
  mgC : mg x = some (.ref C)
end KX

set_option Elab.async false
set_option linter.all false
set_option maxRecDepth 100000
set_option maxHeartbeats 4000000
namespace L
open PySem L2 KX
abbrev sChkTX : Stmt := top 17
section
variable {X : Cx} {op op' op3 : CmpOp} {r r' r3 : R2} {a b c d : Expr} {ta tb tc td : TE} {pos : Pos}
/-- a op1 b op2 c op3 d -/
def tChain3 (r r' r3 : R2) (ta tb tc td : TE) : TE := fun σ H Q => ta σ H fun x H1 => tb σ H1 fun y H2 => r x y H2 fun z H3 => ∃ k, z = .bl k ∧
  (if k = true then tc σ H3 fun u H4 => r' y u H4 fun z' H5 => ∃ k', z' = .bl k' ∧ (if k' = true then td σ H5 fun v H6 => r3 u v H6 Q else Q (.bl false) H5) else Q (.bl false) H3)
theorem pe_chain3 (ho : OpR X (compareOp op) r) (ho' : OpR X (compareOp op') r') (ho3 : OpR X (compareOp op3) r3) (ha : PE X a ta) (hb : PE X b tb) (hc : PE X c tc) (hd : PE X d td)
    (hm : PySem.lastMarks [op, op', op3] [b, c, d] = false := by with_unfolding_all rfl) : PE X (.Compare a [op, op', op3] [b, c, d] pos) (tChain3 r r' r3 ta tb tc td) := by
  refine ⟨fun pins s σ H Q I h => ?_⟩
  refine PyProof.Rows.Compare_chain (thn (ha.run pins s σ H _ I h) fun v s1 ⟨x, H1, I1, r1, q1⟩ => PyProof.Rows.chain_link (thn (hb.run pins s1 σ H1 _ I1 q1) fun u s2 ⟨y, H2, I2, r2, q2⟩ =>
    thn (ho pins s2 σ H2 x y v u _ I2 r1 r2 q2) fun e s3 ⟨z, H3, I3, rz, k, ek, q3⟩ => ?_)) hm
  subst ek
  cases rz
  refine PySem.wpAny_truthy_bool ?_
  cases k with
  | false => exact PyProof.Rows.ite_ff ⟨.bl false, H3, I3, rfl, q3⟩
  | true =>
    refine PyProof.Rows.ite_tt (PyProof.Rows.chain_link (thn (hc.run pins s3 σ H3 _ I3 q3) fun u' s4 ⟨w', H4, I4, r4, q4⟩ => thn (ho' pins s4 σ H4 y w' u u' _ I4 r2 r4 q4) fun e2 s5 ⟨z2, H5, I5, rz2, k2, ek2, q5⟩ => ?_))
    subst ek2
    cases rz2
    refine PySem.wpAny_truthy_bool ?_
    cases k2 with
    | false => exact PyProof.Rows.ite_ff ⟨.bl false, H5, I5, rfl, q5⟩
    | true => exact PyProof.Rows.ite_tt (PyProof.Rows.chain_last (thn (hd.run pins s5 σ H5 _ I5 q5) fun v' s6 ⟨x6, H6, I6, r6, q6⟩ => ho3 pins s6 σ H6 w' x6 u' v' Q I6 r4 r6 q6))
/-- a slice of a list or of a tuple -/
def rSlSq (K : PySem.W.Frag) : V → Option Int → Option Int → Hp → VK → Prop := fun x lo hi H Q => (∃ p xs, x = .ref p ∧ SqL K H p xs ∧ ∀ l H', Same H H' → SqL K H' l (cutV xs lo hi) → Q (.ref l) H') ∨
  ∃ p xs, x = .ref p ∧ SqT K H p xs ∧ ∀ l H', Same H H' → SqT K H' l (cutV xs lo hi) → Q (.ref l) H'
theorem sl_sq : SlR X (rSlSq X.K) := by
  intro pins s σ H x v vl vu lo hi sl Q I rx hs pl pu h
  rcases h with ⟨p, xs, rfl, h, q⟩ | ⟨p, xs, rfl, h, q⟩
  · exact sl_list pins s σ H _ v vl vu lo hi sl Q I rx hs pl pu ⟨p, xs, rfl, h, fun y hy => q _ _ (Same.new hy _) (SqL.of upd_same)⟩
  · refine sl_tupA pins s σ H _ v vl vu lo hi sl Q I rx hs pl pu ⟨p, xs, rfl, h, fun z => q _ _ (Same.refl H) ?_, fun _ y hy => q _ _ (Same.new hy _) (SqT.of upd_same)⟩
    have e : cutV xs lo hi = xs := by
      unfold cutV
      rw [z.1, z.2, Nat.sub_zero, List.drop_zero, List.take_length]
    rw [e]; exact h
/-- .. whichever it is -/
theorem rSlSq.of {K : PySem.W.Frag} {H : Hp} {x : V} {xs : List V} {lo hi : Option Int} {Q : VK} (h : Sq K H x xs) (q : ∀ y H', Same H H' → Sq K H' y (cutV xs lo hi) → Q y H') : rSlSq K x lo hi H Q := by
  obtain ⟨p, rfl, h | h⟩ := h
  · exact .inl ⟨p, xs, rfl, h, fun l H' s k => q _ H' s ⟨l, rfl, .inl k⟩⟩
  · exact .inr ⟨p, xs, rfl, h, fun l H' s k => q _ H' s ⟨l, rfl, .inr k⟩⟩
end
/-- no table -/
def NotT (K : PySem.W.Frag) (C : Addr) (H : Hp) (v : V) : Prop := ∃ t, TyX K H v t ∧ PySem.W.kitOne K t (.ref C) = some false
theorem NotT.same {K : PySem.W.Frag} {C : Addr} {H G : Hp} {v : V} (s : Same H G) (h : NotT K C H v) : NotT K C G v := let ⟨t, a, b⟩ := h; ⟨t, TyX.same s a, b⟩
structure CTi (K : PySem.W.Frag) (C : Addr) : Prop where
  ha : PySem.W.findIn K (.ref C) "__class__" = some (some (.builtin "object.__class__"))
  hn : PySem.W.specialIn K (.builtin "object.__class__") "__get__" = some (some (.builtin "getset_descriptor.__get__"))
  htk : PySem.W.takesIn K (.builtin "object.__class__") = some true
  hm : PySem.W.mroIn K C (.type "object") = some true
theorem kit_self (K : PySem.W.Frag) (C : Addr) : PySem.W.kitOne K (.ref C) (.ref C) = some true := by
  unfold PySem.W.kitOne
  rw [show ((Value.ref C) == (Value.ref C)) = true from beq_self_eq_true _, if_pos rfl]
theorem TbA.to {K : PySem.W.Frag} {C : Addr} {H J : Hp} {p : Addr} {tb : List (List Int)} (s : Same H J) (h : TbA K C H p tb) : TbA K C J p tb :=
  let ⟨dx, t, rs, hp, ht, pr⟩ := h.ob
  ⟨dx, t, rs, s _ _ hp, Same.tup s ht, L2.Paired.mapP pr fun _ _ ⟨r, e, hr⟩ => ⟨r, e, Same.tup s hr⟩⟩
theorem TbA.ty {K : PySem.W.Frag} {mg : Str → Option Value} {C : Addr} {H : Hp} {p : Addr} {tb : List (List Int)} (T : CTx K mg C) (Y : CTi K C) (h : TbA K C H p tb) : TyX K H (.ref p) (.ref C) :=
  let ⟨_, _, _, hp, _, _⟩ := h.ob
  .base (.ins hp T.cl Y.ha Y.hn Y.htk Y.hm)
def okS (n : Nat) : Option (List V) → Bool
  | some xs => decide ((1 : Int) ≤ (xs.length : Int)) && decide ((xs.length : Int) ≤ 2000) && xs.all (nb (n : Int))
  | none => false
/-- the bounds of a range -/
def rgB (n : Int) (x y : V) : Bool := match x, y with
  | .int a, .int b => decide (0 ≤ a) && decide (a < b) && decide (b ≤ n)
  | _, _ => false
/-- the product of some elements -/
def fld (tb : List (List Int)) : List Nat → Nat
  | [] => 0
  | w :: r => r.foldl (fun acc x => (mu tb acc x).toNat) w
theorem fld_lt {tb : List (List Int)} (S : Sqr tb) : ∀ {ws : List Nat}, (∀ x, x ∈ ws → x < tb.length) → ws ≠ [] → fld tb ws < tb.length
  | [], _, h => absurd rfl h
  | w :: r, h, _ => by
    have go : ∀ (r : List Nat) (a : Nat), a < tb.length → (∀ x, x ∈ r → x < tb.length) → r.foldl (fun acc x => (mu tb acc x).toNat) a < tb.length := fun r => by
      induction r with
      | nil => exact fun a ha _ => ha
      | cons y r ih =>
        intro a ha hr
        have hy := hr y List.mem_cons_self
        have e := S.el a y ha hy
        exact ih _ (show (mu tb a y).toNat < tb.length by omega) fun x hx => hr x (List.mem_cons_of_mem _ hx)
    exact go r w (h w List.mem_cons_self) fun x hx => h x (List.mem_cons_of_mem _ hx)
def spChkTX (K : PySem.W.Frag) (C CT : Addr) : Sp := fun vs H Q E => ∃ v, vs = [v] ∧ ((∃ p tb, v = .ref p ∧ TbA K C H p tb ∧ Q .non H) ∨ (NotT K C H v ∧ ∀ d, H d = none → E (.ref CT) (some d) (upd H d (.xd [("value", v)]))))
def spChkS (K : PySem.W.Frag) (C CS : Addr) : Sp := fun vs H Q E => ∃ p v tb o, vs = [.ref p, v] ∧ TbA K C H p tb ∧ tb.length ≤ 16 ∧ RowD K H v o ∧ (okS tb.length o = true → ∀ H', Same H H' → Q .non H') ∧
  (okS tb.length o = false → ∀ H' d, Same H H' → H' d = none → E (.ref CS) (some d) (upd H' d (.xd [("value", v)])))
def spIsRg (K : PySem.W.Frag) : Sp := fun vs H Q _ => ∃ x y n, vs = [x, y, .int n] ∧ Itm K H x ∧ Itm K H y ∧ Q (.bl (rgB n x y)) H
def spMultd (K : PySem.W.Frag) : Sp := fun vs H Q _ => ∃ (v u : V) (tb : List (List Int)) (ws : List Nat), vs = [v, u] ∧ RowsL H v tb ∧ Sqr tb ∧ Sq K H u (nv ws) ∧ ws ≠ [] ∧ (∀ x, x ∈ ws → x < tb.length) ∧ ∀ H', Same H H' → Q (.int (fld tb ws : Nat)) H'
section
variable {P : Program} {w : World} {K : PySem.W.Frag} {mg : Str → Option Value} {base : Heap} {f g gn fl g1 g2 g3 fE : Addr} {fd gd gnd dl d1 d2 d3 dE : FuncData} {C CT CS CR : Addr}
theorem scChkTX : FnScope ["table"] ["table"] (defScope sChkTX) := ⟨rfl, rfl, rfl, by decide +kernel, rfl, by decide +kernel, by decide +kernel⟩
theorem ok_chkTX (F : Fun K "check_table" "check_table" sChkTX f fd) (M : Mn mg) (T : CTx K mg C) (Y : CTi K C) (TE : ETx K mg "InvalidTable" "value" CT fE) (FE : FnOk P w K mg base CX0 1 fE dE ["self", "value"] (spEi K CT "value")) (bE : Binds K dE ["self", "value"] []) :
    FnOk P w K mg base (L2.CX P w) 3 f fd ["table"] (spChkTX K C CT) := by
  refine F.okX scChkTX (fun vs H Q E h => ?_) (fun cdv A outer s H vs Q E hr h => ?_)
  · obtain ⟨v, rfl, _⟩ := h
    rfl
  obtain ⟨v, rfl, h⟩ := h
  refine ⟨_, pss_one (ps_if (pt_not (pt_val (pe_callB call_isi (by rfl) M.isin (by decide +kernel) (pa_cons (pv 0) (pa_cons (pe_glob (v := .ref C) (by rfl) T.mgC rfl) pa_nil)))))
    (pss_one (ps_raise rfl (takes_of rfl rfl rfl rfl) (pmk_val TE.ox TE.iC TE.tI TE.noF FE hr bE (by rfl) TE.mgC (pa_cons (pv 0) pa_nil)))) pss_nil), ?_⟩
  rcases h with ⟨p, tb, rfl, ht, q⟩ | ⟨⟨t, ty, kt⟩, q⟩
  · exact ⟨_, rfl, _, .ref C, _, .ref C, true, rfl, .own C, ht.ty T Y, kit_self K C, _, rfl, iteF q⟩
  · exact ⟨_, rfl, _, .ref C, t, .ref C, false, rfl, .own C, ty, kt, _, rfl, iteT ⟨fun vs H1 => vs = [v] ∧ H1 = H, ⟨_, rfl, rfl, rfl⟩, by rintro _ _ ⟨rfl, rfl⟩; exact ⟨v, rfl, q⟩⟩⟩
end
end L

set_option Elab.async false
set_option linter.all false
set_option maxRecDepth 100000
set_option maxHeartbeats 4000000
namespace L
open PySem L2 KX
/-- two parts of a heap -/
def un (F G : Hp) : Hp := fun b => match F b with
  | some o => some o
  | none => G b
theorem un_l {F G : Hp} : Same F (un F G) := fun b o e => by unfold un; rw [e]
theorem un_n {F G : Hp} {b : Addr} (h : F b = none) : un F G b = G b := by unfold un; rw [h]
theorem un_to {F G J : Hp} (s1 : Same F J) (s2 : Same G J) : Same (un F G) J := fun b o e => by
  cases h : F b with
  | some o' =>
    have : un F G b = some o' := un_l _ _ h
    rw [this] at e
    cases e
    exact s1 _ _ h
  | none => rw [un_n h] at e; exact s2 _ _ e
/-- what is known of a part of the heap, when some more is new -/
theorem ext {F J J1 : Hp} (s : Same F J) (s1 : Same F J1) : ∃ F', Same F F' ∧ Same (nw J J1) F' ∧ Same F' J1 ∧ ∀ b, F b = none → J b ≠ none → F' b = none :=
  ⟨un F (nw J J1), un_l, fun b o e => by
    have h := nw_some e
    have hf : F b = none := by
      cases hf : F b with
      | none => rfl
      | some u => rw [s _ _ hf] at h; exact nomatch h.1
    rw [un_n hf]; exact e, un_to s1 nw_same, fun b h1 h2 => by
    rw [un_n h1]
    unfold nw
    cases hj : J b with
    | none => exact absurd hj h2
    | some u => rfl⟩
theorem fx {F J J' : Hp} {p : Addr} (s : Same F J) (n : F p = none) (x : Sx p J J') : Same F J' := fun b o e => x b o (ne_of_none e n) (s b o e)
theorem fu {F J : Hp} {t : Addr} {o : HO} (s : Same F J) (n : F t = none) : Same F (upd J t o) := fun b u e => by rw [upd_ne (ne_of_none e n)]; exact s b u e
theorem TbA.sx {K : PySem.W.Frag} {C : Addr} {H J : Hp} {p x : Addr} {tb : List (List Int)} (s : Sx p H J) (b : Bx H p) (h : TbA K C H x tb) : TbA K C J x tb := by
  obtain ⟨b0, b1, b2, eb, _⟩ := b
  have up : ∀ {r : Addr} {xs : List V}, SqT K H r xs → SqT K J r xs := fun {r xs} h => by
    rcases h with (h | ⟨o, h⟩) | h
    · exact .inl (.inl (s _ _ (fun z => by rw [z, eb] at h; cases h) h))
    · exact .inl (.inr ⟨o, s _ _ (fun z => by rw [z, eb] at h; cases h) h⟩)
    · exact .inr h
  obtain ⟨dx, t, rs, hp, ht, pr⟩ := h.ob
  exact ⟨dx, t, rs, s _ _ (fun z => by rw [z, eb] at hp; cases hp) hp, up ht, L2.Paired.mapP pr fun _ _ ⟨r, e, hr⟩ => ⟨r, e, up hr⟩⟩
/-- the heap but the box -/
def mn (p : Addr) (J : Hp) : Hp := fun b => if b = p then none else J b
theorem mn_same {p : Addr} {J : Hp} : Same (mn p J) J := fun b o e => by
  unfold mn at e
  by_cases h : b = p
  · rw [if_pos h] at e; cases e
  · rw [if_neg h] at e; exact e
theorem mn_p {p : Addr} {J : Hp} : mn p J p = none := if_pos rfl
theorem mn_sx {p : Addr} {J : Hp} : Sx p J (mn p J) := fun b o n e => by unfold mn; rw [if_neg n]; exact e
theorem mn_nw {p : Addr} {H J : Hp} (h : H p ≠ none) : Same (nw H J) (mn p J) := fun b o e => by
  have q := nw_some e
  exact mn_sx _ _ (fun z => h (z ▸ q.1)) q.2
end L

set_option Elab.async false
set_option linter.all false
set_option maxRecDepth 100000
set_option maxHeartbeats 4000000
set_option pp.maxSteps 400
namespace L
open PySem L2 KX
abbrev sChkE : Stmt := top 18
abbrev sPrd : Stmt := inClass (top 16) 4
abbrev sEiT : Stmt := inClass (top 5) 0
abbrev sEiM : Stmt := inClass (top 8) 0
def spChkE (K : PySem.W.Frag) (C : Addr) : Sp := fun vs H Q _ => ∃ (p : Addr) (a : Nat) (tb : List (List Int)), vs = [.ref p, .int (a : Int)] ∧ TbA K C H p tb ∧ a < tb.length ∧ tb.length ≤ 16 ∧ Q .non H
def spPrd (K : PySem.W.Frag) (C : Addr) : Sp := fun vs H Q _ => ∃ (p : Addr) (a b : Nat) (tb : List (List Int)), vs = [.ref p, .int (a : Int), .int (b : Int)] ∧ TbA K C H p tb ∧ Sqr tb ∧ a < tb.length ∧ b < tb.length ∧ Q (.int (mu tb a b)) H
theorem mu_nat {tb : List (List Int)} (S : Sqr tb) {a b : Nat} (ha : a < tb.length) (hb : b < tb.length) : mu tb a b = (((mu tb a b).toNat : Nat) : Int) ∧ (mu tb a b).toNat < tb.length := by
  have := S.el a b ha hb
  omega
theorem row_g {tb : List (List Int)} (S : Sqr tb) {a b : Nat} (ha : a < tb.length) (hb : b < tb.length) : ((tb.getD a []).map V.int)[b]? = some (.int (mu tb a b)) := by
  have e : tb.getD a [] = tb[a] := by rw [List.getD_eq_getElem?_getD, List.getElem?_eq_getElem ha]; rfl
  have l := S.row _ (List.getElem_mem ha)
  unfold mu
  rw [e, List.getElem?_map, List.getD_eq_getElem?_getD (l := tb[a]), List.getElem?_eq_getElem (by omega)]; rfl
/-- a row by its place -/
theorem rw_at {G : Hp} {v : V} {ms : List (List Int)} {a : Nat} (h : RowsL G v ms) (ha : a < ms.length) : ∃ (l : Addr) (rs : List Addr) (r : Addr), v = .ref l ∧ G l = some (.lst (rs.map V.ref)) ∧ (rs.map V.ref)[a]? = some (.ref r) ∧ G r = some (.lst ((ms.getD a []).map V.int)) := by
  obtain ⟨l, rs, rfl, e, pr⟩ := h
  have hl : rs.length = ms.length := pr.length
  have h1 : rs[a]? = some rs[a] := List.getElem?_eq_getElem (by omega)
  obtain ⟨row, hrow, er⟩ := pair_at pr h1
  refine ⟨l, rs, rs[a], rfl, e, by rw [List.getElem?_map, h1]; rfl, ?_⟩
  rw [List.getD_eq_getElem?_getD, hrow]; exact er
/-- rows as a list -/
theorem RowsL.sq {G : Hp} {v : V} {tb : List (List Int)} (h : RowsL G v tb) : ∃ a xs, v = .ref a ∧ G a = some (.lst xs) ∧ xs.length = tb.length := by
  obtain ⟨a, rs, e, h1, pr⟩ := h
  exact ⟨a, _, e, h1, by rw [List.length_map]; exact pr.length⟩
section
variable {P : Program} {w : World} {K : PySem.W.Frag} {mg : Str → Option Value} {base : Heap} {f g gn fl g1 g2 g3 fE : Addr} {fd gd gnd dl d1 d2 d3 dE : FuncData} {C CT CS CR : Addr}
theorem scChkE : FnScope ["table", "element"] ["table", "element"] (defScope sChkE) := ⟨rfl, rfl, rfl, by decide +kernel, rfl, by decide +kernel, by decide +kernel⟩
theorem ok_chkE (F : Fun K "check_element" "check_element" sChkE f fd) (M : Mn mg) (G : FnOk P w K mg base CX0 2 g gd ["value", "limit"] (spBelow K)) (bG : Binds K gd ["value", "limit"] []) (kG : PySem.W.keepIn K (.ref g) = true) (mG : mg "is_number_below" = some (.ref g))
    (GL : FnOk P w K mg base CX0 1 fl dl ["self"] (spLenM K C)) (bL : Binds K dl ["self"] []) (hL : PySem.W.findIn K (.ref C) "__len__" = some (some (.ref fl))) (tL : PySem.W.typeIn K (.ref fl) = some (.type "function")) : FnOk P w K mg base CX0 3 f fd ["table", "element"] (spChkE K C) := by
  refine F.ok scChkE (fun vs H Q E h => ?_) (fun cdv A outer s H vs Q E hr h => ?_)
  · obtain ⟨p, a, tb, rfl, _⟩ := h
    rfl
  obtain ⟨p, a, tb, rfl, ht, ha, n16, q⟩ := h
  refine ⟨_, pss_one (ps_if (pt_not (pt_val (pe_call G hr (by rfl) mG kG bG .nil pass0 (pa_cons (pv 1) (pa_cons (pe_callB (call_lenOwn hL tL GL hr bL) (by rfl) M.len PySem.boot_len (pa_cons (pv 0) pa_nil)) pa_nil))))) pss_dead pss_nil), ?_⟩
  obtain ⟨dx, t, rs, hp, _, _⟩ := ht.ob
  refine ⟨_, rfl, _, rfl, p, dx, _, rfl, hp, p, tb, rfl, ht, tb.length, rfl, by omega, _, _, rfl, .inl ⟨_, rfl⟩, _, rfl, ?_⟩
  have e : nb (tb.length : Int) (.int (a : Int)) = true := by
    show (decide ((0 : Int) ≤ (a : Int)) && decide ((a : Int) < (tb.length : Int))) = true
    rw [decide_eq_true (by omega), decide_eq_true (by omega)]; rfl
  rw [e]
  exact iteF q
theorem scPrd : FnScope ["self", "first", "second"] ["self", "first", "second"] (defScope sPrd) := ⟨rfl, rfl, rfl, by decide +kernel, rfl, by decide +kernel, by decide +kernel⟩
theorem ok_prd (F : Fun K "product" "ProductTable.product" sPrd f fd) (T : CTx K mg C)
    (G2 : FnOk P w K mg base CX0 3 g2 d2 ["table", "element"] (spChkE K C)) (b2 : Binds K d2 ["table", "element"] []) (k2 : PySem.W.keepIn K (.ref g2) = true) (m2 : mg "check_element" = some (.ref g2)) :
    FnOk P w K mg base CX0 4 f fd ["self", "first", "second"] (spPrd K C) := by
  refine F.ok scPrd (fun vs H Q E h => ?_) (fun cdv A outer s H vs Q E hr h => ?_)
  · obtain ⟨p, a, b, tb, rfl, _⟩ := h
    rfl
  obtain ⟨p, a, b, tb, rfl, ht0, S, ha, hb, q⟩ := h
  refine ⟨_, pss_cons (ps_expr (pe_call G2 hr (by rfl) m2 k2 b2 .nil pass0 (pa_cons (pv 0) (pa_cons (pv 1) pa_nil))))
    (pss_cons (ps_expr (pe_call G2 hr (by rfl) m2 k2 b2 .nil pass0 (pa_cons (pv 0) (pa_cons (pv 2) pa_nil))))
    (pss_one (ps_ret (pe_ix ix_tup (pe_ix ix_tup (pe_fld (pv 0) rfl) (pv 1) (fun _ _ => rfl)) (pv 2) (fun _ _ => rfl))))), ?_⟩
  obtain ⟨dx, t, rs, hp, ht, pr⟩ := ht0.ob
  obtain ⟨r, h1, h2, h3⟩ := row_at pr S ha
  refine ⟨_, rfl, _, rfl, p, a, tb, rfl, ht0, ha, S.ge, _, rfl, _, rfl, p, b, tb, rfl, ht0, hb, S.ge, ?_⟩
  refine ⟨_, rfl, p, C, dx, _, _, rfl, hp, T.cl, T.nR, rfl, _, rfl, t, rs, _, _, rfl, rfl, ht, at_of (j := a) rfl h1, _, rfl, r, _, _, _, rfl, rfl, h2, at_of (j := b) rfl (h3 b hb), ?_⟩
  exact q
theorem scEiT : FnScope ["self", "value"] ["self", "value"] (defScope sEiT) := ⟨rfl, rfl, rfl, by decide +kernel, rfl, by decide +kernel, by decide +kernel⟩
theorem ok_eiT (F : Fun K "__init__" "InvalidTable.__init__" sEiT f fd) : FnOk P w K mg base CX0 1 f fd ["self", "value"] (spEi K C "value") := by
  refine F.ok scEiT (fun vs H Q E h => ?_) (fun cdv A outer s H vs Q E hr h => ?_)
  · obtain ⟨a, v, rfl, _⟩ := h
    rfl
  obtain ⟨a, v, rfl, ha, T, no, q⟩ := h
  exact ⟨_, pss_one (ps_ost (pv 0) (pv 1)), ⟨_, rfl, _, rfl, a, C, rfl, T, no, .inl ⟨ha, fun dx h1 h2 => q dx h1 h2⟩⟩⟩
theorem scEiM : FnScope ["self", "count"] ["self", "count"] (defScope sEiM) := ⟨rfl, rfl, rfl, by decide +kernel, rfl, by decide +kernel, by decide +kernel⟩
theorem ok_eiM (F : Fun K "__init__" "TooMany.__init__" sEiM f fd) : FnOk P w K mg base CX0 1 f fd ["self", "count"] (spEi K C "count") := by
  refine F.ok scEiM (fun vs H Q E h => ?_) (fun cdv A outer s H vs Q E hr h => ?_)
  · obtain ⟨a, v, rfl, _⟩ := h
    rfl
  obtain ⟨a, v, rfl, ha, T, no, q⟩ := h
  exact ⟨_, pss_one (ps_ost (pv 0) (pv 1)), ⟨_, rfl, _, rfl, a, C, rfl, T, no, .inl ⟨ha, fun dx h1 h2 => q dx h1 h2⟩⟩⟩
end
end L

set_option Elab.async false
set_option linter.all false
set_option maxRecDepth 100000
set_option maxHeartbeats 4000000
set_option pp.maxSteps 400
namespace L
open PySem L2 KX
abbrev sPt : Stmt := top 22
abbrev nPt : List Str := ["first", "second", "size", "count", "firsts", "seconds", "left", "right", "rows", "a", "pair", "b"]
def tf (tb : List (List Int)) (a b : Nat) : Nat := (mu tb a b).toNat
def prN (tb tc : List (List Int)) : Nat := tb.length * tc.length
def prF (tb tc : List (List Int)) : List Nat := (List.range (prN tb tc)).map fun i => i / tc.length
def prS (tb tc : List (List Int)) : List Nat := (List.range (prN tb tc)).map fun i => i % tc.length
def prT (tb tc : List (List Int)) : List (List Int) := tab (prN tb tc) (fpr tc.length (tf tb) (tf tc))
theorem pr_le {tb tc : List (List Int)} (S : Sqr tb) (R : Sqr tc) : 1 ≤ prN tb tc := by
  have := Nat.mul_le_mul S.le R.le
  rw [Nat.one_mul] at this
  exact this
theorem pr_tb {tb tc : List (List Int)} (S : Tb tb) (R : Tb tc) (h : prN tb tc ≤ 16) : Tb (prT tb tc) := tab_tb (pr_le S.sq R.sq) h (asf_pairs R.sq.le (asf_of S) (asf_of R))
/-- what pair_table gives -/
def PrR (K : PySem.W.Frag) (C : Addr) (H J : Hp) (tb tc : List (List Int)) (x : V) : Prop := ∃ t p fa sa, x = .ref t ∧ J t = some (.tup [.ref p, .ref fa, .ref sa]) ∧ TbA K C J p (prT tb tc) ∧ J fa = some (.lst (nv (prF tb tc))) ∧ J sa = some (.lst (nv (prS tb tc))) ∧ H fa = none ∧ H sa = none ∧ fa ≠ sa
def spPt (K : PySem.W.Frag) (C CT CM : Addr) : Sp := fun vs H Q E => ∃ x y, vs = [x, y] ∧ ((NotT K C H x ∧ ∀ d, H d = none → E (.ref CT) (some d) (upd H d (.xd [("value", x)]))) ∨ ∃ p tb, x = .ref p ∧ TbA K C H p tb ∧ Tb tb ∧
  ((NotT K C H y ∧ ∀ d, H d = none → E (.ref CT) (some d) (upd H d (.xd [("value", y)]))) ∨ ∃ q tc, y = .ref q ∧ TbA K C H q tc ∧ Tb tc ∧
    (16 < prN tb tc → ∀ d, H d = none → E (.ref CM) (some d) (upd H d (.xd [("count", .int ((prN tb tc : Nat) : Int))]))) ∧
    (prN tb tc ≤ 16 → ∀ z H', Same H H' → PrR K C H H' tb tc z → Q z H')))
section
variable {P : Program} {w : World} {K : PySem.W.Frag} {mg : Str → Option Value} {base : Heap} {f g gn fl g1 g2 g3 g5 fI fE : Addr} {fd gd gnd dl d1 d2 d3 d5 dI dE : FuncData} {C CT CM : Addr}
theorem scPt : FnScope nPt ["first", "second"] (defScope sPt) := ⟨rfl, rfl, rfl, by decide +kernel, rfl, by decide +kernel, by decide +kernel⟩
theorem ok_pt (F : Fun K "pair_table" "pair_table" sPt f fd) (M : Mn mg) (T : CTx K mg C) (mL : ∃ t, mg "LARGEST_TABLE" = some (.int 16 t))
    (TE : ETx K mg "TooMany" "count" CM fE) (FE : FnOk P w K mg base CX0 1 fE dE ["self", "count"] (spEi K CM "count")) (bE : Binds K dE ["self", "count"] [])
    (G1 : FnOk P w K mg base (L2.CX P w) 3 g1 d1 ["table"] (spChkTX K C CT)) (b1 : Binds K d1 ["table"] []) (k1 : PySem.W.keepIn K (.ref g1) = true) (m1 : mg "check_table" = some (.ref g1))
    (GL : FnOk P w K mg base CX0 1 fl dl ["self"] (spLenM K C)) (bL : Binds K dl ["self"] []) (hL : PySem.W.findIn K (.ref C) "__len__" = some (some (.ref fl))) (tL : PySem.W.typeIn K (.ref fl) = some (.type "function"))
    (G5 : FnOk P w K mg base CX0 1 g5 d5 ["self"] (spRowsM K C)) (b5 : Binds K d5 ["self"] []) (h5 : Meth K C "rows" g5)
    (MI : Mk K C fI) (GI : FnOk P w K mg base CX0 5 fI dI ["self", "rows"] (spInit K C)) (bI : Binds K dI ["self", "rows"] []) :
    FnOk P w K mg base (L2.CX P w) 7 f fd ["first", "second"] (spPt K C CT CM) := by
  obtain ⟨tL', mL⟩ := mL
  refine F.okX scPt (fun vs H Q E h => ?_) (fun cdv A outer s H vs Q E hr h => ?_)
  · obtain ⟨x, y, rfl, _⟩ := h
    rfl
  obtain ⟨x, y, rfl, h⟩ := h
  have hr1 : Room 1 _ := hr.mono (by decide)
  have hr2 : Room 2 _ := hr.mono (by decide)
  have hr3 : Room 3 _ := hr.mono (by decide)
  refine ⟨_, pss_cons (ps_expr (pe_call G1 hr3 (by rfl) m1 k1 b1 .nil (passes_call (takes_of rfl rfl rfl rfl) (fun _ _ _ _ h => h)) (pa_cons (pv 0) pa_nil)))
    (pss_cons (ps_expr (pe_call G1 hr3 (by rfl) m1 k1 b1 .nil (passes_call (takes_of rfl rfl rfl rfl) (fun _ _ _ _ h => h)) (pa_cons (pv 1) pa_nil)))
    (pss_cons (ps_set (i := 2) scPt.nd rfl (Or.inr rfl) (pe_callB (call_lenOwn hL tL GL hr2 bL) (by rfl) M.len PySem.boot_len (pa_cons (pv 1) pa_nil)))
    (pss_cons (ps_set (i := 3) scPt.nd rfl (Or.inl rfl) (pe_op op_mul (pe_callB (call_lenOwn hL tL GL hr2 bL) (by rfl) M.len PySem.boot_len (pa_cons (pv 0) pa_nil)) (pv 2)))
    (pss_cons (ps_if (pt_cmpR op_gt (pv 3) (pe_glob (v := .int 16) (by rfl) mL ⟨_, rfl⟩) (nomark _)) (pss_one (ps_raise rfl (takes_of rfl rfl rfl rfl) (pmk_val TE.ox TE.iC TE.tI TE.noF FE hr2 bE (by rfl) TE.mgC (pa_cons (pv 3) pa_nil)))) pss_nil)
    (pss_cons (ps_set (i := 4) scPt.nd rfl (Or.inr rfl) (pe_lc (own := [("pair", 10)]) (g := gName 10) (tt := tYes) rfl scPt.nd (pi_range1 (by rfl) M.range (pa_cons (pv 3) pa_nil)) (blkOk_by (N := nPt) (sc := defScope sPt) (by decide +kernel))
      (fun _ _ _ _ _ => pg_name (i := 10) scPt.nd rfl (Or.inl rfl)) (fun _ _ _ _ _ => pts_nil) (fun _ _ _ _ _ => pe_op op_fdiv (pv 10) (pv 2))))
    (pss_cons (ps_set (i := 5) scPt.nd rfl (Or.inr rfl) (pe_lc (own := [("pair", 10)]) (g := gName 10) (tt := tYes) rfl scPt.nd (pi_range1 (by rfl) M.range (pa_cons (pv 3) pa_nil)) (blkOk_by (N := nPt) (sc := defScope sPt) (by decide +kernel))
      (fun _ _ _ _ _ => pg_name (i := 10) scPt.nd rfl (Or.inl rfl)) (fun _ _ _ _ _ => pts_nil) (fun _ _ _ _ _ => pe_op op_sub (pv 10) (pe_op op_mul (pv 2) (pe_ix (ixl (K := K) rfl) (pv 4) (pv 10) (fun _ _ => rfl))))))
    (pss_cons (ps_asg (pe_tup (pa_cons (pe_meth0 (pv 0) T.cl h5 G5 hr1 b5 .nil pass0) (pa_cons (pe_meth0 (pv 1) T.cl h5 G5 hr1 b5 .nil pass0) pa_nil)))
      (pg_tup rfl (pgs_cons (pg_name (i := 6) scPt.nd rfl (Or.inr rfl)) (pgs_cons (pg_name (i := 7) scPt.nd rfl (Or.inr rfl)) pgs_nil))))
    (pss_cons (ps_set (i := 8) scPt.nd rfl (Or.inl rfl) (pe_lst pa_nil))
    (pss_cons (ps_for (passes_of rfl) rfl (pi_range1 (by rfl) M.range (pa_cons (pv 3) pa_nil)) (pg_name (i := 9) scPt.nd rfl (Or.inr rfl))
      (pss_one (ps_expr (pe_bm PySem.F.plainAttrs_list PySem.F.slot_list_append PySem.F.type_list_append mt_append (pv 8) (pa_cons
        (pe_lc (own := [("b", 11)]) (g := gName 11) (tt := tYes) rfl scPt.nd (pi_range1 (by rfl) M.range (pa_cons (pv 3) pa_nil)) (blkOk_by (N := nPt) (sc := defScope sPt) (by decide +kernel))
          (fun _ _ _ _ _ => pg_name (i := 11) scPt.nd rfl (Or.inl rfl)) (fun _ _ _ _ _ => pts_nil)
          (fun _ _ _ _ _ => pe_op op_add (pe_op op_mul (pe_ix (ixl (K := K) rfl) (pe_ix (ixl (K := K) rfl) (pv 6) (pe_ix (ixl (K := K) rfl) (pv 4) (pv 9) (fun _ _ => rfl)) (fun _ _ => rfl)) (pe_ix (ixl (K := K) rfl) (pv 4) (pv 11) (fun _ _ => rfl)) (fun _ _ => rfl)) (pv 2))
            (pe_ix (ixl (K := K) rfl) (pe_ix (ixl (K := K) rfl) (pv 7) (pe_ix (ixl (K := K) rfl) (pv 5) (pv 9) (fun _ _ => rfl)) (fun _ _ => rfl)) (pe_ix (ixl (K := K) rfl) (pv 5) (pv 11) (fun _ _ => rfl)) (fun _ _ => rfl)))) pa_nil)))))
    (pss_one (ps_ret (pe_tup (pa_cons (pe_make MI GI hr (by rfl) T.mgC bI .nil pass0 (pa_cons (pv 8) pa_nil)) (pa_cons (pv 4) (pa_cons (pv 5) pa_nil))))))))))))))), ?_⟩
  rcases h with ⟨nt, q⟩ | ⟨p, tb, rfl, ht, TT, h⟩
  · exact ⟨_, rfl, x, rfl, .inr ⟨nt, q⟩⟩
  refine ⟨_, rfl, _, rfl, .inl ⟨p, tb, rfl, ht, ?_⟩⟩
  rcases h with ⟨nt, q⟩ | ⟨p2, tc, rfl, hu, TU, q1, q2⟩
  · exact ⟨_, rfl, y, rfl, .inr ⟨nt, q⟩⟩
  refine ⟨_, rfl, _, rfl, .inl ⟨p2, tc, rfl, hu, ?_⟩⟩
  obtain ⟨dx1, t1, rs1, hp1, _, _⟩ := ht.ob
  obtain ⟨dx2, t2, rs2, hp2, _, _⟩ := hu.ob
  have n1 := TT.sq.le
  have n2 := TT.sq.ge
  have n3 := TU.sq.le
  have n4 := TU.sq.ge
  have mnI : ((tb.length : Int) * (tc.length : Int)) = ((prN tb tc : Nat) : Int) := (Int.natCast_mul _ _).symm
  refine ⟨_, rfl, p2, dx2, _, rfl, hp2, p2, tc, rfl, hu, tc.length, rfl, by omega, ?_⟩
  refine ⟨_, rfl, p, dx1, _, rfl, hp1, p, tb, rfl, ht, tb.length, rfl, by omega, _, rfl, _, _, rfl, rfl, .inl ⟨by omega, by omega⟩, ?_⟩
  dsimp only
  rw [mnI]
  refine ⟨_, rfl, _, _, rfl, rfl, _, rfl, ?_⟩
  refine ite2 (fun c => ?_) (fun c => ?_)
  · have c' : 16 < prN tb tc := by have := of_decide_eq_true c; omega
    exact ⟨fun vs H1 => vs = [.int ((prN tb tc : Nat) : Int)] ∧ H1 = H, ⟨_, rfl, rfl, rfl⟩, by rintro _ _ ⟨rfl, rfl⟩; exact ⟨_, rfl, q1 c'⟩⟩
  have c' : prN tb tc ≤ 16 := by
    refine Nat.le_of_not_lt fun z => c (decide_eq_true (by omega))
  have l1 := pr_le TT.sq TU.sq
  have dv : ∀ a, a < prN tb tc → a / tc.length < tb.length := fun a h => (Nat.div_lt_iff_lt_mul (by omega)).mpr h
  have md : ∀ a, a % tc.length < tc.length := fun a => Nat.mod_lt _ (by omega)
  -- firsts
  refine ⟨_, rfl, _, rfl, by omega, by omega, fun fa hfa => ?_⟩
  refine lc_range (lo := 0) (n := ((prN tb tc : Nat) : Int).toNat) (fun i J => Same H J ∧ J fa = some (.lst (nv ((List.range i).map fun i => i / tc.length)))) ⟨Same.new hfa _, upd_same⟩ ?_ ?_
  · rintro i J hi ⟨sJ, eJ⟩
    have hi' : i < prN tb tc := by simpa using hi
    refine ⟨rfl, _, rfl, _, rfl, _, _, rfl, rfl, ⟨by omega, by omega⟩, _, eJ, by rw [nv_len, List.length_map, List.length_range]; exact small1000 (by omega), fun b o eb => by rw [upd_ne (ne_of_none eb hfa)]; exact sJ b o eb, ?_⟩
    rw [upd_same, List.range_succ, List.map_append]
    unfold nv
    rw [List.map_append]
    refine congrArg (fun z => some (HO.lst (_ ++ [V.int z]))) ?_
    show ((0 : Int) + (i : Int)) / (tc.length : Int) = ((i / tc.length : Nat) : Int)
    rw [Int.zero_add]; exact (Int.natCast_ediv _ _).symm
  rintro J1 ⟨s1, e1⟩
  rw [Int.toNat_natCast] at e1
  have e1 : J1 fa = some (.lst (nv (prF tb tc))) := e1
  have fAt : ∀ {i : Nat}, i < prN tb tc → (nv (prF tb tc))[i]? = some (.int ((i / tc.length : Nat) : Int)) := fun {i} hi => by
    unfold nv prF
    rw [List.getElem?_map, List.getElem?_map, List.getElem?_range hi]; rfl
  have sAt : ∀ {i : Nat}, i < prN tb tc → (nv (prS tb tc))[i]? = some (.int ((i % tc.length : Nat) : Int)) := fun {i} hi => by
    unfold nv prS
    rw [List.getElem?_map, List.getElem?_map, List.getElem?_range hi]; rfl
  -- seconds
  refine ⟨_, rfl, _, rfl, by omega, by omega, fun sa hsa => ?_⟩
  refine lc_range (lo := 0) (n := ((prN tb tc : Nat) : Int).toNat) (fun i J => Same J1 J ∧ J sa = some (.lst (nv ((List.range i).map fun i => i % tc.length)))) ⟨Same.new hsa _, upd_same⟩ ?_ ?_
  · rintro i J hi ⟨sJ, eJ⟩
    have hi' : i < prN tb tc := by simpa using hi
    rw [Int.zero_add]
    have hd := dv i hi'
    refine ⟨rfl, _, rfl, _, rfl, _, rfl, _, rfl, fa, _, _, _, rfl, rfl, SqL.of (sJ _ _ e1), at_of (j := i) rfl (fAt hi'), _, _, rfl, rfl, .inl ⟨by omega, by omega⟩, _, _, rfl, rfl, _, eJ, by rw [nv_len, List.length_map, List.length_range]; exact small1000 (by omega), fun b o eb => by rw [upd_ne (ne_of_none eb hsa)]; exact sJ b o eb, ?_⟩
    rw [upd_same, List.range_succ, List.map_append]
    unfold nv
    rw [List.map_append]
    refine congrArg (fun z => some (HO.lst (_ ++ [V.int z]))) ?_
    show (i : Int) - (tc.length : Int) * ((i / tc.length : Nat) : Int) = ((i % tc.length : Nat) : Int)
    have := Nat.div_add_mod i tc.length
    have e : ((tc.length * (i / tc.length) + i % tc.length : Nat) : Int) = (i : Int) := congrArg _ this
    rw [Int.natCast_add, Int.natCast_mul] at e
    omega
  rintro J2 ⟨s2, e2⟩
  rw [Int.toNat_natCast] at e2
  have e2 : J2 sa = some (.lst (nv (prS tb tc))) := e2
  have nfs : fa ≠ sa := ne_of_none e1 hsa
  have s12 := s1.trans s2
  -- the rows of both
  refine ⟨_, rfl, p, dx1, _, rfl, s12 _ _ hp1, rfl, p, tb, rfl, ht.to s12, n2, fun v3 J3 R3 s3 => ?_⟩
  refine ⟨_, rfl, p2, dx2, _, rfl, s3 _ _ (s12 _ _ hp2), rfl, p2, tc, rfl, hu.to (s12.trans s3), n4, fun v4 J4 R4 s4 => ?_⟩
  refine ⟨(by show 2 ≤ sizeLine; decide), fun t5 ht5 => ⟨t5, _, rfl, SqT.of upd_same, rfl, _, _, rfl, _, _, rfl, rfl, ?_⟩⟩
  have s5 := Same.new ht5 (.tup [v3, v4])
  have R3 : RowsL (upd J4 t5 (.tup [v3, v4])) v3 tb := ((R3.same nw_same).same s4).same s5
  have R4 : RowsL (upd J4 t5 (.tup [v3, v4])) v4 tc := (R4.same nw_same).same s5
  have s25 := (s3.trans s4).trans s5
  generalize upd J4 t5 (.tup [v3, v4]) = J5 at R3 R4 s25
  have e1 := s25 _ _ (s2 _ _ e1)
  have e2 := s25 _ _ e2
  have sH5 := s12.trans s25
  clear s3 s4 s5 ht5
  refine ⟨(by show 0 ≤ sizeLine; decide), fun ra hra => ?_⟩
  have n16 : ((prN tb tc : Nat) : Int) ≤ 16 := by omega
  refine ⟨_, rfl, _, rfl, by omega, by omega, ?_⟩
  refine for_range (lo := 0) (n := ((prN tb tc : Nat) : Int).toNat) (fun a σ J => Part J5 J ra (rowsTo (prN tb tc) (fpr tc.length (tf tb) (tf tc)) a) ∧ ∃ x9 x10 x11, σ = [some (.ref p), some (.ref p2), some (.int (tc.length : Int)), some (.int ((prN tb tc : Nat) : Int)), some (.ref fa), some (.ref sa), some v3, some v4, some (.ref ra), x9, x10, x11])
    ⟨Part.start (Same.refl J5) hra, _, _, _, rfl⟩ ?_ ?_
  · rintro a _ J ha ⟨pa, x9, x10, x11, rfl⟩
    have ha' : a < prN tb tc := by simpa using ha
    rw [Int.zero_add]
    obtain ⟨rs0, er0, _⟩ := pa.at_
    refine ⟨_, rfl, .inl ⟨rfl, _, SqL.of er0⟩, _, rfl, _, rfl, by omega, by omega, fun D hD => ?_⟩
    refine lc_range (lo := 0) (n := ((prN tb tc : Nat) : Int).toNat) (fun b G => Same J G ∧ G D = some (.lst ((rowTo (fpr tc.length (tf tb) (tf tc)) a b).map V.int))) ⟨Same.new hD _, upd_same⟩ ?_ ?_
    · rintro b G hb ⟨sG, eG⟩
      have hb' : b < prN tb tc := by simpa using hb
      rw [Int.zero_add]
      have sA := pa.same.trans sG
      obtain ⟨l3, rs3, r3, rfl, g3, g4, g5⟩ := rw_at (R3.same sA) (dv a ha')
      obtain ⟨l4, rs4, r4, rfl, h3, h4, h5⟩ := rw_at (R4.same sA) (md a)
      have em1 := mu_nat TT.sq (dv a ha') (dv b hb')
      refine ⟨rfl, _, rfl, _, rfl, _, rfl, fa, _, _, _, rfl, rfl, SqL.of (sA _ _ e1), at_of (j := a) rfl (fAt ha'), l3, _, _, _, rfl, rfl, SqL.of g3, at_of (j := a / tc.length) rfl g4, _, rfl, _, rfl, fa, _, _, _, rfl, rfl, SqL.of (sA _ _ e1), at_of (j := b) rfl (fAt hb'), r3, _, _, _, rfl, rfl, SqL.of g5, at_of (j := b / tc.length) rfl (row_g TT.sq (dv a ha') (dv b hb')), _, rfl, _, _, rfl, rfl, .inl ⟨by omega, by omega⟩, ?_⟩
      refine ⟨_, rfl, _, rfl, _, rfl, sa, _, _, _, rfl, rfl, SqL.of (sA _ _ e2), at_of (j := a) rfl (sAt ha'), l4, _, _, _, rfl, rfl, SqL.of h3, at_of (j := a % tc.length) rfl h4, _, rfl, _, rfl, sa, _, _, _, rfl, rfl, SqL.of (sA _ _ e2), at_of (j := b) rfl (sAt hb'), r4, _, _, _, rfl, rfl, SqL.of h5, at_of (j := b % tc.length) rfl (row_g TU.sq (md a) (md b)), _, _, rfl, rfl, ?_⟩
      refine ⟨_, eG, by rw [rowTo_len]; exact small1000 (by omega), fun b o eb => by rw [upd_ne (ne_of_none eb hD)]; exact sG b o eb, ?_⟩
      rw [upd_same, rowTo_next, List.map_append]
      refine congrArg (fun z => some (HO.lst (_ ++ [V.int z]))) ?_
      have em2 := mu_nat TU.sq (md a) (md b)
      show mu tb (a / tc.length) (b / tc.length) * (tc.length : Int) + mu tc (a % tc.length) (b % tc.length) = ((tf tb (a / tc.length) (b / tc.length) * tc.length + tf tc (a % tc.length) (b % tc.length) : Nat) : Int)
      rw [Int.natCast_add, Int.natCast_mul]
      unfold tf
      rw [← em1.1, ← em2.1]
    rintro G ⟨sG, eG⟩
    rw [Int.toNat_natCast] at eG
    obtain ⟨acc, ea, la, p1⟩ := pa.add sG hD eG
    refine ⟨ra, acc, _, rfl, rfl, ea, by rw [la, rowsTo_len]; exact small1000 (by omega), ?_, _, _, _, rfl⟩
    rw [rowsTo_next]
    exact p1
  rintro _ J6 ⟨pa, x9, x10, x11, rfl⟩
  rw [Int.toNat_natCast] at pa
  have pa' : Part J5 J6 ra (prT tb tc) := pa
  have TP := pr_tb TT TU c'
  refine ⟨_, rfl, fun z dz hz hdz nez => ?_⟩
  have sn : Same J6 (upd (upd J6 dz (.own z)) z (.ins C dz [])) := fun b o e => by rw [upd_ne (ne_of_none e hz), upd_ne (ne_of_none e hdz)]; exact e
  have RC : RowsL J6 (.ref ra) (prT tb tc) := pa'.fin.same nw_same
  have nD1 : ∀ b, V.ref ra = .ref b → b ≠ z := fun b e => by
    obtain ⟨_, _, e', ed, _⟩ := id RC
    cases e'
    cases e
    exact ne_of_none ed hz
  refine ⟨z, dz, .ref ra, prT tb tc, rfl, upd_same, (RC.same sn).rws, TP.sq, TP.as, nD1, fun J7 tz kz => ⟨rfl, ?_⟩⟩
  have s67 : Same J6 J7 := fun b o e => kz b o (ne_of_none e hz) (sn b o e)
  have s57 := pa'.same.trans s67
  refine ⟨_, rfl, _, rfl, (by show 3 ≤ sizeLine; decide), fun t8 ht8 => ?_⟩
  have s8 := Same.new ht8 (.tup [.ref z, .ref fa, .ref sa])
  exact q2 c' _ _ ((sH5.trans s57).trans s8) ⟨t8, z, fa, sa, rfl, upd_same, tz.to s8, s8 _ _ (s57 _ _ e1), s8 _ _ (s57 _ _ e2), hfa, s1.free hsa, nfs⟩
end
end L

set_option Elab.async false
set_option linter.all false
set_option maxRecDepth 100000
set_option maxHeartbeats 4000000
/-! Own layer: texts of digits. -/
namespace KX
open PySem
/-- the signs of a text -/
def cs (z : Str) : List Nat := z.cps.toList
theorem cs_len (z : Str) : (cs z).length = z.length := by unfold cs; rw [Array.length_toList]; rfl
theorem str_ext {y z : Str} (h : cs y = cs z) : y = z := by
  obtain ⟨⟨a⟩⟩ := y
  obtain ⟨⟨b⟩⟩ := z
  exact congrArg (fun l => (⟨⟨l⟩⟩ : Str)) h
def dg (c : Nat) : Bool := decide (48 ≤ c) && decide (c ≤ 57)
/-- behind a minus -/
def ab : List Nat → List Nat
  | 45 :: r => r
  | l => l
/-- a decimal number of at most thirty digits -/
def dec (l : List Nat) : Bool := decide (l = [48]) || (decide (ab l ≠ []) && (ab l).all dg && decide ((ab l).head? ≠ some 48) && decide ((ab l).length ≤ 30))
def nval (l : List Nat) : Int := match l with
  | 45 :: r => -((NumText.digitsVal r : Nat) : Int)
  | l => ((NumText.digitsVal l : Nat) : Int)
theorem all_dg {l : List Nat} (h : l.all dg = true) : NumText.AllDigits l := fun c hc => by
  have := List.all_eq_true.mp h c hc
  unfold dg at this
  obtain ⟨h1, h2⟩ := Bool.and_eq_true_iff.mp this
  exact ⟨of_decide_eq_true h1, of_decide_eq_true h2⟩
theorem uni_dg {c : Nat} (h : c < 128) : Unicode.isDigit c = dg c := by
  have e : Txt.isdigit ⟨#[c]⟩ = dg c := PySem.W.os_isdigit h
  have e2 : Txt.isdigit ⟨#[c]⟩ = (Unicode.isDigit c) := by
    show (decide ((⟨#[c]⟩ : Str).length > 0) && (#[c] : Array Nat).all Unicode.isDigit) = _
    simp [Str.length]
  rw [← e2, e]
theorem asc_cs (z : Str) : Txt.isascii z = (cs z).all (fun c => decide (c < 128)) := by
  unfold Txt.isascii cs
  rw [Array.all_toList]
theorem dig_cs {z : Str} (h : Txt.isascii z = true) : Txt.isdigit z = (decide (cs z ≠ []) && (cs z).all dg) := by
  rw [asc_cs] at h
  unfold Txt.isdigit
  have e : z.cps.all Unicode.isDigit = (cs z).all dg := by
    rw [← Array.all_toList]
    show (cs z).all Unicode.isDigit = _
    rw [Bool.eq_iff_iff, List.all_eq_true, List.all_eq_true]
    exact ⟨fun k c hc => by rw [← uni_dg (of_decide_eq_true (List.all_eq_true.mp h c hc))]; exact k c hc, fun k c hc => by rw [uni_dg (of_decide_eq_true (List.all_eq_true.mp h c hc))]; exact k c hc⟩
  rw [e]
  refine congrArg (· && _) ?_
  rw [Bool.eq_iff_iff, decide_eq_true_iff, decide_eq_true_iff, ← cs_len]
  exact ⟨fun k n => by rw [n] at k; exact absurd k (Nat.lt_irrefl 0), fun k => List.length_pos_iff.mpr k⟩
/-- dg signs are below 128 -/
theorem dg_asc {l : List Nat} (h : l.all dg = true) : l.all (fun c => decide (c < 128)) = true := by
  refine List.all_eq_true.mpr fun c hc => ?_
  have := all_dg h c hc
  exact decide_eq_true (by omega)
theorem int_cs {z : Str} (h : dec (cs z) = true) : intText? z = some (nval (cs z)) := by
  unfold dec at h
  rcases Bool.or_eq_true_iff.mp h with h | h
  · have e : cs z = [48] := of_decide_eq_true h
    rw [e]
    have ez : z = ⟨#[48]⟩ := str_ext e
    rw [ez]
    exact PySem.intText_digits (x := ⟨#[48]⟩) (fun c hc => by cases List.mem_singleton.mp hc; decide) (List.cons_ne_nil _ _) (by decide)
  · obtain ⟨h, h4⟩ := Bool.and_eq_true_iff.mp h
    obtain ⟨h, h3⟩ := Bool.and_eq_true_iff.mp h
    obtain ⟨h1, h2⟩ := Bool.and_eq_true_iff.mp h
    have n0 : ab (cs z) ≠ [] := of_decide_eq_true h1
    have l30 : (ab (cs z)).length ≤ 30 := of_decide_eq_true h4
    have ad := all_dg h2
    match hz : cs z with
    | 45 :: r =>
      rw [hz] at n0 l30 ad
      have hl : z.length ≤ 4300 := by rw [← cs_len, hz]; have : r.length ≤ 30 := l30; simp; omega
      exact PySem.intText_neg (x := z) hz ad n0 hl
    | [] => rw [hz] at n0; exact absurd rfl n0
    | c :: r =>
      by_cases hc : c = 45
      · subst hc
        rw [hz] at n0 l30 ad
        have hl : z.length ≤ 4300 := by rw [← cs_len, hz]; have : r.length ≤ 30 := l30; simp; omega
        exact PySem.intText_neg (x := z) hz ad n0 hl
      · have ea : ab (c :: r) = c :: r := by
          unfold ab
          split
          · rename_i q; exact absurd (List.cons.inj q).1 hc
          · rfl
        have ev : nval (c :: r) = ((NumText.digitsVal (c :: r) : Nat) : Int) := by
          unfold nval
          split
          · rename_i q; exact absurd (List.cons.inj q).1 hc
          · rfl
        rw [hz, ea] at n0 l30 ad
        have hl : z.length ≤ 4300 := by rw [← cs_len, hz]; omega
        rw [ev, ← hz]
        exact PySem.intText_digits (x := z) (by show NumText.AllDigits (cs z); rw [hz]; exact ad) (by show cs z ≠ []; rw [hz]; exact n0) hl
/-- text.removeprefix('-') -/
theorem rp_cs (z : Str) : cs (Txt.removeprefix z ⟨#[45]⟩) = ab (cs z) := by
  rw [StrLaws.removeprefix_eq, StrLaws.subAt_eq]
  have l1 : (⟨#[45]⟩ : Str).length = 1 := rfl
  have e1 : (⟨#[45]⟩ : Str).cps.toList = [45] := rfl
  rw [l1, e1]
  have hc : z.cps.toList = cs z := rfl
  have hn := cs_len z
  rw [hc]
  match hz : cs z with
  | [] =>
    rw [if_neg (by rw [Bool.and_eq_true]; rintro ⟨_, q⟩; exact absurd q (by decide))]
    exact hz
  | c :: r =>
    have hl : z.length = r.length + 1 := by rw [← hn, hz]; rfl
    by_cases h : c = 45
    · subst h
      rw [if_pos (by rw [Bool.and_eq_true]; exact ⟨decide_eq_true (by omega), rfl⟩)]
      show ((List.drop 1 (45 :: r)).take (z.length - 1)).toArray.toList = r
      rw [hl]
      show r.take (r.length + 1 - 1) = r
      rw [Nat.add_sub_cancel]
      exact List.take_length
    · rw [if_neg (by
        rw [Bool.and_eq_true]; rintro ⟨_, q⟩
        have q' : ([c] == [45]) = true := q
        exact h (List.cons.inj (eq_of_beq q')).1)]
      have ea : ab (c :: r) = c :: r := by
        unfold ab
        split
        · rename_i q; exact absurd (List.cons.inj q).1 h
        · rfl
      rw [ea]; exact hz
end KX

set_option Elab.async false
set_option linter.all false
set_option maxRecDepth 100000
set_option maxHeartbeats 4000000
/-! Own layer: a text times a number; a call that raises nothing. -/
namespace KX
open PySem PySem.Spec PyProof.Rows L2
def repS (z : Str) (k : Int) : Str := ⟨(List.replicate k.toNat z.cps).foldl (fun a b => a ++ b) #[]⟩
theorem foldl_app (z : Array Nat) : ∀ (n : Nat) (acc : Array Nat), ((List.replicate n z).foldl (fun a b => a ++ b) acc).toList = acc.toList ++ (List.replicate n z.toList).flatten
  | 0, acc => by simp
  | n + 1, acc => by
    rw [List.replicate_succ, List.foldl_cons, foldl_app z n, Array.toList_append, List.replicate_succ, List.flatten_cons, List.append_assoc]
theorem repS_cs (z : Str) (k : Int) : cs (repS z k) = (List.replicate k.toNat (cs z)).flatten := by
  show ((List.replicate k.toNat z.cps).foldl (fun a b => a ++ b) #[]).toList = _
  rw [foldl_app]; rfl
theorem repS_len (z : Str) (k : Int) : (repS z k).length = k.toNat * z.length := by
  rw [← cs_len, repS_cs, List.length_flatten, List.map_replicate, List.sum_replicate_nat, cs_len]
theorem repS_mem {z : Str} {k : Int} {c : Nat} (h : c ∈ cs (repS z k)) : c ∈ cs z := by
  rw [repS_cs] at h
  obtain ⟨l, h1, h2⟩ := List.mem_flatten.mp h
  rw [(List.mem_replicate.mp h1).2] at h2
  exact h2
section
variable {X : Cx}
theorem op_mulS : OpR X (binaryOp .Mult) (fun x y H Q => ∃ z k, x = .str z ∧ y = .int k ∧ 2 ≤ k ∧ k ≤ 10000 ∧ z.length = 1 ∧ Q (.str (repS z k)) H) := by
  intro pins s σ H x y v u Q I rx ry h
  obtain ⟨z, k, rfl, rfl, h1, h2, h3, q⟩ := h
  obtain ⟨t, rfl⟩ := rx
  obtain ⟨t', rfl⟩ := ry
  have n1 : ¬ k < 1 := by omega
  have n2 : (k == 1 || z.length == 0) = false := by
    rw [h3]
    have : (k == 1) = false := by rw [beq_eq_false_iff_ne]; omega
    rw [this]; rfl
  have hl : (repS z k).length ≤ sizeLine := by rw [repS_len, h3, sizeLine_eq]; omega
  refine P.mul_str ?_ (fun _ _ => ?_) (fun _ _ => ?_) ?_
  · rw [decide_eq_false (by omega), decide_eq_false (by omega)]; rfl
  · rw [h3]
    have : (1 : Int) ≤ (2 ^ 63 - 1) / k := Int.le_ediv_of_mul_le (by omega) (by omega)
    exact fun z => absurd this (Int.not_le.mpr z)
  · have : z.length * k.toNat ≤ sizeLine := by rw [h3, sizeLine_eq]; omega
    unfold Builtin.Str.tooLong
    exact decide_eq_false (by omega)
  · rw [if_neg n1, n2, if_neg Bool.false_ne_true]
    exact ⟨hl, .str (repS z k), H, I.tok _, ⟨_, rfl⟩, q⟩
/-- a def that may raise, called where it raises nothing -/
theorem passF {P : Program} {w : World} : Passes (L2.CX P w) X (fun _ _ _ => False) := fun _ _ _ _ _ _ _ h => by
  obtain ⟨_, _, _, _, _, _, _, _, _, _, _, _, h⟩ := h
  exact h.elim
end
section
variable {X : Cx} {CX : CXT} {k : Nat} {f : Addr} {fd : FuncData} {ps ks : List Str} {sp : Sp} {E : XK} {x : Str} {p pos : Pos} {kws : List Keyword} {tk : TA} {g : List Value → List Value → List Value} {gV : List V → List V → List V}
/-- f(k = v, ..), defaults fill up -/
theorem pe_kwN (F : FnOk X.prog X.w X.K X.mg X.base CX k f fd ps sp) (hr : Room k X.A) (hg : Gl X x) (hm : X.mg x = some (.ref f)) (hk : PySem.W.keepIn X.K (.ref f) = true) (hb : KBn X.K fd ps 0 ks g gV) (hx : Passes CX X E)
    (hkw : PK X kws tk) (hall : (backToKw pos (keywordEach kws X.env)).all (·.1.isSome) = true := by rfl) (hks : (backToKw pos (keywordEach kws X.env)).filterMap (·.1) = ks := by rfl) (hdb : (x == ("__debug__" : Str)) = false := by decide)
    (hpl : ((backTo pos (starEach [] X.env)).any (·.1) || (backToKw pos (keywordEach kws X.env)).any (·.1.isNone)) = false := by rfl) :
    PE X (.Call (.Name x p) [] kws pos) (tCallN 0 ks.length sp gV E tNil tk) := ⟨fun pins s σ H Q I h => by
  refine wpAny_Call_Name_kw (ld_glob I hg hm (PySem.W.callWith_KW0 (h₀ := X.base) I.ok.mod.kin hk hall (thn (hkw.run pos pins s σ H _ I h) ?_) hpl) hdb)
  rintro ws s2 ⟨zs, H2, I2, rz, l1, l2, q2⟩
  rw [hks]
  exact ⟨I2.kIn, run_fnN (us := []) (vs := []) F hr hb hx I2 .nil rz l1 l2 q2⟩⟩
end
section
variable {X : Cx} {k n : Nat} {f : Addr} {fd : FuncData} {ps ks : List Str} {sp : Sp} {E : L2.St → XK} {x : Str} {p pos : Pos} {e : Expr} {es : List Expr} {kws : List Keyword} {t tk : TA} {g : List Value → List Value → List Value} {gV : List V → List V → List V}
/-- f(e, .., k = v, ..) in a try, n places and the keywords ks, the other defaults fill up -/
def tCallNS (n m : Nat) (sp : Sp) (gV : List V → List V → List V) (E : L2.St → XK) (t tk : TA) : TE := fun σ H Q => t σ H fun vs H1 => tk σ H1 fun zs H2 => vs.length = n ∧ zs.length = m ∧ sp (gV vs zs) H2 Q (E σ)
theorem pe_callNS (F : FnOk X.prog X.w X.K X.mg X.base (L2.CX X.prog X.w) k f fd ps sp) (hr : Room k X.A) (hg : Gl X x) (hm : X.mg x = some (.ref f)) (hk : PySem.W.keepIn X.K (.ref f) = true) (hb : KBn X.K fd ps n ks g gV) (hx : ∀ σ, PassesAt (L2.CX X.prog X.w) X σ (E σ))
    (ha : PA X (e :: es) t) (hkw : PK X kws tk) (hall : (backToKw pos (keywordEach kws X.env)).all (·.1.isSome) = true := by rfl) (hks : (backToKw pos (keywordEach kws X.env)).filterMap (·.1) = ks := by rfl) (hdb : (x == ("__debug__" : Str)) = false := by decide)
    (he : starEach (e :: es) X.env = (false, eval e X.env) :: starEach es X.env := by rfl) (hpl : ((backTo pos (starEach (e :: es) X.env)).any (·.1) || (backToKw pos (keywordEach kws X.env)).any (·.1.isNone)) = false := by rfl) :
    PE X (.Call (.Name x p) (e :: es) kws pos) (tCallNS n ks.length sp gV E t tk) := ⟨fun pins s σ H Q I h => by
  refine wpAny_Call_Name_kw (ld_glob I hg hm (PySem.W.callWith_KW (h₀ := X.base) I.ok.mod.kin hk hall (thn (ha.run pos pins s σ H _ I h) ?_) hpl he) hdb)
  rintro us s1 ⟨vs, H1, I1, r, q⟩
  refine thn (hkw.run pos pins s1 σ H1 _ I1 q) ?_
  rintro ws s2 ⟨zs, H2, I2, rz, l1, l2, q2⟩
  rw [hks]
  refine ⟨I2.kIn, ?_⟩
  have r2 := hb.rel r rz
  refine wpAny_call (codeAny_mono (F.run X.A X.stack s2 H2 ⟨us, ks.zip ws⟩ (g us ws) (gV vs zs) Q (E σ) hr I2.env0 (hb.to s2 us ws I2.kIn (r.length.symm.trans l1) (rz.length.symm.trans l2)) r2 q2) fun o s' hq => ?_)
  match o, hq with
  | .error u, hq => exact hx σ pins H2 s2 u s' I2 hq
  | .ok (.ret u), hq => exact I2.after hq
  | .ok .next, hq => exact hq.elim
  | .ok .brk, hq => exact hq.elim
  | .ok .cont, hq => exact hq.elim⟩
end
/-- an except of a class -/
theorem exm_mk2 {K : PySem.W.Frag} {C D : Addr} {v : Bool} (o : OexC K C) (s : PySem.W.subIn K (.ref D) (.ref C) = some v) : PySem.W.exmOne K (.ref D) (.ref C) = some v := by
  obtain ⟨⟨_, _, _, _, _, _, _, _, _, _, _, _, _, _, _, hC, _⟩, _, b, t, _⟩ := o
  have hcl : (PySem.W.clsIn K C).isSome = true := by unfold PySem.W.clsIn; rw [hC]; rfl
  unfold PySem.W.exmOne PySem.W.kitCls
  rw [b]
  show (if (some true == some true) = true then (if ((PySem.W.clsIn K C).isSome && PySem.W.typeIn K (.ref C) == some (.type "type")) = true then PySem.W.subIn K (.ref D) (.ref C) else none) else none) = some v
  rw [hcl, t, s]
  have e : (some (Value.type "type") == some (Value.type "type")) = true := by rfl
  rw [e]; rfl
theorem exm_mk {K : PySem.W.Frag} {C : Addr} (o : OexC K C) (s : PySem.W.subIn K (.ref C) (.ref C) = some true) : PySem.W.exmOne K (.ref C) (.ref C) = some true := exm_mk2 o s
end KX

set_option Elab.async false
set_option linter.all false
set_option maxRecDepth 100000
set_option maxHeartbeats 4000000
set_option pp.maxSteps 400
namespace L
open PySem L2 KX
abbrev sFnd : Stmt := top 34
abbrev sSm : Stmt := top 35
abbrev sRt : Stmt := top 36
abbrev nRt : List Str := ["rows", "other", "found", "table", "firsts", "seconds", "i", "pairs", "a", "b", "j", "c", "d", "place"]
def spFnd (K : PySem.W.Frag) (C : Addr) : Sp := fun vs H Q _ => ∃ x y, vs = [x, y] ∧
  ((∃ z, ((z = x ∧ NotT K C H x) ∨ (z = y ∧ NotT K C H y ∧ ∃ p tb, x = .ref p ∧ TbA K C H p tb ∧ Tb tb)) ∧ ∀ r H', Same H H' → H' r = some (.lst [.str (Str.ofString "table"), z]) → Q (.ref r) H') ∨
   ∃ p q tb tc, x = .ref p ∧ y = .ref q ∧ TbA K C H p tb ∧ TbA K C H q tc ∧ Tb tb ∧ Tb tc ∧
    (16 < prN tb tc → ∀ r H', Same H H' → H' r = some (.lst [.str (Str.ofString "many"), .int ((prN tb tc : Nat) : Int)]) → Q (.ref r) H') ∧
    (prN tb tc ≤ 16 → ∀ r z H', Same H H' → H' r = some (.lst [.str (Str.ofString "found"), z]) → PrR K C H H' tb tc z → Q (.ref r) H'))
def spSm : Sp := fun vs H Q _ => ∃ (p : Addr) (m : Nat), vs = [.ref p, .int (m : Int)] ∧ Bx H p ∧ 1 ≤ m ∧ m ≤ 16 ∧ ∀ v H' n f, RwAt H p H' v n f → n ≤ m → Q v H'
def spRt (K : PySem.W.Frag) (C : Addr) : Sp := fun vs H Q _ => ∃ (v u z : V) (tb tc : List (List Int)) (H0 : Hp), vs = [v, u, z] ∧ RowsL H v tb ∧ RowsL H u tc ∧ Tb tb ∧ Tb tc ∧ prN tb tc ≤ 16 ∧ PrR K C H0 H tb tc z ∧ ∀ H', Same H H' → Q (.bl true) H'
theorem PrR.to {K : PySem.W.Frag} {C : Addr} {H J G : Hp} {tb tc : List (List Int)} {x : V} (s : Same J G) (h : PrR K C H J tb tc x) : PrR K C H G tb tc x :=
  let ⟨t, p, fa, sa, e, h1, h2, h3, h4, h5, h6, h7⟩ := h
  ⟨t, p, fa, sa, e, s _ _ h1, h2.to s, s _ _ h3, s _ _ h4, h5, h6, h7⟩
theorem okNs {N : Nat} : ∀ {m : List Nat}, (∀ x, x ∈ m → x ≤ N) → N < 2 ^ 90 → PyData.leavesShortAll 110 (nD m) = true ∧ PyData.showableAll (nD m) = true ∧ PyData.depthAll (nD m) = 0 ∧ PyData.weightAll (nD m) ≤ m.length * 101
  | [], _, _ => ⟨rfl, rfl, rfl, Nat.zero_le _⟩
  | x :: m, h, hN => by
    have hx := h x List.mem_cons_self
    have o := OkD.int (i := (x : Int)) (by omega)
    obtain ⟨g1, g2, g3, g4⟩ := okNs (m := m) (fun y hy => h y (List.mem_cons_of_mem _ hy)) hN
    unfold nD at g1 g2 g3 g4 ⊢
    refine ⟨?_, ?_, ?_, ?_⟩
    · simp only [List.map_cons, PyData.leavesShortAll, o.short, g1, Bool.and_self]
    · simp only [List.map_cons, PyData.showableAll, o.shows, g2, Bool.and_self]
    · have := o.deep
      simp only [List.map_cons, PyData.depthAll, g3]; omega
    · have := o.wt
      simp only [List.map_cons, PyData.weightAll, List.length_cons, Nat.succ_mul]; omega
theorem okNL {N k : Nat} {m : List Nat} (h : ∀ x, x ∈ m → x ≤ N) (hN : N < 2 ^ 90) (l : m.length ≤ k) : OkD 1 (k * 101) (.list (nD m)) := by
  obtain ⟨g1, g2, g3, g4⟩ := okNs h hN
  have := Nat.mul_le_mul_right 101 l
  exact ⟨by simpa only [PyData.leavesShort] using g1, by simpa only [PyData.showable] using g2, by simp only [PyData.depth, g3]; omega, by simp only [PyData.weight]; omega⟩
theorem dqN {G : Hp} : ∀ m : List Nat, DqAll G (nv m) (nD m)
  | [] => .nil
  | x :: m => .cons (.int _) (dqN m)
section
variable {P : Program} {w : World} {K : PySem.W.Frag} {mg : Str → Option Value} {base : Heap} {f g gn fl f1 f2 g1 g2 g3 g4 g5 fI fE : Addr} {fd gd gnd dl d1 d2 d3 d4 d5 dI dE : FuncData} {C CT CM : Addr}
theorem scFnd : FnScope ["one", "other", "e"] ["one", "other"] (defScope sFnd) := ⟨rfl, rfl, rfl, by decide +kernel, rfl, by decide +kernel, by decide +kernel⟩
theorem ok_fnd (F : Fun K "_law_found" "_law_found" sFnd f fd) (T1 : ETx K mg "InvalidTable" "value" CT f1) (T2 : ETx K mg "TooMany" "count" CM f2)
    (x11 : PySem.W.exmOne K (.ref CT) (.ref CT) = some true) (x21 : PySem.W.exmOne K (.ref CM) (.ref CT) = some false) (x22 : PySem.W.exmOne K (.ref CM) (.ref CM) = some true)
    (G : FnOk P w K mg base (L2.CX P w) 7 g gd ["first", "second"] (spPt K C CT CM)) (bG : Binds K gd ["first", "second"] []) (kG : PySem.W.keepIn K (.ref g) = true) (mG : mg "pair_table" = some (.ref g)) :
    FnOk P w K mg base CX0 8 f fd ["one", "other"] (spFnd K C) := by
  refine F.ok scFnd (fun vs H Q E h => ?_) (fun cdv A outer s H vs Q E hr h => ?_)
  · obtain ⟨x, y, rfl, _⟩ := h
    rfl
  obtain ⟨x, y, rfl, h⟩ := h
  refine ⟨_, pss_one (ps_try_to (tb := fun W => tRet (tLst (tCons (tC (.str (Str.ofString "found"))) (tCons (tCallS (spPt K C CT CM) (WE W) (tCons (tVar 0) (tCons (tVar 1) tNil))) tNil))))
      (l := [(.ref CT, 2, fun a cls d => tRet (tLst (tCons (tC (.str (Str.ofString "table"))) (tCons (tXf a cls d CT "value" (tVar 2)) tNil)))),
        (.ref CM, 2, fun a cls d => tRet (tLst (tCons (tC (.str (Str.ofString "many"))) (tCons (tXf a cls d CM "count" (tVar 2)) tNil))))]) rfl rfl scFnd.nd
    (.cons ⟨rfl, by decide, .inl T1.mgC⟩ rfl rfl (fun a oe cls d pn hz hf => pss_one (ps_ret (pe_lst (pa_cons pe_str (pa_cons (by exact pe_xf T1.xf T1.noF hz hf (pv 2)) pa_nil)))))
      (.cons ⟨rfl, by decide, .inl T2.mgC⟩ rfl rfl (fun a oe cls d pn hz hf => pss_one (ps_ret (pe_lst (pa_cons pe_str (pa_cons (by exact pe_xf T2.xf T2.noF hz hf (pv 2)) pa_nil))))) .rest))
    (fun W pn xe tk _ => pss_one (ps_ret (pe_lst (pa_cons pe_str (pa_cons (by exact pe_callS G hr (by rfl) mG kG bG (fun σ => passAt tk σ) (pa_cons (pv 0) (pa_cons (pv 1) pa_nil))) pa_nil)))))), ?_⟩
  refine ⟨_, rfl, _, rfl, x, y, rfl, ?_⟩
  rcases h with ⟨z, hz, q⟩ | ⟨p, p2, tb, tc, rfl, rfl, ht, hu, TT, TU, q1, q2⟩
  · rcases hz with ⟨rfl, nt⟩ | ⟨rfl, nt, p, tb, rfl, ht, TT⟩
    · refine .inl ⟨nt, fun d hd => ⟨true, x11, fun _ a ha => ?_, fun z => nomatch z⟩⟩
      have sd := Same.new hd (.xd [("value", z)])
      exact ⟨_, rfl, rfl, rfl, d, _, z, rfl, upd_same, rfl, (by show 2 ≤ sizeLine; decide), fun a' ha' => q a' _ (sd.trans (Same.new ha' _)) upd_same⟩
    · refine .inr ⟨p, tb, rfl, ht, TT, .inl ⟨nt, fun d hd => ⟨true, x11, fun _ a ha => ?_, fun z => nomatch z⟩⟩⟩
      have sd := Same.new hd (.xd [("value", z)])
      exact ⟨_, rfl, rfl, rfl, d, _, z, rfl, upd_same, rfl, (by show 2 ≤ sizeLine; decide), fun a' ha' => q a' _ (sd.trans (Same.new ha' _)) upd_same⟩
  · refine .inr ⟨p, tb, rfl, ht, TT, .inr ⟨p2, tc, rfl, hu, TU, fun c d hd => ?_, fun c z H' s' hz => ?_⟩⟩
    · refine ⟨false, x21, (fun z => nomatch z), fun _ => ⟨true, x22, fun _ a ha => ?_, fun z => nomatch z⟩⟩
      have sd := Same.new hd (.xd [("count", .int ((prN tb tc : Nat) : Int))])
      exact ⟨_, rfl, rfl, rfl, d, _, _, rfl, upd_same, rfl, (by show 2 ≤ sizeLine; decide), fun a' ha' => q1 c a' _ (sd.trans (Same.new ha' _)) upd_same⟩
    · refine ⟨(by show 2 ≤ sizeLine; decide), fun a' ha' => ?_⟩
      have sn := Same.new ha' (.lst [.str (Str.ofString "found"), z])
      exact q2 c a' z _ (s'.trans sn) upd_same (hz.to sn)
theorem scSm : FnScope ["box", "most", "rows"] ["box", "most"] (defScope sSm) := ⟨rfl, rfl, rfl, by decide +kernel, rfl, by decide +kernel, by decide +kernel⟩
theorem ok_sm (F : Fun K "_law_small" "_law_small" sSm f fd) (M : Mn mg)
    (G3 : FnOk P w K mg base CX0 1 g3 d3 ["box", "size"] spTake) (b3 : Binds K d3 ["box", "size"] []) (k3 : PySem.W.keepIn K (.ref g3) = true) (m3 : mg "_law_take" = some (.ref g3))
    (G4 : FnOk P w K mg base CX0 3 g4 d4 ["box"] spRows) (b4 : Binds K d4 ["box"] []) (k4 : PySem.W.keepIn K (.ref g4) = true) (m4 : mg "_law_rows" = some (.ref g4))
    (G5 : FnOk P w K mg base CX0 1 g5 d5 ["kind", "n"] spPlain) (b5 : Binds K d5 ["kind", "n"] []) (k5 : PySem.W.keepIn K (.ref g5) = true) (m5 : mg "_law_plain" = some (.ref g5)) :
    FnOk P w K mg base CX0 4 f fd ["box", "most"] spSm := by
  refine F.ok scSm (fun vs H Q E h => ?_) (fun cdv A outer s H vs Q E hr h => ?_)
  · obtain ⟨p, m, rfl, _⟩ := h
    rfl
  obtain ⟨p, m, rfl, bx, h1, h16, q⟩ := h
  have hr1 : Room 1 _ := hr.mono (by decide)
  refine ⟨_, pss_cons (ps_set (i := 2) scSm.nd rfl (Or.inl rfl) (pe_call G4 hr (by rfl) m4 k4 b4 .nil pass0 (pa_cons (pv 0) pa_nil)))
    (pss_cons (ps_if (pt_cmpR op_le (pe_callB call_len_seq (by rfl) M.len PySem.boot_len (pa_cons (pv 2) pa_nil)) (pv 1) (nomark _)) (pss_one (ps_ret (pv 2))) pss_nil)
    (pss_one (ps_ret (pe_call G5 hr1 (by rfl) m5 k5 b5 .nil pass0 (pa_cons (pe_call G3 hr1 (by rfl) m3 k3 b3 .nil pass0 (pa_cons (pv 0) (pa_cons pe_int pa_nil)))
      (pa_cons (pe_op op_add pe_int (pe_call G3 hr1 (by rfl) m3 k3 b3 .nil pass0 (pa_cons (pv 0) (pa_cons (pv 1) pa_nil)))) pa_nil)))))), ?_⟩
  refine ⟨_, rfl, p, rfl, bx, fun v J n fu h => ?_⟩
  obtain ⟨a, xs, rfl, hxs, lxs⟩ := h.lst (K := K)
  refine ⟨_, rfl, a, xs, rfl, .inl hxs, _, rfl, _, _, rfl, rfl, _, rfl, ?_⟩
  rw [lxs]
  refine ite2 (fun c => ?_) (fun c => ?_)
  · have c' : n ≤ m := by have := of_decide_eq_true c; omega
    exact ⟨_, rfl, q _ _ n fu h c'⟩
  · refine ⟨_, rfl, p, 6, rfl, h.bx, by decide, by decide, fun kd G2 ka kb b2 s2 => ⟨_, rfl, _, rfl, p, _, rfl, b2, by omega, by omega, fun r G3 ra rb b3 s3 => ?_⟩⟩
    obtain ⟨kd, rfl⟩ := Int.eq_ofNat_of_zero_le ka
    obtain ⟨r, rfl⟩ := Int.eq_ofNat_of_zero_le ra
    refine ⟨_, _, rfl, rfl, kd, 1 + r, congrArg (fun z => [V.int (kd : Int), V.int z]) (by omega), by omega, by omega, by omega, fun v' G4 rw s4 => ?_⟩
    exact q v' G4 (1 + r) (fpl kd (1 + r)) (RwAt.of b3 (h.sx.trans (s2.trans s3)) s4 (by omega) (by omega) (asf_plain kd (1 + r) (by omega)) rw) (by omega)
theorem scRt : FnScope nRt ["rows", "other", "found"] (defScope sRt) := ⟨rfl, rfl, rfl, by decide +kernel, rfl, by decide +kernel, by decide +kernel⟩
theorem ok_rt (F : Fun K "_law_right" "_law_right" sRt f fd) (M : Mn mg) (T : CTx K mg C) (Y : CTi K C) (hS : ∃ o, base.get? sysModules = some o)
    (GL : FnOk P w K mg base CX0 1 fl dl ["self"] (spLenM K C)) (bL : Binds K dl ["self"] []) (hL : PySem.W.findIn K (.ref C) "__len__" = some (some (.ref fl))) (tL : PySem.W.typeIn K (.ref fl) = some (.type "function"))
    (G4 : FnOk P w K mg base CX0 4 g4 d4 ["self", "first", "second"] (spPrd K C)) (b4 : Binds K d4 ["self", "first", "second"] []) (h4 : Meth K C "product" g4) :
    GOk P w K mg base CX0 5 f fd ["rows", "other", "found"] (spRt K C) := by
  refine gok F scRt (fun vs H Q E h => ?_) (fun cdv A outer s H vs Q E hr hA h => ?_)
  · obtain ⟨v, u, z, tb, tc, H0, rfl, _⟩ := h
    rfl
  obtain ⟨v, u, z, tb, tc, H0, rfl, hv, hu, TT, TU, c16, hz, q⟩ := h
  have hr1 : Room 1 _ := hr.mono (by decide)
  have hr2 : Room 2 _ := hr.mono (by decide)
  have hun := hr.units
  have rp := fun {X : Cx} (h1 : X.base = base) (h2 : X.A = (A.deeper (PyProof.Rows.envOfC "_law_right" (defScope sRt) s.heap.objs.size f cdv))) => @call_repr_q X (by rw [h1]; exact hS) (by rw [h2]; exact hA) (by rw [h2]; exact hun)
  refine ⟨_, pss_cons (ps_asg (pv 2) (pg_tup rfl (pgs_cons (pg_name (i := 3) scRt.nd rfl (Or.inl rfl)) (pgs_cons (pg_name (i := 4) scRt.nd rfl (Or.inl rfl)) (pgs_cons (pg_name (i := 5) scRt.nd rfl (Or.inl rfl)) pgs_nil)))))
    (pss_cons (ps_if (pw_or (pt_not (pt_val (pe_callB call_isi (by rfl) M.isin (by decide +kernel) (pa_cons (pv 3) (pa_cons (pe_glob (v := .ref C) (by rfl) T.mgC rfl) pa_nil)))))
      (pw_or1 (pt_cmpR op_ne (pe_callB (call_lenOwn hL tL GL hr2 bL) (by rfl) M.len PySem.boot_len (pa_cons (pv 3) pa_nil)) (pe_op op_mul (pe_callB call_len_seq (by rfl) M.len PySem.boot_len (pa_cons (pv 0) pa_nil)) (pe_callB call_len_seq (by rfl) M.len PySem.boot_len (pa_cons (pv 1) pa_nil))) (nomark _)))).pt (pss_one (ps_ret pe_bl)) pss_nil)
    (pss_cons (ps_setLc (i := 7) (own := [("i", 6)]) (g := gName 6) (tt := tYes) rfl scRt.nd rfl rfl (sw_true rfl rfl rfl (by decide +kernel)) (pi_range1 (by rfl) M.range (pa_cons (pe_callB (call_lenOwn hL tL GL hr2 bL) (by rfl) M.len PySem.boot_len (pa_cons (pv 3) pa_nil)) pa_nil))
      (blkOk_by (N := nRt) (sc := defScope sRt) (by decide +kernel)) (fun _ _ _ _ _ => pg_name (i := 6) scRt.nd rfl (Or.inl rfl)) (fun _ _ _ _ _ => pts_nil)
      (fun _ _ _ _ _ => pe_tup (pa_cons (pe_op op_fdiv (pv 6) (pe_callB (lenl (K := K) rfl) (by rfl) M.len PySem.boot_len (pa_cons (pv 1) pa_nil))) (pa_cons (pe_op op_mod (pv 6) (pe_callB (lenl (K := K) rfl) (by rfl) M.len PySem.boot_len (pa_cons (pv 1) pa_nil))) pa_nil))))
    (pss_cons (ps_if (pt_mo (pw_or (pt_cmpR op_ne (pe_callB (rp rfl rfl) (by rfl) M.repr (by decide +kernel) (pa_cons (pv 4) pa_nil)) (pe_callB (rp rfl rfl) (by rfl) M.repr (by decide +kernel) (pa_cons (pe_lc (own := [("a", 8), ("b", 9)]) (g := gTup _ 2 (gCons (gName 8) (gCons (gName 9) gNil))) (tt := tYes) rfl scRt.nd (pi_list (pv 7)) (blkOk_by (N := nRt) (sc := defScope sRt) (by decide +kernel)) (fun _ _ _ _ _ => pg_tup rfl (pgs_cons (pg_name (i := 8) scRt.nd rfl (Or.inl rfl)) (pgs_cons (pg_name (i := 9) scRt.nd rfl (Or.inl rfl)) pgs_nil))) (fun _ _ _ _ _ => pts_nil) (fun _ _ _ _ _ => pv 8)) pa_nil)) (nomark _))
      (pw_or1 (pt_cmpR op_ne (pe_callB (rp rfl rfl) (by rfl) M.repr (by decide +kernel) (pa_cons (pv 5) pa_nil)) (pe_callB (rp rfl rfl) (by rfl) M.repr (by decide +kernel) (pa_cons (pe_lc (own := [("a", 8), ("b", 9)]) (g := gTup _ 2 (gCons (gName 8) (gCons (gName 9) gNil))) (tt := tYes) rfl scRt.nd (pi_list (pv 7)) (blkOk_by (N := nRt) (sc := defScope sRt) (by decide +kernel)) (fun _ _ _ _ _ => pg_tup rfl (pgs_cons (pg_name (i := 8) scRt.nd rfl (Or.inl rfl)) (pgs_cons (pg_name (i := 9) scRt.nd rfl (Or.inl rfl)) pgs_nil))) (fun _ _ _ _ _ => pts_nil) (fun _ _ _ _ _ => pv 9)) pa_nil)) (nomark _)))).pt) (pss_one (ps_ret pe_bl)) pss_nil)
    (pss_cons (ps_for PassesOwn.never rfl (pi_enum (by rfl) M.enum (pa_cons (pv 7) pa_nil)) (pg_tup rfl (pgs_cons (pg_name (i := 6) scRt.nd rfl (Or.inl rfl)) (pgs_cons (pg_tup rfl (pgs_cons (pg_name (i := 8) scRt.nd rfl (Or.inl rfl)) (pgs_cons (pg_name (i := 9) scRt.nd rfl (Or.inl rfl)) pgs_nil))) pgs_nil)))
      (pss_one (ps_for PassesOwn.never rfl (pi_enum (by rfl) M.enum (pa_cons (pv 7) pa_nil)) (pg_tup rfl (pgs_cons (pg_name (i := 10) scRt.nd rfl (Or.inl rfl)) (pgs_cons (pg_tup rfl (pgs_cons (pg_name (i := 11) scRt.nd rfl (Or.inl rfl)) (pgs_cons (pg_name (i := 12) scRt.nd rfl (Or.inl rfl)) pgs_nil))) pgs_nil)))
        (pss_cons (ps_set (i := 13) scRt.nd rfl (Or.inl rfl) (pe_op op_add (pe_op op_mul (pe_ix ix_list (pe_ix ix_list (pv 0) (pv 8) (fun _ _ => rfl)) (pv 11) (fun _ _ => rfl)) (pe_callB call_len_seq (by rfl) M.len PySem.boot_len (pa_cons (pv 1) pa_nil)))
          (pe_ix ix_list (pe_ix ix_list (pv 1) (pv 9) (fun _ _ => rfl)) (pv 12) (fun _ _ => rfl))))
        (pss_one (ps_if (pt_cmpR op_ne (pe_callB (rp rfl rfl) (by rfl) M.repr (by decide +kernel) (pa_cons (pe_meth (pv 3) T.cl h4 G4 hr b4 .nil pass0 (pa_cons (pv 6) (pa_cons (pv 10) pa_nil))) pa_nil)) (pe_callB (rp rfl rfl) (by rfl) M.repr (by decide +kernel) (pa_cons (pv 13) pa_nil)) (nomark _)) (pss_one (ps_ret pe_bl)) pss_nil))))))
    (pss_one (ps_ret pe_bl)))))), ?_⟩
  obtain ⟨t, p, fa, sa, rfl, et, ht, ef, es, _, _, _⟩ := hz
  obtain ⟨av, xv, rfl, ev, lv⟩ := hv.sq
  obtain ⟨au, xu, rfl, eu, lu⟩ := hu.sq
  have n1 := TT.sq.le
  have n2 := TT.sq.ge
  have n3 := TU.sq.le
  have n4 := TU.sq.ge
  have mnI : ((tb.length : Int) * (tc.length : Int)) = ((prN tb tc : Nat) : Int) := (Int.natCast_mul _ _).symm
  have l1 := pr_le TT.sq TU.sq
  have lp : (prT tb tc).length = prN tb tc := tab_len _ _
  have TP := pr_tb TT TU c16
  have dv : ∀ a, a < prN tb tc → a / tc.length < tb.length := fun a h => (Nat.div_lt_iff_lt_mul (by omega)).mpr h
  have md : ∀ a, a % tc.length < tc.length := fun a => Nat.mod_lt _ (by omega)
  obtain ⟨dx1, t1, rs1, hp1, _, _⟩ := ht.ob
  refine ⟨_, rfl, t, _, rfl, SqT.of et, rfl, _, _, rfl, _, _, rfl, _, _, rfl, rfl, ?_⟩
  refine ⟨_, rfl, _, .ref C, _, .ref C, true, rfl, .own C, ht.ty T Y, kit_self K C, _, rfl, iteF ?_⟩
  refine ⟨_, rfl, p, dx1, _, rfl, hp1, p, _, rfl, ht, (prT tb tc).length, rfl, by omega, ?_⟩
  refine ⟨_, rfl, av, _, rfl, .inl (SqL.of ev), _, rfl, au, _, rfl, .inl (SqL.of eu), _, _, rfl, rfl, .inl ⟨by omega, by omega⟩, rfl, _, rfl, ?_⟩
  rw [lv, lu, lp]
  refine iteNS (congrArg V.int mnI.symm) ?_
  -- pairs
  refine ⟨_, rfl, p, dx1, _, rfl, hp1, p, _, rfl, ht, (prT tb tc).length, rfl, by omega, ?_⟩
  rw [lp]
  refine ⟨_, rfl, by omega, by omega, fun D hD => ?_⟩
  refine lc_range (lo := 0) (n := ((prN tb tc : Nat) : Int).toNat) (fun i J => Same H J ∧ ∃ ts : List Addr, J D = some (.lst (ts.map V.ref)) ∧ Paired (fun t k => t ≠ D ∧ J t = some (.tup [.int ((k / tc.length : Nat) : Int), .int ((k % tc.length : Nat) : Int)])) ts (List.range i)) ⟨Same.new hD _, [], upd_same, .nil⟩ ?_ ?_
  · rintro i J hi ⟨sJ, ts, eD, pr⟩
    have hi' : i < prN tb tc := by simpa using hi
    have lts : ts.length = i := by rw [pr.length, List.length_range]
    rw [Int.zero_add]
    refine ⟨rfl, _, rfl, _, rfl, au, _, rfl, .inl (SqL.of (sJ _ _ eu)), _, _, rfl, rfl, ⟨by omega, by omega⟩, _, rfl, _, rfl, au, _, rfl, .inl (SqL.of (sJ _ _ eu)), _, _, rfl, rfl, by rw [lu]; show (0 : Int) < (tc.length : Int); omega, (by show 2 ≤ sizeLine; decide), fun t2 ht2 => ?_⟩
    have st := Same.new ht2 (.tup [.int ((i : Int) / (xu.length : Int)), .int ((i : Int) % (xu.length : Int))])
    have nDt : D ≠ t2 := ne_of_none eD ht2
    refine ⟨_, st _ _ eD, by rw [List.length_map, lts]; exact small1000 (by omega), fun b o eb => ?_, ts ++ [t2], by rw [upd_same, List.map_append]; rfl, ?_⟩
    · rw [upd_ne (ne_of_none eb hD)]; exact st _ _ (sJ _ _ eb)
    · rw [List.range_succ]
      refine pair_app (L2.Paired.mapP pr fun t k ⟨z1, z2⟩ => ⟨z1, by rw [upd_ne z1]; exact st _ _ z2⟩) ⟨nDt.symm, ?_⟩
      rw [upd_ne nDt.symm, upd_same, lu]
      have e1 : (i : Int) / (tc.length : Int) = ((i / tc.length : Nat) : Int) := (Int.natCast_ediv _ _).symm
      have e2 : (i : Int) % (tc.length : Int) = ((i % tc.length : Nat) : Int) := (Int.natCast_emod _ _).symm
      show some (HO.tup [V.int ((i : Int) / (tc.length : Int)), V.int ((i : Int) % (tc.length : Int))]) = _
      rw [e1, e2]
  rintro J ⟨sJ, ts, eD, pr0⟩
  rw [Int.toNat_natCast] at pr0
  have pr : Paired (fun t k => J t = some (.tup [.int ((k / tc.length : Nat) : Int), .int ((k % tc.length : Nat) : Int)])) ts (List.range (prN tb tc)) := L2.Paired.mapP pr0 fun t k z => z.2
  have lts : ts.length = prN tb tc := by rw [pr.length, List.length_range]
  have okF : OkD 1 (16 * 101) (.list (nD (prF tb tc))) := okNL (N := 16) (fun x hx => by
    obtain ⟨i, hi, rfl⟩ := List.mem_map.mp hx
    have := dv i (List.mem_range.mp hi); omega) (by decide) (by unfold prF; rw [List.length_map, List.length_range]; exact c16)
  have okS' : OkD 1 (16 * 101) (.list (nD (prS tb tc))) := okNL (N := 16) (fun x hx => by
    obtain ⟨i, hi, rfl⟩ := List.mem_map.mp hx
    have := md i; omega) (by decide) (by unfold prS; rw [List.length_map, List.length_range]; exact c16)
  have tat : ∀ {i : Nat} {x : V}, (ts.map V.ref)[i]? = some x → ∃ t, x = .ref t ∧ i < prN tb tc ∧ J t = some (.tup [.int ((i / tc.length : Nat) : Int), .int ((i % tc.length : Nat) : Int)]) := fun {i x} hx => by
    rw [List.getElem?_map] at hx
    obtain ⟨t, h1, rfl⟩ := Option.map_eq_some_iff.mp hx
    obtain ⟨k, h2, h3⟩ := pair_at pr h1
    have hi : i < prN tb tc := by
      have := (List.getElem?_eq_some_iff.mp h2).1
      rw [List.length_range] at this; exact this
    rw [List.getElem?_range hi] at h2
    cases h2
    exact ⟨t, rfl, hi, h3⟩
  refine ⟨fun b G => b = false ∧ Same J G, ?_, ?_⟩
  · refine ⟨_, rfl, _, _, rfl, .lst (sJ _ _ ef) (dqN _), okF.shows, Nat.le_trans okF.deep (by decide), okF.len (by decide), _, rfl, D, rfl, ⟨_, SqL.of eD⟩, fun E1 hE1 => ?_⟩
    refine lc_it (walk_list (xs := ts.map V.ref)) (fun i G => Same J G ∧ G E1 = some (.lst (nv ((List.range i).map fun i => i / tc.length)))) ⟨Same.new hE1 _, upd_same⟩ (fun i G _ z => SqL.of (z.1 _ _ eD)) ?_ ?_
    · rintro i x G' G hi ⟨sG, eG⟩ ⟨rfl, hx⟩
      obtain ⟨t2, rfl, hi', e2⟩ := tat hx
      refine ⟨t2, _, rfl, SqT.of (sG _ _ e2), rfl, _, _, rfl, _, _, rfl, rfl, rfl, _, rfl, _, eG, by rw [nv_len, List.length_map, List.length_range]; exact small1000 (by omega), fun b o eb => by rw [upd_ne (ne_of_none eb hE1)]; exact sG b o eb, ?_⟩
      rw [upd_same, List.range_succ, List.map_append]
      unfold nv
      rw [List.map_append]; rfl
    rintro G ⟨sG, eG⟩
    rw [List.length_map, lts] at eG
    have eG : G E1 = some (.lst (nv (prF tb tc))) := eG
    refine ⟨_, _, rfl, .lst eG (dqN _), okF.shows, Nat.le_trans okF.deep (by decide), okF.len (by decide), rfl, _, rfl, ?_⟩
    refine iteNS rfl ?_
    refine ⟨_, rfl, _, _, rfl, .lst (sG _ _ (sJ _ _ es)) (dqN _), okS'.shows, Nat.le_trans okS'.deep (by decide), okS'.len (by decide), _, rfl, D, rfl, ⟨_, SqL.of (sG _ _ eD)⟩, fun E2 hE2 => ?_⟩
    refine lc_it (walk_list (xs := ts.map V.ref)) (fun i G2 => Same G G2 ∧ G2 E2 = some (.lst (nv ((List.range i).map fun i => i % tc.length)))) ⟨Same.new hE2 _, upd_same⟩ (fun i G2 _ z => SqL.of (z.1 _ _ (sG _ _ eD))) ?_ ?_
    · rintro i x G' G2 hi ⟨sG2, eG2⟩ ⟨rfl, hx⟩
      obtain ⟨t2, rfl, hi', e2⟩ := tat hx
      refine ⟨t2, _, rfl, SqT.of (sG2 _ _ (sG _ _ e2)), rfl, _, _, rfl, _, _, rfl, rfl, rfl, _, rfl, _, eG2, by rw [nv_len, List.length_map, List.length_range]; exact small1000 (by omega), fun b o eb => by rw [upd_ne (ne_of_none eb hE2)]; exact sG2 b o eb, ?_⟩
      rw [upd_same, List.range_succ, List.map_append]
      unfold nv
      rw [List.map_append]; rfl
    rintro G2 ⟨sG2, eG2⟩
    rw [List.length_map, lts] at eG2
    have eG2 : G2 E2 = some (.lst (nv (prS tb tc))) := eG2
    refine ⟨_, _, rfl, .lst eG2 (dqN _), okS'.shows, Nat.le_trans okS'.deep (by decide), okS'.len (by decide), rfl, _, rfl, ?_, sG.trans sG2⟩
    rw [decide_eq_true rfl]; rfl
  rintro _ J1 ⟨rfl, s1⟩
  refine iteF ?_
  have sA := sJ.trans s1
  refine ⟨_, rfl, D, _, rfl, SqL.of (s1 _ _ eD), ?_⟩
  refine for_it (walk_enum (xs := ts.map V.ref)) (fun i σ G => Same J1 G ∧ ∃ x6 x8 x9 x10 x11 x12 x13, σ = [some (.ref av), some (.ref au), some (.ref t), some (.ref p), some (.ref fa), some (.ref sa), x6, some (.ref D), x8, x9, x10, x11, x12, x13])
    ⟨Same.refl _, _, _, _, _, _, _, _, rfl⟩ (fun i σ G _ z => SqL.of (z.1 _ _ (s1 _ _ eD))) ?_ ?_
  rotate_left
  · rintro σ G ⟨sG, x6, x8, x9, x10, x11, x12, x13, rfl⟩
    exact q G (sA.trans sG)
  rintro i x σ G G' hi ⟨sG, x6, x8, x9, x10, x11, x12, x13, rfl⟩ ⟨T1, y1, y2, rfl, hT1, rfl, g1, g2⟩
  cases g1
  obtain ⟨t2, rfl, hi', e2⟩ := tat g2
  have sT := Same.new hT1 (.tup [.int ((i : Nat) : Int), .ref t2])
  have sB := sG.trans sT
  refine ⟨T1, _, rfl, SqT.of upd_same, rfl, _, _, rfl, _, _, rfl, ⟨t2, _, rfl, SqT.of (sB _ _ (s1 _ _ e2)), rfl, _, _, rfl, _, _, rfl, rfl, rfl, ?_⟩⟩
  refine ⟨_, rfl, D, _, rfl, SqL.of (sB _ _ (s1 _ _ eD)), ?_⟩
  refine for_it (walk_enum (xs := ts.map V.ref)) (fun j σ G => Same J1 G ∧ ∃ x10 x11 x12 x13, σ = [some (.ref av), some (.ref au), some (.ref t), some (.ref p), some (.ref fa), some (.ref sa), some (.int (i : Int)), some (.ref D), some (.int ((i / tc.length : Nat) : Int)), some (.int ((i % tc.length : Nat) : Int)), x10, x11, x12, x13])
    ⟨sB, _, _, _, _, rfl⟩ (fun i σ G _ z => SqL.of (z.1 _ _ (s1 _ _ eD))) ?_ ?_
  rotate_left
  · rintro σ G2 ⟨sG2, y10, y11, y12, y13, rfl⟩
    exact ⟨sG2, _, _, _, _, _, _, _, rfl⟩
  rintro j x σ G2 G3 hj ⟨sG2, y10, y11, y12, y13, rfl⟩ ⟨T2, z1, z2, rfl, hT2, rfl, g3, g4⟩
  cases g3
  obtain ⟨t3, rfl, hj', e3⟩ := tat g4
  have sT2 := Same.new hT2 (.tup [.int ((j : Nat) : Int), .ref t3])
  have sC := sG2.trans sT2
  refine ⟨T2, _, rfl, SqT.of upd_same, rfl, _, _, rfl, _, _, rfl, ⟨t3, _, rfl, SqT.of (sC _ _ (s1 _ _ e3)), rfl, _, _, rfl, _, _, rfl, rfl, rfl, ?_⟩⟩
  have sD := sA.trans sC
  obtain ⟨_, rs3, r3, q0, q1, q2, q3⟩ := rw_at (hv.same sD) (dv i hi')
  cases q0
  obtain ⟨_, rs4, r4, q4, q5, q6, q7⟩ := rw_at (hu.same sD) (md i)
  cases q4
  refine ⟨_, rfl, _, rfl, av, _, _, _, rfl, rfl, SqL.of q1, at_of (j := i / tc.length) rfl q2, _, rfl, r3, _, _, _, rfl, rfl, SqL.of q3, at_of (j := j / tc.length) rfl (row_g TT.sq (dv i hi') (dv j hj')), _, rfl, au, _, rfl, .inl (SqL.of (sD _ _ eu)), _, _, rfl, rfl, .inr ⟨by omega, by omega⟩, ?_⟩
  refine ⟨_, rfl, _, rfl, au, _, _, _, rfl, rfl, SqL.of q5, at_of (j := i % tc.length) rfl q6, _, rfl, r4, _, _, _, rfl, rfl, SqL.of q7, at_of (j := j % tc.length) rfl (row_g TU.sq (md i) (md j)), _, _, rfl, rfl, ?_⟩
  have htD := ht.to sD
  obtain ⟨dx5, t5, rs5, hp5, _, _⟩ := htD.ob
  have em1 := mu_nat TT.sq (dv i hi') (dv j hj')
  have em2 := mu_nat TU.sq (md i) (md j)
  have ep : mu (prT tb tc) i j = mu tb (i / tc.length) (j / tc.length) * (tc.length : Int) + mu tc (i % tc.length) (j % tc.length) := by
    unfold prT
    rw [tab_mu hi' hj']
    show ((tf tb (i / tc.length) (j / tc.length) * tc.length + tf tc (i % tc.length) (j % tc.length) : Nat) : Int) = _
    rw [Int.natCast_add, Int.natCast_mul]
    unfold tf
    rw [← em1.1, ← em2.1]
  have emP := TP.sq.el i j (by rw [lp]; exact hi') (by rw [lp]; exact hj')
  have okI : OkD 0 100 (.int (mu (prT tb tc) i j)) := OkD.int (by rw [lp] at emP; exact Nat.lt_of_le_of_lt (show _ ≤ 16 by omega) (by decide))
  refine ⟨_, rfl, p, dx5, _, rfl, hp5, rfl, _, rfl, _, rfl, p, i, j, prT tb tc, rfl, htD, TP.sq, by rw [lp]; exact hi', by rw [lp]; exact hj', _, _, rfl, .int _, okI.shows, Nat.le_trans okI.deep (by decide), okI.len (by decide), ?_⟩
  rw [lu]
  dsimp only
  rw [← ep]
  refine ⟨_, rfl, _, _, rfl, .int _, okI.shows, Nat.le_trans okI.deep (by decide), okI.len (by decide), rfl, _, rfl, ?_⟩
  refine iteNS rfl ⟨sC, _, _, _, _, rfl⟩
end
end L

set_option Elab.async false
set_option linter.all false
set_option maxRecDepth 100000
set_option maxHeartbeats 4000000
/-! Own layer: lists and tuples of data that repr shows in few signs. -/
namespace KX
open PySem PySem.Spec PyProof.Rows L2
theorem okAll {n W : Nat} : ∀ {ds : List PyData}, (∀ d, d ∈ ds → OkD n W d) → PyData.leavesShortAll 110 ds = true ∧ PyData.showableAll ds = true ∧ PyData.depthAll ds ≤ n ∧ PyData.weightAll ds ≤ ds.length * (W + 1)
  | [], _ => ⟨rfl, rfl, Nat.zero_le _, Nat.zero_le _⟩
  | d :: ds, h => by
    have hd := h d List.mem_cons_self
    obtain ⟨g2, g3, g4, g5⟩ := okAll (ds := ds) fun x hx => h x (List.mem_cons_of_mem _ hx)
    refine ⟨?_, ?_, ?_, ?_⟩
    · simp only [PyData.leavesShortAll, hd.short, g2, Bool.and_self]
    · simp only [PyData.showableAll, hd.shows, g3, Bool.and_self]
    · have := hd.deep
      simp only [PyData.depthAll]; omega
    · have := hd.wt
      simp only [PyData.weightAll, List.length_cons, Nat.succ_mul]; omega
theorem okLi {n W m : Nat} {ds : List PyData} (h : ∀ d, d ∈ ds → OkD n W d) (l : ds.length ≤ m) : OkD (n + 1) (m * (W + 1)) (.list ds) := by
  obtain ⟨g2, g3, g4, g5⟩ := okAll h
  have := Nat.mul_le_mul_right (W + 1) l
  exact ⟨by simpa only [PyData.leavesShort] using g2, by simpa only [PyData.showable] using g3, by simp only [PyData.depth]; omega, by simp only [PyData.weight]; omega⟩
theorem okTu {n W m : Nat} {ds : List PyData} (h : ∀ d, d ∈ ds → OkD n W d) (l : ds.length ≤ m) : OkD (n + 1) (m * (W + 1)) (.tuple ds) := by
  obtain ⟨g2, g3, g4, g5⟩ := okAll h
  have := Nat.mul_le_mul_right (W + 1) l
  exact ⟨by simpa only [PyData.leavesShort] using g2, by simpa only [PyData.showable] using g3, by simp only [PyData.depth]; omega, by simp only [PyData.weight]; omega⟩
/-- two items of unlike weights -/
theorem okL2 {n W : Nat} {a b : PyData} (h : OkD n W a) (k : OkD n W b) : OkD (n + 1) (2 * (W + 1)) (.list [a, b]) := okLi (fun d hd => by
  rcases List.mem_cons.mp hd with e | e
  · rw [e]; exact h
  · rw [List.mem_singleton.mp e]; exact k) (Nat.le_refl 2)
theorem okT2 {n W : Nat} {a b : PyData} (h : OkD n W a) (k : OkD n W b) : OkD (n + 1) (2 * (W + 1)) (.tuple [a, b]) := okTu (fun d hd => by
  rcases List.mem_cons.mp hd with e | e
  · rw [e]; exact h
  · rw [List.mem_singleton.mp e]; exact k) (Nat.le_refl 2)
end KX

set_option Elab.async false
set_option linter.all false
set_option maxRecDepth 100000
set_option maxHeartbeats 4000000
set_option pp.maxSteps 400
namespace L
open PySem L2 KX
/-- a class that is no builtin type's ancestor -/
structure CNb (K : PySem.W.Frag) (C : Addr) : Prop where
  ma : PySem.W.makesIn K C = true
  tt : PySem.W.typeIn K (.ref C) = some (.type "type")
theorem CNb.cl {K : PySem.W.Frag} {C : Addr} (h : CNb K C) : (PySem.W.clsIn K C).isSome = true := by
  have h := h.ma
  unfold PySem.W.makesIn at h
  unfold PySem.W.clsIn
  split at h
  · rename_i e
    rw [e]; rfl
  · exact nomatch h
theorem CNb.no {K : PySem.W.Frag} {C : Addr} (h : CNb K C) {T : String} (e : (fastBuiltinMro T).map (·.contains (.ref C)) = some false) : PySem.W.kitOne K (.type T) (.ref C) = some false := by
  unfold PySem.W.kitOne
  rw [show ((Value.type T) == (Value.ref C)) = false from rfl, if_neg Bool.false_ne_true]
  show (if ((PySem.W.clsIn K C).isSome && PySem.W.typeIn K (.ref C) == some (.type "type")) = true then PySem.W.subIn K (.type T) (.ref C) else none) = some false
  rw [h.cl, h.tt]
  have e2 : (some (Value.type "type") == some (Value.type "type")) = true := by rfl
  rw [e2]
  exact e
theorem notT_of {K : PySem.W.Frag} {C : Addr} (N : CNb K C) {H : Hp} {v : V} {d : PyData} (h : Dq H v d) : NotT K C H v := by
  cases h with
  | non => exact ⟨_, .base .non, N.no (by rfl)⟩
  | bl b => exact ⟨_, .base (.bl b), N.no (by rfl)⟩
  | int i => exact ⟨_, .base (.int i), N.no (by rfl)⟩
  | str x => exact ⟨_, .base (.str x), N.no (by rfl)⟩
  | lst e _ => exact ⟨_, .base (.lst e), N.no (by rfl)⟩
  | tup e _ => exact ⟨_, .base (.tup e), N.no (by rfl)⟩
  | dct e _ => exact ⟨_, .base (.dK e), N.no (by rfl)⟩
/-- a value that is no table, as data -/
def BV (K : PySem.W.Frag) (C : Addr) (H : Hp) (v : V) : Prop := NotT K C H v ∧ ∃ d, Dq H v d ∧ OkD 3 8000 d
theorem BV.same {K : PySem.W.Frag} {C : Addr} {H G : Hp} {v : V} (s : Same H G) (h : BV K C H v) : BV K C G v := ⟨h.1.same s, let ⟨d, a, b⟩ := h.2; ⟨d, Dq.same s _ _ a, b⟩⟩
theorem BV.of {K : PySem.W.Frag} {C : Addr} (N : CNb K C) {H : Hp} {v : V} {d : PyData} (h : Dq H v d) (ok : OkD 3 8000 d) : BV K C H v := ⟨notT_of N h, d, h, ok⟩
/-! rows as data -/
def rD (tb : List (List Int)) : List PyData := tb.map fun r => .list (iD r)
theorem rD_lay : ∀ tb : List (List Int), PyData.canLayAll0 (rD tb) = true
  | [] => by unfold rD; simp [PyData.canLayAll0]
  | r :: tb => by
    have h := rD_lay tb
    have h2 : PyData.canLay0 (.list (iD r)) = true := by simp only [PyData.canLay0]; exact iD_lay r
    show (PyData.canLay0 (.list (iD r)) && PyData.canLayAll0 (rD tb)) = true
    rw [h, h2]; rfl
theorem rD_depth : ∀ tb : List (List Int), PyData.depthAll (rD tb) ≤ 1
  | [] => by unfold rD; simp [PyData.depthAll]
  | r :: tb => by
    have h := rD_depth tb
    have h2 : PyData.depth (.list (iD r)) = 1 := by simp only [PyData.depth, iD_depth r]
    show max (PyData.depth (.list (iD r))) (PyData.depthAll (rD tb)) ≤ 1
    omega
theorem rD_shaped (tb : List (List Int)) : SeqAt.shaped (.list (rD tb)) = true := by
  have h2 : PyData.depth (.list (rD tb)) ≤ 2 := by simp only [PyData.depth]; have := rD_depth tb; omega
  have h1 : PyData.canLay0 (.list (rD tb)) = true := by simp only [PyData.canLay0]; exact rD_lay tb
  show (PyData.canLay0 (.list (rD tb)) && decide (PyData.depth (.list (rD tb)) ≤ 64)) = true
  rw [Bool.and_eq_true]
  exact ⟨h1, decide_eq_true (by omega)⟩
theorem rD_dp {K : PySem.W.Frag} {G : Hp} {rs : List Addr} {tb : List (List Int)} (h : Paired (fun r row => G r = some (.lst (row.map V.int))) rs tb) : DpAll K G (rs.map V.ref) (rD tb) := by
  induction h with
  | nil => exact .nil
  | cons h _ ih => exact .cons (.lst (SqL.of h) (dp_ints _)) ih
theorem RowsL.dp {K : PySem.W.Frag} {G : Hp} {v : V} {tb : List (List Int)} (h : RowsL G v tb) : Dp K G v (.list (rD tb)) := by
  obtain ⟨a, rs, rfl, e, pr⟩ := h
  exact .lst (SqL.of e) (rD_dp pr)
theorem rD_refl_all : ∀ tb : List (List Int), PyData.eqvAll (rD tb) (rD tb) = true
  | [] => by unfold rD; simp [PyData.eqvAll]
  | r :: tb => by
    have h := rD_refl_all tb
    have h2 := iD_eqv r r
    rw [decide_eq_true rfl] at h2
    show PyData.eqvAll (.list (iD r) :: rD tb) (.list (iD r) :: rD tb) = true
    simp only [PyData.eqvAll, h, h2, Bool.and_self]
theorem rD_refl (tb : List (List Int)) : PyData.eqv (.list (rD tb)) (.list (rD tb)) = true := by simp only [PyData.eqv]; exact rD_refl_all tb
theorem szl (n : Nat) (h : n ≤ 5000) : n ≤ sizeLine := Nat.le_trans h (by rw [sizeLine_eq]; omega)
/-- a table made of the rows at v -/
theorem init_at {K : PySem.W.Frag} {C : Addr} {H : Hp} {v : V} {tb : List (List Int)} {x dx : Addr} {Q : Hp → Prop} {E : XK} (R : RowsL H v tb) (T : Tb tb) (hx : H x = none) (hdx : H dx = none) (nex : dx ≠ x) (q : ∀ J, Same H J → TbA K C J x tb → Q J) :
    spInit K C (.ref x :: ([v] ++ [])) (upd (upd H dx (.own x)) x (.ins C dx [])) (fun u H2 => u = .non ∧ Q H2) E := by
  have sn : Same H (upd (upd H dx (.own x)) x (.ins C dx [])) := fun b o e => by rw [upd_ne (ne_of_none e hx), upd_ne (ne_of_none e hdx)]; exact e
  have nD : ∀ b, v = .ref b → b ≠ x := fun b e => by
    obtain ⟨_, _, e', ed, _⟩ := id R
    rw [e'] at e
    cases e
    exact ne_of_none ed hx
  exact ⟨x, dx, v, tb, rfl, upd_same, (R.same sn).rws, T.sq, T.as, nD, fun J tx kx => ⟨rfl, q J (fun b o e => kx b o (ne_of_none e hx) (sn b o e)) tx⟩⟩
theorem iteTt {c : Bool} {A B : Prop} (e : c = true) (h : A) : if c = true then A else B := by rw [if_pos e]; exact h
theorem iteFf {c : Bool} {A B : Prop} (e : c = false) (h : B) : if c = true then A else B := by rw [if_neg (by rw [e]; exact Bool.false_ne_true)]; exact h
end L

set_option Elab.async false
set_option linter.all false
set_option maxRecDepth 100000
set_option maxHeartbeats 4000000
set_option pp.maxSteps 400
namespace L
open PySem L2 KX
abbrev sRf : Stmt := top 37
abbrev nRf : List Str := ["box", "one", "two", "bad", "odd", "first", "second", "due"]
def spRf (K : PySem.W.Frag) (C : Addr) : Sp := fun vs H Q _ => ∃ (p x y : Addr) (tb tc : List (List Int)), vs = [.ref p, .ref x, .ref y] ∧ Bx H p ∧ TbA K C H x tb ∧ TbA K C H y tc ∧ Tb tb ∧ Tb tc ∧ ∀ H', Bx H' p → Sx p H H' → Q (.bl true) H'
section
variable {P : Program} {w : World} {K : PySem.W.Frag} {mg : Str → Option Value} {base : Heap} {f g gn fl f1 f2 g1 g2 g3 g4 g5 fI fE : Addr} {fd gd gnd dl d1 d2 d3 d4 d5 dI dE : FuncData} {C CT CM : Addr}
theorem scRf : FnScope nRf ["box", "one", "two"] (defScope sRf) := ⟨rfl, rfl, rfl, by decide +kernel, rfl, by decide +kernel, by decide +kernel⟩
theorem ok_rf (F : Fun K "_law_refused_right" "_law_refused_right" sRf f fd) (M : Mn mg) (N : CNb K C) (hS : ∃ o, base.get? sysModules = some o)
    (G3 : FnOk P w K mg base CX0 1 g3 d3 ["box", "size"] spTake) (b3 : Binds K d3 ["box", "size"] []) (k3 : PySem.W.keepIn K (.ref g3) = true) (m3 : mg "_law_take" = some (.ref g3))
    (G4 : FnOk P w K mg base CX0 8 g4 d4 ["one", "other"] (spFnd K C)) (b4 : Binds K d4 ["one", "other"] []) (k4 : PySem.W.keepIn K (.ref g4) = true) (m4 : mg "_law_found" = some (.ref g4)) :
    GOk P w K mg base CX0 9 f fd ["box", "one", "two"] (spRf K C) := by
  refine gok F scRf (fun vs H Q E h => ?_) (fun cdv A outer s H vs Q E hr hA h => ?_)
  · obtain ⟨p, x, y, tb, tc, rfl, _⟩ := h
    rfl
  obtain ⟨p, x, y, tb, tc, rfl, bx, tx, ty, TT, TU, q⟩ := h
  have hr1 : Room 1 _ := hr.mono (by decide)
  have hun := hr.units
  have rp := fun {X : Cx} (h1 : X.base = base) (h2 : X.A = (A.deeper (PyProof.Rows.envOfC "_law_refused_right" (defScope sRf) s.heap.objs.size f cdv))) => @call_repr_q X (by rw [h1]; exact hS) (by rw [h2]; exact hA) (by rw [h2]; exact hun)
  refine ⟨_, pss_cons (ps_par (i := 3) (j := 4) (by rfl) scRf.nd rfl rfl (by decide) rfl rfl (pa_cons (pe_ix ix_list (pe_lst (pa_cons pe_non (pa_cons pe_int (pa_cons pe_str (pa_cons pe_dnewK (pa_cons pe_bl pa_nil)))))) (pe_call G3 hr1 (by rfl) m3 k3 b3 .nil pass0 (pa_cons (pv 0) (pa_cons pe_int pa_nil))) (fun _ _ => rfl))
      (pa_cons (pe_ix ix_list (pe_lst (pa_cons (pe_lst (pa_cons (pe_lst (pa_cons pe_int pa_nil)) pa_nil)) (pa_cons (pe_tup pa_nil) (pa_cons pe_int pa_nil)))) (pe_call G3 hr1 (by rfl) m3 k3 b3 .nil pass0 (pa_cons (pv 0) (pa_cons pe_int pa_nil))) (fun _ _ => rfl)) pa_nil)) (by rfl))
    (pss_cons (ps_for PassesOwn.never rfl (pi_list (pe_lst (pa_cons (pe_tup (pa_cons (pv 3) (pa_cons (pv 2) (pa_cons (pv 3) pa_nil)))) (pa_cons (pe_tup (pa_cons (pv 3) (pa_cons (pv 4) (pa_cons (pv 3) pa_nil)))) (pa_cons (pe_tup (pa_cons (pv 1) (pa_cons (pv 4) (pa_cons (pv 4) pa_nil)))) pa_nil)))))
        (pg_tup rfl (pgs_cons (pg_name (i := 5) scRf.nd rfl (Or.inl rfl)) (pgs_cons (pg_name (i := 6) scRf.nd rfl (Or.inl rfl)) (pgs_cons (pg_name (i := 7) scRf.nd rfl (Or.inl rfl)) pgs_nil))))
      (pss_one (ps_if (pt_cmpR op_ne (pe_callB (rp rfl rfl) (by rfl) M.repr (by decide +kernel) (pa_cons (pe_call G4 hr (by rfl) m4 k4 b4 .nil pass0 (pa_cons (pv 5) (pa_cons (pv 6) pa_nil))) pa_nil)) (pe_callB (rp rfl rfl) (by rfl) M.repr (by decide +kernel) (pa_cons (pe_lst (pa_cons pe_str (pa_cons (pv 7) pa_nil))) pa_nil)) (nomark _)) (pss_one (ps_ret pe_bl)) pss_nil)))
    (pss_one (ps_ret pe_bl))), ?_⟩
  refine fun d hd => ⟨szl _ (by simp), fun l1 hl1 => ?_⟩
  have sd := Same.new hd (.dK [])
  have s1 := Same.new hl1 (.lst [.non, .int 7, .str (Str.ofString "table"), .ref d, .bl true])
  have bx1 := (bx.same sd).same s1
  refine ⟨_, rfl, p, 5, rfl, bx1, by decide, by decide, fun r J1 ra rb b1 x1 => ?_⟩
  obtain ⟨_, v1, _, hv1, _, at1⟩ := pick (xs := [V.non, .int 7, .str (Str.ofString "table"), .ref d, .bl true]) (i := r) ra (by show r < 5; exact rb)
  have nl1 : l1 ≠ p := (bx.same sd).ne hl1
  have nd' : d ≠ p := bx.ne hd
  have ed1 : J1 d = some (.dK []) := x1 _ _ nd' (s1 _ _ upd_same)
  refine ⟨l1, _, _, v1, rfl, rfl, SqL.of (x1 _ _ nl1 upd_same), at1, ?_⟩
  refine ⟨szl _ (by simp), fun i0 hi0 => ⟨szl _ (by simp), fun i1 hi1 => ⟨szl _ (by simp), fun t0 ht0 => ⟨szl _ (by simp), fun l2 hl2 => ?_⟩⟩⟩⟩
  have u1 := Same.new hi0 (.lst [.int 0])
  have u2 := Same.new hi1 (.lst [.ref i0])
  have u3 := Same.new ht0 (.tup [])
  have u4 := Same.new hl2 (.lst [.ref i1, .ref t0, .int 0])
  have b2 := (((b1.same u1).same u2).same u3).same u4
  refine ⟨_, rfl, p, 3, rfl, b2, by decide, by decide, fun r2 J2 ra2 rb2 b3' x2 => ?_⟩
  obtain ⟨_, v2, _, hv2, _, at2⟩ := pick (xs := [V.ref i1, .ref t0, .int 0]) (i := r2) ra2 (by show r2 < 3; exact rb2)
  have nl2 : l2 ≠ p := (((b1.same u1).same u2).same u3).ne hl2
  have ni0 : i0 ≠ p := b1.ne hi0
  have ni1 : i1 ≠ p := (b1.same u1).ne hi1
  have nt0 : t0 ≠ p := ((b1.same u1).same u2).ne ht0
  have ei0 : J2 i0 = some (.lst [.int 0]) := x2 _ _ ni0 (u4 _ _ (u3 _ _ (u2 _ _ upd_same)))
  have ei1 : J2 i1 = some (.lst [.ref i0]) := x2 _ _ ni1 (u4 _ _ (u3 _ _ upd_same))
  have et0 : J2 t0 = some (.tup []) := x2 _ _ nt0 (u4 _ _ upd_same)
  have ed2 : J2 d = some (.dK []) := x2 _ _ nd' (u4 _ _ (u3 _ _ (u2 _ _ (u1 _ _ ed1))))
  refine ⟨l2, _, _, v2, rfl, rfl, SqL.of (x2 _ _ nl2 upd_same), at2, ?_⟩
  refine ⟨v1, v2, rfl, ?_⟩
  have X2 : Sx p H J2 := (Sx.of (sd.trans s1)).trans (x1.trans ((Sx.of (((u1.trans u2).trans u3).trans u4)).trans x2))
  have B1 : BV K C J2 v1 := by
    have hv1 : v1 = .non ∨ v1 = .int 7 ∨ v1 = .str (Str.ofString "table") ∨ v1 = .ref d ∨ v1 = .bl true := by simpa only [List.mem_cons, List.not_mem_nil, or_false] using hv1
    rcases hv1 with rfl | rfl | rfl | rfl | rfl
    · exact BV.of N .non (OkD.none.mono (by omega) (by omega))
    · exact BV.of N (.int 7) ((OkD.int (by decide)).mono (by omega) (by omega))
    · exact BV.of N (.str _) ((OkD.str (n := 5) (by unfold Ss; decide +kernel)).mono (by omega) (by omega))
    · exact BV.of N (.dct ed2 .nil) ⟨by decide +kernel, by decide +kernel, by decide +kernel, by decide +kernel⟩
    · exact BV.of N (.bl true) ((OkD.bool true).mono (by omega) (by omega))
  have B2 : BV K C J2 v2 := by
    have hv2 : v2 = .ref i1 ∨ v2 = .ref t0 ∨ v2 = .int 0 := by simpa only [List.mem_cons, List.not_mem_nil, or_false] using hv2
    rcases hv2 with rfl | rfl | rfl
    · exact BV.of N (.lst ei1 (.cons (.lst ei0 (.cons (.int 0) .nil)) .nil)) ⟨by decide +kernel, by decide +kernel, by decide +kernel, by decide +kernel⟩
    · exact BV.of N (.tup et0 .nil) ⟨by decide +kernel, by decide +kernel, by decide +kernel, by decide +kernel⟩
    · exact BV.of N (.int 0) ((OkD.int (by decide)).mono (by omega) (by omega))
  have tx3 := tx.sx X2 bx
  have bx3 := b3'
  have X3 := X2
  generalize J2 = J3 at B1 B2 tx3 bx3 X3
  refine ⟨_, rfl, _, rfl, _, rfl, szl _ (by simp), fun a1 ha1 => ⟨_, rfl, _, rfl, _, rfl, szl _ (by simp), fun a2 ha2 => ⟨_, rfl, _, rfl, _, rfl, szl _ (by simp), fun a3 ha3 => ⟨szl _ (by simp), fun la hla => ?_⟩⟩⟩⟩
  have w1 := Same.new ha1 (.tup [v1, .ref y, v1])
  have w2 := Same.new ha2 (.tup [v1, v2, v1])
  have w3 := Same.new ha3 (.tup [.ref x, v2, v2])
  have w4 := Same.new hla (.lst [.ref a1, .ref a2, .ref a3])
  let J5 : Hp := upd (upd (upd (upd J3 a1 (.tup [v1, .ref y, v1])) a2 (.tup [v1, v2, v1])) a3 (.tup [.ref x, v2, v2])) la (.lst [.ref a1, .ref a2, .ref a3])
  have e1 : J5 a1 = some (.tup [v1, .ref y, v1]) := w4 _ _ (w3 _ _ (w2 _ _ upd_same))
  have e2 : J5 a2 = some (.tup [v1, v2, v1]) := w4 _ _ (w3 _ _ upd_same)
  have e3 : J5 a3 = some (.tup [.ref x, v2, v2]) := w4 _ _ upd_same
  have e4 : J5 la = some (.lst [.ref a1, .ref a2, .ref a3]) := upd_same
  have w14 : Same J3 J5 := ((w1.trans w2).trans w3).trans w4
  refine ⟨la, rfl, ⟨_, SqL.of e4⟩, ?_⟩
  have B1 := B1.same w14
  have B2 := B2.same w14
  have tx4 := tx3.to w14
  have bx4 := bx3.same w14
  have X4 := X3.trans (Sx.of w14)
  have any : ∀ v, v ∈ [V.ref a1, .ref a2, .ref a3] → ∃ t a b c, v = .ref t ∧ J5 t = some (.tup [a, b, c]) ∧ ((BV K C J5 a ∧ c = a) ∨ (a = .ref x ∧ BV K C J5 b ∧ c = b)) := fun v hv => by
    have hv : v = .ref a1 ∨ v = .ref a2 ∨ v = .ref a3 := by simpa only [List.mem_cons, List.not_mem_nil, or_false] using hv
    rcases hv with rfl | rfl | rfl
    · exact ⟨_, _, _, _, rfl, e1, .inl ⟨B1, rfl⟩⟩
    · exact ⟨_, _, _, _, rfl, e2, .inl ⟨B1, rfl⟩⟩
    · exact ⟨_, _, _, _, rfl, e3, .inr ⟨rfl, B2, rfl⟩⟩
  refine for_it (walk_list (xs := [V.ref a1, .ref a2, .ref a3])) (fun i σ G => Same J5 G ∧ ∃ x5 x6 x7, σ = [some (.ref p), some (.ref x), some (.ref y), some v1, some v2, x5, x6, x7])
    ⟨Same.refl _, _, _, _, rfl⟩ (fun i σ G _ z => SqL.of (z.1 _ _ e4)) ?_ ?_
  rotate_left
  · rintro σ G ⟨sG, x5, x6, x7, rfl⟩
    exact q G (bx4.same sG) (X4.trans (Sx.of sG))
  rintro i v σ G' G hi ⟨sG, x5, x6, x7, rfl⟩ ⟨rfl, hv⟩
  obtain ⟨t, a, b, c, rfl, et, hh⟩ := any v (List.mem_of_getElem? hv)
  refine ⟨t, _, rfl, SqT.of (sG _ _ et), rfl, _, _, rfl, _, _, rfl, _, _, rfl, rfl, ?_⟩
  obtain ⟨z, hz, ez, Bz⟩ : ∃ z, ((z = a ∧ NotT K C G a) ∨ (z = b ∧ NotT K C G b ∧ ∃ p tb, a = .ref p ∧ TbA K C G p tb ∧ Tb tb)) ∧ c = z ∧ BV K C J5 z := by
    rcases hh with ⟨h1, h2⟩ | ⟨h1, h2, h3⟩
    · exact ⟨a, .inl ⟨rfl, h1.1.same sG⟩, h2, h1⟩
    · exact ⟨b, .inr ⟨rfl, h2.1.same sG, x, tb, h1, tx4.to sG, TT⟩, h3, h2⟩
  subst ez
  obtain ⟨_, d4, dz, okz⟩ := Bz
  have ok := okL2 (W := 8000) (n := 3) ((OkD.str (n := 5) (z := Str.ofString "table") (by unfold Ss; decide +kernel)).mono (by omega) (by omega)) okz
  refine ⟨_, rfl, _, rfl, a, b, rfl, .inl ⟨c, hz, fun r G2 s2 er => ?_⟩⟩
  have sA := sG.trans s2
  refine ⟨_, _, rfl, .lst er (.cons (.str _) (.cons (Dq.same sA _ _ dz) .nil)), ok.shows, Nat.le_trans ok.deep (by decide), ok.len (by decide), _, rfl, szl _ (by simp), fun l3 hl3 => ?_⟩
  have w5 := Same.new hl3 (.lst [.str (Str.ofString "table"), c])
  exact ⟨_, _, rfl, .lst upd_same (.cons (.str _) (.cons (Dq.same (sA.trans w5) _ _ dz) .nil)), ok.shows, Nat.le_trans ok.deep (by decide), ok.len (by decide), rfl, _, rfl, iteNS rfl ⟨sA.trans w5, _, _, _, rfl⟩⟩
end
end L

set_option Elab.async false
set_option linter.all false
set_option maxRecDepth 100000
set_option maxHeartbeats 4000000
set_option pp.maxSteps 400
namespace L
open PySem L2 KX
abbrev sLaw : Stmt := top 38
abbrev nLaw : List Str := ["script", "k", "box", "most", "rows", "other", "one", "two", "count", "turn", "found", "last"]
def spLaw (K : PySem.W.Frag) : Sp := fun vs H Q _ => ∃ (a : Addr) (ns : List Int), vs = [.ref a] ∧ SqL K H a (ns.map V.int) ∧ ns.length ≤ 63 ∧ ∀ H', Q (.bl true) H'
theorem okF2 {n : Nat} (h : n ≤ 256) : OkD 0 100 (.int (n : Int)) := OkD.int (Nat.lt_of_le_of_lt (show _ ≤ 256 by omega) (by decide))
section
variable {P : Program} {w : World} {K : PySem.W.Frag} {mg : Str → Option Value} {base : Heap} {f f1 f2 f3 f4 f5 f6 f7 f8 f9 fI C : Addr} {fd d1 d2 d3 d4 d5 d6 d7 d8 d9 dI : FuncData}
theorem scLaw : FnScope nLaw ["script"] (defScope sLaw) := ⟨rfl, rfl, rfl, by decide +kernel, rfl, by decide +kernel, by decide +kernel⟩
theorem ok_law (F : Fun K "law" "law" sLaw f fd) (M : Mn mg) (T : CTx K mg C) (hS : ∃ o, base.get? sysModules = some o)
    (G1 : FnOk P w K mg base CX0 1 f1 d1 ["script", "k"] (spCell K)) (b1 : Binds K d1 ["script", "k"] []) (k1 : PySem.W.keepIn K (.ref f1) = true) (m1 : mg "_law_cell" = some (.ref f1))
    (G2 : FnOk P w K mg base CX0 1 f2 d2 ["cell"] spBox) (b2 : Binds K d2 ["cell"] []) (k2 : PySem.W.keepIn K (.ref f2) = true) (m2 : mg "_law_box" = some (.ref f2))
    (G3 : FnOk P w K mg base CX0 1 f3 d3 ["box", "size"] spTake) (b3 : Binds K d3 ["box", "size"] []) (k3 : PySem.W.keepIn K (.ref f3) = true) (m3 : mg "_law_take" = some (.ref f3))
    (G4 : FnOk P w K mg base CX0 3 f4 d4 ["box"] spRows) (b4 : Binds K d4 ["box"] []) (k4 : PySem.W.keepIn K (.ref f4) = true) (m4 : mg "_law_rows" = some (.ref f4))
    (G5 : FnOk P w K mg base CX0 4 f5 d5 ["box", "most"] spSm) (b5 : Binds K d5 ["box", "most"] []) (k5 : PySem.W.keepIn K (.ref f5) = true) (m5 : mg "_law_small" = some (.ref f5))
    (G6 : FnOk P w K mg base CX0 8 f6 d6 ["one", "other"] (spFnd K C)) (b6 : Binds K d6 ["one", "other"] []) (k6 : PySem.W.keepIn K (.ref f6) = true) (m6 : mg "_law_found" = some (.ref f6))
    (G7 : GOk P w K mg base CX0 5 f7 d7 ["rows", "other", "found"] (spRt K C)) (b7 : Binds K d7 ["rows", "other", "found"] []) (k7 : PySem.W.keepIn K (.ref f7) = true) (m7 : mg "_law_right" = some (.ref f7))
    (G8 : GOk P w K mg base CX0 9 f8 d8 ["box", "one", "two"] (spRf K C)) (b8 : Binds K d8 ["box", "one", "two"] []) (k8 : PySem.W.keepIn K (.ref f8) = true) (m8 : mg "_law_refused_right" = some (.ref f8))
    (G9 : FnOk P w K mg base CX0 1 f9 d9 ["self"] (spRowsM K C)) (b9 : Binds K d9 ["self"] []) (h9 : Meth K C "rows" f9)
    (MI : Mk K C fI) (GI : FnOk P w K mg base CX0 5 fI dI ["self", "rows"] (spInit K C)) (bI : Binds K dI ["self", "rows"] []) :
    GOk P w K mg base CX0 10 f fd ["script"] (spLaw K) := by
  refine gok F scLaw (fun vs H Q E h => ?_) (fun cdv A outer s H vs Q E hr hA h => ?_)
  · obtain ⟨a, ns, rfl, _⟩ := h
    rfl
  obtain ⟨a0, ns, rfl, hN, h63, q⟩ := h
  have hr1 : Room 1 _ := hr.mono (by decide)
  have hr3 : Room 3 _ := hr.mono (by decide)
  have hr4 : Room 4 _ := hr.mono (by decide)
  have hr5 : Room 5 _ := hr.mono (by decide)
  have hr6 : Room 6 _ := hr.mono (by decide)
  have hr8 : Room 8 _ := hr.mono (by decide)
  have hu := hr.units
  have rp := fun {X : Cx} (h1 : X.base = base) (h2 : X.A = (A.deeper (PyProof.Rows.envOfC "law" (defScope sLaw) s.heap.objs.size f cdv))) => @call_repr_q X (by rw [h1]; exact hS) (by rw [h2]; exact hA) (by rw [h2]; exact hu)
  refine ⟨_, pss_cons (ps_for PassesOwn.never rfl (pi_range1 (by rfl) M.range (pa_cons (pe_callB (call_max2 rfl) (by rfl) M.max (by decide +kernel) (pa_cons pe_int (pa_cons
        (pe_callB (call_min2 rfl) (by rfl) M.min (by decide +kernel) (pa_cons pe_int (pa_cons (pe_callB call_len_seq (by rfl) M.len PySem.boot_len (pa_cons (pv 0) pa_nil)) pa_nil))) pa_nil))) pa_nil)) (pg_name (i := 1) scLaw.nd rfl (Or.inl rfl))
      (pss_cons (ps_set (i := 2) scLaw.nd rfl (Or.inl rfl) (pe_call G2 hr1 rfl m2 k2 b2 .nil pass0 (pa_cons (pe_call G1 hr1 rfl m1 k1 b1 .nil pass0 (pa_cons (pv 0) (pa_cons (pv 1) pa_nil))) pa_nil)))
      (pss_cons (ps_set (i := 3) scLaw.nd rfl (Or.inl rfl) (pe_op op_add pe_int (pe_call G3 hr1 (by rfl) m3 k3 b3 .nil pass0 (pa_cons (pv 2) (pa_cons pe_int pa_nil)))))
      (pss_cons (ps_set (i := 4) scLaw.nd rfl (Or.inl rfl) (pe_call G5 hr4 (by rfl) m5 k5 b5 .nil pass0 (pa_cons (pv 2) (pa_cons (pv 3) pa_nil))))
      (pss_cons (ps_set (i := 5) scLaw.nd rfl (Or.inl rfl) (pe_call G5 hr4 (by rfl) m5 k5 b5 .nil pass0 (pa_cons (pv 2) (pa_cons (pe_op op_fdiv pe_int (pe_callB call_len_seq (by rfl) M.len PySem.boot_len (pa_cons (pv 4) pa_nil))) pa_nil))))
      (pss_cons (ps_cut (ps_if (pt_cmpR op_eq (pe_call G3 hr1 (by rfl) m3 k3 b3 .nil pass0 (pa_cons (pv 2) (pa_cons pe_int pa_nil))) pe_int (nomark _)) (pss_one (ps_set (i := 5) scLaw.nd rfl (Or.inl rfl) (pe_call G4 hr3 (by rfl) m4 k4 b4 .nil pass0 (pa_cons (pv 2) pa_nil)))) pss_nil))
      (pss_cons (ps_cut (ps_par (i := 6) (j := 7) (by rfl) scLaw.nd rfl rfl (by decide) rfl rfl (pa_cons (pe_make MI GI hr6 (by rfl) T.mgC bI .nil pass0 (pa_cons (pv 4) pa_nil)) (pa_cons (pe_make MI GI hr6 (by rfl) T.mgC bI .nil pass0 (pa_cons (pv 5) pa_nil)) pa_nil)) (by rfl)))
      (pss_cons (ps_set (i := 8) scLaw.nd rfl (Or.inl rfl) (pe_op op_mul (pe_callB call_len_seq (by rfl) M.len PySem.boot_len (pa_cons (pv 4) pa_nil)) (pe_callB call_len_seq (by rfl) M.len PySem.boot_len (pa_cons (pv 5) pa_nil))))
      (pss_cons (ps_for PassesOwn.never rfl (pi_range1 (by rfl) M.range (pa_cons pe_int pa_nil)) (pg_name (i := 9) scLaw.nd rfl (Or.inl rfl))
        (pss_cons (ps_cut (ps_set (i := 10) scLaw.nd rfl (Or.inl rfl) (pe_call G6 hr8 (by rfl) m6 k6 b6 .nil pass0 (pa_cons (pv 6) (pa_cons (pv 7) pa_nil)))))
        (pss_cons (ps_cut (ps_if (pt_cmpR op_gt (pv 8) pe_int (nomark _)) (pss_one (ps_if (pt_cmpR op_ne (pe_callB (rp rfl rfl) (by rfl) M.repr (by decide +kernel) (pa_cons (pv 10) pa_nil)) (pe_callB (rp rfl rfl) (by rfl) M.repr (by decide +kernel) (pa_cons (pe_lst (pa_cons pe_str (pa_cons (pv 8) pa_nil))) pa_nil)) (nomark _)) (pss_one (ps_ret pe_bl)) pss_nil)) (pss_one (ps_if (pw_or (pt_cmpR op_ne (pe_ix ix_list (pv 10) pe_int (fun _ _ => rfl)) pe_str (nomark _)) (pw_or (pt_not (pt_val (pe_callB call_isi (by rfl) M.isin (by decide +kernel) (pa_cons (pe_ix ix_list (pv 10) pe_int (fun _ _ => rfl)) (pa_cons (pe_bltn (v := .ty "tuple") (by rfl) M.tuple (by decide +kernel) rfl) pa_nil))))) (pw_or1 (pt_not (pt_val (pe_g G7 hA hr5 (by rfl) m7 k7 b7 .nil pass0 (pa_cons (pv 4) (pa_cons (pv 5) (pa_cons (pe_ix ix_list (pv 10) pe_int (fun _ _ => rfl)) pa_nil))))))))).pt (pss_one (ps_ret pe_bl)) (pss_cons (ps_expr (pe_bm PySem.F.plainAttrs_list PySem.F.slot_list_append PySem.F.type_list_append mt_append (pe_ix ix_tup (pe_ix ix_list (pv 10) pe_int (fun _ _ => rfl)) pe_int (fun _ _ => rfl)) (pa_cons pe_str pa_nil))) (pss_one (ps_expr (pe_bm0 PySem.F.plainAttrs_list PySem.F.slot_list_clear PySem.F.type_list_clear mt_clear (pe_ix ix_tup (pe_ix ix_list (pv 10) pe_int (fun _ _ => rfl)) pe_int (fun _ _ => rfl))))))))))
        (pss_one (ps_if (pw_or (pt_cmpR (op_neD hu) (pe_meth0 (pv 6) T.cl h9 G9 hr1 b9 .nil pass0) (pv 4) (nomark _)) (pw_or1 (pt_cmpR (op_neD hu) (pe_meth0 (pv 7) T.cl h9 G9 hr1 b9 .nil pass0) (pv 5) (nomark _)))).pt (pss_one (ps_ret pe_bl)) pss_nil)))))
      (pss_cons (ps_set (i := 11) scLaw.nd rfl (Or.inl rfl) (pe_call G5 hr4 (by rfl) m5 k5 b5 .nil pass0 (pa_cons (pv 2) (pa_cons (pe_op op_fdiv pe_int (pe_callB call_len_seq (by rfl) M.len PySem.boot_len (pa_cons (pv 4) pa_nil))) pa_nil))))
      (pss_cons (ps_set (i := 10) scLaw.nd rfl (Or.inl rfl) (pe_call G6 hr8 (by rfl) m6 k6 b6 .nil pass0 (pa_cons (pv 6) (pa_cons (pe_make MI GI hr6 (by rfl) T.mgC bI .nil pass0 (pa_cons (pv 11) pa_nil)) pa_nil))))
      (pss_cons (ps_if (pw_or (pt_cmpR op_ne (pe_ix ix_list (pv 10) pe_int (fun _ _ => rfl)) pe_str (nomark _)) (pw_or1 (pt_not (pt_val (pe_g G7 hA hr5 (by rfl) m7 k7 b7 .nil pass0 (pa_cons (pv 4) (pa_cons (pv 11) (pa_cons (pe_ix ix_list (pv 10) pe_int (fun _ _ => rfl)) pa_nil)))))))).pt (pss_one (ps_ret pe_bl)) pss_nil)
      (pss_cons (ps_set (i := 11) scLaw.nd rfl (Or.inl rfl) (pe_call G5 hr4 (by rfl) m5 k5 b5 .nil pass0 (pa_cons (pv 2) (pa_cons (pe_op op_fdiv pe_int (pe_callB call_len_seq (by rfl) M.len PySem.boot_len (pa_cons (pv 5) pa_nil))) pa_nil))))
      (pss_cons (ps_set (i := 10) scLaw.nd rfl (Or.inl rfl) (pe_call G6 hr8 (by rfl) m6 k6 b6 .nil pass0 (pa_cons (pe_make MI GI hr6 (by rfl) T.mgC bI .nil pass0 (pa_cons (pv 11) pa_nil)) (pa_cons (pv 7) pa_nil))))
      (pss_cons (ps_if (pw_or (pt_cmpR op_ne (pe_ix ix_list (pv 10) pe_int (fun _ _ => rfl)) pe_str (nomark _)) (pw_or1 (pt_not (pt_val (pe_g G7 hA hr5 (by rfl) m7 k7 b7 .nil pass0 (pa_cons (pv 11) (pa_cons (pv 5) (pa_cons (pe_ix ix_list (pv 10) pe_int (fun _ _ => rfl)) pa_nil)))))))).pt (pss_one (ps_ret pe_bl)) pss_nil)
      (pss_one (ps_if (pt_not (pt_val (pe_g G8 hA hr (by rfl) m8 k8 b8 .nil pass0 (pa_cons (pv 2) (pa_cons (pv 6) (pa_cons (pv 7) pa_nil)))))) (pss_one (ps_ret pe_bl)) pss_nil)))))))))))))))))
    (pss_one (ps_ret pe_bl)), ?_⟩
  have len : (ns.map V.int).length = ns.length := List.length_map _
  refine ⟨_, rfl, a0, _, rfl, .inl hN, _, _, rfl, _, _, rfl, _, rfl, ?_⟩
  rw [len]
  generalize hm : (if (if (ns.length : Int) < 10 then (ns.length : Int) else 10) > 2 then (if (ns.length : Int) < 10 then (ns.length : Int) else 10) else 2) = m
  have hm8 : 0 ≤ m ∧ m ≤ 10 := by rw [← hm]; split <;> split <;> omega
  refine ⟨by omega, by omega, ?_⟩
  refine for_range (lo := 0) (n := m.toNat) (fun _ σ J => Same H J ∧ ∃ x1 x2 x3 x4 x5 x6 x7 x8 x9 x10 x11, σ = [some (.ref a0), x1, x2, x3, x4, x5, x6, x7, x8, x9, x10, x11]) ⟨Same.refl H, _, _, _, _, _, _, _, _, _, _, _, rfl⟩ ?_ ?_
  rotate_left
  · rintro _ J ⟨sJ, x1, x2, x3, x4, x5, x6, x7, x8, x9, x10, x11, rfl⟩
    exact q J
  rintro k _ J hk ⟨sJ, x1, x2, x3, x4, x5, x6, x7, x8, x9, x10, x11, rfl⟩
  refine ⟨_, rfl, _, rfl, a0, ns, _, rfl, sJ.seq hN, by omega, fun c => ⟨c, rfl, fun p J1 sJ1 hp0 bx1 => ?_⟩⟩
  have np : H p = none := sJ.free hp0
  have sH1 : Same H J1 := sJ.trans sJ1
  refine ⟨_, rfl, p, 16, rfl, bx1, by decide, by decide, fun r J2 ra rb bx2 x2 => ⟨_, _, rfl, rfl, ?_⟩⟩
  obtain ⟨r, rfl⟩ := Int.eq_ofNat_of_zero_le ra
  refine ⟨_, rfl, _, rfl, p, 1 + r, congrArg (fun z => [V.ref p, V.int z]) (by omega), bx2, by omega, by omega, fun v3 J3 n3 f3' h3 l3 => ?_⟩
  have n31 := h3.n1
  have n316 := h3.n16
  obtain ⟨av, xs, rfl, hxs, lxs⟩ := h3.lst (K := K)
  refine ⟨_, rfl, _, rfl, av, xs, rfl, .inl hxs, _, _, rfl, rfl, (by rw [lxs]; exact ⟨by omega, by omega⟩), ?_⟩
  rw [lxs]
  have q16 : ∀ n : Nat, 1 ≤ n → n ≤ 16 → (16 : Int) / (n : Int) = ((16 / n : Nat) : Int) ∧ 1 ≤ 16 / n ∧ 16 / n ≤ 16 := fun n h1 h2 => ⟨(Int.natCast_ediv 16 n).symm, (Nat.le_div_iff_mul_le (by omega)).mpr (by omega), Nat.div_le_self _ _⟩
  have qm : ∀ n m : Nat, 1 ≤ n → m ≤ 16 / n → n * m ≤ 16 := fun n m h1 h => by
    have := (Nat.le_div_iff_mul_le (show 0 < n by omega)).mp h
    rw [Nat.mul_comm]; exact this
  obtain ⟨q1, q2, q3⟩ := q16 n3 n31 n316
  refine ⟨p, 16 / n3, congrArg (fun z => [V.ref p, V.int z]) q1, h3.bx, q2, q3, fun v4 J4 n4 f4' h4 l4 => ?_⟩
  have R3 : RowsL (mn p J3) (.ref av) (tab n3 f3') := h3.rows.same (mn_nw bx2.nn)
  have T3 : Tb (tab n3 f3') := tab_tb h3.n1 h3.n16 h3.as
  have fm : ∀ {G : Hp}, Sx p J3 G → Same (mn p J3) G := fun s => fx mn_same mn_p s
  -- other
  refine ⟨fun σ G => ∃ v4 n4 f4', RwAt J3 p G v4 n4 f4' ∧ ∃ x6 x7 x8 x9 x10 x11, σ = [some (.ref a0), some (.int (0 + (k : Int))), some (.ref p), some (.int (1 + (r : Int))), some (.ref av), some v4, x6, x7, x8, x9, x10, x11], ?_, ?_⟩
  · refine ⟨_, rfl, p, 4, rfl, h4.bx, by decide, by decide, fun r2 G1 ra2 rb2 b1' s1' => ⟨rfl, _, rfl, ite2 (fun c => ?_) (fun c => ?_)⟩⟩
    · refine ⟨_, rfl, p, rfl, b1', fun v5 G2 n5 f5' h5 => ?_⟩
      exact ⟨v5, n5, f5', ⟨h5.bx, (h4.sx.trans s1').trans h5.sx, h5.n1, h5.n16, h5.as, h5.rows.same (nw_back (h4.sx.trans s1') b1')⟩, _, _, _, _, _, _, rfl⟩
    · exact ⟨v4, n4, f4', h4.took h3.bx s1' b1', _, _, _, _, _, _, rfl⟩
  clear h4 l4
  rintro _ G0 ⟨v4, n4, f4', h4, y6, y7, y8, y9, y10, y11, rfl⟩
  have T4 : Tb (tab n4 f4') := tab_tb h4.n1 h4.n16 h4.as
  have R4 : RowsL (mn p G0) v4 (tab n4 f4') := h4.rows.same (mn_nw h3.bx.nn)
  have R3b : RowsL (mn p G0) (.ref av) (tab n3 f3') := R3.same fun b o e => by
    have e' := fm h4.sx _ _ e
    exact mn_sx _ _ (fun z => by rw [z, mn_p] at e; cases e) e'
  have sHG : Same H G0 := fx (fx (fx sH1 np x2) np h3.sx) np h4.sx
  have bG := h4.bx
  have lt3 : (tab n3 f3').length = n3 := tab_len _ _
  have lt4 : (tab n4 f4').length = n4 := tab_len _ _
  have h31 := h3.n1
  have h316 := h3.n16
  have h41 := h4.n1
  have h416 := h4.n16
  clear h3 h4 R3 fm hxs lxs
  generalize tab n3 f3' = tb at *
  generalize tab n4 f4' = tc at *
  subst lt3
  subst lt4
  -- one, two
  refine ⟨fun σ G => ∃ (x1 x2 : Addr) (F : Hp), Same G0 G ∧ Same F G ∧ F p = none ∧ Bx G p ∧ RowsL F (.ref av) tb ∧ RowsL F v4 tc ∧ TbA K C F x1 tb ∧ TbA K C F x2 tc ∧ ∃ x8 x9 x10 x11, σ = [some (.ref a0), some (.int (0 + (k : Int))), some (.ref p), some (.int (1 + (r : Int))), some (.ref av), some v4, some (.ref x1), some (.ref x2), x8, x9, x10, x11], ?_, ?_⟩
  · refine ⟨_, rfl, fun x1 e1 hx1 he1 ne1 => init_at (R3b.same mn_same) T3 hx1 he1 ne1 fun G1 s1 t1 => ⟨_, rfl, fun x2 e2 hx2 he2 ne2 => init_at ((R4.same mn_same).same s1) T4 hx2 he2 ne2 fun G2 s2 t2 => ⟨_, _, rfl, ?_⟩⟩⟩
    have bG2 := (bG.same s1).same s2
    have s12 := s1.trans s2
    refine ⟨x1, x2, mn p G2, s12, mn_same, mn_p, bG2, R3b.same ?_, R4.same ?_, TbA.sx mn_sx bG2 (t1.to s2), TbA.sx mn_sx bG2 t2, _, _, _, _, rfl⟩
    · exact fun b o e => mn_sx _ _ (fun z => by rw [z, mn_p] at e; cases e) (s12 _ _ (mn_same _ _ e))
    · exact fun b o e => mn_sx _ _ (fun z => by rw [z, mn_p] at e; cases e) (s12 _ _ (mn_same _ _ e))
  clear R3b R4
  rintro _ G1 ⟨x1, x2, FF, s01, sF, nFp, b1', R3, R4, t1, t2, z8, z9, z10, z11, rfl⟩
  have sH1 := sHG.trans s01
  obtain ⟨_, xs3, e3, ea3, l3'⟩ := R3.sq
  cases e3
  obtain ⟨au, xs4, rfl, ea4, l4'⟩ := R4.sq
  have mnI : ((tb.length : Int) * (tc.length : Int)) = ((prN tb tc : Nat) : Int) := (Int.natCast_mul _ _).symm
  have p256 : prN tb tc ≤ 256 := Nat.mul_le_mul h316 h416
  refine ⟨_, rfl, av, _, rfl, .inl (SqL.of (sF _ _ ea3)), _, rfl, au, _, rfl, .inl (SqL.of (sF _ _ ea4)), _, _, rfl, rfl, .inl ⟨by omega, by omega⟩, ?_⟩
  rw [l3', l4']
  dsimp only
  rw [mnI]
  refine ⟨_, rfl, by decide, by decide, ?_⟩
  have fH : ∀ {G : Hp} {b : Addr}, Same FF G → G b = none → FF b = none := fun s h => s.free h
  refine for_range (lo := 0) (n := Int.toNat 2) (fun _ σ J => Same H J ∧ Same FF J ∧ Bx J p ∧ ∃ x9 x10, σ = [some (.ref a0), some (.int (0 + (k : Int))), some (.ref p), some (.int (1 + (r : Int))), some (.ref av), some (.ref au), some (.ref x1), some (.ref x2), some (.int ((prN tb tc : Nat) : Int)), x9, x10, z11])
    ⟨sH1, sF, b1', _, _, rfl⟩ ?_ ?_
  · rintro t _ J hi ⟨sHJ, sJ, bJ, w9, w10, rfl⟩
    refine ⟨fun σ G => ∃ r5, Same J G ∧ ((16 < prN tb tc ∧ G r5 = some (.lst [.str (Str.ofString "many"), .int ((prN tb tc : Nat) : Int)])) ∨ (prN tb tc ≤ 16 ∧ ∃ z5, G r5 = some (.lst [.str (Str.ofString "found"), z5]) ∧ PrR K C J G tb tc z5)) ∧ σ = [some (.ref a0), some (.int (0 + (k : Int))), some (.ref p), some (.int (1 + (r : Int))), some (.ref av), some (.ref au), some (.ref x1), some (.ref x2), some (.int ((prN tb tc : Nat) : Int)), some (.int (0 + (t : Int))), some (.ref r5), z11], ?_, ?_⟩
    · exact ⟨_, rfl, _, rfl, .ref x1, .ref x2, rfl, .inr ⟨x1, x2, tb, tc, rfl, rfl, t1.to sJ, t2.to sJ, T3, T4, fun c r5 J5 s5 e5 => ⟨r5, s5, .inl ⟨c, e5⟩, rfl⟩, fun c r5 z5 J5 s5 e5 hz5 => ⟨r5, s5, .inr ⟨c, z5, e5, hz5⟩, rfl⟩⟩⟩
    rintro _ J5 ⟨r5, s5, hh, rfl⟩
    have b5' := bJ.same s5
    refine ⟨fun σ G => Same H G ∧ Same FF G ∧ Bx G p ∧ ∃ x10, σ = [some (.ref a0), some (.int (0 + (k : Int))), some (.ref p), some (.int (1 + (r : Int))), some (.ref av), some (.ref au), some (.ref x1), some (.ref x2), some (.int ((prN tb tc : Nat) : Int)), some (.int (0 + (t : Int))), x10, z11], ?_, ?_⟩
    · rcases hh with ⟨c, e5⟩ | ⟨c, z5, e5, hz5⟩
      · refine ⟨_, rfl, _, _, rfl, rfl, _, rfl, iteTt (decide_eq_true (by omega)) ?_⟩
        have ok := okL2 (n := 0) (W := 100) ((OkD.str (n := 4) (z := Str.ofString "many") (by unfold Ss; decide +kernel)).mono (by omega) (by omega)) (okF2 p256)
        refine ⟨_, rfl, _, _, rfl, .lst e5 (.cons (.str _) (.cons (.int _) .nil)), ok.shows, Nat.le_trans ok.deep (by decide), ok.len (by decide), _, rfl, szl _ (by simp), fun l6 hl6 => ?_⟩
        have sn := Same.new hl6 (.lst [.str (Str.ofString "many"), .int ((prN tb tc : Nat) : Int)])
        exact ⟨_, _, rfl, .lst upd_same (.cons (.str _) (.cons (.int _) .nil)), ok.shows, Nat.le_trans ok.deep (by decide), ok.len (by decide), rfl, _, rfl, iteNS rfl ⟨(sHJ.trans s5).trans sn, (sJ.trans s5).trans sn, b5'.same sn, _, rfl⟩⟩
      · refine ⟨_, rfl, _, _, rfl, rfl, _, rfl, iteFf (decide_eq_false (by omega)) ?_⟩
        refine ⟨_, rfl, r5, _, _, _, rfl, rfl, SqL.of e5, at_of (j := 0) rfl rfl, rfl, _, rfl, iteNS rfl ?_⟩
        obtain ⟨t6, p6, fa, sa, rfl, et6, _, ef6, es6, nf6, ns6, nfs⟩ := id hz5
        refine ⟨_, rfl, r5, _, _, _, rfl, rfl, SqL.of e5, at_of (j := 1) rfl rfl, _, .ty "tuple", _, .type "tuple", true, rfl, .ty _, SqT.ty (SqT.of et6), kit_ty (by decide +kernel), _, rfl, iteF ?_⟩
        refine ⟨_, rfl, _, rfl, _, rfl, r5, _, _, _, rfl, rfl, SqL.of e5, at_of (j := 1) rfl rfl, .ref av, .ref au, .ref t6, tb, tc, J, rfl, R3.same (sJ.trans s5), R4.same (sJ.trans s5), T3, T4, c, hz5, fun J7 s7 => ⟨true, rfl, iteF ?_⟩⟩
        have s57 := s5.trans s7
        refine ⟨_, rfl, r5, _, _, _, rfl, rfl, SqL.of (s7 _ _ e5), at_of (j := 1) rfl rfl, t6, _, _, .ref fa, rfl, rfl, SqT.of (s7 _ _ et6), at_of (j := 1) rfl rfl, .inl ⟨rfl, _, SqL.of (s7 _ _ ef6)⟩, fa, _, _, rfl, rfl, s7 _ _ ef6, by rw [nv_len]; unfold prF; rw [List.length_map, List.length_range]; exact small1000 (by omega), ?_⟩
        have nfp : fa ≠ p := bJ.ne nf6
        have nsp : sa ≠ p := bJ.ne ns6
        have nr5 : r5 ≠ fa := fun z => by rw [← z, e5] at ef6; have := congrArg (fun o => match o with | some (HO.lst (x :: _)) => some x | _ => none) ef6; cases hq : prF tb tc <;> rw [hq] at this <;> cases this
        have nt6 : t6 ≠ fa := fun z => by rw [← z, et6] at ef6; cases ef6
        refine ⟨_, rfl, r5, _, _, _, rfl, rfl, SqL.of (by rw [upd_ne nr5]; exact s7 _ _ e5), at_of (j := 1) rfl rfl, t6, _, _, .ref sa, rfl, rfl, SqT.of (by rw [upd_ne nt6]; exact s7 _ _ et6), at_of (j := 2) rfl rfl, .inl ⟨rfl, _, SqL.of (by rw [upd_ne nfs.symm]; exact s7 _ _ es6)⟩, sa, _, rfl, rfl, by rw [upd_ne nfs.symm]; exact s7 _ _ es6, ?_⟩
        exact ⟨fu (fu (sHJ.trans s57) (sHJ.free nf6)) (sHJ.free ns6), fu (fu (sJ.trans s57) (sJ.free nf6)) (sJ.free ns6), ((b5'.same s7).at_ne nfp).at_ne nsp, _, rfl⟩
    rintro _ J8 ⟨sH8, sF8, b8', x10, rfl⟩
    have t18 := t1.to sF8
    obtain ⟨dx8, t8, rs8, hp8, _, _⟩ := t18.ob
    refine ⟨_, rfl, x1, dx8, _, rfl, hp8, rfl, x1, tb, rfl, t18, h316, fun v9 K9 R9 s9 => ?_⟩
    refine ⟨_, rfl, .list (rD tb), .list (rD tb), (R9.same nw_same).dp, ((R3.same sF8).same s9).dp, rD_shaped _, rD_shaped _, _, rfl, ?_⟩
    rw [rD_refl]
    refine iteF ?_
    have t29 := t2.to (sF8.trans s9)
    obtain ⟨dx9, t9, rs9, hp9, _, _⟩ := t29.ob
    refine ⟨_, rfl, x2, dx9, _, rfl, hp9, rfl, x2, tc, rfl, t29, h416, fun v10 K10 R10 s10 => ?_⟩
    refine ⟨_, rfl, .list (rD tc), .list (rD tc), (R10.same nw_same).dp, ((R4.same (sF8.trans s9)).same s10).dp, rD_shaped _, rD_shaped _, _, rfl, ?_⟩
    rw [rD_refl]
    have s910 := s9.trans s10
    exact iteF ⟨sH8.trans s910, sF8.trans s910, b8'.same s910, _, _, rfl⟩
  rintro _ J ⟨sHJ, sJ, bJ, w9, w10, rfl⟩
  -- last, as the second
  obtain ⟨q1, q2, q3⟩ := q16 tb.length h31 h316
  refine ⟨_, rfl, _, rfl, av, _, rfl, .inl (SqL.of (sJ _ _ ea3)), _, _, rfl, rfl, (by rw [l3']; exact ⟨by omega, by omega⟩), ?_⟩
  rw [l3']
  refine ⟨p, 16 / tb.length, congrArg (fun z => [V.ref p, V.int z]) q1, bJ, q2, q3, fun v5 J5 n5 f5' h5 l5 => ?_⟩
  have T5 : Tb (tab n5 f5') := tab_tb h5.n1 h5.n16 h5.as
  have R5 : RowsL J5 v5 (tab n5 f5') := h5.rows.same nw_same
  have lt5 : (tab n5 f5').length = n5 := tab_len _ _
  have c5 : prN tb (tab n5 f5') ≤ 16 := by unfold prN; rw [lt5]; exact qm _ _ h31 l5
  have sF5 : Same FF J5 := fx sJ nFp h5.sx
  have sH5 : Same H J5 := fx sHJ np h5.sx
  have b5' := h5.bx
  clear h5
  generalize tab n5 f5' = td at *
  refine ⟨_, rfl, _, rfl, fun y5 e5 hy5 he5 ne5 => init_at R5 T5 hy5 he5 ne5 fun J6 s6 t6 => ?_⟩
  refine ⟨.ref x1, .ref y5, rfl, .inr ⟨x1, y5, tb, td, rfl, rfl, t1.to (sF5.trans s6), t6, T3, T5, fun c => absurd c (by omega), fun c r7 z7 J7 s7 e7 hz7 => ?_⟩⟩
  refine ⟨_, rfl, r7, _, _, _, rfl, rfl, SqL.of e7, at_of (j := 0) rfl rfl, rfl, _, rfl, iteNS rfl ?_⟩
  have s67 := s6.trans s7
  refine ⟨_, rfl, _, rfl, _, rfl, r7, _, _, _, rfl, rfl, SqL.of e7, at_of (j := 1) rfl rfl, .ref av, v5, z7, tb, td, J6, rfl, R3.same (sF5.trans s67), R5.same s67, T3, T5, c, hz7, fun J8 s8 => ⟨true, rfl, iteF ?_⟩⟩
  have sF8 := (sF5.trans s67).trans s8
  have sH8 := (sH5.trans s67).trans s8
  have b8' := (b5'.same s67).same s8
  clear s6 t6 s7 e7 hz7 s67 s8 R5 sF5 sH5 b5'
  -- last, as the first
  obtain ⟨q1, q2, q3⟩ := q16 tc.length h41 h416
  refine ⟨_, rfl, _, rfl, au, _, rfl, .inl (SqL.of (sF8 _ _ ea4)), _, _, rfl, rfl, (by rw [l4']; exact ⟨by omega, by omega⟩), ?_⟩
  rw [l4']
  refine ⟨p, 16 / tc.length, congrArg (fun z => [V.ref p, V.int z]) q1, b8', q2, q3, fun v9 J9 n9 f9' h9' l9 => ?_⟩
  have T9 : Tb (tab n9 f9') := tab_tb h9'.n1 h9'.n16 h9'.as
  have R9 : RowsL J9 v9 (tab n9 f9') := h9'.rows.same nw_same
  have lt9 : (tab n9 f9').length = n9 := tab_len _ _
  have c9 : prN (tab n9 f9') tc ≤ 16 := by unfold prN; rw [lt9, Nat.mul_comm]; exact qm _ _ h41 l9
  have sF9 : Same FF J9 := fx sF8 nFp h9'.sx
  have sH9 : Same H J9 := fx sH8 np h9'.sx
  have b9' := h9'.bx
  clear h9'
  generalize tab n9 f9' = te at *
  refine ⟨_, rfl, fun y6 e6 hy6 he6 ne6 => init_at R9 T9 hy6 he6 ne6 fun J10 s10 t10 => ?_⟩
  refine ⟨_, rfl, .ref y6, .ref x2, rfl, .inr ⟨y6, x2, te, tc, rfl, rfl, t10, t2.to (sF9.trans s10), T9, T4, fun c => absurd c (by omega), fun c r11 z11' J11 s11 e11 hz11 => ?_⟩⟩
  refine ⟨_, rfl, r11, _, _, _, rfl, rfl, SqL.of e11, at_of (j := 0) rfl rfl, rfl, _, rfl, iteNS rfl ?_⟩
  have s101 := s10.trans s11
  refine ⟨_, rfl, _, rfl, _, rfl, r11, _, _, _, rfl, rfl, SqL.of e11, at_of (j := 1) rfl rfl, v9, .ref au, z11', te, tc, J10, rfl, R9.same s101, R4.same (sF9.trans s101), T9, T4, c, hz11, fun J12 s12 => ⟨true, rfl, iteF ?_⟩⟩
  have sF12 := (sF9.trans s101).trans s12
  have sH12 := (sH9.trans s101).trans s12
  have b12 := (b9'.same s101).same s12
  refine ⟨_, rfl, _, rfl, _, rfl, p, x1, x2, tb, tc, rfl, b12, t1.to sF12, t2.to sF12, T3, T4, fun J13 b13 s13 => ⟨true, rfl, iteF ⟨fx sH12 np s13, _, _, _, _, _, _, _, _, _, _, _, rfl⟩⟩⟩
end
end L

set_option Elab.async false
set_option linter.all false
set_option maxRecDepth 100000
set_option maxHeartbeats 4000000
namespace L
open PySem L2 KX
theorem all_mk {l : PySem.W.OpenLaw} {w : World} {K : PySem.W.Frag} {h : Heap} {mg : Str → Option Value} {fa : Addr} (X : K.In h) (G : h.Ns mainGlobals mg) (hfa : mg "law" = some (.ref fa))
    {f0 : Addr} {od0 an0 : Option Addr} {sl0 : Array (Option Value)} {oc0 kV0 dc0 pm0 cd0 ct0 : Value}
    {f1 : Addr} {od1 an1 : Option Addr} {sl1 : Array (Option Value)} {oc1 kV1 dc1 pm1 cd1 ct1 : Value}
    {f2 : Addr} {od2 an2 : Option Addr} {sl2 : Array (Option Value)} {oc2 kV2 dc2 pm2 cd2 ct2 : Value}
    {f3 : Addr} {od3 an3 : Option Addr} {sl3 : Array (Option Value)} {oc3 kV3 dc3 pm3 cd3 ct3 : Value}
    {f4 : Addr} {od4 an4 : Option Addr} {sl4 : Array (Option Value)} {oc4 kV4 dc4 pm4 cd4 ct4 : Value}
    {f5 : Addr} {od5 an5 : Option Addr} {sl5 : Array (Option Value)} {oc5 kV5 dc5 pm5 cd5 ct5 : Value}
    {f6 : Addr} {od6 an6 : Option Addr} {sl6 : Array (Option Value)} {oc6 kV6 dc6 pm6 cd6 ct6 : Value}
    {f7 : Addr} {od7 an7 : Option Addr} {sl7 : Array (Option Value)} {oc7 kV7 dc7 pm7 cd7 ct7 : Value}
    {f8 : Addr} {od8 an8 : Option Addr} {sl8 : Array (Option Value)} {oc8 kV8 dc8 pm8 cd8 ct8 : Value}
    {f9 : Addr} {od9 an9 : Option Addr} {sl9 : Array (Option Value)} {oc9 kV9 dc9 pm9 cd9 ct9 : Value}
    {f10 : Addr} {od10 an10 : Option Addr} {sl10 : Array (Option Value)} {oc10 kV10 dc10 pm10 cd10 ct10 : Value}
    {f11 : Addr} {od11 an11 : Option Addr} {sl11 : Array (Option Value)} {oc11 kV11 dc11 pm11 cd11 ct11 : Value}
    {f12 : Addr} {od12 an12 : Option Addr} {sl12 : Array (Option Value)} {oc12 kV12 dc12 pm12 cd12 ct12 : Value}
    {f13 : Addr} {od13 an13 : Option Addr} {sl13 : Array (Option Value)} {oc13 kV13 dc13 pm13 cd13 ct13 : Value}
    {f14 : Addr} {od14 an14 : Option Addr} {sl14 : Array (Option Value)} {oc14 kV14 dc14 pm14 cd14 ct14 : Value}
    {f15 : Addr} {od15 an15 : Option Addr} {sl15 : Array (Option Value)} {oc15 kV15 dc15 pm15 cd15 ct15 : Value}
    {f16 : Addr} {od16 an16 : Option Addr} {sl16 : Array (Option Value)} {oc16 kV16 dc16 pm16 cd16 ct16 : Value}
    {f17 : Addr} {od17 an17 : Option Addr} {sl17 : Array (Option Value)} {oc17 kV17 dc17 pm17 cd17 ct17 : Value}
    {f18 : Addr} {od18 an18 : Option Addr} {sl18 : Array (Option Value)} {oc18 kV18 dc18 pm18 cd18 ct18 : Value}
    {f19 : Addr} {od19 an19 : Option Addr} {sl19 : Array (Option Value)} {oc19 kV19 dc19 pm19 cd19 ct19 : Value}
    {f20 : Addr} {od20 an20 : Option Addr} {sl20 : Array (Option Value)} {oc20 kV20 dc20 pm20 cd20 ct20 : Value}
    {f21 : Addr} {od21 an21 : Option Addr} {sl21 : Array (Option Value)} {oc21 kV21 dc21 pm21 cd21 ct21 : Value}
    {f22 : Addr} {od22 an22 : Option Addr} {sl22 : Array (Option Value)} {oc22 kV22 dc22 pm22 cd22 ct22 : Value}
    {f23 : Addr} {od23 an23 : Option Addr} {sl23 : Array (Option Value)} {oc23 kV23 dc23 pm23 cd23 ct23 : Value}
    {f24 : Addr} {od24 an24 : Option Addr} {sl24 : Array (Option Value)} {oc24 kV24 dc24 pm24 cd24 ct24 : Value}
    {f25 : Addr} {od25 an25 : Option Addr} {sl25 : Array (Option Value)} {oc25 kV25 dc25 pm25 cd25 ct25 : Value}
    {f26 : Addr} {od26 an26 : Option Addr} {sl26 : Array (Option Value)} {oc26 kV26 dc26 pm26 cd26 ct26 : Value}
    {f27 : Addr} {od27 an27 : Option Addr} {sl27 : Array (Option Value)} {oc27 kV27 dc27 pm27 cd27 ct27 : Value}
    {f28 : Addr} {od28 an28 : Option Addr} {sl28 : Array (Option Value)} {oc28 kV28 dc28 pm28 cd28 ct28 : Value}
    {f29 : Addr} {od29 an29 : Option Addr} {sl29 : Array (Option Value)} {oc29 kV29 dc29 pm29 cd29 ct29 : Value}
    {C : Addr}
    {CT : Addr}
    {CM : Addr}
    {tk0 : Tok}
    (aC : PySem.W.nsIn K mainGlobals "ProductTable" = some (some (.ref C)))
    (pg : PySem.W.plainGet K C Str.empty = true)
    (hd : PySem.W.hasDictIn K C = true)
    (po : PySem.W.plainOver K C = true)
    (sa : PySem.W.findIn K (.ref C) "__setattr__" = some (some (.builtin "object.__setattr__")))
    (mk : PySem.W.makesIn K C = true)
    (kc : PySem.W.keepIn K (.ref C) = true)
    (nR : PySem.W.findIn K (.ref C) "_rows" = some none)
    (ya : PySem.W.findIn K (.ref C) "__class__" = some (some (.builtin "object.__class__")))
    (yn : PySem.W.specialIn K (.builtin "object.__class__") "__get__" = some (some (.builtin "getset_descriptor.__get__")))
    (yt : PySem.W.takesIn K (.builtin "object.__class__") = some true)
    (ym : PySem.W.mroIn K C (.type "object") = some true)
    (tyC : PySem.W.typeIn K (.ref C) = some (.type "type"))
    (aCT : PySem.W.nsIn K mainGlobals "InvalidTable" = some (some (.ref CT)))
    (clCT : ∃ nm q N bs bm sn sub ab col dd k0 k1 k2 k3 k5, K.lookup CT = some (excClassObj nm q CT N bs bm true sn sub ab col dd k0 k1 k2 k3 k5 "ValueError.__new__") ∧ PySem.HandSPX.refsVE bm = true)
    (saCT : PySem.W.findIn K (.ref CT) "__setattr__" = some (some (.builtin "object.__setattr__")))
    (exCT : PySem.W.subIn K (.ref CT) (.type "BaseException") = some true)
    (tyCT : PySem.W.typeIn K (.ref CT) = some (.type "type"))
    (kCT : PySem.W.keepIn K (.ref CT) = true)
    (gaCT : PySem.W.findIn K (.ref CT) "__getattribute__" = some (some (.builtin "BaseException.__getattribute__")))
    (ggCT : PySem.W.findIn K (.ref CT) "__getattr__" = some none)
    (hdCT : PySem.W.hasDictIn K CT = true)
    (suCT : PySem.W.subIn K (.ref CT) (.ref CT) = some true)
    (nvCT : PySem.W.findIn K (.ref CT) "value" = some none)
    (aCM : PySem.W.nsIn K mainGlobals "TooMany" = some (some (.ref CM)))
    (clCM : ∃ nm q N bs bm sn sub ab col dd k0 k1 k2 k3 k5, K.lookup CM = some (excClassObj nm q CM N bs bm true sn sub ab col dd k0 k1 k2 k3 k5 "ValueError.__new__") ∧ PySem.HandSPX.refsVE bm = true)
    (saCM : PySem.W.findIn K (.ref CM) "__setattr__" = some (some (.builtin "object.__setattr__")))
    (exCM : PySem.W.subIn K (.ref CM) (.type "BaseException") = some true)
    (tyCM : PySem.W.typeIn K (.ref CM) = some (.type "type"))
    (kCM : PySem.W.keepIn K (.ref CM) = true)
    (gaCM : PySem.W.findIn K (.ref CM) "__getattribute__" = some (some (.builtin "BaseException.__getattribute__")))
    (ggCM : PySem.W.findIn K (.ref CM) "__getattr__" = some none)
    (hdCM : PySem.W.hasDictIn K CM = true)
    (suCM : PySem.W.subIn K (.ref CM) (.ref CM) = some true)
    (nvCM : PySem.W.findIn K (.ref CM) "count" = some none)
    (a0 : PySem.W.nsIn K mainGlobals "is_integer" = some (some (.ref f0)))
    (l0 : K.lookup f0 = some ⟨oc0, od0, .func (PySem.W.fnOf "is_integer" "is_integer" (defArgs sIsInt) (defBody sIsInt) (defScope sIsInt) .none kV0 dc0 pm0 an0 cd0 ct0), sl0⟩)
    (c0 : PySem.W.codeIn K cd0 "is_integer" = true)
    (k0 : PySem.W.keepIn K (.ref f0) = true)
    (a1 : PySem.W.nsIn K mainGlobals "is_list" = some (some (.ref f1)))
    (l1 : K.lookup f1 = some ⟨oc1, od1, .func (PySem.W.fnOf "is_list" "is_list" (defArgs sIsList) (defBody sIsList) (defScope sIsList) .none kV1 dc1 pm1 an1 cd1 ct1), sl1⟩)
    (c1 : PySem.W.codeIn K cd1 "is_list" = true)
    (k1 : PySem.W.keepIn K (.ref f1) = true)
    (a2 : PySem.W.nsIn K mainGlobals "is_number_below" = some (some (.ref f2)))
    (l2 : K.lookup f2 = some ⟨oc2, od2, .func (PySem.W.fnOf "is_number_below" "is_number_below" (defArgs sBelow) (defBody sBelow) (defScope sBelow) .none kV2 dc2 pm2 an2 cd2 ct2), sl2⟩)
    (c2 : PySem.W.codeIn K cd2 "is_number_below" = true)
    (k2 : PySem.W.keepIn K (.ref f2) = true)
    (a3 : PySem.W.nsIn K mainGlobals "is_number_list" = some (some (.ref f3)))
    (l3 : K.lookup f3 = some ⟨oc3, od3, .func (PySem.W.fnOf "is_number_list" "is_number_list" (defArgs sNumList) (defBody sNumList) (defScope sNumList) .none kV3 dc3 pm3 an3 cd3 ct3), sl3⟩)
    (c3 : PySem.W.codeIn K cd3 "is_number_list" = true)
    (k3 : PySem.W.keepIn K (.ref f3) = true)
    (a4 : PySem.W.nsIn K mainGlobals "_are_rows" = some (some (.ref f4)))
    (l4 : K.lookup f4 = some ⟨oc4, od4, .func (PySem.W.fnOf "_are_rows" "_are_rows" (defArgs sAreRows) (defBody sAreRows) (defScope sAreRows) .none kV4 dc4 pm4 an4 cd4 ct4), sl4⟩)
    (c4 : PySem.W.codeIn K cd4 "_are_rows" = true)
    (k4 : PySem.W.keepIn K (.ref f4) = true)
    (a5 : PySem.W.nsIn K mainGlobals "_first_wrong_triple" = some (some (.ref f5)))
    (l5 : K.lookup f5 = some ⟨oc5, od5, .func (PySem.W.fnOf "_first_wrong_triple" "_first_wrong_triple" (defArgs sWrong) (defBody sWrong) (defScope sWrong) .none kV5 dc5 pm5 an5 cd5 ct5), sl5⟩)
    (c5 : PySem.W.codeIn K cd5 "_first_wrong_triple" = true)
    (k5 : PySem.W.keepIn K (.ref f5) = true)
    (a6 : PySem.W.findIn K (.ref C) "__init__" = some (some (.ref f6)))
    (i6 : PySem.W.isFn K (.ref f6) = true)
    (l6 : K.lookup f6 = some ⟨oc6, od6, .func (PySem.W.fnOf "__init__" "ProductTable.__init__" (defArgs sInit) (defBody sInit) (defScope sInit) .none kV6 dc6 pm6 an6 cd6 ct6), sl6⟩)
    (c6 : PySem.W.codeIn K cd6 "ProductTable.__init__" = true)
    (k6 : PySem.W.keepIn K (.ref f6) = true)
    (a7 : PySem.W.findIn K (.ref C) "__len__" = some (some (.ref f7)))
    (i7 : PySem.W.isFn K (.ref f7) = true)
    (l7 : K.lookup f7 = some ⟨oc7, od7, .func (PySem.W.fnOf "__len__" "ProductTable.__len__" (defArgs sLen) (defBody sLen) (defScope sLen) .none kV7 dc7 pm7 an7 cd7 ct7), sl7⟩)
    (c7 : PySem.W.codeIn K cd7 "ProductTable.__len__" = true)
    (k7 : PySem.W.keepIn K (.ref f7) = true)
    (a8 : PySem.W.findIn K (.ref C) "rows" = some (some (.ref f8)))
    (i8 : PySem.W.isFn K (.ref f8) = true)
    (l8 : K.lookup f8 = some ⟨oc8, od8, .func (PySem.W.fnOf "rows" "ProductTable.rows" (defArgs sRowsM) (defBody sRowsM) (defScope sRowsM) .none kV8 dc8 pm8 an8 cd8 ct8), sl8⟩)
    (c8 : PySem.W.codeIn K cd8 "ProductTable.rows" = true)
    (k8 : PySem.W.keepIn K (.ref f8) = true)
    (a9 : PySem.W.nsIn K mainGlobals "check_table" = some (some (.ref f9)))
    (l9 : K.lookup f9 = some ⟨oc9, od9, .func (PySem.W.fnOf "check_table" "check_table" (defArgs sChkTX) (defBody sChkTX) (defScope sChkTX) .none kV9 dc9 pm9 an9 cd9 ct9), sl9⟩)
    (c9 : PySem.W.codeIn K cd9 "check_table" = true)
    (k9 : PySem.W.keepIn K (.ref f9) = true)
    (a10 : PySem.W.nsIn K mainGlobals "check_element" = some (some (.ref f10)))
    (l10 : K.lookup f10 = some ⟨oc10, od10, .func (PySem.W.fnOf "check_element" "check_element" (defArgs sChkE) (defBody sChkE) (defScope sChkE) .none kV10 dc10 pm10 an10 cd10 ct10), sl10⟩)
    (c10 : PySem.W.codeIn K cd10 "check_element" = true)
    (k10 : PySem.W.keepIn K (.ref f10) = true)
    (a11 : PySem.W.findIn K (.ref C) "product" = some (some (.ref f11)))
    (i11 : PySem.W.isFn K (.ref f11) = true)
    (l11 : K.lookup f11 = some ⟨oc11, od11, .func (PySem.W.fnOf "product" "ProductTable.product" (defArgs sPrd) (defBody sPrd) (defScope sPrd) .none kV11 dc11 pm11 an11 cd11 ct11), sl11⟩)
    (c11 : PySem.W.codeIn K cd11 "ProductTable.product" = true)
    (k11 : PySem.W.keepIn K (.ref f11) = true)
    (a12 : PySem.W.findIn K (.ref CT) "__init__" = some (some (.ref f12)))
    (t12 : PySem.W.typeIn K (.ref f12) = some (.type "function"))
    (l12 : K.lookup f12 = some ⟨oc12, od12, .func (PySem.W.fnOf "__init__" "InvalidTable.__init__" (defArgs sEiT) (defBody sEiT) (defScope sEiT) .none kV12 dc12 pm12 an12 cd12 ct12), sl12⟩)
    (c12 : PySem.W.codeIn K cd12 "InvalidTable.__init__" = true)
    (k12 : PySem.W.keepIn K (.ref f12) = true)
    (a13 : PySem.W.findIn K (.ref CM) "__init__" = some (some (.ref f13)))
    (t13 : PySem.W.typeIn K (.ref f13) = some (.type "function"))
    (l13 : K.lookup f13 = some ⟨oc13, od13, .func (PySem.W.fnOf "__init__" "TooMany.__init__" (defArgs sEiM) (defBody sEiM) (defScope sEiM) .none kV13 dc13 pm13 an13 cd13 ct13), sl13⟩)
    (c13 : PySem.W.codeIn K cd13 "TooMany.__init__" = true)
    (k13 : PySem.W.keepIn K (.ref f13) = true)
    (a14 : PySem.W.nsIn K mainGlobals "_law_cell" = some (some (.ref f14)))
    (l14 : K.lookup f14 = some ⟨oc14, od14, .func (PySem.W.fnOf "_law_cell" "_law_cell" (defArgs sCell) (defBody sCell) (defScope sCell) .none kV14 dc14 pm14 an14 cd14 ct14), sl14⟩)
    (c14 : PySem.W.codeIn K cd14 "_law_cell" = true)
    (k14 : PySem.W.keepIn K (.ref f14) = true)
    (a15 : PySem.W.nsIn K mainGlobals "_law_box" = some (some (.ref f15)))
    (l15 : K.lookup f15 = some ⟨oc15, od15, .func (PySem.W.fnOf "_law_box" "_law_box" (defArgs sBox) (defBody sBox) (defScope sBox) .none kV15 dc15 pm15 an15 cd15 ct15), sl15⟩)
    (c15 : PySem.W.codeIn K cd15 "_law_box" = true)
    (k15 : PySem.W.keepIn K (.ref f15) = true)
    (a16 : PySem.W.nsIn K mainGlobals "_law_take" = some (some (.ref f16)))
    (l16 : K.lookup f16 = some ⟨oc16, od16, .func (PySem.W.fnOf "_law_take" "_law_take" (defArgs sTake) (defBody sTake) (defScope sTake) .none kV16 dc16 pm16 an16 cd16 ct16), sl16⟩)
    (c16 : PySem.W.codeIn K cd16 "_law_take" = true)
    (k16 : PySem.W.keepIn K (.ref f16) = true)
    (a17 : PySem.W.nsIn K mainGlobals "_law_maps" = some (some (.ref f17)))
    (l17 : K.lookup f17 = some ⟨oc17, od17, .func (PySem.W.fnOf "_law_maps" "_law_maps" (defArgs sMaps) (defBody sMaps) (defScope sMaps) .none kV17 dc17 pm17 an17 cd17 ct17), sl17⟩)
    (c17 : PySem.W.codeIn K cd17 "_law_maps" = true)
    (k17 : PySem.W.keepIn K (.ref f17) = true)
    (a18 : PySem.W.nsIn K mainGlobals "_law_plain" = some (some (.ref f18)))
    (l18 : K.lookup f18 = some ⟨oc18, od18, .func (PySem.W.fnOf "_law_plain" "_law_plain" (defArgs sPlain) (defBody sPlain) (defScope sPlain) .none kV18 dc18 pm18 an18 cd18 ct18), sl18⟩)
    (c18 : PySem.W.codeIn K cd18 "_law_plain" = true)
    (k18 : PySem.W.keepIn K (.ref f18) = true)
    (a19 : PySem.W.nsIn K mainGlobals "_law_extended" = some (some (.ref f19)))
    (l19 : K.lookup f19 = some ⟨oc19, od19, .func (PySem.W.fnOf "_law_extended" "_law_extended" (defArgs sExt) (defBody sExt) (defScope sExt) .none kV19 dc19 pm19 an19 cd19 ct19), sl19⟩)
    (c19 : PySem.W.codeIn K cd19 "_law_extended" = true)
    (k19 : PySem.W.keepIn K (.ref f19) = true)
    (a20 : PySem.W.nsIn K mainGlobals "_law_grid" = some (some (.ref f20)))
    (l20 : K.lookup f20 = some ⟨oc20, od20, .func (PySem.W.fnOf "_law_grid" "_law_grid" (defArgs sGrid) (defBody sGrid) (defScope sGrid) .none kV20 dc20 pm20 an20 cd20 ct20), sl20⟩)
    (c20 : PySem.W.codeIn K cd20 "_law_grid" = true)
    (k20 : PySem.W.keepIn K (.ref f20) = true)
    (a21 : PySem.W.nsIn K mainGlobals "_law_words" = some (some (.ref f21)))
    (l21 : K.lookup f21 = some ⟨oc21, od21, .func (PySem.W.fnOf "_law_words" "_law_words" (defArgs sWords) (defBody sWords) (defScope sWords) .none kV21 dc21 pm21 an21 cd21 ct21), sl21⟩)
    (c21 : PySem.W.codeIn K cd21 "_law_words" = true)
    (k21 : PySem.W.keepIn K (.ref f21) = true)
    (a22 : PySem.W.nsIn K mainGlobals "_law_pairs" = some (some (.ref f22)))
    (l22 : K.lookup f22 = some ⟨oc22, od22, .func (PySem.W.fnOf "_law_pairs" "_law_pairs" (defArgs sPairs) (defBody sPairs) (defScope sPairs) .none kV22 dc22 pm22 an22 cd22 ct22), sl22⟩)
    (c22 : PySem.W.codeIn K cd22 "_law_pairs" = true)
    (k22 : PySem.W.keepIn K (.ref f22) = true)
    (a23 : PySem.W.nsIn K mainGlobals "_law_rows" = some (some (.ref f23)))
    (l23 : K.lookup f23 = some ⟨oc23, od23, .func (PySem.W.fnOf "_law_rows" "_law_rows" (defArgs sRows) (defBody sRows) (defScope sRows) .none kV23 dc23 pm23 an23 cd23 ct23), sl23⟩)
    (c23 : PySem.W.codeIn K cd23 "_law_rows" = true)
    (k23 : PySem.W.keepIn K (.ref f23) = true)
    (a24 : PySem.W.nsIn K mainGlobals "pair_table" = some (some (.ref f24)))
    (l24 : K.lookup f24 = some ⟨oc24, od24, .func (PySem.W.fnOf "pair_table" "pair_table" (defArgs sPt) (defBody sPt) (defScope sPt) .none kV24 dc24 pm24 an24 cd24 ct24), sl24⟩)
    (c24 : PySem.W.codeIn K cd24 "pair_table" = true)
    (k24 : PySem.W.keepIn K (.ref f24) = true)
    (a25 : PySem.W.nsIn K mainGlobals "_law_found" = some (some (.ref f25)))
    (l25 : K.lookup f25 = some ⟨oc25, od25, .func (PySem.W.fnOf "_law_found" "_law_found" (defArgs sFnd) (defBody sFnd) (defScope sFnd) .none kV25 dc25 pm25 an25 cd25 ct25), sl25⟩)
    (c25 : PySem.W.codeIn K cd25 "_law_found" = true)
    (k25 : PySem.W.keepIn K (.ref f25) = true)
    (a26 : PySem.W.nsIn K mainGlobals "_law_small" = some (some (.ref f26)))
    (l26 : K.lookup f26 = some ⟨oc26, od26, .func (PySem.W.fnOf "_law_small" "_law_small" (defArgs sSm) (defBody sSm) (defScope sSm) .none kV26 dc26 pm26 an26 cd26 ct26), sl26⟩)
    (c26 : PySem.W.codeIn K cd26 "_law_small" = true)
    (k26 : PySem.W.keepIn K (.ref f26) = true)
    (a27 : PySem.W.nsIn K mainGlobals "_law_right" = some (some (.ref f27)))
    (l27 : K.lookup f27 = some ⟨oc27, od27, .func (PySem.W.fnOf "_law_right" "_law_right" (defArgs sRt) (defBody sRt) (defScope sRt) .none kV27 dc27 pm27 an27 cd27 ct27), sl27⟩)
    (c27 : PySem.W.codeIn K cd27 "_law_right" = true)
    (k27 : PySem.W.keepIn K (.ref f27) = true)
    (a28 : PySem.W.nsIn K mainGlobals "_law_refused_right" = some (some (.ref f28)))
    (l28 : K.lookup f28 = some ⟨oc28, od28, .func (PySem.W.fnOf "_law_refused_right" "_law_refused_right" (defArgs sRf) (defBody sRf) (defScope sRf) .none kV28 dc28 pm28 an28 cd28 ct28), sl28⟩)
    (c28 : PySem.W.codeIn K cd28 "_law_refused_right" = true)
    (k28 : PySem.W.keepIn K (.ref f28) = true)
    (a29 : PySem.W.nsIn K mainGlobals "law" = some (some (.ref f29)))
    (l29 : K.lookup f29 = some ⟨oc29, od29, .func (PySem.W.fnOf "law" "law" (defArgs sLaw) (defBody sLaw) (defScope sLaw) .none kV29 dc29 pm29 an29 cd29 ct29), sl29⟩)
    (c29 : PySem.W.codeIn K cd29 "law" = true)
    (k29 : PySem.W.keepIn K (.ref f29) = true)
    (q0 : PySem.W.nsIn K mainGlobals "LARGEST_TABLE" = some (some (.int 16 tk0)))
    (z_max : PySem.W.nsIn K mainGlobals "max" = some none)
    (z_min : PySem.W.nsIn K mainGlobals "min" = some none)
    (z_len : PySem.W.nsIn K mainGlobals "len" = some none)
    (z_range : PySem.W.nsIn K mainGlobals "range" = some none)
    (z_repr : PySem.W.nsIn K mainGlobals "repr" = some none)
    (z_isinstance : PySem.W.nsIn K mainGlobals "isinstance" = some none)
    (z_all : PySem.W.nsIn K mainGlobals "all" = some none)
    (z_enumerate : PySem.W.nsIn K mainGlobals "enumerate" = some none)
    (z_tuple : PySem.W.nsIn K mainGlobals "tuple" = some none)
    (z_dict : PySem.W.nsIn K mainGlobals "dict" = some none)
    (z_str : PySem.W.nsIn K mainGlobals "str" = some none)
    (z_int : PySem.W.nsIn K mainGlobals "int" = some none)
    (z_bool : PySem.W.nsIn K mainGlobals "bool" = some none)
    (z_list : PySem.W.nsIn K mainGlobals "list" = some none)
    (tL : PySem.W.typeIn K (.ref f7) = some (.type "function"))
    (sMT : PySem.W.subIn K (.ref CM) (.ref CT) = some false)
    : ∃ fd : FuncData, (∀ (s : Shared) (v : Value), BindsTo s fd ⟨[v], []⟩ [("script", v)]) ∧ ∀ base : Heap, K.In base → base.Ns mainGlobals mg → (∃ o, base.get? sysModules = some o) → GOk l.prog w K mg base CX0 10 fa fd ["script"] (spLaw K) := by
  have e := hfa.symm.trans (PySem.W.mg_of X G a29)
  cases e
  have F0 := fun_mk (st := sIsInt) l0 c0 k0
  have b0 := F0.binds (ps := ["value"]) fun _ _ _ _ _ _ us hl => match us, hl with | [_], _ => rfl
  have m0 := PySem.W.mg_of X G a0
  have F1 := fun_mk (st := sIsList) l1 c1 k1
  have b1 := F1.binds (ps := ["value", "least", "most"]) fun _ _ _ _ _ _ us hl => match us, hl with | [_, _, _], _ => rfl
  have m1 := PySem.W.mg_of X G a1
  have F2 := fun_mk (st := sBelow) l2 c2 k2
  have b2 := F2.binds (ps := ["value", "limit"]) fun _ _ _ _ _ _ us hl => match us, hl with | [_, _], _ => rfl
  have m2 := PySem.W.mg_of X G a2
  have F3 := fun_mk (st := sNumList) l3 c3 k3
  have b3 := F3.binds (ps := ["value", "least", "most", "limit"]) fun _ _ _ _ _ _ us hl => match us, hl with | [_, _, _, _], _ => rfl
  have m3 := PySem.W.mg_of X G a3
  have F4 := fun_mk (st := sAreRows) l4 c4 k4
  have b4 := F4.binds (ps := ["rows"]) fun _ _ _ _ _ _ us hl => match us, hl with | [_], _ => rfl
  have m4 := PySem.W.mg_of X G a4
  have F5 := fun_mk (st := sWrong) l5 c5 k5
  have b5 := F5.binds (ps := ["rows"]) fun _ _ _ _ _ _ us hl => match us, hl with | [_], _ => rfl
  have m5 := PySem.W.mg_of X G a5
  have F6 := fun_mk (st := sInit) l6 c6 k6
  have b6 := F6.binds (ps := ["self", "rows"]) fun _ _ _ _ _ _ us hl => match us, hl with | [_, _], _ => rfl
  have F7 := fun_mk (st := sLen) l7 c7 k7
  have b7 := F7.binds (ps := ["self"]) fun _ _ _ _ _ _ us hl => match us, hl with | [_], _ => rfl
  have F8 := fun_mk (st := sRowsM) l8 c8 k8
  have b8 := F8.binds (ps := ["self"]) fun _ _ _ _ _ _ us hl => match us, hl with | [_], _ => rfl
  have F9 := fun_mk (st := sChkTX) l9 c9 k9
  have b9 := F9.binds (ps := ["table"]) fun _ _ _ _ _ _ us hl => match us, hl with | [_], _ => rfl
  have m9 := PySem.W.mg_of X G a9
  have F10 := fun_mk (st := sChkE) l10 c10 k10
  have b10 := F10.binds (ps := ["table", "element"]) fun _ _ _ _ _ _ us hl => match us, hl with | [_, _], _ => rfl
  have m10 := PySem.W.mg_of X G a10
  have F11 := fun_mk (st := sPrd) l11 c11 k11
  have b11 := F11.binds (ps := ["self", "first", "second"]) fun _ _ _ _ _ _ us hl => match us, hl with | [_, _, _], _ => rfl
  have F12 := fun_mk (st := sEiT) l12 c12 k12
  have b12 := F12.binds (ps := ["self", "value"]) fun _ _ _ _ _ _ us hl => match us, hl with | [_, _], _ => rfl
  have F13 := fun_mk (st := sEiM) l13 c13 k13
  have b13 := F13.binds (ps := ["self", "count"]) fun _ _ _ _ _ _ us hl => match us, hl with | [_, _], _ => rfl
  have F14 := fun_mk (st := sCell) l14 c14 k14
  have b14 := F14.binds (ps := ["script", "k"]) fun _ _ _ _ _ _ us hl => match us, hl with | [_, _], _ => rfl
  have m14 := PySem.W.mg_of X G a14
  have F15 := fun_mk (st := sBox) l15 c15 k15
  have b15 := F15.binds (ps := ["cell"]) fun _ _ _ _ _ _ us hl => match us, hl with | [_], _ => rfl
  have m15 := PySem.W.mg_of X G a15
  have F16 := fun_mk (st := sTake) l16 c16 k16
  have b16 := F16.binds (ps := ["box", "size"]) fun _ _ _ _ _ _ us hl => match us, hl with | [_, _], _ => rfl
  have m16 := PySem.W.mg_of X G a16
  have F17 := fun_mk (st := sMaps) l17 c17 k17
  have b17 := F17.binds (ps := ["box"]) fun _ _ _ _ _ _ us hl => match us, hl with | [_], _ => rfl
  have m17 := PySem.W.mg_of X G a17
  have F18 := fun_mk (st := sPlain) l18 c18 k18
  have b18 := F18.binds (ps := ["kind", "n"]) fun _ _ _ _ _ _ us hl => match us, hl with | [_, _], _ => rfl
  have m18 := PySem.W.mg_of X G a18
  have F19 := fun_mk (st := sExt) l19 c19 k19
  have b19 := F19.binds (ps := ["rows", "kind"]) fun _ _ _ _ _ _ us hl => match us, hl with | [_, _], _ => rfl
  have m19 := PySem.W.mg_of X G a19
  have F20 := fun_mk (st := sGrid) l20 c20 k20
  have b20 := F20.binds (ps := ["box"]) fun _ _ _ _ _ _ us hl => match us, hl with | [_], _ => rfl
  have m20 := PySem.W.mg_of X G a20
  have F21 := fun_mk (st := sWords) l21 c21 k21
  have b21 := F21.binds (ps := []) fun _ _ _ _ _ _ us hl => match us, hl with | [], _ => rfl
  have m21 := PySem.W.mg_of X G a21
  have F22 := fun_mk (st := sPairs) l22 c22 k22
  have b22 := F22.binds (ps := ["one", "other"]) fun _ _ _ _ _ _ us hl => match us, hl with | [_, _], _ => rfl
  have m22 := PySem.W.mg_of X G a22
  have F23 := fun_mk (st := sRows) l23 c23 k23
  have b23 := F23.binds (ps := ["box"]) fun _ _ _ _ _ _ us hl => match us, hl with | [_], _ => rfl
  have m23 := PySem.W.mg_of X G a23
  have F24 := fun_mk (st := sPt) l24 c24 k24
  have b24 := F24.binds (ps := ["first", "second"]) fun _ _ _ _ _ _ us hl => match us, hl with | [_, _], _ => rfl
  have m24 := PySem.W.mg_of X G a24
  have F25 := fun_mk (st := sFnd) l25 c25 k25
  have b25 := F25.binds (ps := ["one", "other"]) fun _ _ _ _ _ _ us hl => match us, hl with | [_, _], _ => rfl
  have m25 := PySem.W.mg_of X G a25
  have F26 := fun_mk (st := sSm) l26 c26 k26
  have b26 := F26.binds (ps := ["box", "most"]) fun _ _ _ _ _ _ us hl => match us, hl with | [_, _], _ => rfl
  have m26 := PySem.W.mg_of X G a26
  have F27 := fun_mk (st := sRt) l27 c27 k27
  have b27 := F27.binds (ps := ["rows", "other", "found"]) fun _ _ _ _ _ _ us hl => match us, hl with | [_, _, _], _ => rfl
  have m27 := PySem.W.mg_of X G a27
  have F28 := fun_mk (st := sRf) l28 c28 k28
  have b28 := F28.binds (ps := ["box", "one", "two"]) fun _ _ _ _ _ _ us hl => match us, hl with | [_, _, _], _ => rfl
  have m28 := PySem.W.mg_of X G a28
  have F29 := fun_mk (st := sLaw) l29 c29 k29
  have b29 := F29.binds (ps := ["script"]) fun _ _ _ _ _ _ us hl => match us, hl with | [_], _ => rfl
  have m29 := PySem.W.mg_of X G a29
  have M : Mn mg := ⟨PySem.W.mg_none_of X G z_max, PySem.W.mg_none_of X G z_min, PySem.W.mg_none_of X G z_len, PySem.W.mg_none_of X G z_range, PySem.W.mg_none_of X G z_repr, PySem.W.mg_none_of X G z_isinstance, PySem.W.mg_none_of X G z_all, PySem.W.mg_none_of X G z_enumerate, PySem.W.mg_none_of X G z_tuple, PySem.W.mg_none_of X G z_dict, PySem.W.mg_none_of X G z_str, PySem.W.mg_none_of X G z_int, PySem.W.mg_none_of X G z_bool, PySem.W.mg_none_of X G z_list⟩
  refine ⟨PySem.W.fnOf "law" "law" (defArgs sLaw) (defBody sLaw) (defScope sLaw) .none kV29 dc29 pm29 an29 cd29 ct29, fun s v => .of_eq rfl, fun base _ _ hS => ?_⟩
  have T : CTx K mg C := ⟨⟨pg, hd, po, sa⟩, nR, PySem.W.mg_of X G aC⟩
  have Y : CTi K C := ⟨ya, yn, yt, ym⟩
  have NB : CNb K C := ⟨mk, tyC⟩
  have ET : ETx K mg "InvalidTable" "value" CT f12 := ⟨⟨clCT, saCT, exCT, tyCT, kCT⟩, ⟨gaCT, ggCT, exCT, hdCT⟩, a12, t12, nvCT, PySem.W.mg_of X G aCT⟩
  have EM : ETx K mg "TooMany" "count" CM f13 := ⟨⟨clCM, saCM, exCM, tyCM, kCM⟩, ⟨gaCM, ggCM, exCM, hdCM⟩, a13, t13, nvCM, PySem.W.mg_of X G aCM⟩
  have G0 := ok_isint (P := l.prog) (w := w) (base := base) F0 M
  have G1 := ok_islist (P := l.prog) (w := w) (base := base) F1 M
  have G2 := ok_below F2 G0 b0 k0 m0
  have G3 := ok_numlist F3 M G1 b1 k1 m1 G2 b2 k2 m2
  have G4 := ok_arerows F4 M ⟨_, PySem.W.mg_of X G q0⟩ G1 b1 k1 m1 G3 b3 k3 m3
  have G5 := ok_wrong (P := l.prog) (w := w) (base := base) F5 M
  have G6 := ok_init F6 M T G4 b4 k4 m4 G5 b5 k5 m5
  have G7 := ok_len (P := l.prog) (w := w) (base := base) F7 M T
  have G8 := ok_rowsM (P := l.prog) (w := w) (base := base) F8 M T
  have h_rows : Meth K C "rows" f8 := ⟨a8, i8, k8⟩
  have G10 := ok_chkE F10 M G2 b2 k2 m2 G7 b7 a7 tL
  have G11 := ok_prd F11 T G10 b10 k10 m10
  have h_product : Meth K C "product" f11 := ⟨a11, i11, k11⟩
  have G12 := ok_eiT (P := l.prog) (w := w) (base := base) (mg := mg) (C := CT) F12
  have G9 := ok_chkTX F9 M T Y ET G12 b12
  have G13 := ok_eiM (P := l.prog) (w := w) (base := base) (mg := mg) (C := CM) F13
  have G14 := ok_cell (P := l.prog) (w := w) (base := base) F14 M
  have G15 := ok_box (P := l.prog) (w := w) (base := base) F15 M
  have G16 := ok_take (P := l.prog) (w := w) (base := base) F16 M
  have G17 := ok_maps F17 M G16 b16 k16 m16
  have G18 := ok_plain (P := l.prog) (w := w) (base := base) F18 M
  have G19 := ok_ext (P := l.prog) (w := w) (base := base) F19 M
  have G20 := ok_grid F20 M G16 b16 k16 m16
  have G21 := ok_words (P := l.prog) (w := w) (base := base) F21 M
  have G22 := ok_pairs (P := l.prog) (w := w) (base := base) F22 M
  have G23 := ok_rows F23 M G16 b16 k16 m16 G17 b17 k17 m17 G20 b20 k20 m20 G21 b21 k21 m21 G18 b18 k18 m18 G19 b19 k19 m19 G22 b22 k22 m22
  have G24 := ok_pt F24 M T ⟨_, PySem.W.mg_of X G q0⟩ EM G13 b13 G9 b9 k9 m9 G7 b7 a7 tL G8 b8 h_rows ⟨mk, a6, i6, kc⟩ G6 b6
  have G25 := ok_fnd F25 ET EM (exm_mk ET.ox suCT) (exm_mk2 ET.ox sMT) (exm_mk EM.ox suCM) G24 b24 k24 m24
  have G26 := ok_sm F26 M G16 b16 k16 m16 G23 b23 k23 m23 G18 b18 k18 m18
  have G27 := ok_rt F27 M T Y hS G7 b7 a7 tL G11 b11 h_product
  have G28 := ok_rf F28 M NB hS G16 b16 k16 m16 G25 b25 k25 m25
  exact ok_law F29 M T hS G14 b14 k14 m14 G15 b15 k15 m15 G16 b16 k16 m16 G23 b23 k23 m23 G26 b26 k26 m26 G25 b25 k25 m25 G27 b27 k27 m27 G28 b28 k28 m28 G8 b8 h_rows ⟨mk, a6, i6, kc⟩ G6 b6
theorem walk {l : PySem.W.OpenLaw} {q : Program} {loose : List Str} {XP : (Str → Option Value) → Heap → Prop} {YP : World → Heap → Prop} {d : DefRec} {K : Params → PySem.W.Frag} (hn : l.most = some 63) (hdf : d.params.defaults = []) (him : PyProof.Rows.importsNone q = true)
    (hY : ∀ (w : World) (h : Heap), YP w h → (K w.params).In h)
    (F : ∀ (w : World) (mg : Str → Option Value) (fa : Addr) (h : Heap), (K w.params).In h → h.Ns mainGlobals mg → mg d.name = some (.ref fa) →
      ∃ fd : FuncData, (∀ (s : Shared) (u : Value), BindsTo s fd ⟨[u], []⟩ [("script", u)]) ∧ ∀ base : Heap, (K w.params).In base → base.Ns mainGlobals mg → (∃ o, base.get? sysModules = some o) → GOk l.prog w (K w.params) mg base CX0 10 fa fd ["script"] (spLaw (K w.params))) :
    PySem.W.WalkO q loose XP YP l.row.toRowW d [] (fun f vs => PySem.call f vs) :=
  walk_g (n := 63) (k := 10) (x := "script") (sp := spLaw) hn (by decide) hdf ⟨rfl, by decide, by decide⟩ him hY F fun _ _ a ns hl _ hS => ⟨a, ns, rfl, hS, hl, fun _ => rfl⟩
end L
open PySem PySem.W PyProof.Rows
set_option maxRecDepth 100000 in
set_option pp.maxSteps 400 in
set_option maxHeartbeats 0 in
theorem PySem.Challenge.cw_producttrees_k56_tables_of_pairs_holds : PySem.Challenge.rw_producttrees_k56_tables_of_pairs.Holds := by
  w_on; o_law; k_head; (case hw => w_witness2)
  k_fill
  refine L.walk (l := PySem.Challenge.rw_producttrees_k56_tables_of_pairs) rfl rfl (by decide +kernel) (fun w h Y => PySem.W.kIn_of Y) ?F
  case F =>
    intro w mg fa h KX G hmg
    refine' L.all_mk KX G hmg ?aC ?pg ?hd ?po ?sa ?mk ?kc ?nR ?ya ?yn ?yt ?ym ?tyC ?aCT ?clCT ?saCT ?exCT ?tyCT ?kCT ?gaCT ?ggCT ?hdCT ?suCT ?nvCT ?aCM ?clCM ?saCM ?exCM ?tyCM ?kCM ?gaCM ?ggCM ?hdCM ?suCM ?nvCM ?a0 ?l0 ?c0 ?k0 ?a1 ?l1 ?c1 ?k1 ?a2 ?l2 ?c2 ?k2 ?a3 ?l3 ?c3 ?k3 ?a4 ?l4 ?c4 ?k4 ?a5 ?l5 ?c5 ?k5 ?a6 ?i6 ?l6 ?c6 ?k6 ?a7 ?i7 ?l7 ?c7 ?k7 ?a8 ?i8 ?l8 ?c8 ?k8 ?a9 ?l9 ?c9 ?k9 ?a10 ?l10 ?c10 ?k10 ?a11 ?i11 ?l11 ?c11 ?k11 ?a12 ?t12 ?l12 ?c12 ?k12 ?a13 ?t13 ?l13 ?c13 ?k13 ?a14 ?l14 ?c14 ?k14 ?a15 ?l15 ?c15 ?k15 ?a16 ?l16 ?c16 ?k16 ?a17 ?l17 ?c17 ?k17 ?a18 ?l18 ?c18 ?k18 ?a19 ?l19 ?c19 ?k19 ?a20 ?l20 ?c20 ?k20 ?a21 ?l21 ?c21 ?k21 ?a22 ?l22 ?c22 ?k22 ?a23 ?l23 ?c23 ?k23 ?a24 ?l24 ?c24 ?k24 ?a25 ?l25 ?c25 ?k25 ?a26 ?l26 ?c26 ?k26 ?a27 ?l27 ?c27 ?k27 ?a28 ?l28 ?c28 ?k28 ?a29 ?l29 ?c29 ?k29 ?q0 ?z_max ?z_min ?z_len ?z_range ?z_repr ?z_isinstance ?z_all ?z_enumerate ?z_tuple ?z_dict ?z_str ?z_int ?z_bool ?z_list ?tL ?sMT
    (case aC => k_is)
    (case pg => k_is)
    (case hd => k_is)
    (case po => k_is)
    (case sa => k_is)
    (case mk => k_is)
    (case kc => k_is)
    (case nR => k_is)
    (case ya => k_is)
    (case yn => k_is)
    (case yt => k_is)
    (case ym => k_is)
    (case tyC => k_is)
    (case aCT => k_is)
    (case clCT => exact ⟨_, _, _, _, _, _, _, _, _, _, _, _, _, _, _, by k_is, by decide +kernel⟩)
    (case saCT => k_is)
    (case exCT => k_is)
    (case tyCT => k_is)
    (case kCT => k_is)
    (case gaCT => k_is)
    (case ggCT => k_is)
    (case hdCT => k_is)
    (case suCT => k_is)
    (case nvCT => k_is)
    (case aCM => k_is)
    (case clCM => exact ⟨_, _, _, _, _, _, _, _, _, _, _, _, _, _, _, by k_is, by decide +kernel⟩)
    (case saCM => k_is)
    (case exCM => k_is)
    (case tyCM => k_is)
    (case kCM => k_is)
    (case gaCM => k_is)
    (case ggCM => k_is)
    (case hdCM => k_is)
    (case suCM => k_is)
    (case nvCM => k_is)
    (case a0 => k_is)
    (case l0 => k_is)
    (case c0 => k_is)
    (case k0 => k_is)
    (case a1 => k_is)
    (case l1 => k_is)
    (case c1 => k_is)
    (case k1 => k_is)
    (case a2 => k_is)
    (case l2 => k_is)
    (case c2 => k_is)
    (case k2 => k_is)
    (case a3 => k_is)
    (case l3 => k_is)
    (case c3 => k_is)
    (case k3 => k_is)
    (case a4 => k_is)
    (case l4 => k_is)
    (case c4 => k_is)
    (case k4 => k_is)
    (case a5 => k_is)
    (case l5 => k_is)
    (case c5 => k_is)
    (case k5 => k_is)
    (case a6 => k_is)
    (case i6 => k_is)
    (case l6 => k_is)
    (case c6 => k_is)
    (case k6 => k_is)
    (case a7 => k_is)
    (case i7 => k_is)
    (case l7 => k_is)
    (case c7 => k_is)
    (case k7 => k_is)
    (case a8 => k_is)
    (case i8 => k_is)
    (case l8 => k_is)
    (case c8 => k_is)
    (case k8 => k_is)
    (case a9 => k_is)
    (case l9 => k_is)
    (case c9 => k_is)
    (case k9 => k_is)
    (case a10 => k_is)
    (case l10 => k_is)
    (case c10 => k_is)
    (case k10 => k_is)
    (case a11 => k_is)
    (case i11 => k_is)
    (case l11 => k_is)
    (case c11 => k_is)
    (case k11 => k_is)
    (case a12 => k_is)
    (case t12 => k_is)
    (case l12 => k_is)
    (case c12 => k_is)
    (case k12 => k_is)
    (case a13 => k_is)
    (case t13 => k_is)
    (case l13 => k_is)
    (case c13 => k_is)
    (case k13 => k_is)
    (case a14 => k_is)
    (case l14 => k_is)
    (case c14 => k_is)
    (case k14 => k_is)
    (case a15 => k_is)
    (case l15 => k_is)
    (case c15 => k_is)
    (case k15 => k_is)
    (case a16 => k_is)
    (case l16 => k_is)
    (case c16 => k_is)
    (case k16 => k_is)
    (case a17 => k_is)
    (case l17 => k_is)
    (case c17 => k_is)
    (case k17 => k_is)
    (case a18 => k_is)
    (case l18 => k_is)
    (case c18 => k_is)
    (case k18 => k_is)
    (case a19 => k_is)
    (case l19 => k_is)
    (case c19 => k_is)
    (case k19 => k_is)
    (case a20 => k_is)
    (case l20 => k_is)
    (case c20 => k_is)
    (case k20 => k_is)
    (case a21 => k_is)
    (case l21 => k_is)
    (case c21 => k_is)
    (case k21 => k_is)
    (case a22 => k_is)
    (case l22 => k_is)
    (case c22 => k_is)
    (case k22 => k_is)
    (case a23 => k_is)
    (case l23 => k_is)
    (case c23 => k_is)
    (case k23 => k_is)
    (case a24 => k_is)
    (case l24 => k_is)
    (case c24 => k_is)
    (case k24 => k_is)
    (case a25 => k_is)
    (case l25 => k_is)
    (case c25 => k_is)
    (case k25 => k_is)
    (case a26 => k_is)
    (case l26 => k_is)
    (case c26 => k_is)
    (case k26 => k_is)
    (case a27 => k_is)
    (case l27 => k_is)
    (case c27 => k_is)
    (case k27 => k_is)
    (case a28 => k_is)
    (case l28 => k_is)
    (case c28 => k_is)
    (case k28 => k_is)
    (case a29 => k_is)
    (case l29 => k_is)
    (case c29 => k_is)
    (case k29 => k_is)
    (case q0 => k_is)
    (case z_max => k_is)
    (case z_min => k_is)
    (case z_len => k_is)
    (case z_range => k_is)
    (case z_repr => k_is)
    (case z_isinstance => k_is)
    (case z_all => k_is)
    (case z_enumerate => k_is)
    (case z_tuple => k_is)
    (case z_dict => k_is)
    (case z_str => k_is)
    (case z_int => k_is)
    (case z_bool => k_is)
    (case z_list => k_is)
    (case tL => k_is)
    (case sMT => k_is)

