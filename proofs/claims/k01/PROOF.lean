import PyProof.Rows.All
import Wide.All
import OpenK.AllK
import Wide.FinOn
import HandS.ForMost
import HandS.IsInst
import HandS.RaiseMore
import HandS.Defaults
import HandS.Wide
import HandS.Walk
import PySem.Challenge.RW_producttrees_k01_basic_values
set_option Elab.async false
set_option linter.all false
set_option maxRecDepth 100000
set_option maxHeartbeats 4000000
/-! Own layer: data trees with dicts (Dq), repr of them, defs that know that no repr runs (GOk). -/
namespace KX
open PySem PySem.Spec PyProof.Rows L2
/-- a dict's key as data -/
def kD : Key → PyData
  | .inl i => .int i
  | .inr x => .str x
mutual
/-- the value x stands for the data d in the abstract heap -/
inductive Dq (H : Hp) : V → PyData → Prop
  | non : Dq H .non .none
  | bl (b : Bool) : Dq H (.bl b) (.bool b)
  | int (i : Int) : Dq H (.int i) (.int i)
  | str (x : Str) : Dq H (.str x) (.str x)
  | lst {a : Addr} {xs : List V} {ds : List PyData} : H a = some (.lst xs) → DqAll H xs ds → Dq H (.ref a) (.list ds)
  | tup {a : Addr} {xs : List V} {ds : List PyData} : H a = some (.tup xs) → DqAll H xs ds → Dq H (.ref a) (.tuple ds)
  | dct {a : Addr} {kvs : List (Key × V)} {ds : List (PyData × PyData)} : H a = some (.dK kvs) → DqKv H kvs ds → Dq H (.ref a) (.dict ds)
inductive DqAll (H : Hp) : List V → List PyData → Prop
  | nil : DqAll H [] []
  | cons {v : V} {vs : List V} {d : PyData} {ds : List PyData} : Dq H v d → DqAll H vs ds → DqAll H (v :: vs) (d :: ds)
inductive DqKv (H : Hp) : List (Key × V) → List (PyData × PyData) → Prop
  | nil : DqKv H [] []
  | cons {k : Key} {v : V} {r : List (Key × V)} {d : PyData} {ds : List (PyData × PyData)} : Dq H v d → DqKv H r ds → DqKv H ((k, v) :: r) ((kD k, d) :: ds)
end
def Trk (H : Hp) (as : List Addr) : Prop := ∀ a, a ∈ as → H a ≠ none
theorem Trk.nil {H : Hp} : Trk H [] := fun _ h => nomatch h
theorem Trk.app {H : Hp} {as bs : List Addr} (h1 : Trk H as) (h2 : Trk H bs) : Trk H (as ++ bs) := fun a h => (List.mem_append.mp h).elim (h1 a) (h2 a)
theorem Trk.one {H : Hp} {a : Addr} {o : HO} {as : List Addr} (h : H a = some o) (h2 : Trk H as) : Trk H (a :: as) := fun b hb => by
  rcases List.mem_cons.mp hb with e | hb
  · subst e; rw [h]; simp
  · exact h2 b hb
section
variable {X : Cx} {pins : List (Addr × Obj)} {σ : L2.St} {H : Hp} {s : Shared}
mutual
theorem Dq.reads (I : Inv X pins σ H s) : ∀ (d : PyData) (v : V) (u : Value), Dq H v d → RelV v u → ∃ as, Reads s.heap u d as ∧ Trk H as
  | .none, _, _, h, r => by cases h; cases r; exact ⟨_, Reads.none, Trk.nil⟩
  | .bool b, _, _, h, r => by cases h; cases r; exact ⟨_, Reads.bool b, Trk.nil⟩
  | .int i, _, _, h, r => by cases h; obtain ⟨t, rfl⟩ := r; exact ⟨_, Reads.int i t, Trk.nil⟩
  | .str x, _, _, h, r => by cases h; obtain ⟨t, rfl⟩ := r; exact ⟨_, Reads.str x t, Trk.nil⟩
  | .list ds, _, _, h, r => by
    cases h with
    | @lst a xs _ hs ha =>
      cases r
      obtain ⟨_, its, n, rv, ho⟩ := (show ObjOk X.prog X.w H s.heap a (.lst xs) from I.hok _ _ hs)
      obtain ⟨as, hr, tr⟩ := Dq.readsAll I ds _ its ha rv
      exact ⟨_, Reads.list ho rfl rfl (by simpa using hr), Trk.one hs tr⟩
  | .tuple ds, _, _, h, r => by
    cases h with
    | @tup a xs _ hs ha =>
      cases r
      obtain ⟨_, its, rv, o, ho, hc, n, hd⟩ := (show ObjOk X.prog X.w H s.heap a (.tup xs) from I.hok _ _ hs)
      obtain ⟨as, hr, tr⟩ := Dq.readsAll I ds _ its ha rv
      exact ⟨_, Reads.tuple ho hc hd (by simpa using hr), tr⟩
  | .dict ds, _, _, h, r => by
    cases h with
    | @dct a kvs _ hs ha =>
      cases r
      obtain ⟨_, _, vs, rv, o, es, ep, ho, hx, hd, _, hp, _⟩ := (show ObjOk X.prog X.w H s.heap a (.dK kvs) from I.hok _ _ hs)
      obtain ⟨as, bs, h1, h2, t1, t2⟩ := Dq.readsKv I ds kvs vs es.toList ha rv hp
      exact ⟨_, Reads.dict ho hx.1 hd h1 h2, Trk.app (Trk.one hs t1) t2⟩
theorem Dq.readsAll (I : Inv X pins σ H s) : ∀ (ds : List PyData) (vs : List V) (us : List Value), DqAll H vs ds → Vals vs us → ∃ as, ReadsAll s.heap us ds as ∧ Trk H as
  | [], _, _, h, r => by cases h; cases r; exact ⟨_, ReadsAll.nil, Trk.nil⟩
  | d :: ds, _, _, h, r => by
    cases h with
    | cons h1 h2 =>
      cases r with
      | cons r1 r2 =>
        obtain ⟨as, q1, t1⟩ := Dq.reads I d _ _ h1 r1
        obtain ⟨bs, q2, t2⟩ := Dq.readsAll I ds _ _ h2 r2
        exact ⟨_, ReadsAll.cons q1 q2, Trk.app t1 t2⟩
theorem Dq.readsKv (I : Inv X pins σ H s) : ∀ (ds : List (PyData × PyData)) (kvs : List (Key × V)) (vs : List (Key × Value)) (es : List DictEntry), DqKv H kvs ds → KV kvs vs → Pairs (mixKind X.prog X.w) es vs →
    ∃ as bs, ReadsAll s.heap (es.map (·.key)) (ds.map (·.1)) as ∧ ReadsAll s.heap (es.map (·.val)) (ds.map (·.2)) bs ∧ Trk H as ∧ Trk H bs
  | [], _, _, _, h, r, p => by cases h; cases r; cases p; exact ⟨_, _, ReadsAll.nil, ReadsAll.nil, Trk.nil, Trk.nil⟩
  | (_, d) :: ds, _, _, _, h, r, p => by
    cases h with
    | @cons k v _ _ _ h1 h2 =>
      cases r with
      | cons r1 r2 =>
        cases p with
        | cons p1 p2 p3 =>
          obtain ⟨as, bs, q1, q2, t1, t2⟩ := Dq.readsKv I ds _ _ _ h2 r2 p3
          obtain ⟨e1, rv⟩ := r1
          rw [← e1] at p1
          rw [← p2] at rv
          obtain ⟨cs, q3, t3⟩ := Dq.reads I d _ _ h1 rv
          rcases keyIs_shape (show keyIs k _ = true from p1) with ⟨i, t, rfl, e⟩ | ⟨x, t, rfl, e⟩
          · exact ⟨_, _, ReadsAll.cons (by show Reads s.heap (DictEntry.key _) (.int i) []; rw [e]; exact Reads.int i t) q1, ReadsAll.cons q3 q2, Trk.app Trk.nil t1, Trk.app t3 t2⟩
          · exact ⟨_, _, ReadsAll.cons (by show Reads s.heap (DictEntry.key _) (.str x) []; rw [e]; exact Reads.str x t) q1, ReadsAll.cons q3 q2, Trk.app Trk.nil t1, Trk.app t3 t2⟩
end
end
section
variable {X : Cx}
/-- repr of a value without parts -/
theorem call_repr_b : CallR X (.builtin "repr") (fun xs H Q => ∃ b : Bool, xs = [.bl b] ∧ Q (.str (PyData.bool b).shown) H) := by
  intro pins s σ H xs us Q I r h
  obtain ⟨b, rfl, q⟩ := h
  obtain ⟨u, rfl, rx⟩ := vals1 r
  cases rx
  exact PySem.P.repr_of_bool ⟨.str _, H, I.tok _, ⟨_, rfl⟩, q⟩
/-- repr of data of any depth, where no repr runs further out -/
def rRepr : List V → Hp → VK → Prop := fun xs H Q => ∃ (x : V) (d : PyData), xs = [x] ∧ Dq H x d ∧ d.showable = true ∧ d.depth ≤ 60 ∧ d.shown.length ≤ sizeLine ∧ Q (.str d.shown) H
theorem call_repr_q (hS : ∃ o, X.base.get? sysModules = some o) (hg : X.A.guards = some []) (hu : X.A.units + 64 < cLine) : CallR X (.builtin "repr") rRepr := by
  intro pins s σ H xs us Q I r h
  obtain ⟨x, d, rfl, hd, hs, hdp, hl, q⟩ := h
  obtain ⟨u, rfl, rx⟩ := vals1 r
  obtain ⟨as, hr, tr⟩ := Dq.reads I d x u hd rx
  obtain ⟨o, ho⟩ := hS
  have hsm : sysModules ∉ as := fun hm => tr _ hm (I.bs _ _ ho).2
  cases hr with
  | none => exact PySem.P.repr_of_none ⟨.str _, H, I.tok _, ⟨_, rfl⟩, q⟩
  | bool b => exact PySem.P.repr_of_bool ⟨.str _, H, I.tok _, ⟨_, rfl⟩, q⟩
  | int i t => exact PySem.P.repr_of_int (by simpa [PyData.showable] using hs) ⟨.str _, H, I.tok _, ⟨_, rfl⟩, q⟩
  | str y t => exact PySem.P.repr_of_str ⟨.str _, H, I.tok _, ⟨_, rfl⟩, q⟩ hl
  | list h1 h2 h3 h4 => exact repr_of_reads' (.list h1 h2 h3 h4) hs (fun _ => hsm) hg (by omega) (fun _ _ e => e) (fun h' u tk hk => ⟨.str _, H, I.kept hk, ⟨u, rfl⟩, q⟩) hl
  | tuple h1 h2 h3 h4 => exact repr_of_reads' (.tuple h1 h2 h3 h4) hs (fun _ => hsm) hg (by omega) (fun _ _ e => e) (fun h' u tk hk => ⟨.str _, H, I.kept hk, ⟨u, rfl⟩, q⟩) hl
  | dict h1 h2 h3 h4 h5 => exact repr_of_reads' (.dict h1 h2 h3 h4 h5) hs (fun _ => hsm) hg (by omega) (fun _ _ e => e) (fun h' u tk hk => ⟨.str _, H, I.kept hk, ⟨u, rfl⟩, q⟩) hl
/-- an expression by what is known of its value -/
theorem pe_mo {e : Expr} {t : TE} (he : PE X e t) : PE X e (fun σ H Q => ∃ R : VK, t σ H R ∧ ∀ x H1, R x H1 → Q x H1) :=
  ⟨fun pins s σ H Q I ⟨R, h, k⟩ => thn (he.run pins s σ H R I h) fun u s1 ⟨x, H1, I1, r, q⟩ => ⟨x, H1, I1, r, k x H1 q⟩⟩
/-- a test by what is known of its answer -/
theorem pt_mo {e : Expr} {t : TT} (he : PT X e t) : PT X e (fun σ H Q => ∃ R : Bool → Hp → Prop, t σ H R ∧ ∀ b H1, R b H1 → Q b H1) :=
  ⟨fun pins s σ H Q I ⟨R, h, k⟩ => thn (he.run pins s σ H R I h) fun b s1 ⟨H1, I1, q⟩ => ⟨H1, I1, k b H1 q⟩⟩
/-- a statement that is never come to -/
theorem ps_dead {st : Stmt} : PS X st (fun _ _ _ => False) := ⟨fun _ _ _ _ _ _ h => h.elim⟩
theorem pss_dead {st : List Stmt} : PSs X st (fun _ _ _ => False) := ⟨fun _ _ _ _ _ _ h => h.elim⟩
end
end KX

set_option Elab.async false
set_option linter.all false
set_option maxRecDepth 100000
set_option maxHeartbeats 4000000
/-! Defs that may use that no repr runs further out (GOk), their calls, and the law's entry for them. -/
namespace KX
open PySem PySem.Spec PyProof.Rows L2
/-- as FnOk, of calls in whose surroundings no container's repr runs -/
structure GOk (P : Program) (w : World) (K : PySem.W.Frag) (mg : Str → Option Value) (base : Heap) (CX : CXT) (k : Nat) (f : Addr) (fd : FuncData) (ps : List Str) (sp : Sp) : Prop where
  arity : ∀ vs H Q E, sp vs H Q E → vs.length = ps.length
  go : ∀ (A : Around) (out : List Env) (s : Shared) (H : Hp) (args : Args) (us : List Value) (vs : List V) (Q : VK) (E : XK),
    Room k A → A.guards = some [] → Env0 P w K mg base A out s H → BindsTo s fd args (ps.zip us) → Vals vs us → sp vs H Q E →
    codeAny (model P w) A (.call (.ref f) args) (CR CX out P w H s Q E) s
theorem FnOk.g {P : Program} {w : World} {K : PySem.W.Frag} {mg : Str → Option Value} {base : Heap} {CX : CXT} {k : Nat} {f : Addr} {fd : FuncData} {ps : List Str} {sp : Sp}
    (F : FnOk P w K mg base CX k f fd ps sp) : GOk P w K mg base CX k f fd ps sp := ⟨F.len, fun A out s H args us vs Q E hr _ => F.run A out s H args us vs Q E hr⟩
section
variable {P : Program} {w : World} {K : PySem.W.Frag} {mg : Str → Option Value} {base : Heap}
/-- a def of the text, by its body, where no repr runs further out -/
theorem gok {CX : CXT} {x qual : Str} {st : Stmt} {f : Addr} {fd : FuncData} {N ps : List Str} {k : Nat} {sp : Sp} (F : Fun K x qual st f fd) (S : FnScope N ps (defScope st))
    (ar : ∀ vs H Q E, sp vs H Q E → vs.length = ps.length)
    (body : ∀ (cdv : Value) (A : Around) (out : List Env) (s : Shared) (H : Hp) (vs : List V) (Q : VK) (E : XK),
      Room k (A.deeper (envOfC qual (defScope st) s.heap.objs.size f cdv)) → A.guards = some [] → sp vs H Q E →
      ∃ t, PSs (cxOf CX P w K mg base N qual (defScope st) f cdv A out s H E).nox (defBody st) t ∧ t { nx := fun _ H' => Q .non H', rt := Q } (start N vs) H) :
    GOk P w K mg base CX (k + 1) f fd ps sp := by
  obtain ⟨oc, od, kV, doc, pm, an, cdv, ct, osl, rfl, lk, hcd⟩ := F.ex
  refine ⟨ar, fun A out s H args us vs Q E hr hA e0 hb r hsp => ?_⟩
  -- the library's rule for a def is about every surroundings: it is asked for a promise that carries this one's guards along
  have hl := ar _ _ _ _ hsp
  have kin : K.In s.heap := e0.mod.kin.keeps fun b o e => (e0.bs b o e).1
  have par : ∀ y ∈ ps.zip us, (defScope st).names.lookup y.1 = some .local ∨
      ((defScope st).names.lookup y.1 = some .cell ∧ ((cellsFrom (s.heap.objs.size + 1) (defScope st).names []).lookup y.1).isSome = true) := by
    rintro ⟨n, v⟩ hy
    exact (S.par n (List.of_mem_zip hy).1).imp id fun q => ⟨q, PySem.W.cellsFrom_some _ _ _ (.inl q)⟩
  refine codeAny_call_function hr.depth (kin _ _ lk) rfl S.co S.gen rfl (PySem.W.codeRec_of kin hcd) (hb _ _ _ _ (wpAny_newFunctionEnv_cells S.kind par ?_))
  rintro _ rfl s1 x
  refine ⟨(e0.mod.nolimit.keeps fun b o e => (e0.bs b o e).1).keeps x.toInCall.keep, codeAny_func ?_⟩
  obtain ⟨t, ht, hq⟩ := body cdv A out s H vs Q E (hr.deeper _) hA hsp
  have I := inv_start (P := P) (w := w) (mg := mg) (CX := CX) (E := E) S hr.hd e0 hl r x
  refine wpAny_mono (ht.nox.run [] s1 _ H _ I hq) (fun fl s' hs => ?_) fun _ _ hs => hs
  match fl, hs with
  | .ret u, ⟨v, _, H', J, rv, q⟩ => exact ⟨v, H', J.os, J.bare, J.base, J.hok, rv, q⟩
  | .next, ⟨_, H', J, q⟩ => exact ⟨V.non, H', J.os, J.bare, J.base, J.hok, rfl, q⟩
  | .brk, ⟨_, _, _, q⟩ => exact q.elim
  | .cont, ⟨_, _, _, q⟩ => exact q.elim
end
section
variable {X : Cx} {CX : CXT} {k : Nat} {f : Addr} {fd : FuncData} {ps : List Str} {sp : Sp} {dvs : List V} {ds : List Value} {E : XK} {x : Str} {p pos : Pos} {e : Expr} {es : List Expr} {t : TA}
/-- the call of such a def where no repr runs further out -/
theorem pe_g (F : GOk X.prog X.w X.K X.mg X.base CX k f fd ps sp) (hA : X.A.guards = some []) (hr : Room k X.A) (hg : Gl X x) (hm : X.mg x = some (.ref f)) (hk : PySem.W.keepIn X.K (.ref f) = true)
    (hb : Binds X.K fd ps ds) (hd : Vals dvs ds) (hx : Passes CX X E) (ha : PA X (e :: es) t) (hdb : (x == ("__debug__" : Str)) = false := by decide)
    (he : starEach (e :: es) X.env = (false, eval e X.env) :: starEach es X.env := by rfl) (hpl : (backTo pos (starEach es X.env)).any (·.1) = false := by rfl) :
    PE X (.Call (.Name x p) (e :: es) [] pos) (tCall sp dvs E t) := ⟨fun pins s σ H Q I h => by
  refine wpAny_Call_Name_kw (ld_glob I hg hm (PySem.W.callWith_K (h₀ := X.base) I.ok.mod.kin hk (thn (ha.run pos pins s σ H _ I h) ?_) he hpl) hdb)
  rintro us s1 ⟨vs, H1, I1, r, q⟩
  have r2 : Vals (vs ++ dvs) (us ++ ds) := r.append hd
  have hl : (us ++ ds).length = ps.length := by rw [← r2.length]; exact F.arity _ _ _ _ q
  refine ⟨I1.kIn, wpAny_call (codeAny_mono (F.go X.A X.stack s1 H1 ⟨us, []⟩ (us ++ ds) (vs ++ dvs) Q E hr hA I1.env0 (hb s1 us I1.kIn hl) r2 q) fun r s' hq => ?_)⟩
  match r, hq with
  | .error e, hq => exact hx pins σ H1 s1 e s' I1 hq
  | .ok (.ret u), hq => exact I1.after hq⟩
end
section
variable {X : Cx} {CX : CXT} {k : Nat} {f : Addr} {fd : FuncData} {ps ks : List Str} {sp : Sp} {E : XK} {x : Str} {p pos : Pos} {kws : List Keyword} {tk : TA} {g : List Value → List Value → List Value} {gV : List V → List V → List V}
/-- f(k = v, ..), every argument by its name -/
theorem pe_kw0 (F : FnOk X.prog X.w X.K X.mg X.base CX k f fd ps sp) (hr : Room k X.A) (hg : Gl X x) (hm : X.mg x = some (.ref f)) (hk : PySem.W.keepIn X.K (.ref f) = true) (hb : KBinds X.K fd ps ks g gV) (hx : Passes CX X E)
    (hkw : PK X kws tk) (hall : (backToKw pos (keywordEach kws X.env)).all (·.1.isSome) = true := by rfl) (hks : (backToKw pos (keywordEach kws X.env)).filterMap (·.1) = ks := by rfl) (hdb : (x == ("__debug__" : Str)) = false := by decide)
    (hpl : ((backTo pos (starEach [] X.env)).any (·.1) || (backToKw pos (keywordEach kws X.env)).any (·.1.isNone)) = false := by rfl) :
    PE X (.Call (.Name x p) [] kws pos) (tCallK sp gV E tNil tk) := ⟨fun pins s σ H Q I h => by
  refine wpAny_Call_Name_kw (ld_glob I hg hm (PySem.W.callWith_KW0 (h₀ := X.base) I.ok.mod.kin hk hall (thn (hkw.run pos pins s σ H _ I h) ?_) hpl) hdb)
  rintro ws s2 ⟨zs, H2, I2, rz, q2⟩
  rw [hks]
  exact ⟨I2.kIn, run_fnk (us := []) (vs := []) F hr hb hx I2 .nil rz q2⟩⟩
end
/-- one parameter, by its place or by its name -/
theorem kb1 {K : PySem.W.Frag} {fd : FuncData} {a : Str} (h : ∀ u : Value, bindArgs fd ⟨[u], []⟩ = pure [(a, u)]) (h2 : ∀ u : Value, bindArgs fd ⟨[], [(a, u)]⟩ = pure [(a, u)]) : KBinds K fd [a] [a] (fun us ws => us ++ ws) (fun us ws => us ++ ws) where
  to := fun s us ws _ hl => by
    match us, ws, hl with
    | [], [w], _ => exact .of_eq (h2 w)
    | [u], [], _ => exact .of_eq (h u)
  rel := fun r q => r.append q
/-- what the law's def is called with: base holds sys.modules, and no repr runs -/
theorem law_g {P : Program} {w : World} {K : PySem.W.Frag} {mg mb : Str → Option Value} {k : Nat} {fa a : Addr} {fd : FuncData} {x : Str} {sp : Sp} {s₁ : Shared} {vs : List Value} {ns : List Int}
    (kin : K.In s₁.heap) (hns : s₁.heap.Ns mainGlobals mg) (hb : s₁.heap.Ns builtinsNs mb) (hbb : ∀ x : Str, x ≠ "__name__" → mb x = bootBuiltins x) (hlim : s₁.heap.NoLimit) (hsys : ∃ mm, s₁.heap.Ns sysModules mm) (hg : s₁.gens = #[])
    (ha : s₁.heap.get? a = some { cls := .type "list", data := .seq vs.toArray }) (hi : IntsAre vs ns) (hl : ns.length ≤ sizeLine) (hr : Room k callerA)
    (F : ∀ base : Heap, K.In base → base.Ns mainGlobals mg → (∃ o, base.get? sysModules = some o) → GOk P w K mg base CX0 k fa fd [x] sp) (hbind : ∀ (s : Shared) (u : Value), BindsTo s fd ⟨[u], []⟩ [(x, u)])
    (hsp : ∀ H : Hp, Only H → SqL K H a (ns.map V.int) → sp [.ref a] H (fun v _ => v = .bl true) fun _ _ _ => False) :
    codeAny (model P w) callerA (.call (.ref fa) ⟨[.ref a], []⟩) (fun r s' => r = .ok (.ret (.bool true)) ∧ OldK s₁.heap s'.heap ∧ s'.os = s₁.os ∧ AllBare s'.gens) s₁ := by
  have rv := vals_ints hi
  have nV := hi.length
  let ob : Obj := { cls := .type "list", data := .seq vs.toArray }
  suffices core : ∀ H : Hp, Only H → SqL K H a (ns.map V.int) → HOk P w H s₁.heap → (∀ b, H b ≠ none → b = a ∧ K.lookup a = none) →
      codeAny (model P w) callerA (.call (.ref fa) ⟨[.ref a], []⟩) (fun r s' => r = .ok (.ret (.bool true)) ∧ OldK s₁.heap s'.heap ∧ s'.os = s₁.os ∧ AllBare s'.gens) s₁ by
    cases hk : K.lookup a with
    | some o =>
      have e := kin a o hk
      rw [ha] at e
      cases e
      exact core (fun _ => none) (fun _ => .inl rfl) (.inr ⟨_, vs.toArray, _, hk, rfl, rfl, rfl, by rw [List.size_toArray, nV]; exact hl, by simpa using rv⟩) (fun _ _ z => nomatch z) fun _ z => absurd rfl z
    | none =>
      refine core (fun b => if b = a then some (.frz ob (.lst (ns.map V.int))) else none) (fun b => ?_) (.inl (.inr ⟨ob, if_pos rfl⟩)) (fun b u z => ?_) (fun b z => ?_)
      · by_cases hb : b = a
        · exact .inr ⟨_, _, if_pos hb⟩
        · exact .inl (if_neg hb)
      · by_cases hb : b = a
        · have z' := (if_pos hb).symm.trans z
          cases z'; subst hb
          exact ⟨ha, by rw [List.length_map]; exact hl, vs, _, rv, ha⟩
        · exact nomatch (if_neg hb).symm.trans z
      · by_cases hb : b = a
        · exact ⟨hb, hk⟩
        · exact absurd (if_neg hb) z
  intro H hO hS hok hA
  have keep : ∀ {b : Addr} {o : Obj}, s₁.heap.get? b = some o → H b = none → (hidT s₁.heap H).get? b = some o := fun e n => hidT_get e n
  have free : ∀ {b : Addr} {o : Obj}, s₁.heap.get? b = some o → (∀ es ep, o.data = .dict es ep → H b = none) := fun {b o} e es ep d => by
    refine Classical.byContradiction fun q => ?_
    obtain ⟨e', _⟩ := hA b q
    rw [e', ha] at e; cases e
    exact nomatch d
  have ns2 : ∀ {b : Addr} {m : Str → Option Value}, s₁.heap.Ns b m → (hidT s₁.heap H).Ns b m := fun {b m} ⟨o, es, ep, e, d, r⟩ => ⟨o, es, ep, keep e (free e _ _ d), d, r⟩
  have kb : K.In (hidT s₁.heap H) := fun b o e => keep (kin b o e) <| Classical.byContradiction fun q => by
    obtain ⟨e', n⟩ := hA b q
    rw [e', n] at e; cases e
  have M : Mod K mg (hidT s₁.heap H) := ⟨kb, ns2 hns, ⟨mb, ns2 hb, hbb⟩, hlim.elim fun mc h => ⟨mc, ns2 h.1, h.2⟩⟩
  have e0 : Env0 P w K mg (hidT s₁.heap H) callerA [] s₁ H := ⟨rfl, M, fun b o e => of_hidT e, Nat.le_of_eq (hidT_size _ _), trivial, fun _ hb => (nomatch hb), hok, .of_eq hg⟩
  have sys : ∃ o, (hidT s₁.heap H).get? sysModules = some o := hsys.elim fun mm h => (ns2 h).elim fun o h => h.elim fun _ h => h.elim fun _ h => ⟨o, h.1⟩
  refine codeAny_mono ((F _ kb (ns2 hns) sys).go callerA [] s₁ H ⟨[.ref a], []⟩ [.ref a] [.ref a] _ _ hr rfl e0 (hbind s₁ (.ref a)) (.cons rfl .nil) (hsp H hO hS)) fun r s' h => ?_
  match r, h with
  | .error e, h => exact h.elim
  | .ok (.ret u), ⟨v, H', os, bare, un, hok', r', q⟩ =>
    have q' : v = .bl true := q
    subst q'
    obtain rfl : u = Value.bool true := r'
    refine ⟨rfl, OldK.of_keep fun b o e => ?_, os, bare⟩
    cases q : H b with
    | none => exact un.keep b o e q (fun z => nomatch z) (fun z => nomatch z)
    | some u =>
      rcases hO b with z | ⟨_, xs, z⟩
      · rw [q] at z; cases z
      · obtain ⟨e1, _⟩ := hok b _ z
        obtain ⟨e2, _⟩ := hok' b _ (un.frzs b _ _ z)
        rw [e] at e1; cases e1
        exact e2
/-- the goal that k_head leaves, by the law's promise -/
theorem walk_g {l : PySem.W.OpenLaw} {n k : Nat} {q : Program} {loose : List Str} {XP : (Str → Option Value) → Heap → Prop} {YP : World → Heap → Prop} {d : DefRec} {K : Params → PySem.W.Frag} {sp : PySem.W.Frag → Sp} {x : Str}
    (hn : l.most = some n) (hn2 : n ≤ sizeLine) (hdf : d.params.defaults = []) (hr : Room k callerA) (him : importsNone q = true) (hY : ∀ (w : World) (h : Heap), YP w h → (K w.params).In h)
    (F : ∀ (w : World) (mg : Str → Option Value) (fa : Addr) (h : Heap), (K w.params).In h → h.Ns mainGlobals mg → mg d.name = some (.ref fa) →
      ∃ fd : FuncData, (∀ (s : Shared) (u : Value), BindsTo s fd ⟨[u], []⟩ [(x, u)]) ∧
        ∀ base : Heap, (K w.params).In base → base.Ns mainGlobals mg → (∃ o, base.get? sysModules = some o) → GOk l.prog w (K w.params) mg base CX0 k fa fd [x] (sp (K w.params)))
    (hsp : ∀ (K : PySem.W.Frag) (H : Hp) (a : Addr) (ns : List Int), ns.length ≤ n → Only H → SqL K H a (ns.map V.int) → sp K [.ref a] H (fun v _ => v = .bl true) fun _ _ _ => False) :
    PySem.W.WalkO q loose XP YP l.row.toRowW d [] (fun f vs => PySem.call f vs) := by
  refine Att.attach_call hn hdf fun w s₀ s₁ mg mb fa o pm cd doc a vs ns G Y ho hd hcd hmg hobj hints hlen hg => ?_
  obtain ⟨fd, hb, hF⟩ := F w mg fa _ (hY w _ Y) G.T.g hmg
  obtain ⟨mm, hmm, _⟩ := (G.T.seer him).mods
  exact law_g (hY w _ Y) G.T.g G.T.b G.T.builtins G.T.nolimit ⟨mm, hmm⟩ hg hobj hints (Nat.le_trans hlen hn2) hr hF hb fun H hO hS => hsp _ H a ns hlen hO hS
end KX

set_option Elab.async false
set_option linter.all false
set_option maxRecDepth 100000
set_option maxHeartbeats 4000000
/-! Own layer: short texts, picks by a drawn index. -/
namespace KX
open PySem PySem.Spec PyProof.Rows L2
/-- a short text of codes that repr shows in at most ten signs each -/
def Ss (n : Nat) (z : Str) : Prop := z.length ≤ n ∧ ∀ c, c ∈ z.cps.toList → c < 1114112
theorem Ss.mono {n m : Nat} {z : Str} (h : Ss n z) (l : n ≤ m) : Ss m z := ⟨Nat.le_trans h.1 l, h.2⟩
theorem Ss.app {n m : Nat} {a b : Str} (h : Ss n a) (g : Ss m b) : Ss (n + m) (a ++ b) := by
  refine ⟨by rw [strLen_append]; exact Nat.add_le_add h.1 g.1, fun c hc => ?_⟩
  have e : (a ++ b).cps.toList = a.cps.toList ++ b.cps.toList := Array.toList_append
  rw [e] at hc
  exact (List.mem_append.mp hc).elim (h.2 c) (g.2 c)
theorem Ss.cut {n : Nat} {a : Str} (h : Ss n a) (lo hi : Option Int) : Ss n (cutS a lo hi) := by
  refine ⟨Nat.le_trans (cutS_length a lo hi) h.1, fun c hc => h.2 c ?_⟩
  have hc' : c ∈ (a.cps.toList.drop (HT.sIx a.length 0 lo)).take (HT.sIx a.length a.length hi - HT.sIx a.length 0 lo) := by simpa [cutS] using hc
  exact List.mem_of_mem_drop (List.mem_of_mem_take hc')
theorem Ss.sign {c : Nat} (h : c < 1114112) : Ss 1 ⟨#[c]⟩ := ⟨Nat.le_refl 1, fun d hd => by simp at hd; subst hd; exact h⟩
theorem Ss.nil : Ss 0 (Str.ofString "") := ⟨by decide, by decide⟩
theorem Ss.join {m : Nat} : ∀ {ys : List Str}, (∀ y, y ∈ ys → Ss m y) → Ss (ys.length * m) (Str.join (Str.ofString "") ys)
  | [], _ => by rw [List.length_nil, Nat.zero_mul]; exact Ss.nil
  | [x], h => by rw [List.length_singleton, Nat.one_mul]; exact h x (List.mem_singleton.mpr rfl)
  | x :: z :: r, h => by
    have h1 := h x List.mem_cons_self
    have h2 := Ss.join (ys := z :: r) fun y hy => h y (List.mem_cons_of_mem _ hy)
    have h3 := (h1.app Ss.nil).app h2
    refine Ss.mono (show Ss _ (x ++ Str.ofString "" ++ Str.join (Str.ofString "") (z :: r)) from h3) ?_
    simp only [List.length_cons]
    rw [Nat.succ_mul (r.length + 1) m]
    omega
theorem Ss.joinT {m : Nat} {ys : List Str} (h : ∀ y, y ∈ ys → Ss m y) : Ss (ys.length * m) (Txt.join (Str.ofString "") ys) := by
  rw [show Txt.join (Str.ofString "") ys = Str.join (Str.ofString "") ys from StrLaws.glued_eq_join _ ys]; exact Ss.join h
theorem Ss.sum {m : Nat} : ∀ {ys : List Str}, (∀ y, y ∈ ys → Ss m y) → (ys.map (·.length)).sum ≤ ys.length * m
  | [], _ => by simp
  | x :: r, h => by
    have h1 := (h x List.mem_cons_self).1
    have h2 := Ss.sum (ys := r) fun y hy => h y (List.mem_cons_of_mem _ hy)
    simp only [List.map_cons, List.sum_cons, List.length_cons, Nat.succ_mul]
    omega
/-- an item by an index in bounds -/
theorem pick {α : Type} {xs : List α} {i : Int} (h0 : 0 ≤ i) (h1 : i < (xs.length : Int)) : ∃ (j : Nat) (v : α), xs[j]? = some v ∧ v ∈ xs ∧ i = (j : Int) ∧ atI xs i = some v := by
  have hj : i.toNat < xs.length := by omega
  have e : i = ((i.toNat : Nat) : Int) := by omega
  refine ⟨i.toNat, xs[i.toNat], List.getElem?_eq_getElem hj, List.getElem_mem hj, e, ?_⟩
  have q : atI xs ((i.toNat : Nat) : Int) = some xs[i.toNat] := atI_nat (List.getElem?_eq_getElem hj)
  rw [← e] at q
  exact q
theorem pickI {xs : List Int} {i : Int} (h0 : 0 ≤ i) (h1 : i < (xs.length : Int)) : ∃ m, m ∈ xs ∧ atI (xs.map V.int) i = some (.int m) := by
  obtain ⟨j, v, h2, h3, h4, h5⟩ := pick (xs := xs.map V.int) h0 (by rw [List.length_map]; exact h1)
  obtain ⟨m, hm, rfl⟩ := List.mem_map.mp h3
  exact ⟨m, hm, h5⟩
/-- data that repr shows in few signs -/
structure OkD (n W : Nat) (d : PyData) : Prop where
  short : d.leavesShort 110 = true
  shows : d.showable = true
  deep : d.depth ≤ n
  wt : d.weight ≤ W
theorem OkD.mono {n m W U : Nat} {d : PyData} (h : OkD n W d) (h1 : n ≤ m) (h2 : W ≤ U) : OkD m U d := ⟨h.short, h.shows, Nat.le_trans h.deep h1, Nat.le_trans h.wt h2⟩
theorem OkD.len {n W : Nat} {d : PyData} (h : OkD n W d) (hW : W ≤ 100000) : d.shown.length ≤ sizeLine := by
  have h1 := PyData.shown_le 110 (by decide) d h.short
  have h2 := h.wt
  rw [sizeLine_eq]
  have h3 : (110 + 2) * d.weight ≤ 112 * 100000 := Nat.mul_le_mul_left 112 (by omega)
  omega
theorem OkD.none : OkD 0 0 .none := ⟨rfl, rfl, Nat.le_refl _, Nat.le_refl _⟩
theorem OkD.bool (b : Bool) : OkD 0 0 (.bool b) := ⟨rfl, rfl, Nat.le_refl _, Nat.le_refl _⟩
theorem OkD.str {n : Nat} {z : Str} (h : Ss n z) : OkD 0 n (.str z) := by
  refine ⟨?_, rfl, Nat.le_refl _, h.1⟩
  simp only [PyData.leavesShort, List.all_eq_true, decide_eq_true_eq]
  exact fun c hc => Nat.lt_trans (h.2 c hc) (by decide)
theorem OkD.int {i : Int} (h : i.natAbs < 2 ^ 98) : OkD 0 100 (.int i) := by
  have hl : i.natAbs.log2 < 98 := by
    by_cases z : i.natAbs = 0
    · rw [z]; decide
    · exact (Nat.log2_lt z).mpr h
  refine ⟨?_, ?_, Nat.le_refl _, ?_⟩
  · have q := int_text_length_le (a := i) (k := 98) (by decide) hl
    have e : (PyData.shown (.int i)).length = (toString i).length := PySem.ofString_length _
    simp only [PyData.leavesShort, decide_eq_true_eq]
    omega
  · simp only [PyData.showable, decide_eq_true_eq]; omega
  · simp only [PyData.weight]; split <;> omega
theorem OkD.intB {i : Int} (h : i.natAbs < 2 ^ 104) : OkD 0 106 (.int i) := by
  have hl : i.natAbs.log2 < 104 := by
    by_cases z : i.natAbs = 0
    · rw [z]; decide
    · exact (Nat.log2_lt z).mpr h
  refine ⟨?_, ?_, Nat.le_refl _, ?_⟩
  · have q := int_text_length_le (a := i) (k := 104) (by decide) hl
    have e : (PyData.shown (.int i)).length = (toString i).length := PySem.ofString_length _
    simp only [PyData.leavesShort, decide_eq_true_eq]
    omega
  · simp only [PyData.showable, decide_eq_true_eq]; omega
  · simp only [PyData.weight]; split <;> omega
/-- what is new in H', behind H -/
def nw (H H' : Hp) : Hp := fun b => match H b with
  | none => H' b
  | some _ => none
theorem nw_at {H H' : Hp} {b : Addr} (h : H b = none) : nw H H' b = H' b := by unfold nw; rw [h]
theorem nw_some {H H' : Hp} {b : Addr} {o : HO} (h : nw H H' b = some o) : H b = none ∧ H' b = some o := by
  unfold nw at h
  cases e : H b with
  | none => rw [e] at h; exact ⟨rfl, h⟩
  | some u => rw [e] at h; cases h
theorem nw_same {H H' : Hp} : Same (nw H H') H' := fun b o h => (nw_some h).2
mutual
theorem Dq.same {H G : Hp} (s : Same H G) : ∀ (d : PyData) (v : V), Dq H v d → Dq G v d
  | .none, _, h => by cases h; exact .non
  | .bool b, _, h => by cases h; exact .bl b
  | .int i, _, h => by cases h; exact .int i
  | .str x, _, h => by cases h; exact .str x
  | .list ds, _, h => by cases h with | lst h1 h2 => exact .lst (s _ _ h1) (DqAll.same s ds _ h2)
  | .tuple ds, _, h => by cases h with | tup h1 h2 => exact .tup (s _ _ h1) (DqAll.same s ds _ h2)
  | .dict ds, _, h => by cases h with | dct h1 h2 => exact .dct (s _ _ h1) (DqKv.same s ds _ h2)
theorem DqAll.same {H G : Hp} (s : Same H G) : ∀ (ds : List PyData) (vs : List V), DqAll H vs ds → DqAll G vs ds
  | [], _, h => by cases h; exact .nil
  | d :: ds, _, h => by cases h with | cons h1 h2 => exact .cons (Dq.same s d _ h1) (DqAll.same s ds _ h2)
theorem DqKv.same {H G : Hp} (s : Same H G) : ∀ (ds : List (PyData × PyData)) (kvs : List (Key × V)), DqKv H kvs ds → DqKv G kvs ds
  | [], _, h => by cases h; exact .nil
  | (_, d) :: ds, _, h => by cases h with | cons h1 h2 => exact .cons (Dq.same s d _ h1) (DqKv.same s ds _ h2)
end
/-- the value stands for some data of at most this depth and weight -/
def Dd (n W : Nat) (H : Hp) (v : V) : Prop := ∃ d, Dq H v d ∧ OkD n W d
theorem Dd.same {n W : Nat} {H G : Hp} {v : V} (h : Dd n W H v) (s : Same H G) : Dd n W G v := let ⟨d, a, b⟩ := h; ⟨d, Dq.same s d v a, b⟩
theorem Dd.mono {n m W U : Nat} {H : Hp} {v : V} (h : Dd n W H v) (h1 : n ≤ m) (h2 : W ≤ U) : Dd m U H v := let ⟨d, a, b⟩ := h; ⟨d, a, b.mono h1 h2⟩
theorem Dd.items {n W : Nat} {H : Hp} : ∀ {vs : List V}, (∀ v, v ∈ vs → Dd n W H v) → ∃ ds, DqAll H vs ds ∧ PyData.leavesShortAll 110 ds = true ∧ PyData.showableAll ds = true ∧ PyData.depthAll ds ≤ n ∧ PyData.weightAll ds ≤ vs.length * (W + 1)
  | [], _ => ⟨[], .nil, rfl, rfl, Nat.zero_le _, Nat.zero_le _⟩
  | v :: r, h => by
    obtain ⟨d, h1, h2⟩ := h v List.mem_cons_self
    obtain ⟨ds, g1, g2, g3, g4, g5⟩ := Dd.items (vs := r) fun u hu => h u (List.mem_cons_of_mem _ hu)
    refine ⟨d :: ds, .cons h1 g1, ?_, ?_, ?_, ?_⟩
    · simp only [PyData.leavesShortAll, h2.short, g2, Bool.and_self]
    · simp only [PyData.showableAll, h2.shows, g3, Bool.and_self]
    · have := h2.deep
      simp only [PyData.depthAll]; omega
    · have := h2.wt
      simp only [PyData.weightAll, List.length_cons, Nat.succ_mul]; omega
theorem Dd.lst {n W m : Nat} {H : Hp} {a : Addr} {vs : List V} (h : H a = some (.lst vs)) (l : vs.length ≤ m) (hv : ∀ v, v ∈ vs → Dd n W H v) : Dd (n + 1) (m * (W + 1)) H (.ref a) := by
  obtain ⟨ds, g1, g2, g3, g4, g5⟩ := Dd.items hv
  refine ⟨.list ds, .lst h g1, ⟨by simpa only [PyData.leavesShort] using g2, by simpa only [PyData.showable] using g3, by simp only [PyData.depth]; omega, ?_⟩⟩
  have := Nat.mul_le_mul_right (W + 1) l
  simp only [PyData.weight]; omega
theorem Dd.tup {n W m : Nat} {H : Hp} {a : Addr} {vs : List V} (h : H a = some (.tup vs)) (l : vs.length ≤ m) (hv : ∀ v, v ∈ vs → Dd n W H v) : Dd (n + 1) (m * (W + 1)) H (.ref a) := by
  obtain ⟨ds, g1, g2, g3, g4, g5⟩ := Dd.items hv
  refine ⟨.tuple ds, .tup h g1, ⟨by simpa only [PyData.leavesShort] using g2, by simpa only [PyData.showable] using g3, by simp only [PyData.depth]; omega, ?_⟩⟩
  have := Nat.mul_le_mul_right (W + 1) l
  simp only [PyData.weight]; omega
/-- a key is a short text -/
def KeyS (k : Key) : Prop := ∃ z, k = Sum.inr z ∧ Ss 9 z
theorem Dd.pairs {n W : Nat} {H : Hp} : ∀ {kvs : List (Key × V)}, (∀ kv, kv ∈ kvs → KeyS kv.1 ∧ Dd n W H kv.2) → ∃ ds, DqKv H kvs ds ∧ PyData.leavesShortKv 110 ds = true ∧ PyData.showableKv ds = true ∧ PyData.depthKv ds ≤ n ∧ PyData.weightKv ds ≤ kvs.length * (W + 11)
  | [], _ => ⟨[], .nil, rfl, rfl, Nat.zero_le _, Nat.zero_le _⟩
  | (k, v) :: r, h => by
    obtain ⟨⟨z, e, hz⟩, d, h1, h2⟩ := h (k, v) List.mem_cons_self
    obtain ⟨ds, g1, g2, g3, g4, g5⟩ := Dd.pairs (kvs := r) fun u hu => h u (List.mem_cons_of_mem _ hu)
    have e' : k = Sum.inr z := e
    subst e'
    have hk := OkD.str hz
    refine ⟨(kD (Sum.inr z), d) :: ds, .cons h1 g1, ?_, ?_, ?_, ?_⟩
    · show (PyData.leavesShort 110 (.str z) && d.leavesShort 110 && PyData.leavesShortKv 110 ds) = true
      rw [hk.short, h2.short, g2]; rfl
    · show (PyData.showable (.str z) && d.showable && PyData.showableKv ds) = true
      rw [hk.shows, h2.shows, g3]; rfl
    · have := h2.deep
      show max (max (PyData.depth (.str z)) d.depth) (PyData.depthKv ds) ≤ n
      have e0 : PyData.depth (.str z) = 0 := rfl
      omega
    · have w1 := h2.wt
      have w2 := hk.wt
      show PyData.weight (.str z) + d.weight + 2 + PyData.weightKv ds ≤ _
      simp only [List.length_cons, Nat.succ_mul]; omega
theorem Dd.dct {n W m : Nat} {H : Hp} {a : Addr} {kvs : List (Key × V)} (h : H a = some (.dK kvs)) (l : kvs.length ≤ m) (hv : ∀ kv, kv ∈ kvs → KeyS kv.1 ∧ Dd n W H kv.2) : Dd (n + 1) (m * (W + 11)) H (.ref a) := by
  obtain ⟨ds, g1, g2, g3, g4, g5⟩ := Dd.pairs hv
  refine ⟨.dict ds, .dct h g1, ⟨by simpa only [PyData.leavesShort] using g2, by simpa only [PyData.showable] using g3, by simp only [PyData.depth]; omega, ?_⟩⟩
  have := Nat.mul_le_mul_right (W + 11) l
  simp only [PyData.weight]; omega
theorem putK_all {p : Key × V → Prop} {k : Key} {v : V} (hv : p (k, v)) {kvs : List (Key × V)} (h : ∀ kv, kv ∈ kvs → p kv) : (∀ kv, kv ∈ putK kvs k v → p kv) ∧ (putK kvs k v).length ≤ kvs.length + 1 := by
  unfold putK
  split
  · refine ⟨fun kv hm => ?_, by rw [List.length_map]; omega⟩
    obtain ⟨x, hx, rfl⟩ := List.mem_map.mp hm
    by_cases e : x.1 = k
    · rw [if_pos e, e]; exact hv
    · rw [if_neg e]; exact h x hx
  · refine ⟨fun kv hm => ?_, by rw [List.length_append]; exact Nat.le_refl _⟩
    rcases List.mem_append.mp hm with q | q
    · exact h kv q
    · rw [List.mem_singleton.mp q]; exact hv
theorem mergeK_all {p : Key × V → Prop} : ∀ {more kvs : List (Key × V)}, (∀ kv, kv ∈ more → p kv) → (∀ kv, kv ∈ kvs → p kv) → (∀ kv, kv ∈ mergeK kvs more → p kv) ∧ (mergeK kvs more).length ≤ kvs.length + more.length
  | [], _, _, h => ⟨h, Nat.le_refl _⟩
  | (k, v) :: r, kvs, hm, h => by
    have h1 := putK_all (hm (k, v) List.mem_cons_self) h
    have h2 := mergeK_all (more := r) (kvs := putK kvs k v) (fun kv q => hm kv (List.mem_cons_of_mem _ q)) h1.1
    refine ⟨h2.1, ?_⟩
    have := h1.2
    have := h2.2
    show (mergeK (putK kvs k v) r).length ≤ kvs.length + (r.length + 1)
    omega
theorem KeyS.num {i : Nat} (h : i < 10) : KeyS (Sum.inr (Str.ofString (toString (i : Int)))) := by
  refine ⟨_, rfl, ?_⟩
  have hd : ∀ j : Fin 10, (Str.ofString (toString ((j.val : Nat) : Int))).length ≤ 9 ∧ ∀ c, c ∈ (Str.ofString (toString ((j.val : Nat) : Int))).cps.toList → c < 1114112 := by decide +kernel
  exact hd ⟨i, h⟩
end KX

set_option Elab.async false
set_option linter.all false
set_option maxRecDepth 100000
set_option maxHeartbeats 4000000
namespace K1
open PySem L2 KX
def top (i : Nat) : Stmt := PySem.Challenge.pw_producttrees_k01_basic_values.main.body.getD i (.Pass ⟨0, 0, 0, 0⟩)
abbrev sCell : Stmt := top 20
abbrev sBox : Stmt := top 21
abbrev sTake : Stmt := top 22
/-- the names of built-ins are the built-ins' -/
structure Mn (mg : Str → Option Value) : Prop where
  max : mg "max" = none
  min : mg "min" = none
  len : mg "len" = none
  range : mg "range" = none
  repr : mg "repr" = none
  isin : mg "isinstance" = none
  all : mg "all" = none
  enum : mg "enumerate" = none
  tuple : mg "tuple" = none
  dict : mg "dict" = none
  str : mg "str" = none
  int : mg "int" = none
  bool : mg "bool" = none
  list : mg "list" = none
/-- the box of a cell stands at p -/
def Bx (H : Hp) (p : Addr) : Prop := ∃ b0 b1 b2 : Int, H p = some (.lst [.int b0, .int b1, .int b2]) ∧ 0 ≤ b0 ∧ 0 ≤ b1 ∧ b1 < 2147483647 ∧ 0 ≤ b2
/-- all but what stands at p is as it was -/
def Sx (p : Addr) (H H' : Hp) : Prop := ∀ b o, b ≠ p → H b = some o → H' b = some o
def spCell (K : PySem.W.Frag) : Sp := fun vs H Q _ => ∃ (a : Addr) (ns : List Int) (k : Int), vs = [.ref a, .int k] ∧ SqL K H a (ns.map V.int) ∧ 0 ≤ k ∧ ∀ c : Int, Q (.int c) H
def spBox : Sp := fun vs H Q _ => ∃ c : Int, vs = [.int c] ∧ ∀ p H', Same H H' → H p = none → Bx H' p → Q (.ref p) H'
def spTake : Sp := fun vs H Q _ => ∃ (p : Addr) (n : Int), vs = [.ref p, .int n] ∧ Bx H p ∧ 0 < n ∧ n < 316912650057057350374175801344 ∧ ∀ (r : Int) H', 0 ≤ r → r < n → Bx H' p → Sx p H H' → Q (.int r) H'
section
variable {P : Program} {w : World} {K : PySem.W.Frag} {mg : Str → Option Value} {base : Heap} {f : Addr} {fd : FuncData}
theorem scCell : FnScope ["script", "k"] ["script", "k"] (defScope sCell) := ⟨rfl, rfl, rfl, by decide +kernel, rfl, by decide +kernel, by decide +kernel⟩
theorem ok_cell (F : Fun K "_law_cell" "_law_cell" sCell f fd) (M : Mn mg) : FnOk P w K mg base CX0 1 f fd ["script", "k"] (spCell K) := by
  refine F.ok scCell (fun vs H Q E h => ?_) (fun cdv A outer s H vs Q E hr h => ?_)
  · obtain ⟨a, ns, k, rfl, _⟩ := h
    rfl
  obtain ⟨a, ns, k, rfl, hS, hk, q⟩ := h
  refine ⟨_, pss_cons (ps_if (pt_cmpR op_lt (pv 1) (pe_callB call_len_seq (by rfl) M.len PySem.boot_len (pa_cons (pv 0) pa_nil)) (nomark _)) (pss_one (ps_ret (pe_ix ix_list (pv 0) (pv 1) (fun _ _ => rfl)))) pss_nil)
    (pss_one (ps_ret (pe_op op_add (pe_op op_mul pe_int (pv 1)) pe_int))), ?_⟩
  refine ⟨_, rfl, _, rfl, a, _, rfl, .inl hS, _, _, rfl, rfl, _, rfl, ?_⟩
  refine ite2 (fun c => ?_) (fun c => ?_)
  · have c' : k < (((ns.map V.int).length : Nat) : Int) := of_decide_eq_true c
    rw [List.length_map] at c'
    have hlt : k.toNat < ns.length := by omega
    refine ⟨_, rfl, _, rfl, a, _, _, V.int ns[k.toNat], rfl, rfl, hS, at_of (j := k.toNat) (by omega) (by rw [List.getElem?_map, List.getElem?_eq_getElem hlt]; rfl), q _⟩
  · exact ⟨_, rfl, _, _, rfl, rfl, .inl ⟨by decide, by decide⟩, _, _, rfl, rfl, q _⟩
theorem scBox : FnScope ["cell"] ["cell"] (defScope sBox) := ⟨rfl, rfl, rfl, by decide +kernel, rfl, by decide +kernel, by decide +kernel⟩
theorem ok_box (F : Fun K "_law_box" "_law_box" sBox f fd) (M : Mn mg) : FnOk P w K mg base CX0 1 f fd ["cell"] spBox := by
  refine F.ok scBox (fun vs H Q E h => ?_) (fun cdv A outer s H vs Q E hr h => ?_)
  · obtain ⟨c, rfl, _⟩ := h
    rfl
  obtain ⟨c, rfl, q⟩ := h
  refine ⟨_, pss_one (ps_ret (pe_lst (pa_cons (pe_callB (call_max2 rfl) (by rfl) M.max (by decide +kernel) (pa_cons pe_int (pa_cons (pe_op op_sub (pv 0) (pe_op op_pow pe_int pe_int)) pa_nil)))
    (pa_cons (pe_op op_mod (pv 0) pe_int) (pa_cons pe_int pa_nil))))), ?_⟩
  refine ⟨_, rfl, _, _, rfl, rfl, ⟨by decide, by decide, by decide⟩, _, _, rfl, rfl, _, _, rfl, _, rfl, _, _, rfl, rfl, (by show (0 : Int) < 2147483629; decide), (by show 3 ≤ sizeLine; decide), fun p hp => ?_⟩
  refine q p _ (fun b o e => by rw [upd_ne (ne_of_none e hp)]; exact e) hp ⟨_, _, _, upd_same, ?_, Int.emod_nonneg _ (by decide), ?_, Int.le_refl 0⟩
  · split <;> omega
  · have := Int.emod_lt_of_pos c (show (0 : Int) < 2147483629 by decide)
    omega
theorem scTake : FnScope ["box", "size", "digit", "mixed"] ["box", "size"] (defScope sTake) := ⟨rfl, rfl, rfl, by decide +kernel, rfl, by decide +kernel, by decide +kernel⟩
theorem ok_take (F : Fun K "_law_take" "_law_take" sTake f fd) (M : Mn mg) : FnOk P w K mg base CX0 1 f fd ["box", "size"] spTake := by
  refine F.ok scTake (fun vs H Q E h => ?_) (fun cdv A outer s H vs Q E hr h => ?_)
  · obtain ⟨p, n, rfl, _⟩ := h
    rfl
  obtain ⟨p, n, rfl, ⟨b0, b1, b2, hp, z0, z1, z1', z2⟩, n0, n1, q⟩ := h
  refine ⟨_, pss_cons (ps_if (pt_cmpR op_gt (pe_ix ix_list (pv 0) pe_int (fun _ _ => rfl)) pe_int (nomark _))
      (pss_cons (ps_set (i := 2) scTake.nd rfl (Or.inl rfl) (pe_op op_mod (pe_ix ix_list (pv 0) pe_int (fun _ _ => rfl)) (pv 1)))
      (pss_cons (ps_asg (pe_op op_fdivW (pe_ix ix_list (pv 0) pe_int (fun _ _ => rfl)) (pv 1)) (pg_sub (pv 0) pe_int set_list))
      (pss_one (ps_ret (pv 2))))) pss_nil)
    (pss_cons (ps_asg (pe_op op_add (pe_ix ix_list (pv 0) pe_int (fun _ _ => rfl)) pe_int) (pg_sub (pv 0) pe_int set_list))
    (pss_cons (ps_set (i := 3) scTake.nd rfl (Or.inl rfl) (pe_op op_mod (pe_op op_add (pe_op op_add (pe_op op_mul (pe_ix ix_list (pv 0) pe_int (fun _ _ => rfl)) pe_int) (pe_op op_mul pe_int (pe_ix ix_list (pv 0) pe_int (fun _ _ => rfl)))) pe_int) pe_int))
    (pss_cons (ps_asg (pe_op op_mod (pe_op op_add (pe_op op_pow (pv 3) pe_int) (pe_op op_mul pe_int (pe_ix ix_list (pv 0) pe_int (fun _ _ => rfl)))) pe_int) (pg_sub (pv 0) pe_int set_list))
    (pss_one (ps_ret (pe_op op_mod (pe_op op_fdiv (pe_ix ix_list (pv 0) pe_int (fun _ _ => rfl)) pe_int) (pv 1))))))), ?_⟩
  refine ⟨_, rfl, p, _, _, _, rfl, rfl, SqL.of hp, rfl, _, _, rfl, rfl, _, rfl, ?_⟩
  refine ite2 (fun c => ?_) (fun c => ?_)
  · refine ⟨_, rfl, p, _, _, _, rfl, rfl, SqL.of hp, rfl, _, rfl, _, _, rfl, rfl, n0, ?_⟩
    refine ⟨_, rfl, p, _, _, _, rfl, rfl, SqL.of hp, rfl, _, rfl, _, _, rfl, rfl, wide_div (b := 98) n0 (by omega) (by decide) (by decide), _, rfl, p, _, _, 0, rfl, rfl, hp, rfl, ?_⟩
    refine ⟨_, rfl, q _ _ (Int.emod_nonneg _ (by omega)) (Int.emod_lt_of_pos _ n0) ⟨_, _, _, upd_same, Int.ediv_nonneg z0 (by omega), z1, z1', z2⟩ fun b o hb e => by rw [upd_ne hb]; exact e⟩
  · refine ⟨_, rfl, p, _, _, _, rfl, rfl, SqL.of hp, rfl, _, _, rfl, rfl, _, rfl, p, _, _, 2, rfl, rfl, hp, rfl, ?_⟩
    have h1 : ∀ o, (upd H p o) p = some o := fun o => upd_same
    refine ⟨_, rfl, p, _, _, _, rfl, rfl, SqL.of (h1 _), rfl, _, _, rfl, rfl, .inr ⟨by decide, by decide⟩, _, rfl, p, _, _, _, rfl, rfl, SqL.of (h1 _), rfl, _, _, rfl, rfl, .inl ⟨by decide, by decide⟩, _, _, rfl, rfl, _, _, rfl, rfl, _, _, rfl, rfl, (by show (0 : Int) < 2147483647; decide), ?_⟩
    have m0 : ∀ x : Int, 0 ≤ x % 2147483647 := fun x => Int.emod_nonneg _ (by decide)
    have m1 : ∀ x : Int, x % 2147483647 < 2147483647 := fun x => Int.emod_lt_of_pos _ (by decide)
    refine ⟨_, rfl, _, _, rfl, rfl, ⟨by decide, by decide, ?_⟩, _, rfl, p, _, _, _, rfl, rfl, SqL.of (h1 _), rfl, _, _, rfl, rfl, .inl ⟨by decide, by decide⟩, _, _, rfl, rfl, _, _, rfl, rfl, (by show (0 : Int) < 2147483647; decide), _, rfl, p, _, _, 1, rfl, rfl, (h1 _), rfl, ?_⟩
    · have a0 := m0 (b1 * 48271 + 69621 * (b2 + 1) + 57)
      have a1 := m1 (b1 * 48271 + 69621 * (b2 + 1) + 57)
      omega
    · refine ⟨_, rfl, p, _, _, _, rfl, rfl, SqL.of upd_same, rfl, _, _, rfl, rfl, ⟨by decide, by decide⟩, _, rfl, _, _, rfl, rfl, n0, ?_⟩
      refine q _ _ (Int.emod_nonneg _ (by omega)) (Int.emod_lt_of_pos _ n0) ⟨_, _, _, upd_same, z0, m0 _, m1 _, (by omega)⟩ fun b o hb e => by rw [upd_ne hb, upd_ne hb]; exact e
end
end K1

set_option Elab.async false
set_option linter.all false
set_option maxRecDepth 100000
set_option maxHeartbeats 4000000
namespace K1
open PySem L2 KX
abbrev sStr : Stmt := top 23
abbrev nStr : List Str := ["box", "letters", "text", "at", "others", "k"]
theorem Sx.refl {p : Addr} (H : Hp) : Sx p H H := fun _ _ _ e => e
theorem Sx.trans {p : Addr} {H G J : Hp} (a : Sx p H G) (b : Sx p G J) : Sx p H J := fun c o n e => b c o n (a c o n e)
theorem Sx.of {p : Addr} {H G : Hp} (a : Same H G) : Sx p H G := fun c o _ e => a c o e
theorem Sx.new {p q : Addr} {H : Hp} {o : HO} (h : H q = none) : Sx p H (upd H q o) := fun c u _ e => by rw [upd_ne (ne_of_none e h)]; exact e
theorem Bx.new {p q : Addr} {H : Hp} {o : HO} (b : Bx H p) (h : H q = none) : Bx (upd H q o) p := by
  obtain ⟨b0, b1, b2, e, r⟩ := b
  exact ⟨b0, b1, b2, by rw [upd_ne (ne_of_none e h)]; exact e, r⟩
theorem Bx.ne {p q : Addr} {H : Hp} (b : Bx H p) (h : H q = none) : q ≠ p := by
  obtain ⟨b0, b1, b2, e, r⟩ := b
  exact (ne_of_none e h).symm
theorem Bx.at_ne {p q : Addr} {H : Hp} {o : HO} (b : Bx H p) (h : q ≠ p) : Bx (upd H q o) p := by
  obtain ⟨b0, b1, b2, e, r⟩ := b
  exact ⟨b0, b1, b2, by rw [upd_ne h.symm]; exact e, r⟩
theorem Sx.free {p q : Addr} {H G : Hp} (s : Sx p H G) (b : Bx G p) (h : G q = none) : H q = none := by
  cases e : H q with
  | none => rfl
  | some o =>
    have n := b.ne h
    rw [s q o n e] at h
    cases h
def spStr : Sp := fun vs H Q _ => ∃ p : Addr, vs = [.ref p] ∧ Bx H p ∧ ∀ (z : Str) H', Ss 20 z → Bx H' p → Sx p H H' → Q (.str z) H'
section
variable {P : Program} {w : World} {K : PySem.W.Frag} {mg : Str → Option Value} {base : Heap} {f g : Addr} {fd gd : FuncData}
theorem scStr : FnScope nStr ["box"] (defScope sStr) := ⟨rfl, rfl, rfl, by decide +kernel, rfl, by decide +kernel, by decide +kernel⟩
theorem ok_str (F : Fun K "_law_string" "_law_string" sStr f fd) (M : Mn mg) (G : FnOk P w K mg base CX0 1 g gd ["box", "size"] spTake) (bG : Binds K gd ["box", "size"] []) (kG : PySem.W.keepIn K (.ref g) = true) (mG : mg "_law_take" = some (.ref g)) :
    FnOk P w K mg base CX0 2 f fd ["box"] spStr := by
  refine F.ok scStr (fun vs H Q E h => ?_) (fun cdv A outer s H vs Q E hr h => ?_)
  · obtain ⟨p, rfl, _⟩ := h
    rfl
  obtain ⟨p, rfl, hb, q⟩ := h
  refine ⟨_, pss_cons (ps_set (i := 1) scStr.nd rfl (Or.inr rfl) pe_str)
    (pss_cons (ps_set (i := 2) scStr.nd rfl (Or.inl rfl) (pe_join pe_str (pe_lc (own := [("k", 5)]) (g := gName 5) (tt := tYes) rfl scStr.nd
      (pi_range1 (by rfl) M.range (pa_cons (pe_ix ix_list (pe_lst (pa_cons pe_int (pa_cons pe_int (pa_cons pe_int (pa_cons pe_int (pa_cons (pe_call G hr rfl mG kG bG .nil pass0 (pa_cons (pv 0) (pa_cons pe_int pa_nil))) pa_nil))))))
        (pe_call G hr rfl mG kG bG .nil pass0 (pa_cons (pv 0) (pa_cons pe_int pa_nil))) (fun _ _ => rfl)) pa_nil))
      (blkOk_by (N := nStr) (sc := defScope sStr) (by decide +kernel)) (fun _ _ _ _ _ => pg_name (i := 5) scStr.nd rfl (Or.inl rfl)) (fun _ _ _ _ _ => pts_nil)
      (fun _ _ _ _ _ => pe_ix ix_str (pv 1) (pe_call G hr rfl mG kG bG .nil pass0 (pa_cons (pv 0) (pa_cons pe_int pa_nil))) (fun _ _ => rfl)))))
    (pss_cons (ps_set (i := 3) scStr.nd rfl (Or.inl rfl) (pe_call G hr rfl mG kG bG .nil pass0 (pa_cons (pv 0) (pa_cons (pe_op op_add (pe_callB call_len_str (by rfl) M.len PySem.boot_len (pa_cons (pv 2) pa_nil)) pe_int) pa_nil))))
    (pss_cons (ps_set (i := 4) scStr.nd rfl (Or.inl rfl) pe_str)
    (pss_cons (ps_if (pt_cmpR op_eq (pe_call G hr rfl mG kG bG .nil pass0 (pa_cons (pv 0) (pa_cons pe_int pa_nil))) pe_int (nomark _))
      (pss_one (ps_ret (pe_op op_add_str (pe_op op_add_str (pe_slice sl_str (pv 2) po_none (po_some (pv 3)))
          (pe_ix ix_str (pv 4) (pe_call G hr rfl mG kG bG .nil pass0 (pa_cons (pv 0) (pa_cons (pe_callB call_len_str (by rfl) M.len PySem.boot_len (pa_cons (pv 4) pa_nil)) pa_nil))) (fun _ _ => rfl)))
        (pe_slice sl_str (pv 2) (po_some (pe_op op_add (pv 3) (pe_call G hr rfl mG kG bG .nil pass0 (pa_cons (pv 0) (pa_cons pe_int pa_nil))))) po_none)))) pss_nil)
    (pss_one (ps_ret (pv 2))))))), ?_⟩
  refine ⟨⟨_, rfl⟩, _, rfl, p, 8, rfl, hb, by decide, by decide, fun r1 H1 r1a r1b b1 s1 => ⟨(by show 5 ≤ sizeLine; decide), fun l hl => ?_⟩⟩
  have bl : Bx (upd H1 l (.lst [.int 0, .int 1, .int 8, .int 9, .int r1])) p := b1.new hl
  refine ⟨_, rfl, p, 5, rfl, bl, by decide, by decide, fun r2 H2 r2a r2b b2 s2 => ?_⟩
  obtain ⟨m, hm, hat⟩ := pickI (xs := [0, 1, 8, 9, r1]) (i := r2) r2a (by simpa using r2b)
  have hm0 : 0 ≤ m ∧ m ≤ 9 := by simp at hm; omega
  refine ⟨l, _, _, _, rfl, rfl, SqL.of (s2 l _ (b1.ne hl) upd_same), hat, m, rfl, by omega, by omega, fun D hD => ?_⟩
  have nD : D ≠ p := b2.ne hD
  have sH2 : Sx p H H2 := s1.trans ((Sx.new hl).trans s2)
  refine lc_range (lo := 0) (n := m.toNat) (fun i J => Bx J p ∧ Sx p H J ∧ ∃ ys : List Str, J D = some (.lst (ys.map V.str)) ∧ ys.length = i ∧ ∀ y, y ∈ ys → Ss 1 y)
    ⟨b2.new hD, sH2.trans (Sx.new hD), [], upd_same, rfl, fun _ z => nomatch z⟩ ?_ ?_
  · rintro i J hi ⟨bJ, sJ, ys, eD, hy, hs⟩
    refine ⟨rfl, _, rfl, _, rfl, p, 26, rfl, bJ, by decide, by decide, fun r J1 ra rb bJ1 sJ1 => ?_⟩
    obtain ⟨j, c, hc1, hc2, _, hc3⟩ := pick (xs := (Str.ofString "abcdefghijklmnopqrstuvwxyz").cps.toList) (i := r) ra (by rw [show (Str.ofString "abcdefghijklmnopqrstuvwxyz").cps.toList.length = 26 by decide +kernel]; exact rb)
    have hc : c < 1114112 := (show ∀ c ∈ (Str.ofString "abcdefghijklmnopqrstuvwxyz").cps.toList, c < 1114112 by decide +kernel) c hc2
    refine ⟨_, r, c, rfl, rfl, by decide +kernel, hc3, ys.map V.str, sJ1 D _ nD eD, ?_, bJ1.at_ne nD, ?_, ys ++ [⟨#[c]⟩], ?_, ?_, ?_⟩
    · rw [List.length_map, hy]; exact small1000 (by omega)
    · intro b o hb e
      rw [upd_ne (ne_of_none e (sH2.free b2 hD))]
      exact sJ1 b o hb (sJ b o hb e)
    · rw [upd_same, List.map_append]; rfl
    · simp [hy]
    · intro y hy'
      rcases List.mem_append.mp hy' with h1 | h1
      · exact hs y h1
      · rw [List.mem_singleton.mp h1]; exact Ss.sign hc
  · rintro J ⟨bJ, sJ, ys, eD, hy, hs⟩
    have z9 : ys.length * 1 ≤ 9 := by omega
    have hz : Ss 9 (Txt.join (Str.ofString "") ys) := (Ss.joinT hs).mono z9
    have hsum := Ss.sum hs
    refine ⟨_, D, ys, rfl, rfl, .inl (SqL.of eD), (by show _ + _ * 0 ≤ _; omega), ?_⟩
    have hl9 := hz.1
    generalize Txt.join (Str.ofString "") ys = z at hz hl9 ⊢
    have hsz : z.length ≤ sizeLine := Nat.le_trans hl9 (by decide)
    refine ⟨_, rfl, _, rfl, z, rfl, hsz, _, _, rfl, rfl, p, _, rfl, bJ, by omega, by omega, fun at_ J1 a0 a1 bJ1 sJ1 => ?_⟩
    refine ⟨_, rfl, p, 3, rfl, bJ1, by decide, by decide, fun r J2 ra rb bJ2 sJ2 => ⟨rfl, _, rfl, ?_⟩⟩
    have sJ2' : Sx p H J2 := sJ.trans (sJ1.trans sJ2)
    refine ite2 (fun c => ?_) (fun c => ?_)
    · refine ⟨_, rfl, _, rfl, at_, rfl, z, rfl, hsz, _, rfl, _, rfl, _, rfl, _, rfl, by decide +kernel, p, _, rfl, bJ2, (by decide +kernel), (by decide +kernel), fun r3 J3 ra3 rb3 bJ3 sJ3 => ?_⟩
      obtain ⟨j, c, hc1, hc2, _, hc3⟩ := pick (xs := (Str.ofString "ABCXYZ0189 _-.\u0040[`{~\n").cps.toList) (i := r3) ra3 rb3
      have hc : c < 1114112 := (show ∀ c ∈ (Str.ofString "ABCXYZ0189 _-.\u0040[`{~\n").cps.toList, c < 1114112 by decide +kernel) c hc2
      have k1 := hz.cut none (some at_)
      have k2 := k1.app (Ss.sign hc)
      refine ⟨_, r3, c, rfl, rfl, by decide +kernel, hc3, _, _, rfl, rfl, Nat.le_trans (Nat.add_le_add k1.1 (Nat.le_refl 1)) (by decide), ?_⟩
      refine ⟨_, rfl, _, rfl, _, rfl, p, 2, rfl, bJ3, by decide, by decide, fun r4 J4 ra4 rb4 bJ4 sJ4 => ⟨_, _, rfl, rfl, _, rfl, z, rfl, hsz, _, _, rfl, rfl, ?_, ?_⟩⟩
      · exact Nat.le_trans (Nat.add_le_add k2.1 (hz.cut _ _).1) (by decide)
      · exact q _ _ ((k2.app (hz.cut _ _)).mono (by decide)) bJ4 (sJ2'.trans (sJ3.trans sJ4))
    · exact ⟨_, rfl, q _ _ (hz.mono (by decide)) bJ2 sJ2'⟩
end
end K1

set_option Elab.async false
set_option linter.all false
set_option maxRecDepth 100000
set_option maxHeartbeats 4000000
namespace K1
open PySem L2 KX
abbrev sVal : Stmt := top 24
abbrev nVal : List Str := ["box", "deep", "way", "inner", "k", "one"]
def Wt (n : Nat) : Nat := 100 * 5 ^ n
theorem wt_up (n : Nat) : 3 * (Wt n + 11) ≤ Wt (n + 1) := by
  have h : 1 ≤ 5 ^ n := Nat.one_le_pow _ _ (by decide)
  unfold Wt
  rw [Nat.pow_succ]
  omega
theorem wt_ge (n : Nat) : 100 ≤ Wt n := by
  have h : 1 ≤ 5 ^ n := Nat.one_le_pow _ _ (by decide)
  unfold Wt
  omega
def spVal (n : Nat) : Sp := fun vs H Q _ => ∃ p : Addr, vs = [.ref p, .int (n : Int)] ∧ Bx H p ∧ ∀ (v : V) H', Dd n (Wt n) (nw H H') v → (∀ z, v = .str z → Ss 20 z) → Bx H' p → Sx p H H' → Q v H'
def spVals : Nat → Sp
  | 0 => fun _ _ _ _ => False
  | n + 1 => spVal n
theorem Bx.nn {p : Addr} {H : Hp} (b : Bx H p) : H p ≠ none := by
  obtain ⟨b0, b1, b2, e, r⟩ := b
  rw [e]; exact fun z => nomatch z
/-- what was new stays, where only p changes -/
theorem nw_step {p : Addr} {H G J : Hp} (b : Bx H p) (s : Sx p G J) : Same (nw H G) (nw H J) := fun c o h => by
  obtain ⟨h1, h2⟩ := nw_some h
  rw [nw_at h1]
  exact s c o (fun z => b.nn (z ▸ h1)) h2
/-- what is new behind a later heap is new behind an earlier one -/
theorem nw_back {p : Addr} {H G J : Hp} (s : Sx p H G) (b : Bx G p) : Same (nw G J) (nw H J) := fun c o h => by
  obtain ⟨h1, h2⟩ := nw_some h
  rw [nw_at (s.free b h1)]
  exact h2
section
variable {P : Program} {w : World} {K : PySem.W.Frag} {mg : Str → Option Value} {base : Heap} {f g gs gv : Addr} {fd gd gsd gvd : FuncData}
theorem scVal : FnScope nVal ["box", "deep"] (defScope sVal) := ⟨rfl, rfl, rfl, by decide +kernel, rfl, by decide +kernel, by decide +kernel⟩
theorem ok_val (n : Nat) (F : Fun K "_law_value" "_law_value" sVal f fd) (M : Mn mg)
    (G : FnOk P w K mg base CX0 1 g gd ["box", "size"] spTake) (bG : Binds K gd ["box", "size"] []) (kG : PySem.W.keepIn K (.ref g) = true) (mG : mg "_law_take" = some (.ref g))
    (S : FnOk P w K mg base CX0 2 gs gsd ["box"] spStr) (bS : Binds K gsd ["box"] []) (kS : PySem.W.keepIn K (.ref gs) = true) (mS : mg "_law_string" = some (.ref gs))
    (R : FnOk P w K mg base CX0 (n + 2) gv gvd ["box", "deep"] (spVals n)) (bR : Binds K gvd ["box", "deep"] []) (kR : PySem.W.keepIn K (.ref gv) = true) (mR : mg "_law_value" = some (.ref gv)) :
    FnOk P w K mg base CX0 (n + 3) f fd ["box", "deep"] (spVal n) := by
  refine F.ok scVal (fun vs H Q E h => ?_) (fun cdv A outer s H vs Q E hr h => ?_)
  · obtain ⟨p, rfl, _⟩ := h
    rfl
  obtain ⟨p, rfl, hb, q⟩ := h
  have hr1 : Room 1 _ := hr.mono (by omega)
  have hr2 : Room 2 _ := hr.mono (by omega)
  refine ⟨_, pss_cons (ps_set (i := 2) scVal.nd rfl (Or.inl rfl) (pe_mo (pe_call G hr1 rfl mG kG bG .nil pass0 (pa_cons (pv 0) (pa_cons (pe_ifExp (pt_cmpR op_gt (pv 1) pe_int (nomark _)) pe_int pe_int) pa_nil)))))
    (pss_cons (ps_if (pt_cmpR op_lt (pv 2) pe_int (nomark _)) (pss_one (ps_ret (pe_call S hr2 rfl mS kS bS .nil pass0 (pa_cons (pv 0) pa_nil)))) pss_nil)
    (pss_cons (ps_if (pt_cmpR op_lt (pv 2) pe_int (nomark _)) (pss_one (ps_ret (pe_ix ix_list (pe_lst (pa_cons pe_int (pa_cons pe_int (pa_cons (pe_un un_neg pe_int) (pa_cons pe_int
        (pa_cons (pe_call G hr1 rfl mG kG bG .nil pass0 (pa_cons (pv 0) (pa_cons (pe_op op_pow pe_int pe_int) pa_nil)))
        (pa_cons (pe_op op_sub pe_int (pe_call G hr1 rfl mG kG bG .nil pass0 (pa_cons (pv 0) (pa_cons (pe_op op_pow pe_int pe_int) pa_nil)))) pa_nil)))))))
        (pe_call G hr1 rfl mG kG bG .nil pass0 (pa_cons (pv 0) (pa_cons pe_int pa_nil))) (fun _ _ => rfl)))) pss_nil)
    (pss_cons (ps_if (pt_cmpR op_eq (pv 2) pe_int (nomark _)) (pss_one (ps_ret (pe_ix ix_list (pe_lst (pa_cons pe_bl (pa_cons pe_bl (pa_cons pe_non (pa_cons pe_str (pa_cons pe_str pa_nil))))))
        (pe_call G hr1 rfl mG kG bG .nil pass0 (pa_cons (pv 0) (pa_cons pe_int pa_nil))) (fun _ _ => rfl)))) pss_nil)
    (pss_cons (ps_setLc (i := 3) (own := [("k", 4)]) (g := gName 4) (tt := tYes) rfl scVal.nd rfl rfl (sw_true rfl rfl rfl (by decide +kernel))
      (pi_range1 (by rfl) M.range (pa_cons (pe_call G hr1 rfl mG kG bG .nil pass0 (pa_cons (pv 0) (pa_cons pe_int pa_nil))) pa_nil))
      (blkOk_by (N := nVal) (sc := defScope sVal) (by decide +kernel)) (fun _ _ _ _ _ => pg_name (i := 4) scVal.nd rfl (Or.inl rfl)) (fun _ _ _ _ _ => pts_nil)
      (fun _ _ _ _ _ => pe_call R hr rfl mR kR bR .nil pass0 (pa_cons (pv 0) (pa_cons (pe_op op_sub (pv 1) pe_int) pa_nil))))
    (pss_one (ps_ret (pe_ix ix_list (pe_lst (pa_cons (pv 3) (pa_cons (pe_callTy call_tuple_of (by rfl) M.tuple (by decide +kernel) (pa_cons (pv 3) pa_nil))
      (pa_cons (pe_callTy (call_dictP rfl) (by rfl) M.dict (by decide +kernel) (pa_cons (pe_lc (own := [("k", 4), ("one", 5)]) (g := gTup _ 2 (gCons (gName 4) (gCons (gName 5) gNil))) (tt := tYes) rfl scVal.nd
        (pi_enum (by rfl) M.enum (pa_cons (pv 3) pa_nil)) (blkOk_by (N := nVal) (sc := defScope sVal) (by decide +kernel))
        (fun _ _ _ _ _ => pg_tup rfl (pgs_cons (pg_name (i := 4) scVal.nd rfl (Or.inl rfl)) (pgs_cons (pg_name (i := 5) scVal.nd rfl (Or.inl rfl)) pgs_nil))) (fun _ _ _ _ _ => pts_nil)
        (fun _ _ _ _ _ => pe_tup (pa_cons (pe_callTy call_str_int (by rfl) M.str (by decide +kernel) (pa_cons (pv 4) pa_nil)) (pa_cons (pv 5) pa_nil)))) pa_nil)) pa_nil))))
      (pe_op op_sub (pv 2) pe_int) (fun _ _ => rfl)))))))), ?_⟩
  refine ⟨fun x H1 => ∃ m : Int, x = .int m ∧ 0 ≤ m ∧ m < 8 ∧ (m < 5 ∨ 0 < n) ∧ Bx H1 p ∧ Sx p H H1, ⟨_, rfl, _, rfl, _, _, rfl, rfl, _, rfl, ite2 (fun c => ?_) (fun c => ?_)⟩, ?_⟩
  · have c' : (0 : Int) < (n : Int) := of_decide_eq_true c
    exact ⟨p, 8, rfl, hb, by decide, by decide, fun r H1 ra rb b1 s1 => ⟨r, rfl, ra, rb, .inr (by omega), b1, s1⟩⟩
  · exact ⟨p, 5, rfl, hb, by decide, by decide, fun r H1 ra rb b1 s1 => ⟨r, rfl, ra, by omega, .inl rb, b1, s1⟩⟩
  rintro _ H1 ⟨m, rfl, m0, m8, mn, b1, s1⟩
  have hw := wt_ge n
  refine ⟨_, rfl, _, _, rfl, rfl, _, rfl, ?_⟩
  refine ite2 (fun c => ?_) (fun c => ?_)
  · exact ⟨_, rfl, p, rfl, b1, fun z H2 hz b2 s2 => q _ _ ⟨.str z, .str z, (OkD.str hz).mono (Nat.zero_le _) (by omega)⟩ (fun _ e => V.str.inj e ▸ hz) b2 (s1.trans s2)⟩
  have c2 : ¬ m < 2 := of_decide_eq_false (Bool.eq_false_iff.mpr c)
  refine ⟨_, rfl, _, _, rfl, rfl, _, rfl, ?_⟩
  refine ite2 (fun c => ?_) (fun c => ?_)
  · refine ⟨_, rfl, _, rfl, _, _, rfl, rfl, ⟨by decide, by decide, by decide⟩, p, _, rfl, b1, by decide, by decide, fun r H2 ra rb b2 s2 => ?_⟩
    refine ⟨_, rfl, _, _, rfl, rfl, ⟨by decide, by decide, by decide⟩, p, _, rfl, b2, by decide, by decide, fun r' H3 ra' rb' b3 s3 => ?_⟩
    refine ⟨_, _, rfl, rfl, (by show 6 ≤ sizeLine; decide), fun l hl => ⟨_, rfl, p, 6, rfl, b3.new hl, by decide, by decide, fun r6 H4 ra6 rb6 b4 s4 => ?_⟩⟩
    have t29 : (10 : Int) ^ Int.toNat 29 = 100000000000000000000000000000 := by decide
    rw [t29] at rb rb'
    obtain ⟨x, hx, hat⟩ := pickI (xs := [0, 1, -1, 16, r, 0 - r']) (i := r6) ra6 (by simpa using rb6)
    refine ⟨l, _, _, _, rfl, rfl, SqL.of (s4 l _ (b3.ne hl) upd_same), hat, q _ _ ⟨.int x, .int x, (OkD.int ?_).mono (Nat.zero_le _) hw⟩ (fun _ e => nomatch e) b4 (s1.trans (s2.trans (s3.trans ((Sx.new hl).trans s4))))⟩
    simp only [List.mem_cons, List.not_mem_nil, or_false] at hx
    omega
  have c4 : ¬ m < 4 := of_decide_eq_false (Bool.eq_false_iff.mpr c)
  refine ⟨_, rfl, rfl, _, rfl, ?_⟩
  refine ite2 (fun c => ?_) (fun c => ?_)
  · refine ⟨(by show 5 ≤ sizeLine; decide), fun l hl => ⟨_, rfl, p, 5, rfl, b1.new hl, by decide, by decide, fun r6 H4 ra6 rb6 b4 s4 => ?_⟩⟩
    obtain ⟨_, x, _, hx, _, hat⟩ := pick (xs := [V.bl true, V.bl false, V.non, V.str (Str.ofString ""), V.str (Str.ofString "\n")]) (i := r6) ra6 (by simpa using rb6)
    refine ⟨l, _, _, _, rfl, rfl, SqL.of (s4 l _ (b1.ne hl) upd_same), hat, q _ _ ?_ (fun z e => ?_) b4 (s1.trans ((Sx.new hl).trans s4))⟩
    rotate_left
    · subst e
      simp only [List.mem_cons, List.not_mem_nil, or_false] at hx
      rcases hx with e | e | e | e | e
      · cases e
      · cases e
      · cases e
      · rw [V.str.inj e]; unfold Ss; decide +kernel
      · rw [V.str.inj e]; unfold Ss; decide +kernel
    simp only [List.mem_cons, List.not_mem_nil, or_false] at hx
    rcases hx with rfl | rfl | rfl | rfl | rfl
    · exact ⟨_, .bl true, (OkD.bool _).mono (Nat.zero_le _) (by omega)⟩
    · exact ⟨_, .bl false, (OkD.bool _).mono (Nat.zero_le _) (by omega)⟩
    · exact ⟨_, .non, OkD.none.mono (Nat.zero_le _) (by omega)⟩
    · exact ⟨_, .str _, (OkD.str (n := 1) (by unfold Ss; decide +kernel)).mono (Nat.zero_le _) (by omega)⟩
    · exact ⟨_, .str _, (OkD.str (n := 1) (by unfold Ss; decide +kernel)).mono (Nat.zero_le _) (by omega)⟩
  have c5 : ¬ m = 4 := fun e => c (by rw [e]; decide)
  obtain ⟨k, rfl⟩ : ∃ k, n = k + 1 := ⟨n - 1, by omega⟩
  refine ⟨_, rfl, p, 4, rfl, b1, by decide, by decide, fun r H2 ra rb b2 s2 => ⟨r, rfl, by omega, by omega, fun D hD => ?_⟩⟩
  have nD : D ≠ p := b2.ne hD
  have sH2 : Sx p H H2 := s1.trans s2
  have D0 : H D = none := sH2.free b2 hD
  let J0 : Hp := upd H2 D (.lst [])
  have bJ0 : Bx J0 p := b2.new hD
  have J0D : J0 D ≠ none := by show upd H2 D _ D ≠ none; rw [upd_same]; exact fun z => nomatch z
  refine lc_range (lo := 0) (n := r.toNat) (fun i J => Bx J p ∧ Sx p H2 J ∧ ∃ xs : List V, J D = some (.lst xs) ∧ xs.length = i ∧ ∀ v, v ∈ xs → Dd k (Wt k) (nw J0 J) v)
    ⟨bJ0, Sx.new hD, [], upd_same, rfl, fun _ z => nomatch z⟩ ?_ ?_
  · rintro i J hi ⟨bJ, sJ, xs, eD, hy, hs⟩
    refine ⟨rfl, _, rfl, _, rfl, _, _, rfl, rfl, p, (by show [V.ref p, V.int (((k + 1 : Nat) : Int) - 1)] = [V.ref p, V.int (k : Int)]; rw [show (((k + 1 : Nat) : Int) - 1) = (k : Int) by omega]), bJ, fun v J1 dv _ bJ1 sJ1 => ?_⟩
    refine ⟨xs, sJ1 D _ nD eD, by rw [hy]; exact small1000 (by omega), bJ1.at_ne nD, fun b o hb e => ?_, xs ++ [v], upd_same, by simp [hy], fun u hu => ?_⟩
    · rw [upd_ne (ne_of_none e hD)]
      exact sJ1 b o hb (sJ b o hb e)
    · have z1 : Same (nw J0 J1) (nw J0 (upd J1 D (.lst (xs ++ [v])))) := fun b o h => by
        obtain ⟨h1, h2⟩ := nw_some h
        rw [nw_at h1, upd_ne (fun z => J0D (by rw [← z]; exact h1))]
        exact h2
      rcases List.mem_append.mp hu with h1 | h1
      · exact (hs u h1).same ((nw_step bJ0 sJ1).trans z1)
      · rw [List.mem_singleton.mp h1]
        refine dv.same (Same.trans (fun b o h => ?_) z1)
        obtain ⟨h1, h2⟩ := nw_some h
        have nb : b ≠ D := fun z => by rw [z, eD] at h1; cases h1
        have h3 : H2 b = none := sJ.free bJ h1
        rw [nw_at (show J0 b = none by show upd H2 D _ b = none; rw [upd_ne nb]; exact h3)]
        exact h2
  · rintro J ⟨bJ, sJ, xs, eD, hy, hs⟩
    have hl3 : xs.length ≤ 3 := by omega
    refine ⟨_, rfl, _, rfl, D, xs, rfl, .inl ⟨SqL.of eD, fun t ht => ?_⟩⟩
    let Jt : Hp := upd J t (.tup xs)
    have sJt : Same J Jt := fun b o e => by show upd J t _ b = _; rw [upd_ne (ne_of_none e ht)]; exact e
    have bJt : Bx Jt p := bJ.new ht
    have eDt : Jt D = some (.lst xs) := sJt _ _ eD
    refine ⟨_, rfl, D, xs, rfl, SqL.of eDt, fun D2 hD2 => ?_⟩
    refine lc_it (walk_enum (xs := xs)) (fun i J' => Same Jt J' ∧ ∃ (ps : List Addr) (kvs : List (Key × V)), J' D2 = some (.lst (ps.map V.ref)) ∧ ps.length = i ∧ kvs.length = i ∧
        Paired (fun (c : Addr) (kv : Key × V) => J' c = some (.tup [kV kv.1, kv.2])) ps kvs ∧ ∀ kv, kv ∈ kvs → KeyS kv.1 ∧ kv.2 ∈ xs)
      ⟨fun b o e => by rw [upd_ne (ne_of_none e hD2)]; exact e, [], [], upd_same, rfl, rfl, .nil, fun _ z => nomatch z⟩ (fun i J' _ z => SqL.of (z.1 _ _ eDt)) ?_ ?_
    · rintro i x J' J1 hi ⟨sJ', ps, kvs, e2, l1, l2, pr, hk⟩ ⟨T, x1, y1, rfl, hT, rfl, g1, g2⟩
      cases g1
      refine ⟨T, _, rfl, SqT.of upd_same, rfl, _, _, rfl, _, _, rfl, rfl, rfl, _, rfl, _, rfl, ?_, _, rfl, (by show 2 ≤ sizeLine; decide), fun T2 hT2 => ?_⟩
      · have hi3 : i < 4 := by omega
        exact (show ∀ j : Fin 4, ((j.val : Nat) : Int).natAbs.log2 < 1920 by decide) ⟨i, hi3⟩
      have eD2 : (upd (upd J' T (.tup [.int (i : Nat), y1])) T2 (.tup [.str (toString ((i : Nat) : Int)), y1])) D2 = some (.lst (ps.map V.ref)) := by
        have n1 : D2 ≠ T := ne_of_none e2 hT
        have e3 : (upd J' T (.tup [.int (i : Nat), y1])) D2 = some (.lst (ps.map V.ref)) := by rw [upd_ne n1]; exact e2
        rw [upd_ne (ne_of_none e3 hT2)]; exact e3
      have sT : Same J' (upd (upd J' T (.tup [.int (i : Nat), y1])) T2 (.tup [.str (toString ((i : Nat) : Int)), y1])) := fun b o e => by
        have e3 : (upd J' T (.tup [.int (i : Nat), y1])) b = some o := by rw [upd_ne (ne_of_none e hT)]; exact e
        rw [upd_ne (ne_of_none e3 hT2)]; exact e3
      have nT2 : T2 ≠ D2 := fun z => by
        have e3 : (upd J' T (.tup [.int (i : Nat), y1])) D2 = some (.lst (ps.map V.ref)) := by rw [upd_ne (ne_of_none e2 hT)]; exact e2
        rw [z, e3] at hT2; cases hT2
      refine ⟨ps.map V.ref, eD2, by rw [List.length_map, l1]; exact small1000 (by omega), fun b o e => ?_, ps ++ [T2], kvs ++ [(Sum.inr (Str.ofString (toString ((i : Nat) : Int))), y1)], ?_, by simp [l1], by simp [l2], ?_, fun kv hkv => ?_⟩
      · have nb : b ≠ D2 := ne_of_none e hD2
        rw [upd_ne nb]
        exact sT b o (sJ' b o e)
      · rw [upd_same, List.map_append]; rfl
      · have pr2 := L2.Paired.mapP pr (G := fun (c : Addr) (kv : Key × V) => (upd (upd (upd J' T (.tup [.int (i : Nat), y1])) T2 (.tup [.str (toString ((i : Nat) : Int)), y1])) D2 (.lst (ps.map V.ref ++ [.ref T2]))) c = some (.tup [kV kv.1, kv.2])) fun c kv h => by
          have nc : c ≠ D2 := ne_of h e2 (by intro z; cases z)
          rw [upd_ne nc]; exact sT c _ h
        have app : ∀ {as : List Addr} {bs : List (Key × V)} {F : Addr → Key × V → Prop} {c : Addr} {kv : Key × V}, Paired F as bs → F c kv → Paired F (as ++ [c]) (bs ++ [kv]) := by
          intro as bs F c kv h hc
          induction h with
          | nil => exact .cons hc .nil
          | cons h1 _ ih => exact .cons h1 ih
        refine app pr2 ?_
        rw [upd_ne nT2, upd_same]
        rfl
      · rcases List.mem_append.mp hkv with h1 | h1
        · exact hk kv h1
        · rw [List.mem_singleton.mp h1]
          exact ⟨KeyS.num (by omega), List.mem_of_getElem? g2⟩
    · rintro J' ⟨sJ', ps, kvs, e2, l1, l2, pr, hk⟩
      refine ⟨D2, ps, kvs, rfl, SqL.of e2, L2.Paired.mapP pr fun c kv h => SqT.of h, fun d hd => ⟨(by show 3 ≤ sizeLine; decide), fun l hl => ⟨_, rfl, _, _, rfl, rfl, ?_⟩⟩⟩
      let J5 : Hp := upd (upd J' d (.dK (mergeK [] kvs))) l (.lst [.ref D, .ref t, .ref d])
      have sJd : Same J' (upd J' d (.dK (mergeK [] kvs))) := fun b o e => by rw [upd_ne (ne_of_none e hd)]; exact e
      have sJl : Same (upd J' d (.dK (mergeK [] kvs))) J5 := fun b o e => by show upd _ l _ b = _; rw [upd_ne (ne_of_none e hl)]; exact e
      have sJ5 : Same Jt J5 := sJ'.trans (sJd.trans sJl)
      have s5 : Sx p H J5 := sH2.trans (sJ.trans (Sx.of (sJt.trans sJ5)))
      have b5 : Bx J5 p := by
        obtain ⟨b0, b1', b2', e, z⟩ := bJt
        exact ⟨b0, b1', b2', sJ5 _ _ e, z⟩
      have fr : ∀ {c : Addr}, J c = none → H c = none := fun h => (sH2.trans sJ).free bJ h
      have v5 : ∀ v, v ∈ xs → Dd k (Wt k) (nw H J5) v := fun v hv => (hs v hv).same fun b o h => by
        obtain ⟨h1, h2⟩ := nw_some h
        have h3 : H b = none := (sH2.trans (Sx.new hD)).free bJ0 h1
        rw [nw_at h3]
        exact sJ5 _ _ (sJt _ _ h2)
      have eD5 : nw H J5 D = some (.lst xs) := by rw [nw_at D0]; exact sJ5 _ _ eDt
      have et5 : nw H J5 t = some (.tup xs) := by rw [nw_at (fr ht)]; exact sJ5 _ _ upd_same
      have ed5 : nw H J5 d = some (.dK (mergeK [] kvs)) := by
        have h0 : J d = none := sJt.free (sJ'.free hd)
        rw [nw_at (fr h0)]; exact sJl _ _ upd_same
      have mk := mergeK_all (p := fun kv => KeyS kv.1 ∧ Dd k (Wt k) (nw H J5) kv.2) (more := kvs) (kvs := []) (fun kv h => ⟨(hk kv h).1, v5 _ (hk kv h).2⟩) (fun _ z => nomatch z)
      have up := wt_up k
      have r1 : Dd (k + 1) (Wt (k + 1)) (nw H J5) (.ref D) := (Dd.lst eD5 hl3 v5).mono (Nat.le_refl _) (by omega)
      have r2 : Dd (k + 1) (Wt (k + 1)) (nw H J5) (.ref t) := (Dd.tup et5 hl3 v5).mono (Nat.le_refl _) (by omega)
      have r3 : Dd (k + 1) (Wt (k + 1)) (nw H J5) (.ref d) := (Dd.dct (m := 3) ed5 (by have := mk.2; simp at this; omega) mk.1).mono (Nat.le_refl _) (by omega)
      obtain ⟨_, x, _, hx, _, hat⟩ := pick (xs := [V.ref D, V.ref t, V.ref d]) (i := m - 5) (by omega) (by simp; omega)
      refine ⟨l, _, _, _, rfl, rfl, SqL.of upd_same, hat, q _ J5 ?_ (fun z e => ?_) b5 s5⟩
      rotate_left
      · subst e
        simp only [List.mem_cons, List.not_mem_nil, or_false] at hx
        rcases hx with e | e | e <;> cases e
      simp only [List.mem_cons, List.not_mem_nil, or_false] at hx
      rcases hx with rfl | rfl | rfl
      · exact r1
      · exact r2
      · exact r3
end
end K1

set_option Elab.async false
set_option linter.all false
set_option maxRecDepth 100000
set_option maxHeartbeats 4000000
namespace K1
open PySem L2 KX
abbrev sIsInt : Stmt := top 8
abbrev sIsName : Stmt := top 9
abbrev sLawName : Stmt := top 25
abbrev sAsked : Stmt := top 26
/-- the sign c lies from a to z, as both functions compare it -/
def sg (c : Nat) : Bool := if (!decide ((⟨#[c]⟩ : Str).cps.toList < (Str.ofString "a").cps.toList)) = true then !decide ((Str.ofString "z").cps.toList < (⟨#[c]⟩ : Str).cps.toList) else false
def nm (z : Str) : Bool := decide (1 ≤ z.length) && decide (z.length ≤ 8) && z.cps.toList.all sg
/-- what isinstance tells of a value -/
def Isi (K : PySem.W.Frag) (H : Hp) (v : V) (b1 b2 : Bool) : Prop := ∃ t, TyX K H v t ∧ PySem.W.kitOne K t (.type "int") = some b1 ∧ PySem.W.kitOne K t (.type "bool") = some b2
/-- a text, or no text -/
def Ist (K : PySem.W.Frag) (H : Hp) (v : V) (r : Bool) : Prop := (∃ z, v = .str z ∧ Ss 4000 z ∧ r = nm z) ∨ (r = false ∧ ∃ t, TyX K H v t ∧ PySem.W.kitOne K t (.type "str") = some false)
def spIsInt (K : PySem.W.Frag) : Sp := fun vs H Q _ => ∃ v b1 b2, vs = [v] ∧ Isi K H v b1 b2 ∧ Q (.bl (b1 && !b2)) H
def spIsName (K : PySem.W.Frag) : Sp := fun vs H Q _ => ∃ v r, vs = [v] ∧ Ist K H v r ∧ ∀ H', Same H H' → Q (.bl r) H'
section
variable {P : Program} {w : World} {K : PySem.W.Frag} {mg : Str → Option Value} {base : Heap} {f g gn : Addr} {fd gd gnd : FuncData}
theorem scIsInt : FnScope ["value"] ["value"] (defScope sIsInt) := ⟨rfl, rfl, rfl, by decide +kernel, rfl, by decide +kernel, by decide +kernel⟩
theorem ok_isint (F : Fun K "is_integer" "is_integer" sIsInt f fd) (M : Mn mg) : FnOk P w K mg base CX0 1 f fd ["value"] (spIsInt K) := by
  refine F.ok scIsInt (fun vs H Q E h => ?_) (fun cdv A outer s H vs Q E hr h => ?_)
  · obtain ⟨v, b1, b2, rfl, _⟩ := h
    rfl
  obtain ⟨v, b1, b2, rfl, ⟨t, ty, k1, k2⟩, q⟩ := h
  refine ⟨_, pss_one (ps_ret (pe_and (pe_callB call_isi (by rfl) M.isin (by decide +kernel) (pa_cons (pv 0) (pa_cons (pe_bltn (v := .ty "int") (by rfl) M.int (by decide +kernel) rfl) pa_nil)))
    (pe_one (pe_not (pe_callB call_isi (by rfl) M.isin (by decide +kernel) (pa_cons (pv 0) (pa_cons (pe_bltn (v := .ty "bool") (by rfl) M.bool (by decide +kernel) rfl) pa_nil))))))), ?_⟩
  refine ⟨_, rfl, v, .ty "int", t, .type "int", b1, rfl, .ty _, ty, k1, b1, rfl, ?_⟩
  cases b1 with
  | false => exact iteF q
  | true => exact iteT ⟨_, rfl, v, .ty "bool", t, .type "bool", b2, rfl, .ty _, ty, k2, b2, rfl, q⟩
theorem scIsName : FnScope ["value", "letter"] ["value"] (defScope sIsName) := ⟨rfl, rfl, rfl, by decide +kernel, rfl, by decide +kernel, by decide +kernel⟩
theorem ok_isname (F : Fun K "is_name" "is_name" sIsName f fd) (M : Mn mg) (mL : ∃ t, mg "_MOST_LETTERS" = some (.int 8 t)) : FnOk P w K mg base CX0 1 f fd ["value"] (spIsName K) := by
  refine F.ok scIsName (fun vs H Q E h => ?_) (fun cdv A outer s H vs Q E hr h => ?_)
  · obtain ⟨v, r, rfl, _⟩ := h
    rfl
  obtain ⟨v, r, rfl, hv, q⟩ := h
  obtain ⟨tok, mL⟩ := mL
  refine ⟨_, pss_cons (ps_if (pw_or (pt_not (pt_val (pe_callB call_isi (by rfl) M.isin (by decide +kernel) (pa_cons (pv 0) (pa_cons (pe_bltn (v := .ty "str") (by rfl) M.str (by decide +kernel) rfl) pa_nil)))))
      (pw_or1 (pt_not (pt_chain op_le op_le pe_int (pe_callB call_len_str (by rfl) M.len PySem.boot_len (pa_cons (pv 0) pa_nil)) (pe_glob (v := .int 8) (by rfl) mL ⟨_, rfl⟩))))).pt (pss_one (ps_ret pe_bl)) pss_nil)
    (pss_one (ps_ret (pe_callB (cr_all rfl) (by rfl) M.all (by decide +kernel) (pa_cons (pe_lc (own := [("letter", 1)]) (g := gName 1) (tt := tYes) rfl scIsName.nd (pi_str (pv 0))
      (blkOk_by (N := ["value", "letter"]) (sc := defScope sIsName) (by decide +kernel)) (fun _ _ _ _ _ => pg_name (i := 1) scIsName.nd rfl (Or.inl rfl)) (fun _ _ _ _ _ => pts_nil)
      (fun _ _ _ _ _ => pe_chain op_le_str op_le_str pe_str (pv 1) pe_str)) pa_nil)))), ?_⟩
  rcases hv with ⟨z, rfl, hz, rfl⟩ | ⟨rfl, t, ty, kt⟩
  · have hzs : z.length ≤ sizeLine := Nat.le_trans hz.1 (by decide)
    refine ⟨_, rfl, _, .ty "str", .type "str", .type "str", true, rfl, .ty _, .base (.str z), kit_ty (by decide +kernel), true, rfl, iteF ?_⟩
    refine ⟨_, rfl, z, rfl, hzs, _, _, rfl, rfl, _, rfl, ?_⟩
    refine ite2 (fun c1 => ⟨_, _, rfl, rfl, _, rfl, ite2 (fun c2 => ?_) (fun c2 => ?_)⟩) (fun c1 => ⟨_, rfl, iteT ?_⟩)
    · have e : nm z = false := by
        have c2' : ¬ (z.length : Int) ≤ 8 := of_decide_eq_false (by simpa using c2)
        unfold nm
        rw [decide_eq_false (show ¬ z.length ≤ 8 by omega)]
        simp
      rw [e] at q
      exact q H (Same.refl H)
    · have c2' : (z.length : Int) ≤ 8 := of_decide_eq_true (by simpa using c2)
      have c1' : (1 : Int) ≤ (z.length : Int) := of_decide_eq_true c1
      have e : nm z = z.cps.toList.all sg := by
        unfold nm
        rw [decide_eq_true (show 1 ≤ z.length by omega), decide_eq_true (show z.length ≤ 8 by omega)]
        rfl
      rw [e] at q
      refine ⟨_, rfl, z, rfl, fun D hD => ?_⟩
      refine lc_it (walk_str (z := z)) (fun i J => Same H J ∧ J D = some (.lst (((z.cps.toList.take i).map sg).map V.bl))) ⟨fun b o e => by rw [upd_ne (ne_of_none e hD)]; exact e, upd_same⟩ (fun _ _ _ _ => trivial) ?_ ?_
      · rintro i x Jz J hi ⟨sJ, eD⟩ ⟨rfl, c, hc, rfl⟩
        have hc' : z.cps.toList[i]? = some c := by simpa using hc
        have tk : z.cps.toList.take (i + 1) = z.cps.toList.take i ++ [c] := by
          rw [List.take_add_one, hc']; rfl
        have fin : ∀ b, b = sg c → ∃ acc, J D = some (.lst acc) ∧ acc.length < sizeLine ∧ Same H (upd J D (.lst (acc ++ [V.bl b]))) ∧ (upd J D (.lst (acc ++ [V.bl b]))) D = some (.lst (((z.cps.toList.take (i + 1)).map sg).map V.bl)) := fun b hb => by
          refine ⟨_, eD, ?_, fun b o e => by rw [upd_ne (ne_of_none e hD)]; exact sJ b o e, ?_⟩
          · rw [List.length_map, List.length_map, List.length_take]
            have : z.cps.toList.length = z.length := Array.length_toList
            exact small1000 (by omega)
          · rw [upd_same, tk, List.map_append, List.map_append, hb]; rfl
        refine ⟨rfl, _, rfl, _, _, rfl, rfl, _, rfl, ?_⟩
        refine ite2 (fun c1 => ⟨_, _, rfl, rfl, ?_⟩) (fun c1 => ?_)
        · exact fin _ (by unfold sg; rw [if_pos c1])
        · exact fin _ (by unfold sg; rw [if_neg c1])
      · rintro J ⟨sJ, eD⟩
        have hl : z.cps.toList.take z.cps.size = z.cps.toList := List.take_of_length_le (by rw [Array.length_toList]; exact Nat.le_refl _)
        rw [hl] at eD
        refine ⟨D, _, rfl, SqL.of eD, ?_⟩
        have e2 : (z.cps.toList.map sg).all id = z.cps.toList.all sg := by rw [List.all_map]; rfl
        rw [e2]
        exact q J sJ
    · have c1' : ¬ (1 : Int) ≤ (z.length : Int) := of_decide_eq_false (Bool.eq_false_iff.mpr c1)
      have e : nm z = false := by
        unfold nm
        rw [decide_eq_false (show ¬ 1 ≤ z.length by omega)]
        rfl
      rw [e] at q
      exact q H (Same.refl H)
  · refine ⟨_, rfl, v, .ty "str", t, .type "str", false, rfl, .ty _, ty, kt, false, rfl, iteT ?_⟩
    exact iteT (q H (Same.refl H))
end
end K1

set_option Elab.async false
set_option linter.all false
set_option maxRecDepth 100000
set_option maxHeartbeats 4000000
namespace K1
open PySem L2 KX
def chD (c : Nat) : PyData := .str ⟨#[c]⟩
theorem chD_lay : ∀ cs : List Nat, (∀ c, c ∈ cs → c < 1114112) → PyData.canLayAll0 (cs.map chD) = true ∧ PyData.depthAll (cs.map chD) = 0
  | [], _ => ⟨by simp [PyData.canLayAll0], by simp [PyData.depthAll]⟩
  | c :: cs, hc => by
    have h := chD_lay cs fun d hd => hc d (List.mem_cons_of_mem _ hd)
    have h0 := hc c List.mem_cons_self
    refine ⟨?_, ?_⟩
    · simp [PyData.canLayAll0, h.1, chD, PyData.canLay0, PyData.strOk, h0]
    · simp [PyData.depthAll, h.2, chD, PyData.depth]
theorem chD_shaped (cs : List Nat) (hc : ∀ c, c ∈ cs → c < 1114112) : SeqAt.shaped (.list (cs.map chD)) = true := by
  have h := chD_lay cs hc
  show (PyData.canLay0 (.list (cs.map chD)) && decide (PyData.depth (.list (cs.map chD)) ≤ 64)) = true
  simp [PyData.canLay0, PyData.depth, h.1, h.2]
theorem chD_dp {K : PySem.W.Frag} {H : Hp} : ∀ cs : List Nat, DpAll K H (cs.map fun c => V.str ⟨#[c]⟩) (cs.map chD)
  | [] => .nil
  | c :: cs => .cons (.str _) (chD_dp cs)
theorem chD_eqv (cs : List Nat) : PyData.eqv (.list (cs.map chD)) (.list []) = cs.isEmpty := by
  cases cs with
  | nil => simp [PyData.eqv, PyData.eqvAll]
  | cons c cs => simp [PyData.eqv, PyData.eqvAll]
theorem all_filter (p : Nat → Bool) : ∀ cs : List Nat, (cs.filter fun c => !p c).isEmpty = cs.all p
  | [] => rfl
  | c :: cs => by
    have h := all_filter p cs
    rw [List.filter_cons, List.all_cons]
    cases e : p c with
    | true => simpa using h
    | false => simp
def spAsked (K : PySem.W.Frag) : Sp := fun vs H Q _ => ∃ (way : Int) (v : V) (a : Addr) (b1 b2 r : Bool), vs = [.int way, v, .ref a] ∧ H a = some (.lst [.bl (b1 && !b2), .bl r]) ∧ Isi K H v b1 b2 ∧ Ist K H v r ∧ ∀ H', Same H H' → Q (.bl true) H'
section
variable {P : Program} {w : World} {K : PySem.W.Frag} {mg : Str → Option Value} {base : Heap} {f g gn : Addr} {fd gd gnd : FuncData}
theorem scLawName : FnScope ["thing", "sign"] ["thing"] (defScope sLawName) := ⟨rfl, rfl, rfl, by decide +kernel, rfl, by decide +kernel, by decide +kernel⟩
theorem ok_lawname (F : Fun K "_law_is_name" "_law_is_name" sLawName f fd) (M : Mn mg) : FnOk P w K mg base CX0 1 f fd ["thing"] (spIsName K) := by
  refine F.ok scLawName (fun vs H Q E h => ?_) (fun cdv A outer s H vs Q E hr h => ?_)
  · obtain ⟨v, r, rfl, _⟩ := h
    rfl
  obtain ⟨v, r, rfl, hv, q⟩ := h
  have hu := hr.units
  refine ⟨_, pss_cons (ps_if (pw_or (pt_not (pt_val (pe_callB call_isi (by rfl) M.isin (by decide +kernel) (pa_cons (pv 0) (pa_cons (pe_bltn (v := .ty "str") (by rfl) M.str (by decide +kernel) rfl) pa_nil)))))
      (pw_or (pt_cmpR op_lt (pe_callB call_len_str (by rfl) M.len PySem.boot_len (pa_cons (pv 0) pa_nil)) pe_int (nomark _))
      (pw_or1 (pt_cmpR op_gt (pe_callB call_len_str (by rfl) M.len PySem.boot_len (pa_cons (pv 0) pa_nil)) pe_int (nomark _))))).pt (pss_one (ps_ret pe_bl)) pss_nil)
    (pss_one (ps_ret (pe_cmpR (op_eqD hu) (pe_lc (own := [("sign", 1)]) (g := gName 1) rfl scLawName.nd (pi_str (pv 0))
      (blkOk_by (N := ["thing", "sign"]) (sc := defScope sLawName) (by decide +kernel)) (fun _ _ _ _ _ => pg_name (i := 1) scLawName.nd rfl (Or.inl rfl))
      (fun _ _ _ _ _ => pts_one (pt_not (pt_chain op_le_str op_le_str pe_str (pv 1) pe_str))) (fun _ _ _ _ _ => pv 1)) (pe_lst pa_nil) (nomark _)))), ?_⟩
  rcases hv with ⟨z, rfl, hz, rfl⟩ | ⟨rfl, t, ty, kt⟩
  · have hzs : z.length ≤ sizeLine := Nat.le_trans hz.1 (by decide)
    have off : ¬ (1 ≤ z.length ∧ z.length ≤ 8) → nm z = false := fun h => by
      unfold nm
      by_cases h1 : 1 ≤ z.length
      · rw [decide_eq_true h1, decide_eq_false (show ¬ z.length ≤ 8 by omega)]; rfl
      · rw [decide_eq_false h1]; rfl
    refine ⟨_, rfl, _, .ty "str", .type "str", .type "str", true, rfl, .ty _, .base (.str z), kit_ty (by decide +kernel), true, rfl, iteF ?_⟩
    refine ⟨_, rfl, z, rfl, hzs, _, _, rfl, rfl, _, rfl, ?_⟩
    refine ite2 (fun c1 => ?_) (fun c1 => ⟨_, rfl, z, rfl, hzs, _, _, rfl, rfl, _, rfl, ?_⟩)
    · have c1' : (z.length : Int) < 1 := of_decide_eq_true c1
      rw [off (by omega)] at q
      exact iteT (q H (Same.refl H))
    have c1' : ¬ (z.length : Int) < 1 := of_decide_eq_false (Bool.eq_false_iff.mpr c1)
    refine ite2 (fun c2 => ?_) (fun c2 => ?_)
    · have c2' : (8 : Int) < (z.length : Int) := of_decide_eq_true c2
      rw [off (by omega)] at q
      exact q H (Same.refl H)
    have c2' : ¬ (8 : Int) < (z.length : Int) := of_decide_eq_false (Bool.eq_false_iff.mpr c2)
    have e : nm z = (z.cps.toList.filter fun c => !sg c).isEmpty := by
      rw [all_filter]
      unfold nm
      rw [decide_eq_true (show 1 ≤ z.length by omega), decide_eq_true (show z.length ≤ 8 by omega)]
      rfl
    rw [e] at q
    refine ⟨_, rfl, z, rfl, fun D hD => ?_⟩
    refine lc_it (walk_str (z := z)) (fun i J => Same H J ∧ J D = some (.lst (((z.cps.toList.take i).filter fun c => !sg c).map fun c => V.str ⟨#[c]⟩))) ⟨fun b o e => by rw [upd_ne (ne_of_none e hD)]; exact e, upd_same⟩ (fun _ _ _ _ => trivial) ?_ ?_
    · rintro i x Jz J hi ⟨sJ, eD⟩ ⟨rfl, c, hc, rfl⟩
      have hc' : z.cps.toList[i]? = some c := by simpa using hc
      have tk : z.cps.toList.take (i + 1) = z.cps.toList.take i ++ [c] := by
        rw [List.take_add_one, hc']; rfl
      have fin : sg c = false → ∃ acc, J D = some (.lst acc) ∧ acc.length < sizeLine ∧ Same H (upd J D (.lst (acc ++ [V.str ⟨#[c]⟩]))) ∧
          (upd J D (.lst (acc ++ [V.str ⟨#[c]⟩]))) D = some (.lst (((z.cps.toList.take (i + 1)).filter fun c => !sg c).map fun c => V.str ⟨#[c]⟩)) := fun hb => by
        refine ⟨_, eD, ?_, fun b o e => by rw [upd_ne (ne_of_none e hD)]; exact sJ b o e, ?_⟩
        · rw [List.length_map]
          have h1 := List.length_filter_le (fun c => !sg c) (z.cps.toList.take i)
          rw [List.length_take] at h1
          have : z.cps.toList.length = z.length := Array.length_toList
          exact small1000 (by omega)
        · rw [upd_same, tk, List.filter_append, List.map_append]
          simp [hb]
      have skip : sg c = true → Same H J ∧ J D = some (.lst (((z.cps.toList.take (i + 1)).filter fun c => !sg c).map fun c => V.str ⟨#[c]⟩)) := fun hb => by
        refine ⟨sJ, ?_⟩
        rw [tk, List.filter_append, eD]
        simp [hb]
      refine ⟨rfl, _, rfl, _, _, rfl, rfl, _, rfl, ?_⟩
      refine ite2 (fun c1 => ⟨_, _, rfl, rfl, _, rfl, ?_⟩) (fun c1 => ⟨_, rfl, ?_⟩)
      · cases e2 : (decide ((Str.ofString "z").cps.toList < (⟨#[c]⟩ : Str).cps.toList)) with
        | true => exact ⟨_, rfl, fin (by unfold sg; rw [if_pos c1, e2]; rfl)⟩
        | false => exact skip (by unfold sg; rw [if_pos c1, e2]; rfl)
      · exact ⟨_, rfl, fin (by unfold sg; rw [if_neg c1])⟩
    · rintro J ⟨sJ, eD⟩
      have hl : z.cps.toList.take z.cps.size = z.cps.toList := List.take_of_length_le (by rw [Array.length_toList]; exact Nat.le_refl _)
      rw [hl] at eD
      refine ⟨(by show 0 ≤ sizeLine; decide), fun l hl => ?_⟩
      have nl : D ≠ l := ne_of_none eD hl
      refine ⟨.list ((z.cps.toList.filter fun c => !sg c).map chD), .list [], .lst (SqL.of (by rw [upd_ne nl]; exact eD)) (chD_dp _), .lst (SqL.of upd_same) .nil, chD_shaped _ fun c hc => hz.2 c (List.mem_filter.mp hc).1, chD_shaped [] (fun _ z => nomatch z), ?_⟩
      rw [chD_eqv]
      exact q _ fun b o e => by rw [upd_ne (ne_of_none (sJ b o e) hl)]; exact sJ b o e
  · refine ⟨_, rfl, v, .ty "str", t, .type "str", false, rfl, .ty _, ty, kt, false, rfl, iteT ?_⟩
    exact iteT (q H (Same.refl H))
theorem scAsked : FnScope ["way", "thing", "due"] ["way", "thing", "due"] (defScope sAsked) := ⟨rfl, rfl, rfl, by decide +kernel, rfl, by decide +kernel, by decide +kernel⟩
theorem ok_asked (F : Fun K "_law_asked_right" "_law_asked_right" sAsked f fd) (M : Mn mg)
    (G : FnOk P w K mg base CX0 1 g gd ["value"] (spIsInt K)) (bG : Binds K gd ["value"] []) (xG : KBinds K gd ["value"] ["value"] (fun us ws => us ++ ws) (fun us ws => us ++ ws)) (kG : PySem.W.keepIn K (.ref g) = true) (mG : mg "is_integer" = some (.ref g))
    (N : FnOk P w K mg base CX0 1 gn gnd ["value"] (spIsName K)) (bN : Binds K gnd ["value"] []) (xN : KBinds K gnd ["value"] ["value"] (fun us ws => us ++ ws) (fun us ws => us ++ ws)) (kN : PySem.W.keepIn K (.ref gn) = true) (mN : mg "is_name" = some (.ref gn)) :
    FnOk P w K mg base CX0 2 f fd ["way", "thing", "due"] (spAsked K) := by
  refine F.ok scAsked (fun vs H Q E h => ?_) (fun cdv A outer s H vs Q E hr h => ?_)
  · obtain ⟨way, v, a, b1, b2, r, rfl, _⟩ := h
    rfl
  obtain ⟨way, v, a, b1, b2, r, rfl, ha, hi, hn, q⟩ := h
  refine ⟨_, pss_cons (ps_if (pt_cmpR op_lt (pv 0) pe_int (nomark _)) (pss_one (ps_ret (pe_cmpR op_eq (pe_callB call_repr_b (by rfl) M.repr (by decide +kernel) (pa_cons
      (pe_ifExp (pt_cmpR op_eq (pv 0) pe_int (nomark _)) (pe_call G hr rfl mG kG bG .nil pass0 (pa_cons (pv 1) pa_nil)) (pe_kw0 G hr rfl mG kG xG pass0 (pk_cons (pv 1) pk_nil))) pa_nil))
      (pe_callB call_repr_b (by rfl) M.repr (by decide +kernel) (pa_cons (pe_ix ix_list (pv 2) pe_int (fun _ _ => rfl)) pa_nil)) (nomark _)))) pss_nil)
    (pss_one (ps_ret (pe_cmpR op_eq (pe_callB call_repr_b (by rfl) M.repr (by decide +kernel) (pa_cons
      (pe_ifExp (pt_cmpR op_eq (pv 0) pe_int (nomark _)) (pe_call N hr rfl mN kN bN .nil pass0 (pa_cons (pv 1) pa_nil)) (pe_kw0 N hr rfl mN kN xN pass0 (pk_cons (pv 1) pk_nil))) pa_nil))
      (pe_callB call_repr_b (by rfl) M.repr (by decide +kernel) (pa_cons (pe_ix ix_list (pv 2) pe_int (fun _ _ => rfl)) pa_nil)) (nomark _)))), ?_⟩
  refine ⟨_, rfl, _, _, rfl, rfl, _, rfl, ?_⟩
  have yes : ∀ {x : V} {G : Hp}, Same H G → Q (.bl (decide (x = x))) G := fun {x G} s => by rw [decide_eq_true rfl]; exact q G s
  refine ite2 (fun c => ?_) (fun c => ?_)
  · have rest : _ := And.intro (Eq.refl (scal (.str (PyData.bool (b1 && !b2)).shown) (.str (PyData.bool (b1 && !b2)).shown))) (yes (x := .str (PyData.bool (b1 && !b2)).shown) (Same.refl H))
    refine ⟨_, rfl, rfl, _, rfl, ?_⟩
    refine ite2 (fun c => ?_) (fun c => ?_)
    · exact ⟨_, rfl, v, b1, b2, rfl, hi, _, rfl, _, rfl, a, _, 0, _, rfl, rfl, SqL.of ha, rfl, _, rfl, rfl, yes (Same.refl H)⟩
    · exact ⟨_, rfl, v, b1, b2, rfl, hi, _, rfl, _, rfl, a, _, 0, _, rfl, rfl, SqL.of ha, rfl, _, rfl, rfl, yes (Same.refl H)⟩
  · refine ⟨_, rfl, rfl, _, rfl, ?_⟩
    refine ite2 (fun c => ?_) (fun c => ?_)
    · exact ⟨_, rfl, v, r, rfl, hn, fun G s => ⟨_, rfl, _, rfl, a, _, 1, _, rfl, rfl, SqL.of (s _ _ ha), rfl, _, rfl, rfl, yes s⟩⟩
    · exact ⟨_, rfl, v, r, rfl, hn, fun G s => ⟨_, rfl, _, rfl, a, _, 1, _, rfl, rfl, SqL.of (s _ _ ha), rfl, _, rfl, rfl, yes s⟩⟩
end
end K1

set_option Elab.async false
set_option linter.all false
set_option maxRecDepth 100000
set_option maxHeartbeats 4000000
namespace K1
open PySem L2 KX
abbrev sIsList : Stmt := top 10
abbrev sBelow : Stmt := top 11
abbrev sNumList : Stmt := top 12
abbrev sAreRows : Stmt := top 17
abbrev sWrong : Stmt := top 18
theorem TyX.same {K : PySem.W.Frag} {H G : Hp} (s : Same H G) {v : V} {t : Value} (h : TyX K H v t) : TyX K G v t := by
  cases h with
  | base b =>
    cases b with
    | non => exact .base .non
    | bl b => exact .base (.bl b)
    | int i => exact .base (.int i)
    | str x => exact .base (.str x)
    | flt x => exact .base (.flt x)
    | lst e => exact .base (.lst (s _ _ e))
    | frz e => exact .base (.frz (s _ _ e))
    | tup e => exact .base (.tup (s _ _ e))
    | dK e => exact .base (.dK (s _ _ e))
    | dT e => exact .base (.dT (s _ _ e))
    | ins e a b c d f => exact .base (.ins (s _ _ e) a b c d f)
  | byt b => exact .byt b
  | set e => exact .set (s _ _ e)
  | kList e c => exact .kList e c
  | kTuple e c => exact .kTuple e c
  | kDict e c => exact .kDict e c
  | fTuple e => exact .fTuple (s _ _ e)
  | fDict e => exact .fDict (s _ _ e)
theorem Isi.same {K : PySem.W.Frag} {H G : Hp} (s : Same H G) {v : V} {a b : Bool} (h : Isi K H v a b) : Isi K G v a b := let ⟨t, h1, h2, h3⟩ := h; ⟨t, TyX.same s h1, h2, h3⟩
theorem Same.tup {K : PySem.W.Frag} {H H' : Hp} {a : Addr} {xs : List V} (e : Same H H') (h : SqT K H a xs) : SqT K H' a xs := by
  rcases h with (h | ⟨o, h⟩) | h
  · exact .inl (.inl (e _ _ h))
  · exact .inl (.inr ⟨o, e _ _ h⟩)
  · exact .inr h
theorem Same.new {H : Hp} {p : Addr} (h : H p = none) (o : HO) : Same H (upd H p o) := fun b u e => by rw [upd_ne (ne_of_none e h)]; exact e
/-- a list or a tuple is to be read at v -/
def Sq (K : PySem.W.Frag) (H : Hp) (v : V) (xs : List V) : Prop := ∃ a, v = .ref a ∧ (SqL K H a xs ∨ SqT K H a xs)
theorem Sq.same {K : PySem.W.Frag} {H G : Hp} {v : V} {xs : List V} (s : Same H G) (h : Sq K H v xs) : Sq K G v xs := let ⟨a, e, h⟩ := h; ⟨a, e, h.imp (fun z => Same.seq s z) (fun z => Same.tup s z)⟩
theorem SqL.ty {K : PySem.W.Frag} {H : Hp} {a : Addr} {xs : List V} (h : SqL K H a xs) : TyX K H (.ref a) (.type "list") := by
  rcases h with (h | ⟨o, h⟩) | ⟨o, its, n, h, c, _⟩
  · exact .base (.lst h)
  · exact .base (.frz h)
  · exact .kList h c
theorem SqT.ty {K : PySem.W.Frag} {H : Hp} {a : Addr} {xs : List V} (h : SqT K H a xs) : TyX K H (.ref a) (.type "tuple") := by
  rcases h with (h | ⟨o, h⟩) | ⟨o, its, n, h, c, _⟩
  · exact .base (.tup h)
  · exact .fTuple h
  · exact .kTuple h c
theorem Sq.ty {K : PySem.W.Frag} {H : Hp} {v : V} {xs : List V} (h : Sq K H v xs) : ∃ t, TyX K H v t ∧ PySem.W.kitAny K t [.type "list", .type "tuple"] = some true := by
  obtain ⟨a, rfl, h | h⟩ := h
  · exact ⟨_, SqL.ty h, kitAny_cons (b := true) (kit_ty (by decide +kernel)) (fun z => nomatch z) fun _ => rfl⟩
  · exact ⟨_, SqT.ty h, kitAny_cons (b := false) (kit_ty (by decide +kernel)) (fun _ => kitAny_cons (b := true) (kit_ty (by decide +kernel)) (fun z => nomatch z) fun _ => rfl) fun z => nomatch z⟩
/-- no list and no tuple -/
def NoSq (K : PySem.W.Frag) (H : Hp) (v : V) : Prop := ∃ t, TyX K H v t ∧ PySem.W.kitAny K t [.type "list", .type "tuple"] = some false
theorem NoSq.same {K : PySem.W.Frag} {H G : Hp} {v : V} (s : Same H G) (h : NoSq K H v) : NoSq K G v := let ⟨t, a, b⟩ := h; ⟨t, TyX.same s a, b⟩
/-- an item: an int, or something that is_integer refuses -/
def Itm (K : PySem.W.Frag) (H : Hp) (v : V) : Prop := (∃ i, v = .int i) ∨ ((∀ i, v ≠ .int i) ∧ ∃ b1 b2, Isi K H v b1 b2 ∧ (b1 && !b2) = false)
theorem Itm.same {K : PySem.W.Frag} {H G : Hp} {v : V} (s : Same H G) (h : Itm K H v) : Itm K G v := h.imp id fun ⟨a, b1, b2, c, d⟩ => ⟨a, b1, b2, c.same s, d⟩
def nb (lim : Int) : V → Bool
  | .int i => decide (0 ≤ i) && decide (i < lim)
  | _ => false
def spIsList (K : PySem.W.Frag) : Sp := fun vs H Q _ => ∃ v lo hi, vs = [v, .int lo, .int hi] ∧
  ((∃ xs, Sq K H v xs ∧ ∀ H', Same H H' → Q (.bl (decide (lo ≤ (xs.length : Int)) && decide ((xs.length : Int) ≤ hi))) H') ∨ (NoSq K H v ∧ ∀ H', Same H H' → Q (.bl false) H'))
def spBelow (K : PySem.W.Frag) : Sp := fun vs H Q _ => ∃ v lim, vs = [v, .int lim] ∧ Itm K H v ∧ Q (.bl (nb lim v)) H
def spNumList (K : PySem.W.Frag) : Sp := fun vs H Q _ => ∃ v lo hi lim, vs = [v, .int lo, .int hi, .int lim] ∧
  ((∃ xs, Sq K H v xs ∧ (∀ x, x ∈ xs → Itm K H x) ∧ xs.length < 1000000 ∧ ∀ H', Same H H' → Q (.bl (decide (lo ≤ (xs.length : Int)) && decide ((xs.length : Int) ≤ hi) && xs.all (nb lim))) H') ∨ (NoSq K H v ∧ ∀ H', Same H H' → Q (.bl false) H'))
section
variable {P : Program} {w : World} {K : PySem.W.Frag} {mg : Str → Option Value} {base : Heap} {f g gn : Addr} {fd gd gnd : FuncData}
theorem scIsList : FnScope ["value", "least", "most"] ["value", "least", "most"] (defScope sIsList) := ⟨rfl, rfl, rfl, by decide +kernel, rfl, by decide +kernel, by decide +kernel⟩
theorem ok_islist (F : Fun K "is_list" "is_list" sIsList f fd) (M : Mn mg) : FnOk P w K mg base CX0 1 f fd ["value", "least", "most"] (spIsList K) := by
  refine F.ok scIsList (fun vs H Q E h => ?_) (fun cdv A outer s H vs Q E hr h => ?_)
  · obtain ⟨v, lo, hi, rfl, _⟩ := h
    rfl
  obtain ⟨v, lo, hi, rfl, h⟩ := h
  refine ⟨_, pss_one (ps_ret (pe_and (pe_callB call_isiT (by rfl) M.isin (by decide +kernel) (pa_cons (pv 0) (pa_cons (pe_tup (pa_cons (pe_bltn (v := .ty "list") (by rfl) M.list (by decide +kernel) rfl)
      (pa_cons (pe_bltn (v := .ty "tuple") (by rfl) M.tuple (by decide +kernel) rfl) pa_nil))) pa_nil)))
    (pe_one (pe_chain op_le op_le (pv 1) (pe_callB call_len_seq (by rfl) M.len PySem.boot_len (pa_cons (pv 0) pa_nil)) (pv 2))))), ?_⟩
  refine ⟨_, rfl, (by show 2 ≤ sizeLine; decide), fun tp htp => ?_⟩
  have ss := Same.new htp (.tup [V.ty "list", V.ty "tuple"])
  rcases h with ⟨xs, hs, q⟩ | ⟨hs, q⟩
  · obtain ⟨t, ty, kt⟩ := (hs.same ss).ty
    refine ⟨v, tp, _, t, _, true, rfl, upd_same, .cons (.ty _) (.cons (.ty _) .nil), ty, kt, true, rfl, iteT ?_⟩
    obtain ⟨a, rfl, hs2⟩ := hs.same ss
    refine ⟨_, rfl, _, rfl, a, xs, rfl, hs2, _, _, rfl, rfl, _, rfl, ?_⟩
    refine ite2 (fun c => ⟨_, rfl, _, _, rfl, rfl, ?_⟩) (fun c => ?_)
    · have q' := q _ ss
      rw [c] at q'
      exact q'
    · have q' := q _ ss
      rw [Bool.eq_false_iff.mpr c] at q'
      exact q'
  · obtain ⟨t, ty, kt⟩ := hs.same ss
    exact ⟨v, tp, _, t, _, false, rfl, upd_same, .cons (.ty _) (.cons (.ty _) .nil), ty, kt, false, rfl, iteF (q _ ss)⟩
theorem scBelow : FnScope ["value", "limit"] ["value", "limit"] (defScope sBelow) := ⟨rfl, rfl, rfl, by decide +kernel, rfl, by decide +kernel, by decide +kernel⟩
theorem ok_below (F : Fun K "is_number_below" "is_number_below" sBelow f fd) (G : FnOk P w K mg base CX0 1 g gd ["value"] (spIsInt K)) (bG : Binds K gd ["value"] []) (kG : PySem.W.keepIn K (.ref g) = true) (mG : mg "is_integer" = some (.ref g)) :
    FnOk P w K mg base CX0 2 f fd ["value", "limit"] (spBelow K) := by
  refine F.ok scBelow (fun vs H Q E h => ?_) (fun cdv A outer s H vs Q E hr h => ?_)
  · obtain ⟨v, lim, rfl, _⟩ := h
    rfl
  obtain ⟨v, lim, rfl, h, q⟩ := h
  refine ⟨_, pss_one (ps_ret (pe_and (pe_call G hr rfl mG kG bG .nil pass0 (pa_cons (pv 0) pa_nil)) (pe_one (pe_chain op_le op_lt pe_int (pv 0) (pv 1))))), ?_⟩
  rcases h with ⟨i, rfl⟩ | ⟨ni, b1, b2, hi, hb⟩
  · refine ⟨_, rfl, _, true, false, rfl, ⟨_, .base (.int i), kit_ty (by decide +kernel), kit_ty (by decide +kernel)⟩, true, rfl, iteT ⟨_, rfl, _, _, rfl, rfl, _, rfl, ?_⟩⟩
    refine ite2 (fun c => ⟨_, rfl, _, _, rfl, rfl, ?_⟩) (fun c => ?_)
    · have e : nb lim (.int i) = decide (i < lim) := by show (decide (0 ≤ i) && decide (i < lim)) = _; rw [c]; rfl
      rw [e] at q
      exact q
    · have e : nb lim (.int i) = false := by show (decide (0 ≤ i) && decide (i < lim)) = _; rw [Bool.eq_false_iff.mpr c]; rfl
      rw [e] at q
      exact q
  · refine ⟨_, rfl, v, b1, b2, rfl, hi, _, rfl, ?_⟩
    rw [hb]
    have e : nb lim v = false := by
      cases v with
      | int i => exact absurd rfl (ni i)
      | _ => rfl
    rw [e] at q
    exact iteF q
theorem scNumList : FnScope ["value", "least", "most", "limit", "item"] ["value", "least", "most", "limit"] (defScope sNumList) := ⟨rfl, rfl, rfl, by decide +kernel, rfl, by decide +kernel, by decide +kernel⟩
theorem ok_numlist (F : Fun K "is_number_list" "is_number_list" sNumList f fd) (M : Mn mg)
    (G : FnOk P w K mg base CX0 1 g gd ["value", "least", "most"] (spIsList K)) (bG : Binds K gd ["value", "least", "most"] []) (kG : PySem.W.keepIn K (.ref g) = true) (mG : mg "is_list" = some (.ref g))
    (N : FnOk P w K mg base CX0 2 gn gnd ["value", "limit"] (spBelow K)) (bN : Binds K gnd ["value", "limit"] []) (kN : PySem.W.keepIn K (.ref gn) = true) (mN : mg "is_number_below" = some (.ref gn)) :
    FnOk P w K mg base CX0 3 f fd ["value", "least", "most", "limit"] (spNumList K) := by
  refine F.ok scNumList (fun vs H Q E h => ?_) (fun cdv A outer s H vs Q E hr h => ?_)
  · obtain ⟨v, lo, hi, lim, rfl, _⟩ := h
    rfl
  obtain ⟨v, lo, hi, lim, rfl, h⟩ := h
  have hr1 : Room 1 _ := hr.mono (by decide)
  rcases h with ⟨xs, hs, ht, hz, q⟩ | ⟨hs, q⟩
  · -- a list or a tuple: the walk over it is one of two
    have key : ∀ (D : Addr) (G : Hp), Same H G → G D = none → ∀ (i : Nat) (J : Hp), (Same H J ∧ J D = some (.lst (((xs.take i).map (nb lim)).map V.bl))) → ∀ x, xs[i]? = some x → Itm K J x ∧
        ∃ acc, J D = some (.lst acc) ∧ acc.length < sizeLine ∧ (Same H (upd J D (.lst (acc ++ [V.bl (nb lim x)]))) ∧ (upd J D (.lst (acc ++ [V.bl (nb lim x)]))) D = some (.lst (((xs.take (i + 1)).map (nb lim)).map V.bl))) := by
      intro D G sG hD i J ⟨sJ, eD⟩ x hx
      have hD0 : H D = none := sG.free hD
      refine ⟨(ht x (List.mem_of_getElem? hx)).same sJ, _, eD, ?_, fun b o e => by rw [upd_ne (ne_of_none e hD0)]; exact sJ b o e, ?_⟩
      · rw [List.length_map, List.length_map, List.length_take, sizeLine_eq]; omega
      · rw [upd_same, List.take_add_one, hx, List.map_append, List.map_append]; rfl
    have fin : ∀ (D : Addr) (J : Hp), (Same H J ∧ J D = some (.lst (((xs.take xs.length).map (nb lim)).map V.bl))) → (decide (lo ≤ (xs.length : Int)) && decide ((xs.length : Int) ≤ hi)) = true → rAll K [.ref D] J Q := by
      intro D J ⟨sJ, eD⟩ hc
      rw [List.take_length] at eD
      refine ⟨D, _, rfl, SqL.of eD, ?_⟩
      have e2 : (xs.map (nb lim)).all id = xs.all (nb lim) := by rw [List.all_map]; rfl
      have q' := q J sJ
      rw [hc] at q'
      rw [e2]
      exact q'
    obtain ⟨a, rfl, hl | hl⟩ := id hs
    · refine ⟨_, pss_one (ps_ret (pe_and (pe_call G hr1 rfl mG kG bG .nil pass0 (pa_cons (pv 0) (pa_cons (pv 1) (pa_cons (pv 2) pa_nil))))
        (pe_one (pe_callB (cr_all rfl) (by rfl) M.all (by decide +kernel) (pa_cons (pe_lc (own := [("item", 4)]) (g := gName 4) (tt := tYes) rfl scNumList.nd (pi_list (pv 0))
          (blkOk_by (N := ["value", "least", "most", "limit", "item"]) (sc := defScope sNumList) (by decide +kernel)) (fun _ _ _ _ _ => pg_name (i := 4) scNumList.nd rfl (Or.inl rfl)) (fun _ _ _ _ _ => pts_nil)
          (fun _ _ _ _ _ => pe_call N hr rfl mN kN bN .nil pass0 (pa_cons (pv 4) (pa_cons (pv 3) pa_nil)))) pa_nil))))), ?_⟩
      refine ⟨_, rfl, _, rfl, _, rfl, _, lo, hi, rfl, .inl ⟨xs, hs, fun G sG => ⟨_, rfl, ite2 (fun c => ?_) (fun c => ?_)⟩⟩⟩
      · refine ⟨_, rfl, a, rfl, ⟨_, sG.seq hl⟩, fun D hD => lc_list (xs := xs) (fun i J => Same H J ∧ J D = some (.lst (((xs.take i).map (nb lim)).map V.bl)))
          ⟨fun b o e => by rw [upd_ne (ne_of_none (sG b o e) hD)]; exact sG b o e, upd_same⟩ (fun i J _ z => z.1.seq hl) (fun i x J hx z => ?_) fun J z => fin D J z c⟩
        obtain ⟨k1, k2⟩ := key D G sG hD i J z x hx
        exact ⟨rfl, _, rfl, _, rfl, x, lim, rfl, k1, k2⟩
      · have q' := q G sG
        rw [Bool.eq_false_iff.mpr c] at q'
        exact q'
    · refine ⟨_, pss_one (ps_ret (pe_and (pe_call G hr1 rfl mG kG bG .nil pass0 (pa_cons (pv 0) (pa_cons (pv 1) (pa_cons (pv 2) pa_nil))))
        (pe_one (pe_callB (cr_all rfl) (by rfl) M.all (by decide +kernel) (pa_cons (pe_lc (own := [("item", 4)]) (g := gName 4) (tt := tYes) rfl scNumList.nd (pi_tup (pv 0))
          (blkOk_by (N := ["value", "least", "most", "limit", "item"]) (sc := defScope sNumList) (by decide +kernel)) (fun _ _ _ _ _ => pg_name (i := 4) scNumList.nd rfl (Or.inl rfl)) (fun _ _ _ _ _ => pts_nil)
          (fun _ _ _ _ _ => pe_call N hr rfl mN kN bN .nil pass0 (pa_cons (pv 4) (pa_cons (pv 3) pa_nil)))) pa_nil))))), ?_⟩
      refine ⟨_, rfl, _, rfl, _, rfl, _, lo, hi, rfl, .inl ⟨xs, hs, fun G sG => ⟨_, rfl, ite2 (fun c => ?_) (fun c => ?_)⟩⟩⟩
      · refine ⟨_, rfl, a, rfl, ⟨_, Same.tup sG hl⟩, fun D hD => lc_tup (xs := xs) (fun i J => Same H J ∧ J D = some (.lst (((xs.take i).map (nb lim)).map V.bl)))
          ⟨fun b o e => by rw [upd_ne (ne_of_none (sG b o e) hD)]; exact sG b o e, upd_same⟩ (fun i J _ z => Same.tup z.1 hl) (fun i x J hx z => ?_) fun J z => fin D J z c⟩
        obtain ⟨k1, k2⟩ := key D G sG hD i J z x hx
        exact ⟨rfl, _, rfl, _, rfl, x, lim, rfl, k1, k2⟩
      · have q' := q G sG
        rw [Bool.eq_false_iff.mpr c] at q'
        exact q'
  · refine ⟨_, pss_one (ps_ret (pe_and (pe_call G hr1 rfl mG kG bG .nil pass0 (pa_cons (pv 0) (pa_cons (pv 1) (pa_cons (pv 2) pa_nil))))
        (pe_one (pe_callB (cr_all rfl) (by rfl) M.all (by decide +kernel) (pa_cons (pe_lc (own := [("item", 4)]) (g := gName 4) (tt := tYes) rfl scNumList.nd (pi_list (pv 0))
          (blkOk_by (N := ["value", "least", "most", "limit", "item"]) (sc := defScope sNumList) (by decide +kernel)) (fun _ _ _ _ _ => pg_name (i := 4) scNumList.nd rfl (Or.inl rfl)) (fun _ _ _ _ _ => pts_nil)
          (fun _ _ _ _ _ => pe_call N hr rfl mN kN bN .nil pass0 (pa_cons (pv 4) (pa_cons (pv 3) pa_nil)))) pa_nil))))), ?_⟩
    exact ⟨_, rfl, _, rfl, _, rfl, v, lo, hi, rfl, .inr ⟨hs, fun G sG => ⟨_, rfl, iteF (q G sG)⟩⟩⟩
end
end K1

set_option Elab.async false
set_option linter.all false
set_option maxRecDepth 100000
set_option maxHeartbeats 4000000
namespace K1
open PySem L2 KX
abbrev sInit : Stmt := inClass (top 15) 0
section
variable {X : Cx}
/-- what a for walks: a list or a tuple -/
def iSq (K : PySem.W.Frag) (tl : TE) : TI := fun σ H R => iList K tl σ H R ∨ iTup K tl σ H R
theorem pi_sq {tg l : Expr} {tl : TE} (h : PE X l tl) : PI X tg l (iSq X.K tl) := ⟨fun pins s σ H R I q => q.elim (fun z => (pi_list h).run pins s σ H R I z) fun z => (pi_tup h).run pins s σ H R I z⟩
theorem isq_of {K : PySem.W.Frag} {i : Nat} {σ : L2.St} {H : Hp} {v : V} {xs : List V} {R : It → Hp → Prop} (e : σ[i]? = some (some v)) (h : Sq K H v xs) (k : ∀ J, Walk J xs.length (Same H) (YAt xs) → R J H) : iSq K (tVar i) σ H R := by
  obtain ⟨a, rfl, h | h⟩ := h
  · exact .inl ⟨_, e, a, rfl, ⟨_, h⟩, k _ (walk_list.mono (fun G s => s.seq h) fun _ _ _ _ _ _ y => y)⟩
  · exact .inr ⟨_, e, a, rfl, ⟨_, h⟩, k _ (walk_tup.mono (fun G s => Same.tup s h) fun _ _ _ _ _ _ y => y)⟩
theorem rix_of {K : PySem.W.Frag} {H : Hp} {v x : V} {xs : List V} {z : Int} {i : Nat} {Q : VK} (h : Sq K H v xs) (ez : z = (i : Int)) (hx : xs[i]? = some x) (q : Q x H) : rIx K v (.int z) H Q := by
  obtain ⟨a, rfl, h | h⟩ := h
  · exact .inl ⟨a, xs, z, x, rfl, rfl, h, at_of ez hx, q⟩
  · exact .inr (.inl ⟨a, xs, z, x, rfl, rfl, h, at_of ez hx, q⟩)
theorem call_len_sq : CallR X (.builtin "len") (fun vs H Q => ∃ v xs, vs = [v] ∧ Sq X.K H v xs ∧ Q (.int xs.length) H) := by
  intro pins s σ H xs us Q I r h
  obtain ⟨v, ys, rfl, ⟨a, rfl, h⟩, q⟩ := h
  exact call_len_seq pins s σ H _ us Q I r ⟨a, ys, rfl, h, q⟩
end
/-- a row: a list or tuple of items, or neither -/
def RowD (K : PySem.W.Frag) (H : Hp) (x : V) : Option (List V) → Prop
  | some xs => Sq K H x xs ∧ (∀ y, y ∈ xs → Itm K H y) ∧ xs.length < 1000000
  | none => NoSq K H x
theorem RowD.same {K : PySem.W.Frag} {H G : Hp} (s : Same H G) {x : V} : ∀ {o : Option (List V)}, RowD K H x o → RowD K G x o
  | some xs, h => ⟨h.1.same s, fun y hy => (h.2.1 y hy).same s, h.2.2⟩
  | none, h => NoSq.same s h
def rb (n : Nat) : Option (List V) → Bool
  | some xs => decide ((n : Int) ≤ (xs.length : Int)) && decide ((xs.length : Int) ≤ (n : Int)) && xs.all (nb (n : Int))
  | none => false
def spAreRows (K : PySem.W.Frag) : Sp := fun vs H Q _ => ∃ v, vs = [v] ∧ ((NoSq K H v ∧ ∀ H', Same H H' → Q (.bl false) H') ∨
  ∃ rs os, Sq K H v rs ∧ Paired (RowD K H) rs os ∧ ∀ H', Same H H' → Q (.bl (decide ((1 : Int) ≤ (rs.length : Int)) && decide ((rs.length : Int) ≤ 16) && os.all (rb rs.length))) H')
theorem pair_at {α β : Type} {F : α → β → Prop} : ∀ {as : List α} {bs : List β} {i : Nat} {a : α}, Paired F as bs → as[i]? = some a → ∃ b, bs[i]? = some b ∧ F a b
  | _, _, _, _, .nil, e => by simp at e
  | _, _, 0, _, .cons h _, e => by simp at e; subst e; exact ⟨_, rfl, h⟩
  | _, _, i + 1, a, .cons _ t, e => by
    obtain ⟨b, h1, h2⟩ := pair_at (i := i) (a := a) t (by simpa using e)
    exact ⟨b, by simpa using h1, h2⟩
section
variable {P : Program} {w : World} {K : PySem.W.Frag} {mg : Str → Option Value} {base : Heap} {f g gn : Addr} {fd gd gnd : FuncData}
theorem scAreRows : FnScope ["rows", "size", "row"] ["rows"] (defScope sAreRows) := ⟨rfl, rfl, rfl, by decide +kernel, rfl, by decide +kernel, by decide +kernel⟩
theorem ok_arerows (F : Fun K "_are_rows" "_are_rows" sAreRows f fd) (M : Mn mg) (mL : ∃ t, mg "LARGEST_TABLE" = some (.int 16 t))
    (G : FnOk P w K mg base CX0 1 g gd ["value", "least", "most"] (spIsList K)) (bG : Binds K gd ["value", "least", "most"] []) (kG : PySem.W.keepIn K (.ref g) = true) (mG : mg "is_list" = some (.ref g))
    (N : FnOk P w K mg base CX0 3 gn gnd ["value", "least", "most", "limit"] (spNumList K)) (bN : Binds K gnd ["value", "least", "most", "limit"] []) (kN : PySem.W.keepIn K (.ref gn) = true) (mN : mg "is_number_list" = some (.ref gn)) :
    FnOk P w K mg base CX0 4 f fd ["rows"] (spAreRows K) := by
  refine F.ok scAreRows (fun vs H Q E h => ?_) (fun cdv A outer s H vs Q E hr h => ?_)
  · obtain ⟨v, rfl, _⟩ := h
    rfl
  obtain ⟨v, rfl, h⟩ := h
  obtain ⟨tok, mL⟩ := mL
  have hr1 : Room 1 _ := hr.mono (by decide)
  refine ⟨_, pss_cons (ps_if (pt_not (pt_val (pe_call G hr1 rfl mG kG bG .nil pass0 (pa_cons (pv 0) (pa_cons pe_int (pa_cons (pe_glob (v := .int 16) (by rfl) mL ⟨_, rfl⟩) pa_nil)))))) (pss_one (ps_ret pe_bl)) pss_nil)
    (pss_cons (ps_set (i := 1) scAreRows.nd rfl (Or.inr rfl) (pe_callB call_len_sq (by rfl) M.len PySem.boot_len (pa_cons (pv 0) pa_nil)))
    (pss_one (ps_ret (pe_callB (cr_all rfl) (by rfl) M.all (by decide +kernel) (pa_cons (pe_lc (own := [("row", 2)]) (g := gName 2) (tt := tYes) rfl scAreRows.nd (pi_sq (pv 0))
      (blkOk_by (N := ["rows", "size", "row"]) (sc := defScope sAreRows) (by decide +kernel)) (fun _ _ _ _ _ => pg_name (i := 2) scAreRows.nd rfl (Or.inl rfl)) (fun _ _ _ _ _ => pts_nil)
      (fun _ _ _ _ _ => pe_call N hr rfl mN kN bN .nil pass0 (pa_cons (pv 2) (pa_cons (pv 1) (pa_cons (pv 1) (pa_cons (pv 1) pa_nil)))))) pa_nil))))), ?_⟩
  rcases h with ⟨hs, q⟩ | ⟨rs, os, hs, pr, q⟩
  · exact ⟨_, rfl, v, 1, 16, rfl, .inr ⟨hs, fun J sJ => ⟨false, rfl, iteT (q J sJ)⟩⟩⟩
  · refine ⟨_, rfl, v, 1, 16, rfl, .inl ⟨rs, hs, fun J sJ => ⟨_, rfl, ?_⟩⟩⟩
    cases hc : (decide ((1 : Int) ≤ (rs.length : Int)) && decide ((rs.length : Int) ≤ 16)) with
    | false =>
      have q' := q J sJ
      rw [hc] at q'
      exact iteT q'
    | true =>
      have hl : rs.length ≤ 16 := by
        have := of_decide_eq_true (Bool.and_eq_true_iff.mp hc).2
        omega
      refine iteF ⟨_, rfl, v, rs, rfl, hs.same sJ, ?_⟩
      refine isq_of (v := v) rfl (hs.same sJ) fun It wk D hD => ?_
      refine lc_it wk (fun i J2 => Same J J2 ∧ J2 D = some (.lst (((os.take i).map (rb rs.length)).map V.bl))) ⟨fun b o e => by rw [upd_ne (ne_of_none e hD)]; exact e, upd_same⟩ (fun _ _ _ z => z.1) ?_ ?_
      · rintro i x Jz J2 hi ⟨s2, eD⟩ ⟨rfl, hx⟩
        obtain ⟨o, ho, hrow⟩ := pair_at pr hx
        have hrow' := hrow.same (sJ.trans s2)
        refine ⟨rfl, _, rfl, _, rfl, _, rfl, _, rfl, x, _, _, _, rfl, ?_⟩
        have fin : ∀ G2, Same J2 G2 → ∃ acc, G2 D = some (.lst acc) ∧ acc.length < sizeLine ∧ (Same J (upd G2 D (.lst (acc ++ [V.bl (rb rs.length o)]))) ∧ (upd G2 D (.lst (acc ++ [V.bl (rb rs.length o)]))) D = some (.lst (((os.take (i + 1)).map (rb rs.length)).map V.bl))) := fun G2 s3 => by
          refine ⟨_, s3 _ _ eD, ?_, fun b o e => by rw [upd_ne (ne_of_none e hD)]; exact s3 _ _ (s2 b o e), ?_⟩
          · rw [List.length_map, List.length_map, List.length_take, sizeLine_eq]; omega
          · rw [upd_same, List.take_add_one, ho, List.map_append, List.map_append]; rfl
        cases o with
        | none => exact .inr ⟨hrow', fun G2 s3 => fin G2 s3⟩
        | some xs => exact .inl ⟨xs, hrow'.1, hrow'.2.1, hrow'.2.2, fun G2 s3 => fin G2 s3⟩
      · rintro J2 ⟨s2, eD⟩
        have tk : os.take rs.length = os := by rw [show rs.length = os.length from pr.length]; exact List.take_length
        rw [tk] at eD
        refine ⟨D, _, rfl, SqL.of eD, ?_⟩
        have e2 : (os.map (rb rs.length)).all id = os.all (rb rs.length) := by rw [List.all_map]; rfl
        have q' := q J2 (sJ.trans s2)
        rw [hc] at q'
        rw [e2]
        exact q'
end
end K1

set_option Elab.async false
set_option linter.all false
set_option maxRecDepth 100000
set_option maxHeartbeats 4000000
namespace K1
open PySem L2 KX
/-- the product of a and b by the rows -/
def mu (tb : List (List Int)) (a b : Nat) : Int := (tb.getD a []).getD b 0
/-- a square of elements -/
structure Sqr (tb : List (List Int)) : Prop where
  le : 1 ≤ tb.length
  ge : tb.length ≤ 16
  row : ∀ r, r ∈ tb → r.length = tb.length
  el : ∀ a b, a < tb.length → b < tb.length → 0 ≤ mu tb a b ∧ mu tb a b < (tb.length : Int)
/-- (a*b)*c is a*(b*c) -/
def rt (tb : List (List Int)) (a b c : Nat) : Prop := mu tb (mu tb a b).toNat c = mu tb a (mu tb b c).toNat
/-- the rows tb are to be read at v -/
def Rws (K : PySem.W.Frag) (H : Hp) (v : V) (tb : List (List Int)) : Prop := ∃ rs, Sq K H v rs ∧ Paired (fun x row => Sq K H x (row.map V.int)) rs tb
theorem Rws.same {K : PySem.W.Frag} {H G : Hp} (s : Same H G) {v : V} {tb : List (List Int)} (h : Rws K H v tb) : Rws K G v tb :=
  let ⟨rs, a, b⟩ := h
  ⟨rs, a.same s, L2.Paired.mapP b fun _ _ z => z.same s⟩
theorem Rws.len {K : PySem.W.Frag} {H : Hp} {v : V} {tb : List (List Int)} {rs : List V} (b : Paired (fun x row => Sq K H x (row.map V.int)) rs tb) : rs.length = tb.length := b.length
/-- rows[i], then its item j -/
theorem Rws.at_ {K : PySem.W.Frag} {H : Hp} {v : V} {tb : List (List Int)} (h : Rws K H v tb) (S : Sqr tb) {i : Nat} (hi : i < tb.length) :
    ∃ rs x, Sq K H v rs ∧ rs[i]? = some x ∧ Sq K H x ((tb.getD i []).map V.int) ∧ ∀ j, j < tb.length → ((tb.getD i []).map V.int)[j]? = some (.int (mu tb i j)) := by
  obtain ⟨rs, a, b⟩ := h
  have hi' : i < rs.length := by rw [b.length]; exact hi
  obtain ⟨row, h1, h2⟩ := pair_at b (List.getElem?_eq_getElem hi')
  have e : tb.getD i [] = row := by rw [List.getD_eq_getElem?_getD, h1]; rfl
  refine ⟨rs, rs[i], a, List.getElem?_eq_getElem hi', by rw [e]; exact h2, fun j hj => ?_⟩
  have hr : row.length = tb.length := S.row row (List.mem_of_getElem? h1)
  unfold mu
  rw [e, List.getElem?_map, List.getElem?_eq_getElem (by omega), List.getD_eq_getElem?_getD, List.getElem?_eq_getElem (by omega)]
  rfl
def lexlt (x y : Nat × Nat × Nat) : Prop := x.1 < y.1 ∨ (x.1 = y.1 ∧ (x.2.1 < y.2.1 ∨ (x.2.1 = y.2.1 ∧ x.2.2 < y.2.2)))
def spWrong (K : PySem.W.Frag) : Sp := fun vs H Q _ => ∃ v tb, vs = [v] ∧ Rws K H v tb ∧ Sqr tb ∧
  ((∀ a b c, a < tb.length → b < tb.length → c < tb.length → rt tb a b c) → Q .non H) ∧
  (∀ a b c, a < tb.length → b < tb.length → c < tb.length → ¬ rt tb a b c →
    (∀ a' b' c', a' < tb.length → b' < tb.length → c' < tb.length → lexlt (a', b', c') (a, b, c) → rt tb a' b' c') → ∀ p, H p = none → Q (.ref p) (upd H p (.tup [.int a, .int b, .int c])))
/-- a product table stands at p -/
structure TbA (K : PySem.W.Frag) (C : Addr) (H : Hp) (p : Addr) (tb : List (List Int)) : Prop where
  ob : ∃ dx t rs, H p = some (.ins C dx [("_rows", .ref t)]) ∧ SqT K H t rs ∧ Paired (fun x row => ∃ r, x = V.ref r ∧ SqT K H r (row.map V.int)) rs tb
def spInit (K : PySem.W.Frag) (C : Addr) : Sp := fun vs H Q _ => ∃ p dx v tb, vs = [.ref p, v] ∧ H p = some (.ins C dx []) ∧ Rws K H v tb ∧ Sqr tb ∧ (∀ a b c, a < tb.length → b < tb.length → c < tb.length → rt tb a b c) ∧
  (∀ a, v = .ref a → a ≠ p) ∧ ∀ H', TbA K C H' p tb → (∀ b o, b ≠ p → H b = some o → H' b = some o) → Q .non H'
section
variable {P : Program} {w : World} {K : PySem.W.Frag} {mg : Str → Option Value} {base : Heap} {f g gn : Addr} {fd gd gnd : FuncData}
theorem scWrong : FnScope ["rows", "size", "a", "b", "c"] ["rows"] (defScope sWrong) := ⟨rfl, rfl, rfl, by decide +kernel, rfl, by decide +kernel, by decide +kernel⟩
theorem ok_wrong (F : Fun K "_first_wrong_triple" "_first_wrong_triple" sWrong f fd) (M : Mn mg) : FnOk P w K mg base CX0 1 f fd ["rows"] (spWrong K) := by
  refine F.ok scWrong (fun vs H Q E h => ?_) (fun cdv A outer s H vs Q E hr h => ?_)
  · obtain ⟨v, tb, rfl, _⟩ := h
    rfl
  obtain ⟨v, tb, rfl, hR, S, q1, q2⟩ := h
  have ix : ∀ {X : Cx}, IxR X (rIx X.K) := fun {X} => ix_seq
  refine ⟨_, pss_cons (ps_set (i := 1) scWrong.nd rfl (Or.inl rfl) (pe_callB call_len_sq (by rfl) M.len PySem.boot_len (pa_cons (pv 0) pa_nil)))
    (pss_cons (ps_for PassesOwn.never rfl (pi_range1 (by rfl) M.range (pa_cons (pv 1) pa_nil)) (pg_name (i := 2) scWrong.nd rfl (Or.inl rfl))
      (pss_one (ps_for PassesOwn.never rfl (pi_range1 (by rfl) M.range (pa_cons (pv 1) pa_nil)) (pg_name (i := 3) scWrong.nd rfl (Or.inl rfl))
        (pss_one (ps_for PassesOwn.never rfl (pi_range1 (by rfl) M.range (pa_cons (pv 1) pa_nil)) (pg_name (i := 4) scWrong.nd rfl (Or.inl rfl))
          (pss_one (ps_if (pt_cmpR op_ne (pe_ix ix_seq (pe_ix ix_seq (pv 0) (pe_ix ix_seq (pe_ix ix_seq (pv 0) (pv 2) (fun _ _ => rfl)) (pv 3) (fun _ _ => rfl)) (fun _ _ => rfl)) (pv 4) (fun _ _ => rfl))
            (pe_ix ix_seq (pe_ix ix_seq (pv 0) (pv 2) (fun _ _ => rfl)) (pe_ix ix_seq (pe_ix ix_seq (pv 0) (pv 3) (fun _ _ => rfl)) (pv 4) (fun _ _ => rfl)) (fun _ _ => rfl)) (nomark _))
            (pss_one (ps_ret (pe_tup (pa_cons (pv 2) (pa_cons (pv 3) (pa_cons (pv 4) pa_nil)))))) pss_nil)))))))
    (pss_one (ps_ret pe_non))), ?_⟩
  have n16 := S.ge
  obtain ⟨rs0, hs0, pr0⟩ := id hR
  have l0 : rs0.length = tb.length := pr0.length
  refine ⟨_, rfl, v, rs0, rfl, hs0, ?_⟩
  rw [l0]
  refine ⟨_, rfl, (tb.length : Int), rfl, by omega, by omega, ?_⟩
  refine for_range (lo := 0) (n := tb.length) (fun a σ J => H = J ∧ (∃ x y z, σ = [some v, some (.int tb.length), x, y, z]) ∧ ∀ a' b c, a' < a → b < tb.length → c < tb.length → rt tb a' b c)
    ⟨rfl, ⟨_, _, _, rfl⟩, fun _ _ _ z => absurd z (Nat.not_lt_zero _)⟩ ?_ ?_
  · rintro a _ _ ha ⟨rfl, ⟨x, y, z, rfl⟩, hA⟩
    refine ⟨_, rfl, (tb.length : Int), rfl, by omega, by omega, ?_⟩
    refine for_range (lo := 0) (n := tb.length) (fun b σ J => H = J ∧ (∃ y z, σ = [some v, some (.int tb.length), some (.int (0 + (a : Int))), y, z]) ∧ ∀ b' c, b' < b → c < tb.length → rt tb a b' c)
      ⟨rfl, ⟨_, _, rfl⟩, fun _ _ z => absurd z (Nat.not_lt_zero _)⟩ ?_ ?_
    · rintro b _ _ hb ⟨rfl, ⟨y, z, rfl⟩, hB⟩
      refine ⟨_, rfl, (tb.length : Int), rfl, by omega, by omega, ?_⟩
      refine for_range (lo := 0) (n := tb.length) (fun c σ J => H = J ∧ (∃ z, σ = [some v, some (.int tb.length), some (.int (0 + (a : Int))), some (.int (0 + (b : Int))), z]) ∧ ∀ c', c' < c → rt tb a b c')
        ⟨rfl, ⟨_, rfl⟩, fun _ z => absurd z (Nat.not_lt_zero _)⟩ ?_ ?_
      · rintro c _ _ hc ⟨rfl, ⟨z, rfl⟩, hC⟩
        obtain ⟨ra, xa, sa, ea, ta, ga⟩ := hR.at_ S ha
        obtain ⟨rb', xb, sb, eb, tb', gb⟩ := hR.at_ S hb
        have e1 := S.el a b ha hb
        have e2 := S.el b c hb hc
        obtain ⟨rm, xm, sm, em, tm, gm⟩ := hR.at_ S (i := (mu tb a b).toNat) (by omega)
        refine ⟨_, rfl, _, rfl, _, rfl, rix_of sa (by omega) ea ⟨_, rfl, rix_of ta (by omega) (ga b hb) (rix_of sm (by omega) em ⟨_, rfl, rix_of tm (by omega) (gm c hc) ?_⟩)⟩⟩
        refine ⟨_, rfl, _, rfl, rix_of sa (by omega) ea ⟨_, rfl, _, rfl, rix_of sb (by omega) eb ⟨_, rfl, rix_of tb' (by omega) (gb c hc) (rix_of ta (i := (mu tb b c).toNat) (by omega) (ga _ (by omega)) ⟨rfl, _, rfl, ?_⟩)⟩⟩⟩
        have ed : ∀ x y : Int, (!decide (V.int x = V.int y)) = true ↔ x ≠ y := fun x y => by
          rw [Bool.not_eq_true', decide_eq_false_iff_not]
          exact ⟨fun h e => h (by rw [e]), fun h e => h (V.int.inj e)⟩
        refine ite2 (fun k => ?_) (fun k => ?_)
        · have nr : ¬ rt tb a b c := (ed _ _).mp k
          refine ⟨_, rfl, _, rfl, _, rfl, (by show 3 ≤ sizeLine; decide), fun p hp => ?_⟩
          have q' := q2 a b c ha hb hc nr (fun a' b' c' h1 h2 h3 hl => by
            rcases hl with hl | ⟨rfl, hl | ⟨rfl, hl⟩⟩
            · exact hA a' b' c' hl h2 h3
            · exact hB b' c' hl h3
            · exact hC c' hl) p hp
          have z0 : ∀ n : Nat, (0 : Int) + (n : Int) = (n : Int) := fun n => Int.zero_add _
          rw [z0, z0, z0]
          exact q'
        · refine ⟨rfl, ⟨_, rfl⟩, fun c' hc' => ?_⟩
          rcases Nat.lt_succ_iff_lt_or_eq.mp hc' with h | rfl
          · exact hC c' h
          · exact Classical.byContradiction fun nr => k ((ed _ _).mpr nr)
      · rintro _ _ ⟨rfl, ⟨z, rfl⟩, hC⟩
        refine ⟨rfl, ⟨_, _, rfl⟩, fun b' c' h1 h2 => ?_⟩
        rcases Nat.lt_succ_iff_lt_or_eq.mp h1 with h | rfl
        · exact hB b' c' h h2
        · exact hC c' h2
    · rintro _ _ ⟨rfl, ⟨y, z, rfl⟩, hB⟩
      refine ⟨rfl, ⟨_, _, _, rfl⟩, fun a' b' c' h1 h2 h3 => ?_⟩
      rcases Nat.lt_succ_iff_lt_or_eq.mp h1 with h | rfl
      · exact hA a' b' c' h h2 h3
      · exact hB b' c' h2 h3
  · rintro _ _ ⟨rfl, ⟨x, y, z, rfl⟩, hA⟩
    exact q1 fun a b c h1 h2 h3 => hA a b c h1 h2 h3
end
end K1

set_option Elab.async false
set_option linter.all false
set_option maxRecDepth 100000
set_option maxHeartbeats 4000000
namespace K1
open PySem L2 KX
section
variable {X : Cx}
/-- x is not True, x an int or a truth value -/
theorem op_notIB : OpR X (compareOp .IsNot) (fun x y H Q => ∃ b : Bool, y = .bl b ∧ ((∃ a : Bool, x = .bl a ∧ Q (.bl (!decide (a = b))) H) ∨ (∃ i, x = .int i ∧ Q (.bl true) H))) := by
  intro pins s σ H x y v u Q I rx ry h
  obtain ⟨b, rfl, h⟩ := h
  cases (show u = Value.bool b from ry)
  rcases h with ⟨a, rfl, q⟩ | ⟨i, rfl, q⟩
  · cases (show v = Value.bool a from rx)
    by_cases e : a = b
    · subst e
      exact wpAny_isNot_self rfl ⟨.bl false, H, I, rfl, by simpa using q⟩
    · exact wpAny_isNot_other rfl (fun z => e (Value.bool.inj z)) ⟨.bl true, H, I, rfl, by simpa [e] using q⟩
  · obtain ⟨t, rfl⟩ := (show ∃ t, v = Value.int i t from rx)
    exact wpAny_isNot_other rfl (fun z => nomatch z) ⟨.bl true, H, I, rfl, q⟩
end
/-- tuple(x), the written part told -/
def rTpl (K : PySem.W.Frag) : List V → Hp → VK → Prop := fun xs H Q => ∃ (p : Addr) (ys : List V), xs = [.ref p] ∧ ((SqL K H p ys ∧ ∀ l, H l = none → Q (.ref l) (upd H l (.tup ys))) ∨ (SqT K H p ys ∧ Q (.ref p) H))
theorem ctuple {X : Cx} {K : PySem.W.Frag} (hK : X.K = K) : CallR X (.type "tuple") (rTpl K) := by
  subst hK
  exact call_tuple_of
/-- what the checks of a class's instances need of the class -/
structure CTx (K : PySem.W.Frag) (mg : Str → Option Value) (C : Addr) : Prop where
  cl : Cls K C
  nR : NoAttr K C "_rows"
  mgC : mg "ProductTable" = some (.ref C)
theorem pair_map {α β γ : Type} {F : α → β → Prop} {G : α → γ → Prop} {g : β → γ} : ∀ {as : List α} {bs : List β}, Paired F as bs → (∀ a b, b ∈ bs → F a b → G a (g b)) → Paired G as (bs.map g)
  | _, _, .nil, _ => .nil
  | _, _, .cons h t, k => .cons (k _ _ List.mem_cons_self h) (pair_map t fun a b m => k a b (List.mem_cons_of_mem _ m))
theorem SqT.upd {K : PySem.W.Frag} {H : Hp} {p r C dx : Addr} {fs : List (Str × V)} {xs : List V} {o : HO} (hp : H p = some (.ins C dx fs)) (h : SqT K H r xs) : SqT K (upd H p o) r xs := by
  rcases h with (h | ⟨ob, h⟩) | h
  · exact .inl (.inl (by rw [upd_ne (ne_of h hp (by intro z; cases z))]; exact h))
  · exact .inl (.inr ⟨ob, by rw [upd_ne (ne_of h hp (by intro z; cases z))]; exact h⟩)
  · exact .inr h
theorem rows_true {tb : List (List Int)} (S : Sqr tb) : (decide ((1 : Int) ≤ (tb.length : Int)) && decide ((tb.length : Int) ≤ 16) && (tb.map fun row => some (row.map V.int)).all (rb tb.length)) = true := by
  have h1 := S.le
  have h2 := S.ge
  rw [decide_eq_true (show (1 : Int) ≤ (tb.length : Int) by omega), decide_eq_true (show (tb.length : Int) ≤ 16 by omega)]
  rw [List.all_map]
  show (tb.all _) = true
  rw [List.all_eq_true]
  intro row hr
  obtain ⟨i, hi, rfl⟩ := List.mem_iff_getElem.mp hr
  have hl := S.row _ hr
  show (decide ((tb.length : Int) ≤ ((tb[i].map V.int).length : Int)) && decide (((tb[i].map V.int).length : Int) ≤ (tb.length : Int)) && (tb[i].map V.int).all (nb (tb.length : Int))) = true
  rw [List.length_map, hl, decide_eq_true (Int.le_refl _), Bool.true_and, Bool.true_and, List.all_map, List.all_eq_true]
  intro m hm
  obtain ⟨j, hj, rfl⟩ := List.mem_iff_getElem.mp hm
  have e := S.el i j hi (by omega)
  have em : mu tb i j = tb[i][j] := by
    unfold mu
    rw [List.getD_eq_getElem?_getD, List.getD_eq_getElem?_getD, List.getElem?_eq_getElem hi]
    show (tb[i][j]?).getD 0 = _
    rw [List.getElem?_eq_getElem hj]; rfl
  rw [em] at e
  show (decide (0 ≤ tb[i][j]) && decide (tb[i][j] < (tb.length : Int))) = true
  rw [decide_eq_true e.1, decide_eq_true e.2]; rfl
theorem rows_rowd {K : PySem.W.Frag} {H : Hp} {tb : List (List Int)} {rs : List V} (S : Sqr tb) (h : Paired (fun x row => Sq K H x (row.map V.int)) rs tb) : Paired (RowD K H) rs (tb.map fun row => some (row.map V.int)) :=
  pair_map h fun x row hm z => ⟨z, fun y hy => by obtain ⟨i, _, rfl⟩ := List.mem_map.mp hy; exact .inl ⟨i, rfl⟩, by
    have h1 := S.row row hm
    have h2 := S.ge
    rw [List.length_map]; omega⟩
section
variable {P : Program} {w : World} {K : PySem.W.Frag} {mg : Str → Option Value} {base : Heap} {f g gn : Addr} {fd gd gnd : FuncData}
theorem scInit : FnScope ["self", "rows", "triple", "row"] ["self", "rows"] (defScope sInit) := ⟨rfl, rfl, rfl, by decide +kernel, rfl, by decide +kernel, by decide +kernel⟩
theorem ok_init {C : Addr} (F : Fun K "__init__" "ProductTable.__init__" sInit f fd) (M : Mn mg) (T : CTx K mg C)
    (G : FnOk P w K mg base CX0 4 g gd ["rows"] (spAreRows K)) (bG : Binds K gd ["rows"] []) (kG : PySem.W.keepIn K (.ref g) = true) (mG : mg "_are_rows" = some (.ref g))
    (N : FnOk P w K mg base CX0 1 gn gnd ["rows"] (spWrong K)) (bN : Binds K gnd ["rows"] []) (kN : PySem.W.keepIn K (.ref gn) = true) (mN : mg "_first_wrong_triple" = some (.ref gn)) :
    FnOk P w K mg base CX0 5 f fd ["self", "rows"] (spInit K C) := by
  refine F.ok scInit (fun vs H Q E h => ?_) (fun cdv A outer s H vs Q E hr h => ?_)
  · obtain ⟨p, dx, v, tb, rfl, _⟩ := h
    rfl
  obtain ⟨p, dx, v, tb, rfl, hp, hR, S, as, _, q⟩ := h
  have hr1 : Room 1 _ := hr.mono (by decide)
  refine ⟨_, pss_cons (ps_if (pt_not (pt_val (pe_call G hr rfl mG kG bG .nil pass0 (pa_cons (pv 1) pa_nil)))) pss_dead pss_nil)
    (pss_cons (ps_set (i := 2) scInit.nd rfl (Or.inl rfl) (pe_call N hr1 rfl mN kN bN .nil pass0 (pa_cons (pv 1) pa_nil)))
    (pss_cons (ps_if (pt_cmp (pc_notN (pv 2))) pss_dead pss_nil)
    (pss_one (ps_fld (pv 0) (pe_callTy call_tuple_of (by rfl) M.tuple (by decide +kernel) (pa_cons (pe_lc (own := [("row", 3)]) (g := gName 3) (tt := tYes) rfl scInit.nd (pi_sq (pv 1))
      (blkOk_by (N := ["self", "rows", "triple", "row"]) (sc := defScope sInit) (by decide +kernel)) (fun _ _ _ _ _ => pg_name (i := 3) scInit.nd rfl (Or.inl rfl)) (fun _ _ _ _ _ => pts_nil)
      (fun _ _ _ _ _ => pe_callTy (T := "tuple") (ctuple (K := K) rfl) (by rfl) M.tuple (by decide +kernel) (pa_cons (pv 3) pa_nil))) pa_nil)) rfl)))), ?_⟩
  obtain ⟨rs, hs, pr⟩ := id hR
  have ln : rs.length = tb.length := pr.length
  refine ⟨_, rfl, v, rfl, .inr ⟨rs, _, hs, rows_rowd S pr, fun J sJ => ⟨_, rfl, ?_⟩⟩⟩
  rw [ln, rows_true S]
  refine iteF ⟨_, rfl, v, tb, rfl, hR.same sJ, S, fun _ => ?_, fun a b c ha hb hc n => absurd (as a b c ha hb hc) n⟩
  refine ⟨_, rfl, _, rfl, iteF ?_⟩
  refine isq_of (v := v) rfl (hs.same sJ) fun It wk D hD => ?_
  rw [ln] at wk
  refine lc_it wk (fun i J2 => Same J J2 ∧ ∃ ts : List Addr, J2 D = some (.lst (ts.map V.ref)) ∧ ts.length = i ∧ Paired (fun r row => SqT K J2 r (row.map V.int)) ts (tb.take i))
    ⟨fun b o e => by rw [upd_ne (ne_of_none e hD)]; exact e, [], upd_same, rfl, .nil⟩ (fun _ _ _ z => z.1) ?_ ?_
  · rintro i x Jz J2 hi ⟨s2, ts, eD, lt, pt⟩ ⟨rfl, hx⟩
    obtain ⟨row, hrow, hsq⟩ := pair_at pr hx
    have tk : tb.take (i + 1) = tb.take i ++ [row] := by rw [List.take_add_one, hrow]; rfl
    have n16 := S.ge
    have app : ∀ {as : List Addr} {bs : List (List Int)} {F : Addr → List Int → Prop} {c : Addr} {kv : List Int}, Paired F as bs → F c kv → Paired F (as ++ [c]) (bs ++ [kv]) := by
      intro as bs F c kv h hc
      induction h with
      | nil => exact .cons hc .nil
      | cons h1 _ ih => exact .cons h1 ih
    have fin : ∀ (r : Addr) (J3 : Hp), Same J2 J3 → SqT K J3 r (row.map V.int) → ∃ acc, J3 D = some (.lst acc) ∧ acc.length < sizeLine ∧ (Same J (upd J3 D (.lst (acc ++ [V.ref r]))) ∧
        ∃ ts' : List Addr, (upd J3 D (.lst (acc ++ [V.ref r]))) D = some (.lst (ts'.map V.ref)) ∧ ts'.length = i + 1 ∧ Paired (fun c row => SqT K (upd J3 D (.lst (acc ++ [V.ref r]))) c (row.map V.int)) ts' (tb.take (i + 1))) := fun r J3 s3 hr3 => by
      have keep : ∀ {c : Addr} {xs : List V} {acc : List V}, SqT K J3 c xs → SqT K (upd J3 D (.lst acc)) c xs := fun {c xs acc} h => by
        have e3 := s3 _ _ eD
        rcases h with (h | ⟨ob, h⟩) | h
        · exact .inl (.inl (by rw [upd_ne (ne_of h e3 (by intro z; cases z))]; exact h))
        · exact .inl (.inr ⟨ob, by rw [upd_ne (ne_of h e3 (by intro z; cases z))]; exact h⟩)
        · exact .inr h
      refine ⟨_, s3 _ _ eD, ?_, fun b o e => by rw [upd_ne (ne_of_none e hD)]; exact s3 _ _ (s2 b o e), ts ++ [r], ?_, by simp [lt], ?_⟩
      · rw [List.length_map, lt, sizeLine_eq]; omega
      · rw [upd_same, List.map_append]; rfl
      · rw [tk]
        exact app (L2.Paired.mapP pt fun c row' h => keep (Same.tup s3 h)) (keep hr3)
    obtain ⟨a, rfl, ha | ha⟩ := hsq.same (sJ.trans s2)
    · exact ⟨rfl, _, rfl, a, _, rfl, .inl ⟨ha, fun l hl => fin l _ (Same.new hl _) (SqT.of upd_same)⟩⟩
    · exact ⟨rfl, _, rfl, a, _, rfl, .inr ⟨ha, fin a J2 (Same.refl _) ha⟩⟩
  · rintro J2 ⟨s2, ts, eD, lt, pt⟩
    rw [List.take_of_length_le (Nat.le_refl _)] at pt
    refine ⟨D, _, rfl, .inl ⟨SqL.of eD, fun t ht => ?_⟩⟩
    have s3 : Same H (upd J2 t (.tup (ts.map V.ref))) := (sJ.trans s2).trans (Same.new ht _)
    refine ⟨_, rfl, p, C, dx, [], rfl, s3 _ _ hp, T.cl, T.nR, (by show 0 < 1000; decide), ?_⟩
    refine q _ ⟨dx, t, ts.map V.ref, upd_same, SqT.upd (s3 _ _ hp) (SqT.of upd_same), ?_⟩ fun b o hb e => by rw [upd_ne hb]; exact s3 _ _ e
    have h1 : Paired (fun r row => SqT K (upd (upd J2 t (.tup (ts.map V.ref))) p (.ins C dx [("_rows", .ref t)])) r (row.map V.int)) ts tb := L2.Paired.mapP pt fun c row h => SqT.upd (s3 _ _ hp) (Same.tup (Same.new ht _) h)
    have h2 : ∀ {as : List Addr} {bs : List (List Int)} {Fn : Addr → List Int → Prop}, Paired Fn as bs → Paired (fun x row => ∃ r, x = V.ref r ∧ Fn r row) (as.map V.ref) bs := by
      intro as bs Fn h
      induction h with
      | nil => exact .nil
      | cons h1 _ ih => exact .cons ⟨_, rfl, h1⟩ ih
    exact h2 h1
end
end K1

set_option Elab.async false
set_option linter.all false
set_option maxRecDepth 100000
set_option maxHeartbeats 4000000
namespace K1
open PySem L2 KX
abbrev sLaw : Stmt := top 27
abbrev nLaw : List Str := ["script", "k", "box", "turn", "thing", "stood", "is_number", "way", "hall"]
/-- what isinstance tells of a value that stands for data -/
theorem Dq.isi {K : PySem.W.Frag} {H : Hp} {v : V} {d : PyData} (h : Dq H v d) : ∃ b1 b2, Isi K H v b1 b2 ∧ (b1 = false ∨ (∃ i, v = .int i ∧ b1 = true ∧ b2 = false) ∨ ∃ b, v = .bl b ∧ b1 = true ∧ b2 = true) := by
  cases h with
  | non => exact ⟨false, false, ⟨_, .base .non, kit_ty (by decide +kernel), kit_ty (by decide +kernel)⟩, .inl rfl⟩
  | bl b => exact ⟨true, true, ⟨_, .base (.bl b), kit_ty (by decide +kernel), kit_ty (by decide +kernel)⟩, .inr (.inr ⟨b, rfl, rfl, rfl⟩)⟩
  | int i => exact ⟨true, false, ⟨_, .base (.int i), kit_ty (by decide +kernel), kit_ty (by decide +kernel)⟩, .inr (.inl ⟨i, rfl, rfl, rfl⟩)⟩
  | str x => exact ⟨false, false, ⟨_, .base (.str x), kit_ty (by decide +kernel), kit_ty (by decide +kernel)⟩, .inl rfl⟩
  | lst e _ => exact ⟨false, false, ⟨_, .base (.lst e), kit_ty (by decide +kernel), kit_ty (by decide +kernel)⟩, .inl rfl⟩
  | tup e _ => exact ⟨false, false, ⟨_, .base (.tup e), kit_ty (by decide +kernel), kit_ty (by decide +kernel)⟩, .inl rfl⟩
  | dct e _ => exact ⟨false, false, ⟨_, .base (.dK e), kit_ty (by decide +kernel), kit_ty (by decide +kernel)⟩, .inl rfl⟩
theorem Dq.ist {K : PySem.W.Frag} {H : Hp} {v : V} {d : PyData} (h : Dq H v d) (hz : ∀ z, v = .str z → Ss 4000 z) : ∃ r, Ist K H v r := by
  cases h with
  | non => exact ⟨false, .inr ⟨rfl, _, .base .non, kit_ty (by decide +kernel)⟩⟩
  | bl b => exact ⟨false, .inr ⟨rfl, _, .base (.bl b), kit_ty (by decide +kernel)⟩⟩
  | int i => exact ⟨false, .inr ⟨rfl, _, .base (.int i), kit_ty (by decide +kernel)⟩⟩
  | str x => exact ⟨nm x, .inl ⟨x, rfl, hz x rfl, rfl⟩⟩
  | lst e _ => exact ⟨false, .inr ⟨rfl, _, .base (.lst e), kit_ty (by decide +kernel)⟩⟩
  | tup e _ => exact ⟨false, .inr ⟨rfl, _, .base (.tup e), kit_ty (by decide +kernel)⟩⟩
  | dct e _ => exact ⟨false, .inr ⟨rfl, _, .base (.dK e), kit_ty (by decide +kernel)⟩⟩
theorem Ist.same {K : PySem.W.Frag} {H G : Hp} (s : Same H G) {v : V} {r : Bool} (h : Ist K H v r) : Ist K G v r := h.imp id fun ⟨e, t, a, b⟩ => ⟨e, t, TyX.same s a, b⟩
theorem kit_own {K : PySem.W.Frag} {C : Addr} {T : String} {b : Bool} (hm : PySem.W.kitMeta T = true) (h : PySem.W.subIn K (.ref C) (.type T) = some b) : PySem.W.kitOne K (.ref C) (.type T) = some b := by
  have e : ((Value.ref C) == (Value.type T)) = false := rfl
  unfold PySem.W.kitOne
  rw [e]
  show (if PySem.W.kitMeta T = true then PySem.W.subIn K (.ref C) (.type T) else none) = some b
  rw [if_pos hm]
  exact h
/-- what isinstance needs of the class, and what it tells -/
structure CTy (K : PySem.W.Frag) (C : Addr) : Prop where
  ha : PySem.W.findIn K (.ref C) "__class__" = some (some (.builtin "object.__class__"))
  hn : PySem.W.specialIn K (.builtin "object.__class__") "__get__" = some (some (.builtin "getset_descriptor.__get__"))
  htk : PySem.W.takesIn K (.builtin "object.__class__") = some true
  hm : PySem.W.mroIn K C (.type "object") = some true
  ki : PySem.W.kitOne K (.ref C) (.type "int") = some false
  kb : PySem.W.kitOne K (.ref C) (.type "bool") = some false
  ks : PySem.W.kitOne K (.ref C) (.type "str") = some false
def spLaw (K : PySem.W.Frag) : Sp := fun vs H Q _ => ∃ (a : Addr) (ns : List Int), vs = [.ref a] ∧ SqL K H a (ns.map V.int) ∧ ns.length ≤ 63 ∧ ∀ H', Q (.bl true) H'
theorem Bx.same {p : Addr} {H G : Hp} (b : Bx H p) (s : Same H G) : Bx G p := by
  obtain ⟨b0, b1, b2, e, r⟩ := b
  exact ⟨b0, b1, b2, s _ _ e, r⟩
section
variable {P : Program} {w : World} {K : PySem.W.Frag} {mg : Str → Option Value} {base : Heap} {f fC fB fV fA fN fI fi fn C : Addr} {fd dC dB dV dA dN dI di dn : FuncData}
theorem scLaw : FnScope nLaw ["script"] (defScope sLaw) := ⟨rfl, rfl, rfl, by decide +kernel, rfl, by decide +kernel, by decide +kernel⟩
theorem ok_law (F : Fun K "law" "law" sLaw f fd) (M : Mn mg) (T : CTx K mg C) (Y : CTy K C) (hS : ∃ o, base.get? sysModules = some o)
    (GC : FnOk P w K mg base CX0 1 fC dC ["script", "k"] (spCell K)) (bC : Binds K dC ["script", "k"] []) (kC : PySem.W.keepIn K (.ref fC) = true) (mC : mg "_law_cell" = some (.ref fC))
    (GB : FnOk P w K mg base CX0 1 fB dB ["cell"] spBox) (bB : Binds K dB ["cell"] []) (kB : PySem.W.keepIn K (.ref fB) = true) (mB : mg "_law_box" = some (.ref fB))
    (GV : FnOk P w K mg base CX0 5 fV dV ["box", "deep"] (spVal 2)) (bV : Binds K dV ["box", "deep"] []) (kV : PySem.W.keepIn K (.ref fV) = true) (mV : mg "_law_value" = some (.ref fV))
    (GA : FnOk P w K mg base CX0 2 fA dA ["way", "thing", "due"] (spAsked K)) (bA : Binds K dA ["way", "thing", "due"] []) (kA : PySem.W.keepIn K (.ref fA) = true) (mA : mg "_law_asked_right" = some (.ref fA))
    (GN : FnOk P w K mg base CX0 1 fN dN ["thing"] (spIsName K)) (bN : Binds K dN ["thing"] []) (kN : PySem.W.keepIn K (.ref fN) = true) (mN : mg "_law_is_name" = some (.ref fN))
    (MI : Mk K C fI) (GI : FnOk P w K mg base CX0 5 fI dI ["self", "rows"] (spInit K C)) (bI : Binds K dI ["self", "rows"] [])
    (Gi : FnOk P w K mg base CX0 1 fi di ["value"] (spIsInt K)) (bi : Binds K di ["value"] []) (ki : PySem.W.keepIn K (.ref fi) = true) (mi : mg "is_integer" = some (.ref fi))
    (Gn : FnOk P w K mg base CX0 1 fn dn ["value"] (spIsName K)) (xn : KBinds K dn ["value"] ["value"] (fun us ws => us ++ ws) (fun us ws => us ++ ws)) (kn : PySem.W.keepIn K (.ref fn) = true) (mn : mg "is_name" = some (.ref fn)) :
    GOk P w K mg base CX0 7 f fd ["script"] (spLaw K) := by
  refine gok F scLaw (fun vs H Q E h => ?_) (fun cdv A outer s H vs Q E hr hA h => ?_)
  · obtain ⟨a, ns, rfl, _⟩ := h
    rfl
  obtain ⟨a, ns, rfl, hN, h63, q⟩ := h
  have hr1 : Room 1 _ := hr.mono (by decide)
  have hr2 : Room 2 _ := hr.mono (by decide)
  have hr5 : Room 5 _ := hr.mono (by decide)
  have hu := hr.units
  have rp := fun {X : Cx} (h1 : X.base = base) (h2 : X.A = (A.deeper (PyProof.Rows.envOfC "law" (defScope sLaw) s.heap.objs.size f cdv))) => @call_repr_q X (by rw [h1]; exact hS) (by rw [h2]; exact hA) (by rw [h2]; exact hu)
  refine ⟨_, pss_cons (ps_for PassesOwn.never rfl (pi_range1 (by rfl) M.range (pa_cons (pe_callB (call_max2 rfl) (by rfl) M.max (by decide +kernel) (pa_cons pe_int (pa_cons
        (pe_callB (call_min2 rfl) (by rfl) M.min (by decide +kernel) (pa_cons pe_int (pa_cons (pe_callB call_len_seq (by rfl) M.len PySem.boot_len (pa_cons (pv 0) pa_nil)) pa_nil))) pa_nil))) pa_nil)) (pg_name (i := 1) scLaw.nd rfl (Or.inl rfl))
      (pss_cons (ps_set (i := 2) scLaw.nd rfl (Or.inl rfl) (pe_call GB hr1 rfl mB kB bB .nil pass0 (pa_cons (pe_call GC hr1 rfl mC kC bC .nil pass0 (pa_cons (pv 0) (pa_cons (pv 1) pa_nil))) pa_nil)))
      (pss_cons (ps_for PassesOwn.never rfl (pi_range1 (by rfl) M.range (pa_cons pe_int pa_nil)) (pg_name (i := 3) scLaw.nd rfl (Or.inl rfl))
        (pss_cons (ps_set (i := 4) scLaw.nd rfl (Or.inl rfl) (pe_call GV hr5 rfl mV kV bV .nil pass0 (pa_cons (pv 2) (pa_cons pe_int pa_nil))))
        (pss_cons (ps_set (i := 5) scLaw.nd rfl (Or.inl rfl) (pe_callB (rp rfl rfl) (by rfl) M.repr (by decide +kernel) (pa_cons (pv 4) pa_nil)))
        (pss_cons (ps_set (i := 6) scLaw.nd rfl (Or.inl rfl) (pe_mo (pe_and (pe_callB call_isi (by rfl) M.isin (by decide +kernel) (pa_cons (pv 4) (pa_cons (pe_bltn (v := .ty "int") (by rfl) M.int (by decide +kernel) rfl) pa_nil)))
          (pe_and (pe_cmpR op_notIB (pv 4) pe_bl (nomark _)) (pe_one (pe_cmpR op_notIB (pv 4) pe_bl (nomark _)))))))
        (pss_one (ps_for PassesOwn.never rfl (pi_range1 (by rfl) M.range (pa_cons pe_int pa_nil)) (pg_name (i := 7) scLaw.nd rfl (Or.inl rfl))
          (pss_one (ps_if (pw_or (pt_not (pt_val (pe_call GA hr2 (by rfl) mA kA bA .nil pass0 (pa_cons (pv 7) (pa_cons (pv 4) (pa_cons (pe_lst (pa_cons (pv 6) (pa_cons (pe_call GN hr1 (by rfl) mN kN bN .nil pass0 (pa_cons (pv 4) pa_nil)) pa_nil))) pa_nil))))))
            (pw_or1 (pt_cmpR op_ne (pe_callB (rp rfl rfl) (by rfl) M.repr (by decide +kernel) (pa_cons (pv 4) pa_nil)) (pv 5) (nomark _)))).pt (pss_one (ps_ret pe_bl)) pss_nil))))))))
      (pss_cons (ps_set (i := 8) scLaw.nd rfl (Or.inl rfl) (pe_make MI GI hr rfl T.mgC bI .nil pass0 (pa_cons (pe_lst (pa_cons (pe_lst (pa_cons pe_int pa_nil)) pa_nil)) pa_nil)))
      (pss_one (ps_for PassesOwn.never rfl (pi_list (pe_lst (pa_cons (pv 8) (pa_cons (pe_lst (pa_cons (pv 8) pa_nil)) (pa_cons (pe_tup (pa_cons (pv 8) pa_nil))
          (pa_cons (pe_disp (pps_cons pe_str (pv 8) pps_nil) (by rfl) (by rfl) (by intro z; cases z) (by decide)) pa_nil)))))) (pg_name (i := 4) scLaw.nd rfl (Or.inl rfl))
        (pss_one (ps_if (pt_cmpR op_ne (pe_callB (rp rfl rfl) (by rfl) M.repr (by decide +kernel) (pa_cons (pe_lst (pa_cons (pe_call Gi hr1 rfl mi ki bi .nil pass0 (pa_cons (pv 4) pa_nil))
            (pa_cons (pe_kw0 Gn hr1 rfl mn kn xn pass0 (pk_cons (pv 4) pk_nil)) pa_nil))) pa_nil)) pe_str (nomark _)) (pss_one (ps_ret pe_bl)) pss_nil))))))))
    (pss_one (ps_ret pe_bl)), ?_⟩
  have len : (ns.map V.int).length = ns.length := List.length_map _
  refine ⟨_, rfl, a, _, rfl, .inl hN, _, _, rfl, _, _, rfl, _, rfl, ?_⟩
  rw [len]
  generalize hm : (if (if (ns.length : Int) < 8 then (ns.length : Int) else 8) > 2 then (if (ns.length : Int) < 8 then (ns.length : Int) else 8) else 2) = m
  have hm8 : 0 ≤ m ∧ m ≤ 8 := by rw [← hm]; split <;> split <;> omega
  refine ⟨by omega, by omega, ?_⟩
  refine for_range (lo := 0) (n := m.toNat) (fun _ σ J => Same H J ∧ ∃ x1 x2 x3 x4 x5 x6 x7 x8, σ = [some (.ref a), x1, x2, x3, x4, x5, x6, x7, x8]) ⟨Same.refl H, _, _, _, _, _, _, _, _, rfl⟩ ?_ ?_
  · rintro k _ J hk ⟨sJ, x1, x2, x3, x4, x5, x6, x7, x8, rfl⟩
    refine ⟨_, rfl, _, rfl, a, ns, _, rfl, sJ.seq hN, by omega, fun c => ⟨c, rfl, fun p J1 sJ1 hp0 b1 => ?_⟩⟩
    have np : H p = none := sJ.free hp0
    have sH1 : Same H J1 := sJ.trans sJ1
    refine ⟨30, rfl, by decide, by decide, ?_⟩
    refine for_range (lo := 0) (n := Int.toNat 30) (fun _ σ J => Same H J ∧ Bx J p ∧ ∃ x3 x4 x5 x6 x7 x8, σ = [some (.ref a), some (.int (0 + (k : Int))), some (.ref p), x3, x4, x5, x6, x7, x8]) ⟨sH1, b1, _, _, _, _, _, _, rfl⟩ ?_ ?_
    · rintro u _ J2 hu2 ⟨s2, b2, y3, y4, y5, y6, y7, y8, rfl⟩
      refine ⟨_, rfl, p, rfl, b2, fun v J3 dv zv b3 s3 => ?_⟩
      obtain ⟨d, hd0, od⟩ := dv
      have hd : Dq J3 v d := Dq.same nw_same d v hd0
      have sH3 : Same H J3 := fun b o e => s3 b o (ne_of_none e np) (s2 b o e)
      have hdep : d.depth ≤ 60 := Nat.le_trans od.deep (by decide)
      have hlen : d.shown.length ≤ sizeLine := od.len (by decide)
      refine ⟨_, rfl, v, d, rfl, hd, od.shows, hdep, hlen, ?_⟩
      obtain ⟨c1, c2, hi, hk2⟩ := Dq.isi (K := K) hd
      obtain ⟨r, hr0⟩ := Dq.ist (K := K) hd fun z e => (zv z e).mono (by decide)
      obtain ⟨ty, hty, kt1, kt2⟩ := id hi
      refine ⟨fun x J => J3 = J ∧ x = .bl (c1 && !c2), ⟨_, rfl, v, .ty "int", ty, .type "int", c1, rfl, .ty _, hty, kt1, c1, rfl, ?_⟩, ?_⟩
      · rcases hk2 with rfl | ⟨i, rfl, rfl, rfl⟩ | ⟨b, rfl, rfl, rfl⟩
        · exact iteF ⟨rfl, rfl⟩
        · exact iteT ⟨_, rfl, true, rfl, .inr ⟨i, rfl, true, rfl, iteT ⟨_, rfl, false, rfl, .inr ⟨i, rfl, rfl, rfl⟩⟩⟩⟩
        · refine iteT ⟨_, rfl, true, rfl, .inl ⟨b, rfl, ?_⟩⟩
          cases b with
          | true => exact ⟨false, rfl, iteF ⟨rfl, rfl⟩⟩
          | false => exact ⟨true, rfl, iteT ⟨_, rfl, false, rfl, .inl ⟨false, rfl, rfl, rfl⟩⟩⟩
      rintro _ _ ⟨rfl, rfl⟩
      refine ⟨4, rfl, by decide, by decide, ?_⟩
      refine for_range (lo := 0) (n := Int.toNat 4) (fun _ σ J => Same J3 J ∧ ∃ x7 x8, σ = [some (.ref a), some (.int (0 + (k : Int))), some (.ref p), some (.int (0 + (u : Int))), some v, some (.str d.shown), some (.bl (c1 && !c2)), x7, x8]) ⟨Same.refl J3, _, _, rfl⟩ ?_ ?_
      · rintro way _ J hway ⟨s4, z7, z8, rfl⟩
        refine ⟨_, rfl, _, rfl, _, rfl, _, rfl, v, r, rfl, hr0.same s4, fun J5 s5 => ⟨(by show 2 ≤ sizeLine; decide), fun l hl => ?_⟩⟩
        have s6 : Same J3 (upd J5 l (.lst [.bl (c1 && !c2), .bl r])) := (s4.trans s5).trans (Same.new hl _)
        refine ⟨_, v, l, c1, c2, r, rfl, upd_same, hi.same s6, hr0.same s6, fun J7 s7 => ⟨true, rfl, iteF ?_⟩⟩
        refine ⟨_, rfl, v, d, rfl, Dq.same (s6.trans s7) d v hd, od.shows, hdep, hlen, _, rfl, rfl, _, rfl, ?_⟩
        exact iteNS rfl ⟨s6.trans s7, _, _, rfl⟩
      · rintro _ J ⟨s4, z7, z8, rfl⟩
        exact ⟨sH3.trans s4, b3.same s4, _, _, _, _, _, _, rfl⟩
    · rintro _ J2 ⟨s2, b2, y3, y4, y5, y6, y7, y8, rfl⟩
      refine ⟨(by show 1 ≤ sizeLine; decide), fun l1 hl1 => ⟨(by show 1 ≤ sizeLine; decide), fun l2 hl2 => fun x dx hx hdx ne => ?_⟩⟩
      let Jl : Hp := upd (upd J2 l1 (.lst [.int 0])) l2 (.lst [.ref l1])
      have sJl : Same J2 Jl := (Same.new hl1 _).trans (Same.new hl2 _)
      have sm : Same Jl (upd (upd Jl dx (.own x)) x (.ins C dx [])) := fun b o e => by rw [upd_ne (ne_of_none e hx), upd_ne (ne_of_none e hdx)]; exact e
      have e2 : Jl l2 = some (.lst [.ref l1]) := upd_same
      have e1 : Jl l1 = some (.lst [.int 0]) := Same.new hl2 _ _ _ upd_same
      have z1 : ∀ {n : Nat}, n < ([[0]] : List (List Int)).length → n = 0 := fun {n} h => by simpa using h
      refine ⟨x, dx, .ref l2, [[0]], rfl, upd_same, ⟨[.ref l1], ⟨l2, rfl, .inl (SqL.of (sm _ _ e2))⟩, .cons ⟨l1, rfl, .inl (SqL.of (sm _ _ e1))⟩ .nil⟩,
        ⟨by decide, by decide, fun r hr => by rw [List.mem_singleton.mp hr]; rfl, fun a b ha hb => by rw [z1 ha, z1 hb]; decide⟩,
        fun a b c ha hb hc => by rw [z1 ha, z1 hb, z1 hc]; unfold rt; decide, fun c hc => by cases hc; exact ne_of_none e2 hx, fun Ja ta ka => ⟨rfl, ?_⟩⟩
      have sa : Same J2 Ja := fun b o e => ka b o (ne_of_none (sJl _ _ e) hx) (sm _ _ (sJl _ _ e))
      have sHa : Same H Ja := s2.trans sa
      obtain ⟨dy, t, rs, ex, _, _⟩ := ta.ob
      refine ⟨_, rfl, _, rfl, (by show 1 ≤ sizeLine; decide), fun m1 hm1 => ⟨_, rfl, (by show 1 ≤ sizeLine; decide), fun m2 hm2 => fun m3 hm3 => ⟨_, rfl, upd_same, [(Sum.inr (Str.ofString "a"), .ref x)], rfl, (by show 1 ≤ 15; decide), (by show 4 ≤ sizeLine; decide), fun m4 hm4 => ?_⟩⟩⟩
      let J8 : Hp := upd (upd (upd Ja m1 (.lst [.ref x])) m2 (.tup [.ref x])) m3 (.dK [])
      let J9 : Hp := upd J8 m3 (.dK (mergeK [] [(Sum.inr (Str.ofString "a"), V.ref x)]))
      let Jx : Hp := upd J9 m4 (.lst [.ref x, .ref m1, .ref m2, .ref m3])
      have hm3' : (upd (upd Ja m1 (.lst [.ref x])) m2 (.tup [.ref x])) m3 = none := hm3
      have s89 : Same (upd (upd Ja m1 (.lst [.ref x])) m2 (.tup [.ref x])) J9 := fun b o e => by
        show upd J8 m3 _ b = _
        rw [upd_ne (ne_of_none e hm3')]
        exact Same.new hm3' _ _ _ e
      have s9x : Same J9 Jx := Same.new hm4 _
      have sx : Same Ja Jx := (((Same.new hm1 _).trans (Same.new hm2 _)).trans s89).trans s9x
      have ex' : Jx x = some (.ins C dy [("_rows", .ref t)]) := sx _ _ ex
      have em1 : Jx m1 = some (.lst [.ref x]) := s9x _ _ (s89 _ _ (Same.new hm2 _ _ _ upd_same))
      have em2 : Jx m2 = some (.tup [.ref x]) := s9x _ _ (s89 _ _ upd_same)
      have em3 : Jx m3 = some (.dK (mergeK [] [(Sum.inr (Str.ofString "a"), V.ref x)])) := s9x _ _ upd_same
      have known : ∀ y, y ∈ [V.ref x, .ref m1, .ref m2, .ref m3] → (∃ b2, Isi K Jx y false b2) ∧ Ist K Jx y false := fun y hy => by
        simp only [List.mem_cons, List.not_mem_nil, or_false] at hy
        rcases hy with rfl | rfl | rfl | rfl
        · have ty : TyX K Jx (.ref x) (.ref C) := .base (.ins ex' T.cl Y.ha Y.hn Y.htk Y.hm)
          exact ⟨⟨false, _, ty, Y.ki, Y.kb⟩, .inr ⟨rfl, _, ty, Y.ks⟩⟩
        · exact ⟨⟨false, _, .base (.lst em1), kit_ty (by decide +kernel), kit_ty (by decide +kernel)⟩, .inr ⟨rfl, _, .base (.lst em1), kit_ty (by decide +kernel)⟩⟩
        · exact ⟨⟨false, _, .base (.tup em2), kit_ty (by decide +kernel), kit_ty (by decide +kernel)⟩, .inr ⟨rfl, _, .base (.tup em2), kit_ty (by decide +kernel)⟩⟩
        · exact ⟨⟨false, _, .base (.dK em3), kit_ty (by decide +kernel), kit_ty (by decide +kernel)⟩, .inr ⟨rfl, _, .base (.dK em3), kit_ty (by decide +kernel)⟩⟩
      refine ⟨m4, rfl, ⟨_, SqL.of upd_same⟩, for_list (K := K) (a := m4) (xs := [.ref x, .ref m1, .ref m2, .ref m3]) (fun _ σ J => Same Jx J ∧ ∃ x4, σ = [some (.ref a), some (.int (0 + (k : Int))), some (.ref p), y3, x4, y5, y6, y7, some (.ref x)])
        ⟨Same.refl Jx, _, rfl⟩ (fun _ _ J _ z => z.1.seq (SqL.of upd_same)) ?_ ?_⟩
      · rintro i y _ J hi ⟨s10, x4, rfl⟩
        obtain ⟨⟨b2', k1⟩, k2⟩ := known y (List.mem_of_getElem? hi)
        refine ⟨_, rfl, y, false, b2', rfl, k1.same s10, _, rfl, y, false, rfl, k2.same s10, fun J11 s11 => ⟨(by show 2 ≤ sizeLine; decide), fun l hl => ?_⟩⟩
        refine ⟨.ref l, .list [.bool false, .bool false], rfl, .lst upd_same (.cons (.bl false) (.cons (.bl false) .nil)), rfl, by decide, by decide +kernel, rfl, _, rfl, ?_⟩
        exact iteNS (by decide +kernel) ⟨(s10.trans s11).trans (Same.new hl _), _, rfl⟩
      · rintro _ J ⟨s10, x4, rfl⟩
        exact ⟨sHa.trans (sx.trans s10), _, _, _, _, _, _, _, _, rfl⟩
  · rintro _ J ⟨sJ, x1, x2, x3, x4, x5, x6, x7, x8, rfl⟩
    exact q J
end
end K1

set_option Elab.async false
set_option linter.all false
set_option maxRecDepth 100000
set_option maxHeartbeats 4000000
namespace K1
open PySem L2 KX
theorem all_mk {l : PySem.W.OpenLaw} {w : World} {K : PySem.W.Frag} {h : Heap} {mg : Str → Option Value} {fa : Addr} (X : K.In h) (G : h.Ns mainGlobals mg) (hfa : mg "law" = some (.ref fa))
    {f0 : Addr} {od0 an0 : Option Addr} {sl0 : Array (Option Value)} {oc0 kV0 dc0 pm0 cd0 ct0 : Value}
    {f1 : Addr} {od1 an1 : Option Addr} {sl1 : Array (Option Value)} {oc1 kV1 dc1 pm1 cd1 ct1 : Value}
    {f2 : Addr} {od2 an2 : Option Addr} {sl2 : Array (Option Value)} {oc2 kV2 dc2 pm2 cd2 ct2 : Value}
    {f3 : Addr} {od3 an3 : Option Addr} {sl3 : Array (Option Value)} {oc3 kV3 dc3 pm3 cd3 ct3 : Value}
    {f4 : Addr} {od4 an4 : Option Addr} {sl4 : Array (Option Value)} {oc4 kV4 dc4 pm4 cd4 ct4 : Value}
    {f5 : Addr} {od5 an5 : Option Addr} {sl5 : Array (Option Value)} {oc5 kV5 dc5 pm5 cd5 ct5 : Value}
    {f6 : Addr} {od6 an6 : Option Addr} {sl6 : Array (Option Value)} {oc6 kV6 dc6 pm6 cd6 ct6 : Value}
    {f7 : Addr} {od7 an7 : Option Addr} {sl7 : Array (Option Value)} {oc7 kV7 dc7 pm7 cd7 ct7 : Value}
    {f8 : Addr} {od8 an8 : Option Addr} {sl8 : Array (Option Value)} {oc8 kV8 dc8 pm8 cd8 ct8 : Value}
    {f9 : Addr} {od9 an9 : Option Addr} {sl9 : Array (Option Value)} {oc9 kV9 dc9 pm9 cd9 ct9 : Value}
    {f10 : Addr} {od10 an10 : Option Addr} {sl10 : Array (Option Value)} {oc10 kV10 dc10 pm10 cd10 ct10 : Value}
    {f11 : Addr} {od11 an11 : Option Addr} {sl11 : Array (Option Value)} {oc11 kV11 dc11 pm11 cd11 ct11 : Value}
    {f12 : Addr} {od12 an12 : Option Addr} {sl12 : Array (Option Value)} {oc12 kV12 dc12 pm12 cd12 ct12 : Value}
    {f13 : Addr} {od13 an13 : Option Addr} {sl13 : Array (Option Value)} {oc13 kV13 dc13 pm13 cd13 ct13 : Value}
    {f14 : Addr} {od14 an14 : Option Addr} {sl14 : Array (Option Value)} {oc14 kV14 dc14 pm14 cd14 ct14 : Value}
    {f15 : Addr} {od15 an15 : Option Addr} {sl15 : Array (Option Value)} {oc15 kV15 dc15 pm15 cd15 ct15 : Value}
    {C : Addr}
    {tk0 : Tok}
    {tk1 : Tok}
    (aC : PySem.W.nsIn K mainGlobals "ProductTable" = some (some (.ref C)))
    (pg : PySem.W.plainGet K C Str.empty = true)
    (hd : PySem.W.hasDictIn K C = true)
    (po : PySem.W.plainOver K C = true)
    (sa : PySem.W.findIn K (.ref C) "__setattr__" = some (some (.builtin "object.__setattr__")))
    (mk : PySem.W.makesIn K C = true)
    (kc : PySem.W.keepIn K (.ref C) = true)
    (nR : PySem.W.findIn K (.ref C) "_rows" = some none)
    (ya : PySem.W.findIn K (.ref C) "__class__" = some (some (.builtin "object.__class__")))
    (yn : PySem.W.specialIn K (.builtin "object.__class__") "__get__" = some (some (.builtin "getset_descriptor.__get__")))
    (yt : PySem.W.takesIn K (.builtin "object.__class__") = some true)
    (ym : PySem.W.mroIn K C (.type "object") = some true)
    (yi : PySem.W.subIn K (.ref C) (.type "int") = some false)
    (yb : PySem.W.subIn K (.ref C) (.type "bool") = some false)
    (ys : PySem.W.subIn K (.ref C) (.type "str") = some false)
    (a0 : PySem.W.nsIn K mainGlobals "is_integer" = some (some (.ref f0)))
    (l0 : K.lookup f0 = some ⟨oc0, od0, .func (PySem.W.fnOf "is_integer" "is_integer" (defArgs sIsInt) (defBody sIsInt) (defScope sIsInt) .none kV0 dc0 pm0 an0 cd0 ct0), sl0⟩)
    (c0 : PySem.W.codeIn K cd0 "is_integer" = true)
    (k0 : PySem.W.keepIn K (.ref f0) = true)
    (a1 : PySem.W.nsIn K mainGlobals "is_name" = some (some (.ref f1)))
    (l1 : K.lookup f1 = some ⟨oc1, od1, .func (PySem.W.fnOf "is_name" "is_name" (defArgs sIsName) (defBody sIsName) (defScope sIsName) .none kV1 dc1 pm1 an1 cd1 ct1), sl1⟩)
    (c1 : PySem.W.codeIn K cd1 "is_name" = true)
    (k1 : PySem.W.keepIn K (.ref f1) = true)
    (a2 : PySem.W.nsIn K mainGlobals "is_list" = some (some (.ref f2)))
    (l2 : K.lookup f2 = some ⟨oc2, od2, .func (PySem.W.fnOf "is_list" "is_list" (defArgs sIsList) (defBody sIsList) (defScope sIsList) .none kV2 dc2 pm2 an2 cd2 ct2), sl2⟩)
    (c2 : PySem.W.codeIn K cd2 "is_list" = true)
    (k2 : PySem.W.keepIn K (.ref f2) = true)
    (a3 : PySem.W.nsIn K mainGlobals "is_number_below" = some (some (.ref f3)))
    (l3 : K.lookup f3 = some ⟨oc3, od3, .func (PySem.W.fnOf "is_number_below" "is_number_below" (defArgs sBelow) (defBody sBelow) (defScope sBelow) .none kV3 dc3 pm3 an3 cd3 ct3), sl3⟩)
    (c3 : PySem.W.codeIn K cd3 "is_number_below" = true)
    (k3 : PySem.W.keepIn K (.ref f3) = true)
    (a4 : PySem.W.nsIn K mainGlobals "is_number_list" = some (some (.ref f4)))
    (l4 : K.lookup f4 = some ⟨oc4, od4, .func (PySem.W.fnOf "is_number_list" "is_number_list" (defArgs sNumList) (defBody sNumList) (defScope sNumList) .none kV4 dc4 pm4 an4 cd4 ct4), sl4⟩)
    (c4 : PySem.W.codeIn K cd4 "is_number_list" = true)
    (k4 : PySem.W.keepIn K (.ref f4) = true)
    (a5 : PySem.W.nsIn K mainGlobals "_are_rows" = some (some (.ref f5)))
    (l5 : K.lookup f5 = some ⟨oc5, od5, .func (PySem.W.fnOf "_are_rows" "_are_rows" (defArgs sAreRows) (defBody sAreRows) (defScope sAreRows) .none kV5 dc5 pm5 an5 cd5 ct5), sl5⟩)
    (c5 : PySem.W.codeIn K cd5 "_are_rows" = true)
    (k5 : PySem.W.keepIn K (.ref f5) = true)
    (a6 : PySem.W.nsIn K mainGlobals "_first_wrong_triple" = some (some (.ref f6)))
    (l6 : K.lookup f6 = some ⟨oc6, od6, .func (PySem.W.fnOf "_first_wrong_triple" "_first_wrong_triple" (defArgs sWrong) (defBody sWrong) (defScope sWrong) .none kV6 dc6 pm6 an6 cd6 ct6), sl6⟩)
    (c6 : PySem.W.codeIn K cd6 "_first_wrong_triple" = true)
    (k6 : PySem.W.keepIn K (.ref f6) = true)
    (a7 : PySem.W.findIn K (.ref C) "__init__" = some (some (.ref f7)))
    (i7 : PySem.W.isFn K (.ref f7) = true)
    (l7 : K.lookup f7 = some ⟨oc7, od7, .func (PySem.W.fnOf "__init__" "ProductTable.__init__" (defArgs sInit) (defBody sInit) (defScope sInit) .none kV7 dc7 pm7 an7 cd7 ct7), sl7⟩)
    (c7 : PySem.W.codeIn K cd7 "ProductTable.__init__" = true)
    (k7 : PySem.W.keepIn K (.ref f7) = true)
    (a8 : PySem.W.nsIn K mainGlobals "_law_cell" = some (some (.ref f8)))
    (l8 : K.lookup f8 = some ⟨oc8, od8, .func (PySem.W.fnOf "_law_cell" "_law_cell" (defArgs sCell) (defBody sCell) (defScope sCell) .none kV8 dc8 pm8 an8 cd8 ct8), sl8⟩)
    (c8 : PySem.W.codeIn K cd8 "_law_cell" = true)
    (k8 : PySem.W.keepIn K (.ref f8) = true)
    (a9 : PySem.W.nsIn K mainGlobals "_law_box" = some (some (.ref f9)))
    (l9 : K.lookup f9 = some ⟨oc9, od9, .func (PySem.W.fnOf "_law_box" "_law_box" (defArgs sBox) (defBody sBox) (defScope sBox) .none kV9 dc9 pm9 an9 cd9 ct9), sl9⟩)
    (c9 : PySem.W.codeIn K cd9 "_law_box" = true)
    (k9 : PySem.W.keepIn K (.ref f9) = true)
    (a10 : PySem.W.nsIn K mainGlobals "_law_take" = some (some (.ref f10)))
    (l10 : K.lookup f10 = some ⟨oc10, od10, .func (PySem.W.fnOf "_law_take" "_law_take" (defArgs sTake) (defBody sTake) (defScope sTake) .none kV10 dc10 pm10 an10 cd10 ct10), sl10⟩)
    (c10 : PySem.W.codeIn K cd10 "_law_take" = true)
    (k10 : PySem.W.keepIn K (.ref f10) = true)
    (a11 : PySem.W.nsIn K mainGlobals "_law_string" = some (some (.ref f11)))
    (l11 : K.lookup f11 = some ⟨oc11, od11, .func (PySem.W.fnOf "_law_string" "_law_string" (defArgs sStr) (defBody sStr) (defScope sStr) .none kV11 dc11 pm11 an11 cd11 ct11), sl11⟩)
    (c11 : PySem.W.codeIn K cd11 "_law_string" = true)
    (k11 : PySem.W.keepIn K (.ref f11) = true)
    (a12 : PySem.W.nsIn K mainGlobals "_law_value" = some (some (.ref f12)))
    (l12 : K.lookup f12 = some ⟨oc12, od12, .func (PySem.W.fnOf "_law_value" "_law_value" (defArgs sVal) (defBody sVal) (defScope sVal) .none kV12 dc12 pm12 an12 cd12 ct12), sl12⟩)
    (c12 : PySem.W.codeIn K cd12 "_law_value" = true)
    (k12 : PySem.W.keepIn K (.ref f12) = true)
    (a13 : PySem.W.nsIn K mainGlobals "_law_is_name" = some (some (.ref f13)))
    (l13 : K.lookup f13 = some ⟨oc13, od13, .func (PySem.W.fnOf "_law_is_name" "_law_is_name" (defArgs sLawName) (defBody sLawName) (defScope sLawName) .none kV13 dc13 pm13 an13 cd13 ct13), sl13⟩)
    (c13 : PySem.W.codeIn K cd13 "_law_is_name" = true)
    (k13 : PySem.W.keepIn K (.ref f13) = true)
    (a14 : PySem.W.nsIn K mainGlobals "_law_asked_right" = some (some (.ref f14)))
    (l14 : K.lookup f14 = some ⟨oc14, od14, .func (PySem.W.fnOf "_law_asked_right" "_law_asked_right" (defArgs sAsked) (defBody sAsked) (defScope sAsked) .none kV14 dc14 pm14 an14 cd14 ct14), sl14⟩)
    (c14 : PySem.W.codeIn K cd14 "_law_asked_right" = true)
    (k14 : PySem.W.keepIn K (.ref f14) = true)
    (a15 : PySem.W.nsIn K mainGlobals "law" = some (some (.ref f15)))
    (l15 : K.lookup f15 = some ⟨oc15, od15, .func (PySem.W.fnOf "law" "law" (defArgs sLaw) (defBody sLaw) (defScope sLaw) .none kV15 dc15 pm15 an15 cd15 ct15), sl15⟩)
    (c15 : PySem.W.codeIn K cd15 "law" = true)
    (k15 : PySem.W.keepIn K (.ref f15) = true)
    (q0 : PySem.W.nsIn K mainGlobals "_MOST_LETTERS" = some (some (.int 8 tk0)))
    (q1 : PySem.W.nsIn K mainGlobals "LARGEST_TABLE" = some (some (.int 16 tk1)))
    (z_max : PySem.W.nsIn K mainGlobals "max" = some none)
    (z_min : PySem.W.nsIn K mainGlobals "min" = some none)
    (z_len : PySem.W.nsIn K mainGlobals "len" = some none)
    (z_range : PySem.W.nsIn K mainGlobals "range" = some none)
    (z_repr : PySem.W.nsIn K mainGlobals "repr" = some none)
    (z_isinstance : PySem.W.nsIn K mainGlobals "isinstance" = some none)
    (z_all : PySem.W.nsIn K mainGlobals "all" = some none)
    (z_enumerate : PySem.W.nsIn K mainGlobals "enumerate" = some none)
    (z_tuple : PySem.W.nsIn K mainGlobals "tuple" = some none)
    (z_dict : PySem.W.nsIn K mainGlobals "dict" = some none)
    (z_str : PySem.W.nsIn K mainGlobals "str" = some none)
    (z_int : PySem.W.nsIn K mainGlobals "int" = some none)
    (z_bool : PySem.W.nsIn K mainGlobals "bool" = some none)
    (z_list : PySem.W.nsIn K mainGlobals "list" = some none)
    : ∃ fd : FuncData, (∀ (s : Shared) (v : Value), BindsTo s fd ⟨[v], []⟩ [("script", v)]) ∧ ∀ base : Heap, K.In base → base.Ns mainGlobals mg → (∃ o, base.get? sysModules = some o) → GOk l.prog w K mg base CX0 7 fa fd ["script"] (spLaw K) := by
  have e := hfa.symm.trans (PySem.W.mg_of X G a15)
  cases e
  have F0 := fun_mk (st := sIsInt) l0 c0 k0
  have b0 := F0.binds (ps := ["value"]) fun _ _ _ _ _ _ us hl => match us, hl with | [_], _ => rfl
  have m0 := PySem.W.mg_of X G a0
  have F1 := fun_mk (st := sIsName) l1 c1 k1
  have b1 := F1.binds (ps := ["value"]) fun _ _ _ _ _ _ us hl => match us, hl with | [_], _ => rfl
  have m1 := PySem.W.mg_of X G a1
  have F2 := fun_mk (st := sIsList) l2 c2 k2
  have b2 := F2.binds (ps := ["value", "least", "most"]) fun _ _ _ _ _ _ us hl => match us, hl with | [_, _, _], _ => rfl
  have m2 := PySem.W.mg_of X G a2
  have F3 := fun_mk (st := sBelow) l3 c3 k3
  have b3 := F3.binds (ps := ["value", "limit"]) fun _ _ _ _ _ _ us hl => match us, hl with | [_, _], _ => rfl
  have m3 := PySem.W.mg_of X G a3
  have F4 := fun_mk (st := sNumList) l4 c4 k4
  have b4 := F4.binds (ps := ["value", "least", "most", "limit"]) fun _ _ _ _ _ _ us hl => match us, hl with | [_, _, _, _], _ => rfl
  have m4 := PySem.W.mg_of X G a4
  have F5 := fun_mk (st := sAreRows) l5 c5 k5
  have b5 := F5.binds (ps := ["rows"]) fun _ _ _ _ _ _ us hl => match us, hl with | [_], _ => rfl
  have m5 := PySem.W.mg_of X G a5
  have F6 := fun_mk (st := sWrong) l6 c6 k6
  have b6 := F6.binds (ps := ["rows"]) fun _ _ _ _ _ _ us hl => match us, hl with | [_], _ => rfl
  have m6 := PySem.W.mg_of X G a6
  have F7 := fun_mk (st := sInit) l7 c7 k7
  have b7 := F7.binds (ps := ["self", "rows"]) fun _ _ _ _ _ _ us hl => match us, hl with | [_, _], _ => rfl
  have F8 := fun_mk (st := sCell) l8 c8 k8
  have b8 := F8.binds (ps := ["script", "k"]) fun _ _ _ _ _ _ us hl => match us, hl with | [_, _], _ => rfl
  have m8 := PySem.W.mg_of X G a8
  have F9 := fun_mk (st := sBox) l9 c9 k9
  have b9 := F9.binds (ps := ["cell"]) fun _ _ _ _ _ _ us hl => match us, hl with | [_], _ => rfl
  have m9 := PySem.W.mg_of X G a9
  have F10 := fun_mk (st := sTake) l10 c10 k10
  have b10 := F10.binds (ps := ["box", "size"]) fun _ _ _ _ _ _ us hl => match us, hl with | [_, _], _ => rfl
  have m10 := PySem.W.mg_of X G a10
  have F11 := fun_mk (st := sStr) l11 c11 k11
  have b11 := F11.binds (ps := ["box"]) fun _ _ _ _ _ _ us hl => match us, hl with | [_], _ => rfl
  have m11 := PySem.W.mg_of X G a11
  have F12 := fun_mk (st := sVal) l12 c12 k12
  have b12 := F12.binds (ps := ["box", "deep"]) fun _ _ _ _ _ _ us hl => match us, hl with | [_, _], _ => rfl
  have m12 := PySem.W.mg_of X G a12
  have F13 := fun_mk (st := sLawName) l13 c13 k13
  have b13 := F13.binds (ps := ["thing"]) fun _ _ _ _ _ _ us hl => match us, hl with | [_], _ => rfl
  have m13 := PySem.W.mg_of X G a13
  have F14 := fun_mk (st := sAsked) l14 c14 k14
  have b14 := F14.binds (ps := ["way", "thing", "due"]) fun _ _ _ _ _ _ us hl => match us, hl with | [_, _, _], _ => rfl
  have m14 := PySem.W.mg_of X G a14
  have F15 := fun_mk (st := sLaw) l15 c15 k15
  have b15 := F15.binds (ps := ["script"]) fun _ _ _ _ _ _ us hl => match us, hl with | [_], _ => rfl
  have m15 := PySem.W.mg_of X G a15
  have M : Mn mg := ⟨PySem.W.mg_none_of X G z_max, PySem.W.mg_none_of X G z_min, PySem.W.mg_none_of X G z_len, PySem.W.mg_none_of X G z_range, PySem.W.mg_none_of X G z_repr, PySem.W.mg_none_of X G z_isinstance, PySem.W.mg_none_of X G z_all, PySem.W.mg_none_of X G z_enumerate, PySem.W.mg_none_of X G z_tuple, PySem.W.mg_none_of X G z_dict, PySem.W.mg_none_of X G z_str, PySem.W.mg_none_of X G z_int, PySem.W.mg_none_of X G z_bool, PySem.W.mg_none_of X G z_list⟩
  refine ⟨PySem.W.fnOf "law" "law" (defArgs sLaw) (defBody sLaw) (defScope sLaw) .none kV15 dc15 pm15 an15 cd15 ct15, fun s v => .of_eq rfl, fun base _ _ hS => ?_⟩
  have T : CTx K mg C := ⟨⟨pg, hd, po, sa⟩, nR, PySem.W.mg_of X G aC⟩
  have Y : CTy K C := ⟨ya, yn, yt, ym, kit_own (by decide +kernel) yi, kit_own (by decide +kernel) yb, kit_own (by decide +kernel) ys⟩
  have x0 := kb1 (K := K) (fd := PySem.W.fnOf "is_integer" "is_integer" (defArgs sIsInt) (defBody sIsInt) (defScope sIsInt) .none kV0 dc0 pm0 an0 cd0 ct0) (a := "value") (fun _ => rfl) (fun _ => rfl)
  have x1 := kb1 (K := K) (fd := PySem.W.fnOf "is_name" "is_name" (defArgs sIsName) (defBody sIsName) (defScope sIsName) .none kV1 dc1 pm1 an1 cd1 ct1) (a := "value") (fun _ => rfl) (fun _ => rfl)
  have G0 := ok_isint (P := l.prog) (w := w) (base := base) F0 M
  have G1 := ok_isname (P := l.prog) (w := w) (base := base) F1 M ⟨_, PySem.W.mg_of X G q0⟩
  have G2 := ok_islist (P := l.prog) (w := w) (base := base) F2 M
  have G3 := ok_below F3 G0 b0 k0 m0
  have G4 := ok_numlist F4 M G2 b2 k2 m2 G3 b3 k3 m3
  have G5 := ok_arerows F5 M ⟨_, PySem.W.mg_of X G q1⟩ G2 b2 k2 m2 G4 b4 k4 m4
  have G6 := ok_wrong (P := l.prog) (w := w) (base := base) F6 M
  have G7 := ok_init F7 M T G5 b5 k5 m5 G6 b6 k6 m6
  have G8 := ok_cell (P := l.prog) (w := w) (base := base) F8 M
  have G9 := ok_box (P := l.prog) (w := w) (base := base) F9 M
  have G10 := ok_take (P := l.prog) (w := w) (base := base) F10 M
  have G11 := ok_str F11 M G10 b10 k10 m10
  have V0 : FnOk l.prog w K mg base CX0 2 f12 (PySem.W.fnOf "_law_value" "_law_value" (defArgs sVal) (defBody sVal) (defScope sVal) .none kV12 dc12 pm12 an12 cd12 ct12) ["box", "deep"] (spVals 0) := ⟨fun _ _ _ _ h => h.elim, fun _ _ _ _ _ _ _ _ _ _ _ _ _ h => h.elim⟩
  have V1 := ok_val 0 F12 M G10 b10 k10 m10 G11 b11 k11 m11 V0 b12 k12 m12
  have V2 := ok_val 1 F12 M G10 b10 k10 m10 G11 b11 k11 m11 V1 b12 k12 m12
  have V3 := ok_val 2 F12 M G10 b10 k10 m10 G11 b11 k11 m11 V2 b12 k12 m12
  have G13 := ok_lawname (P := l.prog) (w := w) (base := base) F13 M
  have G14 := ok_asked F14 M G0 b0 x0 k0 m0 G1 b1 x1 k1 m1
  exact ok_law F15 M T Y hS G8 b8 k8 m8 G9 b9 k9 m9 V3 b12 k12 m12 G14 b14 k14 m14 G13 b13 k13 m13 ⟨mk, a7, i7, kc⟩ G7 b7 G0 b0 k0 m0 G1 x1 k1 m1
theorem walk {l : PySem.W.OpenLaw} {q : Program} {loose : List Str} {XP : (Str → Option Value) → Heap → Prop} {YP : World → Heap → Prop} {d : DefRec} {K : Params → PySem.W.Frag} (hn : l.most = some 63) (hdf : d.params.defaults = []) (him : PyProof.Rows.importsNone q = true)
    (hY : ∀ (w : World) (h : Heap), YP w h → (K w.params).In h)
    (F : ∀ (w : World) (mg : Str → Option Value) (fa : Addr) (h : Heap), (K w.params).In h → h.Ns mainGlobals mg → mg d.name = some (.ref fa) →
      ∃ fd : FuncData, (∀ (s : Shared) (u : Value), BindsTo s fd ⟨[u], []⟩ [("script", u)]) ∧ ∀ base : Heap, (K w.params).In base → base.Ns mainGlobals mg → (∃ o, base.get? sysModules = some o) → GOk l.prog w (K w.params) mg base CX0 7 fa fd ["script"] (spLaw (K w.params))) :
    PySem.W.WalkO q loose XP YP l.row.toRowW d [] (fun f vs => PySem.call f vs) :=
  walk_g (n := 63) (k := 7) (x := "script") (sp := spLaw) hn (by decide) hdf ⟨rfl, by decide, by decide⟩ him hY F fun _ _ a ns hl _ hS => ⟨a, ns, rfl, hS, hl, fun _ => rfl⟩
end K1
open PySem PySem.W PyProof.Rows
set_option maxRecDepth 100000 in
set_option pp.maxSteps 400 in
set_option maxHeartbeats 0 in
theorem PySem.Challenge.cw_producttrees_k01_basic_values_holds : PySem.Challenge.rw_producttrees_k01_basic_values.Holds := by
  w_on; o_law; k_head; (case hw => w_witness2)
  k_fill
  refine K1.walk (l := PySem.Challenge.rw_producttrees_k01_basic_values) rfl rfl (by decide +kernel) (fun w h Y => PySem.W.kIn_of Y) ?F
  case F =>
    intro w mg fa h KX G hmg
    refine' K1.all_mk KX G hmg ?aC ?pg ?hd ?po ?sa ?mk ?kc ?nR ?ya ?yn ?yt ?ym ?yi ?yb ?ys ?a0 ?l0 ?c0 ?k0 ?a1 ?l1 ?c1 ?k1 ?a2 ?l2 ?c2 ?k2 ?a3 ?l3 ?c3 ?k3 ?a4 ?l4 ?c4 ?k4 ?a5 ?l5 ?c5 ?k5 ?a6 ?l6 ?c6 ?k6 ?a7 ?i7 ?l7 ?c7 ?k7 ?a8 ?l8 ?c8 ?k8 ?a9 ?l9 ?c9 ?k9 ?a10 ?l10 ?c10 ?k10 ?a11 ?l11 ?c11 ?k11 ?a12 ?l12 ?c12 ?k12 ?a13 ?l13 ?c13 ?k13 ?a14 ?l14 ?c14 ?k14 ?a15 ?l15 ?c15 ?k15 ?q0 ?q1 ?z_max ?z_min ?z_len ?z_range ?z_repr ?z_isinstance ?z_all ?z_enumerate ?z_tuple ?z_dict ?z_str ?z_int ?z_bool ?z_list
    (case aC => k_is)
    (case pg => k_is)
    (case hd => k_is)
    (case po => k_is)
    (case sa => k_is)
    (case mk => k_is)
    (case kc => k_is)
    (case nR => k_is)
    (case ya => k_is)
    (case yn => k_is)
    (case yt => k_is)
    (case ym => k_is)
    (case yi => k_is)
    (case yb => k_is)
    (case ys => k_is)
    (case a0 => k_is)
    (case l0 => k_is)
    (case c0 => k_is)
    (case k0 => k_is)
    (case a1 => k_is)
    (case l1 => k_is)
    (case c1 => k_is)
    (case k1 => k_is)
    (case a2 => k_is)
    (case l2 => k_is)
    (case c2 => k_is)
    (case k2 => k_is)
    (case a3 => k_is)
    (case l3 => k_is)
    (case c3 => k_is)
    (case k3 => k_is)
    (case a4 => k_is)
    (case l4 => k_is)
    (case c4 => k_is)
    (case k4 => k_is)
    (case a5 => k_is)
    (case l5 => k_is)
    (case c5 => k_is)
    (case k5 => k_is)
    (case a6 => k_is)
    (case l6 => k_is)
    (case c6 => k_is)
    (case k6 => k_is)
    (case a7 => k_is)
    (case i7 => k_is)
    (case l7 => k_is)
    (case c7 => k_is)
    (case k7 => k_is)
    (case a8 => k_is)
    (case l8 => k_is)
    (case c8 => k_is)
    (case k8 => k_is)
    (case a9 => k_is)
    (case l9 => k_is)
    (case c9 => k_is)
    (case k9 => k_is)
    (case a10 => k_is)
    (case l10 => k_is)
    (case c10 => k_is)
    (case k10 => k_is)
    (case a11 => k_is)
    (case l11 => k_is)
    (case c11 => k_is)
    (case k11 => k_is)
    (case a12 => k_is)
    (case l12 => k_is)
    (case c12 => k_is)
    (case k12 => k_is)
    (case a13 => k_is)
    (case l13 => k_is)
    (case c13 => k_is)
    (case k13 => k_is)
    (case a14 => k_is)
    (case l14 => k_is)
    (case c14 => k_is)
    (case k14 => k_is)
    (case a15 => k_is)
    (case l15 => k_is)
    (case c15 => k_is)
    (case k15 => k_is)
    (case q0 => k_is)
    (case q1 => k_is)
    (case z_max => k_is)
    (case z_min => k_is)
    (case z_len => k_is)
    (case z_range => k_is)
    (case z_repr => k_is)
    (case z_isinstance => k_is)
    (case z_all => k_is)
    (case z_enumerate => k_is)
    (case z_tuple => k_is)
    (case z_dict => k_is)
    (case z_str => k_is)
    (case z_int => k_is)
    (case z_bool => k_is)
    (case z_list => k_is)

