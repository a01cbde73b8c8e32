import PyProof.Rows.All
import Wide.All
import OpenK.AllK
import Wide.FinOn
import HandS.ForMost
import HandS.IsInst
import HandS.RaiseMore
import HandS.Defaults
import HandS.Wide
import HandS.Walk
import HandS.ForExc
import HandS.ExcInit
import HandS.ExcField
import HandS.ExcOwn
import KE.IntTextLaws
import KE.OsScanText
import HandS.StrMore
import PyProof.StrOps2
import HandS.Deep
import PySem.Challenge.RW_producttrees_k02_parsed_integers
set_option Elab.async false
set_option linter.all false
set_option maxRecDepth 100000
set_option maxHeartbeats 4000000
/-! Own layer: data trees with dicts (Dq), repr of them, defs that know that no repr runs (GOk). -/
namespace KX
open PySem PySem.Spec PyProof.Rows L2
/-- a dict's key as data -/
def kD : Key → PyData
  | .inl i => .int i
  | .inr x => .str x
mutual
/-- the value x stands for the data d in the abstract heap -/
inductive Dq (H : Hp) : V → PyData → Prop
  | non : Dq H .non .none
  | bl (b : Bool) : Dq H (.bl b) (.bool b)
  | int (i : Int) : Dq H (.int i) (.int i)
  | str (x : Str) : Dq H (.str x) (.str x)
  | lst {a : Addr} {xs : List V} {ds : List PyData} : H a = some (.lst xs) → DqAll H xs ds → Dq H (.ref a) (.list ds)
  | tup {a : Addr} {xs : List V} {ds : List PyData} : H a = some (.tup xs) → DqAll H xs ds → Dq H (.ref a) (.tuple ds)
  | dct {a : Addr} {kvs : List (Key × V)} {ds : List (PyData × PyData)} : H a = some (.dK kvs) → DqKv H kvs ds → Dq H (.ref a) (.dict ds)
inductive DqAll (H : Hp) : List V → List PyData → Prop
  | nil : DqAll H [] []
  | cons {v : V} {vs : List V} {d : PyData} {ds : List PyData} : Dq H v d → DqAll H vs ds → DqAll H (v :: vs) (d :: ds)
inductive DqKv (H : Hp) : List (Key × V) → List (PyData × PyData) → Prop
  | nil : DqKv H [] []
  | cons {k : Key} {v : V} {r : List (Key × V)} {d : PyData} {ds : List (PyData × PyData)} : Dq H v d → DqKv H r ds → DqKv H ((k, v) :: r) ((kD k, d) :: ds)
end
def Trk (H : Hp) (as : List Addr) : Prop := ∀ a, a ∈ as → H a ≠ none
theorem Trk.nil {H : Hp} : Trk H [] := fun _ h => nomatch h
theorem Trk.app {H : Hp} {as bs : List Addr} (h1 : Trk H as) (h2 : Trk H bs) : Trk H (as ++ bs) := fun a h => (List.mem_append.mp h).elim (h1 a) (h2 a)
theorem Trk.one {H : Hp} {a : Addr} {o : HO} {as : List Addr} (h : H a = some o) (h2 : Trk H as) : Trk H (a :: as) := fun b hb => by
  rcases List.mem_cons.mp hb with e | hb
  · subst e; rw [h]; simp
  · exact h2 b hb
section
variable {X : Cx} {pins : List (Addr × Obj)} {σ : L2.St} {H : Hp} {s : Shared}
mutual
theorem Dq.reads (I : Inv X pins σ H s) : ∀ (d : PyData) (v : V) (u : Value), Dq H v d → RelV v u → ∃ as, Reads s.heap u d as ∧ Trk H as
  | .none, _, _, h, r => by cases h; cases r; exact ⟨_, Reads.none, Trk.nil⟩
  | .bool b, _, _, h, r => by cases h; cases r; exact ⟨_, Reads.bool b, Trk.nil⟩
  | .int i, _, _, h, r => by cases h; obtain ⟨t, rfl⟩ := r; exact ⟨_, Reads.int i t, Trk.nil⟩
  | .str x, _, _, h, r => by cases h; obtain ⟨t, rfl⟩ := r; exact ⟨_, Reads.str x t, Trk.nil⟩
  | .list ds, _, _, h, r => by
    cases h with
    | @lst a xs _ hs ha =>
      cases r
      obtain ⟨_, its, n, rv, ho⟩ := (show ObjOk X.prog X.w H s.heap a (.lst xs) from I.hok _ _ hs)
      obtain ⟨as, hr, tr⟩ := Dq.readsAll I ds _ its ha rv
      exact ⟨_, Reads.list ho rfl rfl (by simpa using hr), Trk.one hs tr⟩
  | .tuple ds, _, _, h, r => by
    cases h with
    | @tup a xs _ hs ha =>
      cases r
      obtain ⟨_, its, rv, o, ho, hc, n, hd⟩ := (show ObjOk X.prog X.w H s.heap a (.tup xs) from I.hok _ _ hs)
      obtain ⟨as, hr, tr⟩ := Dq.readsAll I ds _ its ha rv
      exact ⟨_, Reads.tuple ho hc hd (by simpa using hr), tr⟩
  | .dict ds, _, _, h, r => by
    cases h with
    | @dct a kvs _ hs ha =>
      cases r
      obtain ⟨_, _, vs, rv, o, es, ep, ho, hx, hd, _, hp, _⟩ := (show ObjOk X.prog X.w H s.heap a (.dK kvs) from I.hok _ _ hs)
      obtain ⟨as, bs, h1, h2, t1, t2⟩ := Dq.readsKv I ds kvs vs es.toList ha rv hp
      exact ⟨_, Reads.dict ho hx.1 hd h1 h2, Trk.app (Trk.one hs t1) t2⟩
theorem Dq.readsAll (I : Inv X pins σ H s) : ∀ (ds : List PyData) (vs : List V) (us : List Value), DqAll H vs ds → Vals vs us → ∃ as, ReadsAll s.heap us ds as ∧ Trk H as
  | [], _, _, h, r => by cases h; cases r; exact ⟨_, ReadsAll.nil, Trk.nil⟩
  | d :: ds, _, _, h, r => by
    cases h with
    | cons h1 h2 =>
      cases r with
      | cons r1 r2 =>
        obtain ⟨as, q1, t1⟩ := Dq.reads I d _ _ h1 r1
        obtain ⟨bs, q2, t2⟩ := Dq.readsAll I ds _ _ h2 r2
        exact ⟨_, ReadsAll.cons q1 q2, Trk.app t1 t2⟩
theorem Dq.readsKv (I : Inv X pins σ H s) : ∀ (ds : List (PyData × PyData)) (kvs : List (Key × V)) (vs : List (Key × Value)) (es : List DictEntry), DqKv H kvs ds → KV kvs vs → Pairs (mixKind X.prog X.w) es vs →
    ∃ as bs, ReadsAll s.heap (es.map (·.key)) (ds.map (·.1)) as ∧ ReadsAll s.heap (es.map (·.val)) (ds.map (·.2)) bs ∧ Trk H as ∧ Trk H bs
  | [], _, _, _, h, r, p => by cases h; cases r; cases p; exact ⟨_, _, ReadsAll.nil, ReadsAll.nil, Trk.nil, Trk.nil⟩
  | (_, d) :: ds, _, _, _, h, r, p => by
    cases h with
    | @cons k v _ _ _ h1 h2 =>
      cases r with
      | cons r1 r2 =>
        cases p with
        | cons p1 p2 p3 =>
          obtain ⟨as, bs, q1, q2, t1, t2⟩ := Dq.readsKv I ds _ _ _ h2 r2 p3
          obtain ⟨e1, rv⟩ := r1
          rw [← e1] at p1
          rw [← p2] at rv
          obtain ⟨cs, q3, t3⟩ := Dq.reads I d _ _ h1 rv
          rcases keyIs_shape (show keyIs k _ = true from p1) with ⟨i, t, rfl, e⟩ | ⟨x, t, rfl, e⟩
          · exact ⟨_, _, ReadsAll.cons (by show Reads s.heap (DictEntry.key _) (.int i) []; rw [e]; exact Reads.int i t) q1, ReadsAll.cons q3 q2, Trk.app Trk.nil t1, Trk.app t3 t2⟩
          · exact ⟨_, _, ReadsAll.cons (by show Reads s.heap (DictEntry.key _) (.str x) []; rw [e]; exact Reads.str x t) q1, ReadsAll.cons q3 q2, Trk.app Trk.nil t1, Trk.app t3 t2⟩
end
end
section
variable {X : Cx}
/-- repr of a value without parts -/
theorem call_repr_b : CallR X (.builtin "repr") (fun xs H Q => ∃ b : Bool, xs = [.bl b] ∧ Q (.str (PyData.bool b).shown) H) := by
  intro pins s σ H xs us Q I r h
  obtain ⟨b, rfl, q⟩ := h
  obtain ⟨u, rfl, rx⟩ := vals1 r
  cases rx
  exact PySem.P.repr_of_bool ⟨.str _, H, I.tok _, ⟨_, rfl⟩, q⟩
/-- repr of data of any depth, where no repr runs further out -/
def rRepr : List V → Hp → VK → Prop := fun xs H Q => ∃ (x : V) (d : PyData), xs = [x] ∧ Dq H x d ∧ d.showable = true ∧ d.depth ≤ 60 ∧ d.shown.length ≤ sizeLine ∧ Q (.str d.shown) H
theorem call_repr_q (hS : ∃ o, X.base.get? sysModules = some o) (hg : X.A.guards = some []) (hu : X.A.units + 64 < cLine) : CallR X (.builtin "repr") rRepr := by
  intro pins s σ H xs us Q I r h
  obtain ⟨x, d, rfl, hd, hs, hdp, hl, q⟩ := h
  obtain ⟨u, rfl, rx⟩ := vals1 r
  obtain ⟨as, hr, tr⟩ := Dq.reads I d x u hd rx
  obtain ⟨o, ho⟩ := hS
  have hsm : sysModules ∉ as := fun hm => tr _ hm (I.bs _ _ ho).2
  cases hr with
  | none => exact PySem.P.repr_of_none ⟨.str _, H, I.tok _, ⟨_, rfl⟩, q⟩
  | bool b => exact PySem.P.repr_of_bool ⟨.str _, H, I.tok _, ⟨_, rfl⟩, q⟩
  | int i t => exact PySem.P.repr_of_int (by simpa [PyData.showable] using hs) ⟨.str _, H, I.tok _, ⟨_, rfl⟩, q⟩
  | str y t => exact PySem.P.repr_of_str ⟨.str _, H, I.tok _, ⟨_, rfl⟩, q⟩ hl
  | list h1 h2 h3 h4 => exact repr_of_reads' (.list h1 h2 h3 h4) hs (fun _ => hsm) hg (by omega) (fun _ _ e => e) (fun h' u tk hk => ⟨.str _, H, I.kept hk, ⟨u, rfl⟩, q⟩) hl
  | tuple h1 h2 h3 h4 => exact repr_of_reads' (.tuple h1 h2 h3 h4) hs (fun _ => hsm) hg (by omega) (fun _ _ e => e) (fun h' u tk hk => ⟨.str _, H, I.kept hk, ⟨u, rfl⟩, q⟩) hl
  | dict h1 h2 h3 h4 h5 => exact repr_of_reads' (.dict h1 h2 h3 h4 h5) hs (fun _ => hsm) hg (by omega) (fun _ _ e => e) (fun h' u tk hk => ⟨.str _, H, I.kept hk, ⟨u, rfl⟩, q⟩) hl
/-- an expression by what is known of its value -/
theorem pe_mo {e : Expr} {t : TE} (he : PE X e t) : PE X e (fun σ H Q => ∃ R : VK, t σ H R ∧ ∀ x H1, R x H1 → Q x H1) :=
  ⟨fun pins s σ H Q I ⟨R, h, k⟩ => thn (he.run pins s σ H R I h) fun u s1 ⟨x, H1, I1, r, q⟩ => ⟨x, H1, I1, r, k x H1 q⟩⟩
/-- a test by what is known of its answer -/
theorem pt_mo {e : Expr} {t : TT} (he : PT X e t) : PT X e (fun σ H Q => ∃ R : Bool → Hp → Prop, t σ H R ∧ ∀ b H1, R b H1 → Q b H1) :=
  ⟨fun pins s σ H Q I ⟨R, h, k⟩ => thn (he.run pins s σ H R I h) fun b s1 ⟨H1, I1, q⟩ => ⟨H1, I1, k b H1 q⟩⟩
/-- a statement that is never come to -/
theorem ps_dead {st : Stmt} : PS X st (fun _ _ _ => False) := ⟨fun _ _ _ _ _ _ h => h.elim⟩
theorem pss_dead {st : List Stmt} : PSs X st (fun _ _ _ => False) := ⟨fun _ _ _ _ _ _ h => h.elim⟩
end
end KX

set_option Elab.async false
set_option linter.all false
set_option maxRecDepth 100000
set_option maxHeartbeats 4000000
/-! Defs that may use that no repr runs further out (GOk), their calls, and the law's entry for them. -/
namespace KX
open PySem PySem.Spec PyProof.Rows L2
/-- as FnOk, of calls in whose surroundings no container's repr runs -/
structure GOk (P : Program) (w : World) (K : PySem.W.Frag) (mg : Str → Option Value) (base : Heap) (CX : CXT) (k : Nat) (f : Addr) (fd : FuncData) (ps : List Str) (sp : Sp) : Prop where
  arity : ∀ vs H Q E, sp vs H Q E → vs.length = ps.length
  go : ∀ (A : Around) (out : List Env) (s : Shared) (H : Hp) (args : Args) (us : List Value) (vs : List V) (Q : VK) (E : XK),
    Room k A → A.guards = some [] → Env0 P w K mg base A out s H → BindsTo s fd args (ps.zip us) → Vals vs us → sp vs H Q E →
    codeAny (model P w) A (.call (.ref f) args) (CR CX out P w H s Q E) s
theorem FnOk.g {P : Program} {w : World} {K : PySem.W.Frag} {mg : Str → Option Value} {base : Heap} {CX : CXT} {k : Nat} {f : Addr} {fd : FuncData} {ps : List Str} {sp : Sp}
    (F : FnOk P w K mg base CX k f fd ps sp) : GOk P w K mg base CX k f fd ps sp := ⟨F.len, fun A out s H args us vs Q E hr _ => F.run A out s H args us vs Q E hr⟩
section
variable {P : Program} {w : World} {K : PySem.W.Frag} {mg : Str → Option Value} {base : Heap}
/-- a def of the text, by its body, where no repr runs further out -/
theorem gok {CX : CXT} {x qual : Str} {st : Stmt} {f : Addr} {fd : FuncData} {N ps : List Str} {k : Nat} {sp : Sp} (F : Fun K x qual st f fd) (S : FnScope N ps (defScope st))
    (ar : ∀ vs H Q E, sp vs H Q E → vs.length = ps.length)
    (body : ∀ (cdv : Value) (A : Around) (out : List Env) (s : Shared) (H : Hp) (vs : List V) (Q : VK) (E : XK),
      Room k (A.deeper (envOfC qual (defScope st) s.heap.objs.size f cdv)) → A.guards = some [] → sp vs H Q E →
      ∃ t, PSs (cxOf CX P w K mg base N qual (defScope st) f cdv A out s H E).nox (defBody st) t ∧ t { nx := fun _ H' => Q .non H', rt := Q } (start N vs) H) :
    GOk P w K mg base CX (k + 1) f fd ps sp := by
  obtain ⟨oc, od, kV, doc, pm, an, cdv, ct, osl, rfl, lk, hcd⟩ := F.ex
  refine ⟨ar, fun A out s H args us vs Q E hr hA e0 hb r hsp => ?_⟩
  -- the library's rule for a def is about every surroundings: it is asked for a promise that carries this one's guards along
  have hl := ar _ _ _ _ hsp
  have kin : K.In s.heap := e0.mod.kin.keeps fun b o e => (e0.bs b o e).1
  have par : ∀ y ∈ ps.zip us, (defScope st).names.lookup y.1 = some .local ∨
      ((defScope st).names.lookup y.1 = some .cell ∧ ((cellsFrom (s.heap.objs.size + 1) (defScope st).names []).lookup y.1).isSome = true) := by
    rintro ⟨n, v⟩ hy
    exact (S.par n (List.of_mem_zip hy).1).imp id fun q => ⟨q, PySem.W.cellsFrom_some _ _ _ (.inl q)⟩
  refine codeAny_call_function hr.depth (kin _ _ lk) rfl S.co S.gen rfl (PySem.W.codeRec_of kin hcd) (hb _ _ _ _ (wpAny_newFunctionEnv_cells S.kind par ?_))
  rintro _ rfl s1 x
  refine ⟨(e0.mod.nolimit.keeps fun b o e => (e0.bs b o e).1).keeps x.toInCall.keep, codeAny_func ?_⟩
  obtain ⟨t, ht, hq⟩ := body cdv A out s H vs Q E (hr.deeper _) hA hsp
  have I := inv_start (P := P) (w := w) (mg := mg) (CX := CX) (E := E) S hr.hd e0 hl r x
  refine wpAny_mono (ht.nox.run [] s1 _ H _ I hq) (fun fl s' hs => ?_) fun _ _ hs => hs
  match fl, hs with
  | .ret u, ⟨v, _, H', J, rv, q⟩ => exact ⟨v, H', J.os, J.bare, J.base, J.hok, rv, q⟩
  | .next, ⟨_, H', J, q⟩ => exact ⟨V.non, H', J.os, J.bare, J.base, J.hok, rfl, q⟩
  | .brk, ⟨_, _, _, q⟩ => exact q.elim
  | .cont, ⟨_, _, _, q⟩ => exact q.elim
end
section
variable {X : Cx} {CX : CXT} {k : Nat} {f : Addr} {fd : FuncData} {ps : List Str} {sp : Sp} {dvs : List V} {ds : List Value} {E : XK} {x : Str} {p pos : Pos} {e : Expr} {es : List Expr} {t : TA}
/-- the call of such a def where no repr runs further out -/
theorem pe_g (F : GOk X.prog X.w X.K X.mg X.base CX k f fd ps sp) (hA : X.A.guards = some []) (hr : Room k X.A) (hg : Gl X x) (hm : X.mg x = some (.ref f)) (hk : PySem.W.keepIn X.K (.ref f) = true)
    (hb : Binds X.K fd ps ds) (hd : Vals dvs ds) (hx : Passes CX X E) (ha : PA X (e :: es) t) (hdb : (x == ("__debug__" : Str)) = false := by decide)
    (he : starEach (e :: es) X.env = (false, eval e X.env) :: starEach es X.env := by rfl) (hpl : (backTo pos (starEach es X.env)).any (·.1) = false := by rfl) :
    PE X (.Call (.Name x p) (e :: es) [] pos) (tCall sp dvs E t) := ⟨fun pins s σ H Q I h => by
  refine wpAny_Call_Name_kw (ld_glob I hg hm (PySem.W.callWith_K (h₀ := X.base) I.ok.mod.kin hk (thn (ha.run pos pins s σ H _ I h) ?_) he hpl) hdb)
  rintro us s1 ⟨vs, H1, I1, r, q⟩
  have r2 : Vals (vs ++ dvs) (us ++ ds) := r.append hd
  have hl : (us ++ ds).length = ps.length := by rw [← r2.length]; exact F.arity _ _ _ _ q
  refine ⟨I1.kIn, wpAny_call (codeAny_mono (F.go X.A X.stack s1 H1 ⟨us, []⟩ (us ++ ds) (vs ++ dvs) Q E hr hA I1.env0 (hb s1 us I1.kIn hl) r2 q) fun r s' hq => ?_)⟩
  match r, hq with
  | .error e, hq => exact hx pins σ H1 s1 e s' I1 hq
  | .ok (.ret u), hq => exact I1.after hq⟩
end
section
variable {X : Cx} {CX : CXT} {k : Nat} {f : Addr} {fd : FuncData} {ps ks : List Str} {sp : Sp} {E : XK} {x : Str} {p pos : Pos} {kws : List Keyword} {tk : TA} {g : List Value → List Value → List Value} {gV : List V → List V → List V}
/-- f(k = v, ..), every argument by its name -/
theorem pe_kw0 (F : FnOk X.prog X.w X.K X.mg X.base CX k f fd ps sp) (hr : Room k X.A) (hg : Gl X x) (hm : X.mg x = some (.ref f)) (hk : PySem.W.keepIn X.K (.ref f) = true) (hb : KBinds X.K fd ps ks g gV) (hx : Passes CX X E)
    (hkw : PK X kws tk) (hall : (backToKw pos (keywordEach kws X.env)).all (·.1.isSome) = true := by rfl) (hks : (backToKw pos (keywordEach kws X.env)).filterMap (·.1) = ks := by rfl) (hdb : (x == ("__debug__" : Str)) = false := by decide)
    (hpl : ((backTo pos (starEach [] X.env)).any (·.1) || (backToKw pos (keywordEach kws X.env)).any (·.1.isNone)) = false := by rfl) :
    PE X (.Call (.Name x p) [] kws pos) (tCallK sp gV E tNil tk) := ⟨fun pins s σ H Q I h => by
  refine wpAny_Call_Name_kw (ld_glob I hg hm (PySem.W.callWith_KW0 (h₀ := X.base) I.ok.mod.kin hk hall (thn (hkw.run pos pins s σ H _ I h) ?_) hpl) hdb)
  rintro ws s2 ⟨zs, H2, I2, rz, q2⟩
  rw [hks]
  exact ⟨I2.kIn, run_fnk (us := []) (vs := []) F hr hb hx I2 .nil rz q2⟩⟩
end
/-- one parameter, by its place or by its name -/
theorem kb1 {K : PySem.W.Frag} {fd : FuncData} {a : Str} (h : ∀ u : Value, bindArgs fd ⟨[u], []⟩ = pure [(a, u)]) (h2 : ∀ u : Value, bindArgs fd ⟨[], [(a, u)]⟩ = pure [(a, u)]) : KBinds K fd [a] [a] (fun us ws => us ++ ws) (fun us ws => us ++ ws) where
  to := fun s us ws _ hl => by
    match us, ws, hl with
    | [], [w], _ => exact .of_eq (h2 w)
    | [u], [], _ => exact .of_eq (h u)
  rel := fun r q => r.append q
/-- what the law's def is called with: base holds sys.modules, and no repr runs -/
theorem law_g {P : Program} {w : World} {K : PySem.W.Frag} {mg mb : Str → Option Value} {k : Nat} {fa a : Addr} {fd : FuncData} {x : Str} {sp : Sp} {s₁ : Shared} {vs : List Value} {ns : List Int}
    (kin : K.In s₁.heap) (hns : s₁.heap.Ns mainGlobals mg) (hb : s₁.heap.Ns builtinsNs mb) (hbb : ∀ x : Str, x ≠ "__name__" → mb x = bootBuiltins x) (hlim : s₁.heap.NoLimit) (hsys : ∃ mm, s₁.heap.Ns sysModules mm) (hg : s₁.gens = #[])
    (ha : s₁.heap.get? a = some { cls := .type "list", data := .seq vs.toArray }) (hi : IntsAre vs ns) (hl : ns.length ≤ sizeLine) (hr : Room k callerA)
    (F : ∀ base : Heap, K.In base → base.Ns mainGlobals mg → (∃ o, base.get? sysModules = some o) → GOk P w K mg base CX0 k fa fd [x] sp) (hbind : ∀ (s : Shared) (u : Value), BindsTo s fd ⟨[u], []⟩ [(x, u)])
    (hsp : ∀ H : Hp, Only H → SqL K H a (ns.map V.int) → sp [.ref a] H (fun v _ => v = .bl true) fun _ _ _ => False) :
    codeAny (model P w) callerA (.call (.ref fa) ⟨[.ref a], []⟩) (fun r s' => r = .ok (.ret (.bool true)) ∧ OldK s₁.heap s'.heap ∧ s'.os = s₁.os ∧ AllBare s'.gens) s₁ := by
  have rv := vals_ints hi
  have nV := hi.length
  let ob : Obj := { cls := .type "list", data := .seq vs.toArray }
  suffices core : ∀ H : Hp, Only H → SqL K H a (ns.map V.int) → HOk P w H s₁.heap → (∀ b, H b ≠ none → b = a ∧ K.lookup a = none) →
      codeAny (model P w) callerA (.call (.ref fa) ⟨[.ref a], []⟩) (fun r s' => r = .ok (.ret (.bool true)) ∧ OldK s₁.heap s'.heap ∧ s'.os = s₁.os ∧ AllBare s'.gens) s₁ by
    cases hk : K.lookup a with
    | some o =>
      have e := kin a o hk
      rw [ha] at e
      cases e
      exact core (fun _ => none) (fun _ => .inl rfl) (.inr ⟨_, vs.toArray, _, hk, rfl, rfl, rfl, by rw [List.size_toArray, nV]; exact hl, by simpa using rv⟩) (fun _ _ z => nomatch z) fun _ z => absurd rfl z
    | none =>
      refine core (fun b => if b = a then some (.frz ob (.lst (ns.map V.int))) else none) (fun b => ?_) (.inl (.inr ⟨ob, if_pos rfl⟩)) (fun b u z => ?_) (fun b z => ?_)
      · by_cases hb : b = a
        · exact .inr ⟨_, _, if_pos hb⟩
        · exact .inl (if_neg hb)
      · by_cases hb : b = a
        · have z' := (if_pos hb).symm.trans z
          cases z'; subst hb
          exact ⟨ha, by rw [List.length_map]; exact hl, vs, _, rv, ha⟩
        · exact nomatch (if_neg hb).symm.trans z
      · by_cases hb : b = a
        · exact ⟨hb, hk⟩
        · exact absurd (if_neg hb) z
  intro H hO hS hok hA
  have keep : ∀ {b : Addr} {o : Obj}, s₁.heap.get? b = some o → H b = none → (hidT s₁.heap H).get? b = some o := fun e n => hidT_get e n
  have free : ∀ {b : Addr} {o : Obj}, s₁.heap.get? b = some o → (∀ es ep, o.data = .dict es ep → H b = none) := fun {b o} e es ep d => by
    refine Classical.byContradiction fun q => ?_
    obtain ⟨e', _⟩ := hA b q
    rw [e', ha] at e; cases e
    exact nomatch d
  have ns2 : ∀ {b : Addr} {m : Str → Option Value}, s₁.heap.Ns b m → (hidT s₁.heap H).Ns b m := fun {b m} ⟨o, es, ep, e, d, r⟩ => ⟨o, es, ep, keep e (free e _ _ d), d, r⟩
  have kb : K.In (hidT s₁.heap H) := fun b o e => keep (kin b o e) <| Classical.byContradiction fun q => by
    obtain ⟨e', n⟩ := hA b q
    rw [e', n] at e; cases e
  have M : Mod K mg (hidT s₁.heap H) := ⟨kb, ns2 hns, ⟨mb, ns2 hb, hbb⟩, hlim.elim fun mc h => ⟨mc, ns2 h.1, h.2⟩⟩
  have e0 : Env0 P w K mg (hidT s₁.heap H) callerA [] s₁ H := ⟨rfl, M, fun b o e => of_hidT e, Nat.le_of_eq (hidT_size _ _), trivial, fun _ hb => (nomatch hb), hok, .of_eq hg⟩
  have sys : ∃ o, (hidT s₁.heap H).get? sysModules = some o := hsys.elim fun mm h => (ns2 h).elim fun o h => h.elim fun _ h => h.elim fun _ h => ⟨o, h.1⟩
  refine codeAny_mono ((F _ kb (ns2 hns) sys).go callerA [] s₁ H ⟨[.ref a], []⟩ [.ref a] [.ref a] _ _ hr rfl e0 (hbind s₁ (.ref a)) (.cons rfl .nil) (hsp H hO hS)) fun r s' h => ?_
  match r, h with
  | .error e, h => exact h.elim
  | .ok (.ret u), ⟨v, H', os, bare, un, hok', r', q⟩ =>
    have q' : v = .bl true := q
    subst q'
    obtain rfl : u = Value.bool true := r'
    refine ⟨rfl, OldK.of_keep fun b o e => ?_, os, bare⟩
    cases q : H b with
    | none => exact un.keep b o e q (fun z => nomatch z) (fun z => nomatch z)
    | some u =>
      rcases hO b with z | ⟨_, xs, z⟩
      · rw [q] at z; cases z
      · obtain ⟨e1, _⟩ := hok b _ z
        obtain ⟨e2, _⟩ := hok' b _ (un.frzs b _ _ z)
        rw [e] at e1; cases e1
        exact e2
/-- the goal that k_head leaves, by the law's promise -/
theorem walk_g {l : PySem.W.OpenLaw} {n k : Nat} {q : Program} {loose : List Str} {XP : (Str → Option Value) → Heap → Prop} {YP : World → Heap → Prop} {d : DefRec} {K : Params → PySem.W.Frag} {sp : PySem.W.Frag → Sp} {x : Str}
    (hn : l.most = some n) (hn2 : n ≤ sizeLine) (hdf : d.params.defaults = []) (hr : Room k callerA) (him : importsNone q = true) (hY : ∀ (w : World) (h : Heap), YP w h → (K w.params).In h)
    (F : ∀ (w : World) (mg : Str → Option Value) (fa : Addr) (h : Heap), (K w.params).In h → h.Ns mainGlobals mg → mg d.name = some (.ref fa) →
      ∃ fd : FuncData, (∀ (s : Shared) (u : Value), BindsTo s fd ⟨[u], []⟩ [(x, u)]) ∧
        ∀ base : Heap, (K w.params).In base → base.Ns mainGlobals mg → (∃ o, base.get? sysModules = some o) → GOk l.prog w (K w.params) mg base CX0 k fa fd [x] (sp (K w.params)))
    (hsp : ∀ (K : PySem.W.Frag) (H : Hp) (a : Addr) (ns : List Int), ns.length ≤ n → Only H → SqL K H a (ns.map V.int) → sp K [.ref a] H (fun v _ => v = .bl true) fun _ _ _ => False) :
    PySem.W.WalkO q loose XP YP l.row.toRowW d [] (fun f vs => PySem.call f vs) := by
  refine Att.attach_call hn hdf fun w s₀ s₁ mg mb fa o pm cd doc a vs ns G Y ho hd hcd hmg hobj hints hlen hg => ?_
  obtain ⟨fd, hb, hF⟩ := F w mg fa _ (hY w _ Y) G.T.g hmg
  obtain ⟨mm, hmm, _⟩ := (G.T.seer him).mods
  exact law_g (hY w _ Y) G.T.g G.T.b G.T.builtins G.T.nolimit ⟨mm, hmm⟩ hg hobj hints (Nat.le_trans hlen hn2) hr hF hb fun H hO hS => hsp _ H a ns hlen hO hS
end KX

set_option Elab.async false
set_option linter.all false
set_option maxRecDepth 100000
set_option maxHeartbeats 4000000
/-! Own layer: short texts, picks by a drawn index. -/
namespace KX
open PySem PySem.Spec PyProof.Rows L2
/-- a short text of codes that repr shows in at most ten signs each -/
def Ss (n : Nat) (z : Str) : Prop := z.length ≤ n ∧ ∀ c, c ∈ z.cps.toList → c < 1114112
theorem Ss.mono {n m : Nat} {z : Str} (h : Ss n z) (l : n ≤ m) : Ss m z := ⟨Nat.le_trans h.1 l, h.2⟩
theorem Ss.app {n m : Nat} {a b : Str} (h : Ss n a) (g : Ss m b) : Ss (n + m) (a ++ b) := by
  refine ⟨by rw [strLen_append]; exact Nat.add_le_add h.1 g.1, fun c hc => ?_⟩
  have e : (a ++ b).cps.toList = a.cps.toList ++ b.cps.toList := Array.toList_append
  rw [e] at hc
  exact (List.mem_append.mp hc).elim (h.2 c) (g.2 c)
theorem Ss.cut {n : Nat} {a : Str} (h : Ss n a) (lo hi : Option Int) : Ss n (cutS a lo hi) := by
  refine ⟨Nat.le_trans (cutS_length a lo hi) h.1, fun c hc => h.2 c ?_⟩
  have hc' : c ∈ (a.cps.toList.drop (HT.sIx a.length 0 lo)).take (HT.sIx a.length a.length hi - HT.sIx a.length 0 lo) := by simpa [cutS] using hc
  exact List.mem_of_mem_drop (List.mem_of_mem_take hc')
theorem Ss.sign {c : Nat} (h : c < 1114112) : Ss 1 ⟨#[c]⟩ := ⟨Nat.le_refl 1, fun d hd => by simp at hd; subst hd; exact h⟩
theorem Ss.nil : Ss 0 (Str.ofString "") := ⟨by decide, by decide⟩
theorem Ss.join {m : Nat} : ∀ {ys : List Str}, (∀ y, y ∈ ys → Ss m y) → Ss (ys.length * m) (Str.join (Str.ofString "") ys)
  | [], _ => by rw [List.length_nil, Nat.zero_mul]; exact Ss.nil
  | [x], h => by rw [List.length_singleton, Nat.one_mul]; exact h x (List.mem_singleton.mpr rfl)
  | x :: z :: r, h => by
    have h1 := h x List.mem_cons_self
    have h2 := Ss.join (ys := z :: r) fun y hy => h y (List.mem_cons_of_mem _ hy)
    have h3 := (h1.app Ss.nil).app h2
    refine Ss.mono (show Ss _ (x ++ Str.ofString "" ++ Str.join (Str.ofString "") (z :: r)) from h3) ?_
    simp only [List.length_cons]
    rw [Nat.succ_mul (r.length + 1) m]
    omega
theorem Ss.joinT {m : Nat} {ys : List Str} (h : ∀ y, y ∈ ys → Ss m y) : Ss (ys.length * m) (Txt.join (Str.ofString "") ys) := by
  rw [show Txt.join (Str.ofString "") ys = Str.join (Str.ofString "") ys from StrLaws.glued_eq_join _ ys]; exact Ss.join h
theorem Ss.sum {m : Nat} : ∀ {ys : List Str}, (∀ y, y ∈ ys → Ss m y) → (ys.map (·.length)).sum ≤ ys.length * m
  | [], _ => by simp
  | x :: r, h => by
    have h1 := (h x List.mem_cons_self).1
    have h2 := Ss.sum (ys := r) fun y hy => h y (List.mem_cons_of_mem _ hy)
    simp only [List.map_cons, List.sum_cons, List.length_cons, Nat.succ_mul]
    omega
/-- an item by an index in bounds -/
theorem pick {α : Type} {xs : List α} {i : Int} (h0 : 0 ≤ i) (h1 : i < (xs.length : Int)) : ∃ (j : Nat) (v : α), xs[j]? = some v ∧ v ∈ xs ∧ i = (j : Int) ∧ atI xs i = some v := by
  have hj : i.toNat < xs.length := by omega
  have e : i = ((i.toNat : Nat) : Int) := by omega
  refine ⟨i.toNat, xs[i.toNat], List.getElem?_eq_getElem hj, List.getElem_mem hj, e, ?_⟩
  have q : atI xs ((i.toNat : Nat) : Int) = some xs[i.toNat] := atI_nat (List.getElem?_eq_getElem hj)
  rw [← e] at q
  exact q
theorem pickI {xs : List Int} {i : Int} (h0 : 0 ≤ i) (h1 : i < (xs.length : Int)) : ∃ m, m ∈ xs ∧ atI (xs.map V.int) i = some (.int m) := by
  obtain ⟨j, v, h2, h3, h4, h5⟩ := pick (xs := xs.map V.int) h0 (by rw [List.length_map]; exact h1)
  obtain ⟨m, hm, rfl⟩ := List.mem_map.mp h3
  exact ⟨m, hm, h5⟩
/-- data that repr shows in few signs -/
structure OkD (n W : Nat) (d : PyData) : Prop where
  short : d.leavesShort 110 = true
  shows : d.showable = true
  deep : d.depth ≤ n
  wt : d.weight ≤ W
theorem OkD.mono {n m W U : Nat} {d : PyData} (h : OkD n W d) (h1 : n ≤ m) (h2 : W ≤ U) : OkD m U d := ⟨h.short, h.shows, Nat.le_trans h.deep h1, Nat.le_trans h.wt h2⟩
theorem OkD.len {n W : Nat} {d : PyData} (h : OkD n W d) (hW : W ≤ 100000) : d.shown.length ≤ sizeLine := by
  have h1 := PyData.shown_le 110 (by decide) d h.short
  have h2 := h.wt
  rw [sizeLine_eq]
  have h3 : (110 + 2) * d.weight ≤ 112 * 100000 := Nat.mul_le_mul_left 112 (by omega)
  omega
theorem OkD.none : OkD 0 0 .none := ⟨rfl, rfl, Nat.le_refl _, Nat.le_refl _⟩
theorem OkD.bool (b : Bool) : OkD 0 0 (.bool b) := ⟨rfl, rfl, Nat.le_refl _, Nat.le_refl _⟩
theorem OkD.str {n : Nat} {z : Str} (h : Ss n z) : OkD 0 n (.str z) := by
  refine ⟨?_, rfl, Nat.le_refl _, h.1⟩
  simp only [PyData.leavesShort, List.all_eq_true, decide_eq_true_eq]
  exact fun c hc => Nat.lt_trans (h.2 c hc) (by decide)
theorem OkD.int {i : Int} (h : i.natAbs < 2 ^ 98) : OkD 0 100 (.int i) := by
  have hl : i.natAbs.log2 < 98 := by
    by_cases z : i.natAbs = 0
    · rw [z]; decide
    · exact (Nat.log2_lt z).mpr h
  refine ⟨?_, ?_, Nat.le_refl _, ?_⟩
  · have q := int_text_length_le (a := i) (k := 98) (by decide) hl
    have e : (PyData.shown (.int i)).length = (toString i).length := PySem.ofString_length _
    simp only [PyData.leavesShort, decide_eq_true_eq]
    omega
  · simp only [PyData.showable, decide_eq_true_eq]; omega
  · simp only [PyData.weight]; split <;> omega
theorem OkD.intB {i : Int} (h : i.natAbs < 2 ^ 104) : OkD 0 106 (.int i) := by
  have hl : i.natAbs.log2 < 104 := by
    by_cases z : i.natAbs = 0
    · rw [z]; decide
    · exact (Nat.log2_lt z).mpr h
  refine ⟨?_, ?_, Nat.le_refl _, ?_⟩
  · have q := int_text_length_le (a := i) (k := 104) (by decide) hl
    have e : (PyData.shown (.int i)).length = (toString i).length := PySem.ofString_length _
    simp only [PyData.leavesShort, decide_eq_true_eq]
    omega
  · simp only [PyData.showable, decide_eq_true_eq]; omega
  · simp only [PyData.weight]; split <;> omega
/-- what is new in H', behind H -/
def nw (H H' : Hp) : Hp := fun b => match H b with
  | none => H' b
  | some _ => none
theorem nw_at {H H' : Hp} {b : Addr} (h : H b = none) : nw H H' b = H' b := by unfold nw; rw [h]
theorem nw_some {H H' : Hp} {b : Addr} {o : HO} (h : nw H H' b = some o) : H b = none ∧ H' b = some o := by
  unfold nw at h
  cases e : H b with
  | none => rw [e] at h; exact ⟨rfl, h⟩
  | some u => rw [e] at h; cases h
theorem nw_same {H H' : Hp} : Same (nw H H') H' := fun b o h => (nw_some h).2
mutual
theorem Dq.same {H G : Hp} (s : Same H G) : ∀ (d : PyData) (v : V), Dq H v d → Dq G v d
  | .none, _, h => by cases h; exact .non
  | .bool b, _, h => by cases h; exact .bl b
  | .int i, _, h => by cases h; exact .int i
  | .str x, _, h => by cases h; exact .str x
  | .list ds, _, h => by cases h with | lst h1 h2 => exact .lst (s _ _ h1) (DqAll.same s ds _ h2)
  | .tuple ds, _, h => by cases h with | tup h1 h2 => exact .tup (s _ _ h1) (DqAll.same s ds _ h2)
  | .dict ds, _, h => by cases h with | dct h1 h2 => exact .dct (s _ _ h1) (DqKv.same s ds _ h2)
theorem DqAll.same {H G : Hp} (s : Same H G) : ∀ (ds : List PyData) (vs : List V), DqAll H vs ds → DqAll G vs ds
  | [], _, h => by cases h; exact .nil
  | d :: ds, _, h => by cases h with | cons h1 h2 => exact .cons (Dq.same s d _ h1) (DqAll.same s ds _ h2)
theorem DqKv.same {H G : Hp} (s : Same H G) : ∀ (ds : List (PyData × PyData)) (kvs : List (Key × V)), DqKv H kvs ds → DqKv G kvs ds
  | [], _, h => by cases h; exact .nil
  | (_, d) :: ds, _, h => by cases h with | cons h1 h2 => exact .cons (Dq.same s d _ h1) (DqKv.same s ds _ h2)
end
/-- the value stands for some data of at most this depth and weight -/
def Dd (n W : Nat) (H : Hp) (v : V) : Prop := ∃ d, Dq H v d ∧ OkD n W d
theorem Dd.same {n W : Nat} {H G : Hp} {v : V} (h : Dd n W H v) (s : Same H G) : Dd n W G v := let ⟨d, a, b⟩ := h; ⟨d, Dq.same s d v a, b⟩
theorem Dd.mono {n m W U : Nat} {H : Hp} {v : V} (h : Dd n W H v) (h1 : n ≤ m) (h2 : W ≤ U) : Dd m U H v := let ⟨d, a, b⟩ := h; ⟨d, a, b.mono h1 h2⟩
theorem Dd.items {n W : Nat} {H : Hp} : ∀ {vs : List V}, (∀ v, v ∈ vs → Dd n W H v) → ∃ ds, DqAll H vs ds ∧ PyData.leavesShortAll 110 ds = true ∧ PyData.showableAll ds = true ∧ PyData.depthAll ds ≤ n ∧ PyData.weightAll ds ≤ vs.length * (W + 1)
  | [], _ => ⟨[], .nil, rfl, rfl, Nat.zero_le _, Nat.zero_le _⟩
  | v :: r, h => by
    obtain ⟨d, h1, h2⟩ := h v List.mem_cons_self
    obtain ⟨ds, g1, g2, g3, g4, g5⟩ := Dd.items (vs := r) fun u hu => h u (List.mem_cons_of_mem _ hu)
    refine ⟨d :: ds, .cons h1 g1, ?_, ?_, ?_, ?_⟩
    · simp only [PyData.leavesShortAll, h2.short, g2, Bool.and_self]
    · simp only [PyData.showableAll, h2.shows, g3, Bool.and_self]
    · have := h2.deep
      simp only [PyData.depthAll]; omega
    · have := h2.wt
      simp only [PyData.weightAll, List.length_cons, Nat.succ_mul]; omega
theorem Dd.lst {n W m : Nat} {H : Hp} {a : Addr} {vs : List V} (h : H a = some (.lst vs)) (l : vs.length ≤ m) (hv : ∀ v, v ∈ vs → Dd n W H v) : Dd (n + 1) (m * (W + 1)) H (.ref a) := by
  obtain ⟨ds, g1, g2, g3, g4, g5⟩ := Dd.items hv
  refine ⟨.list ds, .lst h g1, ⟨by simpa only [PyData.leavesShort] using g2, by simpa only [PyData.showable] using g3, by simp only [PyData.depth]; omega, ?_⟩⟩
  have := Nat.mul_le_mul_right (W + 1) l
  simp only [PyData.weight]; omega
theorem Dd.tup {n W m : Nat} {H : Hp} {a : Addr} {vs : List V} (h : H a = some (.tup vs)) (l : vs.length ≤ m) (hv : ∀ v, v ∈ vs → Dd n W H v) : Dd (n + 1) (m * (W + 1)) H (.ref a) := by
  obtain ⟨ds, g1, g2, g3, g4, g5⟩ := Dd.items hv
  refine ⟨.tuple ds, .tup h g1, ⟨by simpa only [PyData.leavesShort] using g2, by simpa only [PyData.showable] using g3, by simp only [PyData.depth]; omega, ?_⟩⟩
  have := Nat.mul_le_mul_right (W + 1) l
  simp only [PyData.weight]; omega
/-- a key is a short text -/
def KeyS (k : Key) : Prop := ∃ z, k = Sum.inr z ∧ Ss 9 z
theorem Dd.pairs {n W : Nat} {H : Hp} : ∀ {kvs : List (Key × V)}, (∀ kv, kv ∈ kvs → KeyS kv.1 ∧ Dd n W H kv.2) → ∃ ds, DqKv H kvs ds ∧ PyData.leavesShortKv 110 ds = true ∧ PyData.showableKv ds = true ∧ PyData.depthKv ds ≤ n ∧ PyData.weightKv ds ≤ kvs.length * (W + 11)
  | [], _ => ⟨[], .nil, rfl, rfl, Nat.zero_le _, Nat.zero_le _⟩
  | (k, v) :: r, h => by
    obtain ⟨⟨z, e, hz⟩, d, h1, h2⟩ := h (k, v) List.mem_cons_self
    obtain ⟨ds, g1, g2, g3, g4, g5⟩ := Dd.pairs (kvs := r) fun u hu => h u (List.mem_cons_of_mem _ hu)
    have e' : k = Sum.inr z := e
    subst e'
    have hk := OkD.str hz
    refine ⟨(kD (Sum.inr z), d) :: ds, .cons h1 g1, ?_, ?_, ?_, ?_⟩
    · show (PyData.leavesShort 110 (.str z) && d.leavesShort 110 && PyData.leavesShortKv 110 ds) = true
      rw [hk.short, h2.short, g2]; rfl
    · show (PyData.showable (.str z) && d.showable && PyData.showableKv ds) = true
      rw [hk.shows, h2.shows, g3]; rfl
    · have := h2.deep
      show max (max (PyData.depth (.str z)) d.depth) (PyData.depthKv ds) ≤ n
      have e0 : PyData.depth (.str z) = 0 := rfl
      omega
    · have w1 := h2.wt
      have w2 := hk.wt
      show PyData.weight (.str z) + d.weight + 2 + PyData.weightKv ds ≤ _
      simp only [List.length_cons, Nat.succ_mul]; omega
theorem Dd.dct {n W m : Nat} {H : Hp} {a : Addr} {kvs : List (Key × V)} (h : H a = some (.dK kvs)) (l : kvs.length ≤ m) (hv : ∀ kv, kv ∈ kvs → KeyS kv.1 ∧ Dd n W H kv.2) : Dd (n + 1) (m * (W + 11)) H (.ref a) := by
  obtain ⟨ds, g1, g2, g3, g4, g5⟩ := Dd.pairs hv
  refine ⟨.dict ds, .dct h g1, ⟨by simpa only [PyData.leavesShort] using g2, by simpa only [PyData.showable] using g3, by simp only [PyData.depth]; omega, ?_⟩⟩
  have := Nat.mul_le_mul_right (W + 11) l
  simp only [PyData.weight]; omega
theorem putK_all {p : Key × V → Prop} {k : Key} {v : V} (hv : p (k, v)) {kvs : List (Key × V)} (h : ∀ kv, kv ∈ kvs → p kv) : (∀ kv, kv ∈ putK kvs k v → p kv) ∧ (putK kvs k v).length ≤ kvs.length + 1 := by
  unfold putK
  split
  · refine ⟨fun kv hm => ?_, by rw [List.length_map]; omega⟩
    obtain ⟨x, hx, rfl⟩ := List.mem_map.mp hm
    by_cases e : x.1 = k
    · rw [if_pos e, e]; exact hv
    · rw [if_neg e]; exact h x hx
  · refine ⟨fun kv hm => ?_, by rw [List.length_append]; exact Nat.le_refl _⟩
    rcases List.mem_append.mp hm with q | q
    · exact h kv q
    · rw [List.mem_singleton.mp q]; exact hv
theorem mergeK_all {p : Key × V → Prop} : ∀ {more kvs : List (Key × V)}, (∀ kv, kv ∈ more → p kv) → (∀ kv, kv ∈ kvs → p kv) → (∀ kv, kv ∈ mergeK kvs more → p kv) ∧ (mergeK kvs more).length ≤ kvs.length + more.length
  | [], _, _, h => ⟨h, Nat.le_refl _⟩
  | (k, v) :: r, kvs, hm, h => by
    have h1 := putK_all (hm (k, v) List.mem_cons_self) h
    have h2 := mergeK_all (more := r) (kvs := putK kvs k v) (fun kv q => hm kv (List.mem_cons_of_mem _ q)) h1.1
    refine ⟨h2.1, ?_⟩
    have := h1.2
    have := h2.2
    show (mergeK (putK kvs k v) r).length ≤ kvs.length + (r.length + 1)
    omega
theorem KeyS.num {i : Nat} (h : i < 10) : KeyS (Sum.inr (Str.ofString (toString (i : Int)))) := by
  refine ⟨_, rfl, ?_⟩
  have hd : ∀ j : Fin 10, (Str.ofString (toString ((j.val : Nat) : Int))).length ≤ 9 ∧ ∀ c, c ∈ (Str.ofString (toString ((j.val : Nat) : Int))).cps.toList → c < 1114112 := by decide +kernel
  exact hd ⟨i, h⟩
end KX

set_option Elab.async false
set_option linter.all false
set_option maxRecDepth 100000
set_option maxHeartbeats 4000000
/-! Own layer: try with several clauses «except C as n», each of them the only one that takes the error; the clauses behind are never looked at. -/
namespace KX
open PySem PySem.Spec PyProof.Rows L2
abbrev Cla := Value × Nat × (Addr → Value → Option Addr → TS)
/-- behind a suite the clause's name is gone -/
def gone (D : Ends) (i : Nat) : Ends := { nx := fun τ G => D.nx (τ.set i none) G, rt := D.rt, bk := fun τ G => D.bk (τ.set i none) G, ct := fun τ G => D.ct (τ.set i none) G }
def wTo (K : PySem.W.Frag) (D : Ends) : List Cla → WX
  | [] => fun _ _ _ _ => False
  | (c, i, ts) :: r => fun cls d σ H => ∃ b, PySem.W.exmOne K cls c = some b ∧ (b = true → ∀ a, H a = none → ts a cls d (gone D i) (σ.set i (some (.ref a))) H) ∧ (b = false → wTo K D r cls d σ H)
inductive Clauses (X : Cx) : List ExceptHandler → List Cla → Prop
  | rest {hds : List ExceptHandler} : Clauses X hds []
  | cons {x n : Str} {c : Value} {i : Nat} {ts : Addr → Value → Option Addr → TS} {st : Stmt} {more : List Stmt} {np pos' : Pos} {hds : List ExceptHandler} {l : List Cla} (hc : Names X x c) (hi : X.N[i]? = some n) (hl : X.env.kindOf n = some .local)
      (su : ∀ (a : Addr) (oe : Obj) (cls : Value) (d : Option Addr) (pn : List (Addr × Obj)), Zc cls d oe → (∃ vs, oe.data = .fields vs) → PSs (X.suite a ((a, oe) :: pn)) (st :: more) (ts a cls d)) (r : Clauses X hds l) :
      Clauses X (.ExceptHandler (some (.Name x np)) (some n) (st :: more) pos' :: hds) ((c, i, ts) :: l)
section
variable {X : Cx} {body : List Stmt} {h0 : ExceptHandler} {hds : List ExceptHandler} {l : List Cla} {pos : Pos} {tb : WX → TS}
theorem ps_try_to (hs : X.stack = X.env :: X.outer) (hf : X.env.frame = some X.env.locals) (nd : X.N.Nodup) (cl : Clauses X (h0 :: hds) l)
    (hb : ∀ (W : WX) (pn : List (Addr × Obj)) (xe : Value → Shared → Prop), Takes (X.tr pn xe) W → PassesOwn (model X.prog X.w) X.A X.env xe → PSs (X.tr pn xe) body (tb W)) :
    PS X (.Try body (h0 :: hds) [] [] pos) (fun D σ H => tb (wTo X.K D l) D σ H) := ⟨fun pins s σ H D I h => by
  have ok := I.ok
  have fr : X.A.frames = some (X.env :: X.outer) := ok.frames.trans (congrArg some hs)
  let after : Value → Shared → Prop := fun e s1 => wpAny (model X.prog X.w) X.A (noteFrame e X.env) (fun _ s2 =>
    wpAny (model X.prog X.w) X.A (setFlight e none) (fun _ s3 => wpAny (model X.prog X.w) X.A (handleBy e X.env (h0 :: hds)) (SP X pins D) X.xe s3) X.xe s2) X.xe s1
  refine wpAny_Try_except (wpAny_mono ((hb (wTo X.K D l) (X.pn ++ pins) after (fun u s1 z => ?_) PassesOwn.looking).run [] s σ H D (I.toTry _) h) (fun fl s1 z => ?_) fun _ _ z => z)
  · obtain ⟨a, B, s0, pins1, σ1, H1, cls, d, rfl, J0, nb, up, sky, na, os, ag, wish⟩ := z
    have J : Inv X pins σ1 H1 s0 := J0.ofTry ok
    show wpAny (model X.prog X.w) X.A (noteFrame (.ref a) X.env) _ _ _
    refine Sky.land Zc.steady fr hf (by rw [← hs]; exact sky) fun h3 fl3 up3 => ?_
    have J3 : Inv X pins σ1 H1 { s1 with heap := h3 } := J.landed nb fl3.1 (up.trans up3) os ag
    obtain ⟨oe, vs, he, hz, hd⟩ := fl3.there
    have off : a ∉ frs (X.env :: X.outer) := fun m => by
      obtain ⟨_, o1, e1, nf⟩ := fl3.2.2.1.mem m
      exact nf _ ((Option.some.inj (e1.symm.trans he)) ▸ hd)
    have offL : a ≠ X.env.locals := fun e => off (List.mem_filterMap.mpr ⟨X.env, List.mem_cons_self, by rw [hf, e]⟩)
    have offF : a ∉ X.fs := fun m => by
      obtain ⟨en, m1, m2⟩ := List.mem_filterMap.mp m
      exact off (List.mem_filterMap.mpr ⟨en, List.mem_cons_of_mem _ m1, m2⟩)
    have S3 := J3.suite he hd na offL offF
    have ty : PySem.W.Looks (model X.prog X.w) h3 (typeOf (.ref a)) cls := fun A' Q' E' t k q => wpAny_typeOf_ref (k _ _ he) (hz.1 ▸ q)
    clear h
    revert cl wish
    generalize h0 :: hds = all
    intro cl
    induction cl with
    | rest => exact fun z => z.elim
    | @cons x n c i ts st more np pos' hds' l' hc hi hl su r ih =>
      rintro ⟨b, hb1, yes, no⟩
      refine wpAny_handleBy_cons (codeAny_handlers_test ?_) (by intro e; cases e)
      have name : ∀ {Q' : Value → Shared → Prop} {E' : Value → Shared → Prop}, Q' c { s1 with heap := h3 } → wpAny (model X.prog X.w) (X.A.mark (some (.ref a))) (eval (.Name x np) X.env) Q' E' { s1 with heap := h3 } := fun q => by
        obtain ⟨g, db, m | ⟨m, bt, nn⟩⟩ := hc
        · exact ld_glob (X := X.suite a ((a, oe) :: (X.pn ++ pins))) S3 g m q db
        · exact ld_blt (X := X.suite a ((a, oe) :: (X.pn ++ pins))) S3 g m bt q nn db
      refine name ((PySem.W.exm_one J3.kIn ty hb1).here ?_)
      cases b with
      | false => exact ih (no rfl)
      | true =>
        refine codeAny_handlers_suite_as (HandSPX.lands_againZ fl3 fun h4 fl4 up4 => ?_)
        have J4 : Inv X pins σ1 H1 { s1 with heap := h4 } := J.landed nb fl4.1 ((up.trans up3).trans up4) os ag
        obtain ⟨oe4, vs4, he4, hz4, hd4⟩ := fl4.there
        refine store_ok (X := X.suite a ((a, oe4) :: (X.pn ++ pins))) (v := .ref a) (J4.suite he4 hd4 na offL offF) nd hi (.inl hl) rfl (fun s5 S5 => ?_) (.inr hl)
        refine wpAny_mono ((su a oe4 cls d (X.pn ++ pins) hz4 ⟨_, hd4⟩).run [] s5 _ H1 _ S5 (yes rfl a na)) (fun fl s6 z => ?_) fun _ _ z => z.elim
        have leave : ∀ {τ : L2.St} {G : Hp} {R : Shared → Prop}, Inv (X.suite a ((a, oe4) :: (X.pn ++ pins))) [] τ G s6 → (∀ s7, Inv X pins (τ.set i none) G s7 → R s7) →
            wpAny (model X.prog X.w) X.A (do bindName X.env n .none; unbindBehindTheSuite X.env n pos') (fun _ s7 => R s7) X.xe s6 := fun S hq => gone_ok (S.unsuite ok) nd hi hl hq
        match fl, z with
        | .next, ⟨_, _, S, q⟩ => exact leave S fun _ K7 => ⟨_, _, K7, q⟩
        | .brk, ⟨_, _, S, q⟩ => exact leave S fun _ K7 => ⟨_, _, K7, q⟩
        | .cont, ⟨_, _, S, q⟩ => exact leave S fun _ K7 => ⟨_, _, K7, q⟩
        | .ret u, ⟨_, _, _, S, rv, q⟩ => exact leave S fun _ K7 => ⟨_, _, _, K7, rv, q⟩
  · match fl, z with
    | .next, ⟨_, _, K7, q⟩ => exact wpAny_execs_nil ⟨_, _, K7.ofTry ok, q⟩
    | .brk, ⟨_, _, K7, q⟩ => exact ⟨_, _, K7.ofTry ok, q⟩
    | .cont, ⟨_, _, K7, q⟩ => exact ⟨_, _, K7.ofTry ok, q⟩
    | .ret u, ⟨_, _, _, K7, rv, q⟩ => exact ⟨_, _, _, K7.ofTry ok, rv, q⟩⟩
end
end KX

set_option Elab.async false
set_option linter.all false
set_option maxRecDepth 100000
set_option maxHeartbeats 4000000
/-! Own layer: exception classes «class C(..): def __init__(self, f): self.f = f»: made, raised, read in the suite. -/
namespace KX
open PySem PySem.Spec PyProof.Rows L2
/-- __init__ of such a class -/
def spEi (K : PySem.W.Frag) (C : Addr) (f : Str) : Sp := fun vs H Q _ => ∃ (a : Addr) (v : V), vs = [.ref a, v] ∧ H a = some (exo a C none) ∧ OexC K C ∧ PySem.W.findIn K (.ref C) f = some none ∧
  ∀ dx, H dx = none → dx ≠ a → Q .non (upd (upd H dx (exd dx [(f, v)])) a (exo a C (some dx)))
theorem exo_ne {e C d : Addr} (H : Hp) {o : HO} : (upd H e o) d = none → d ≠ e := fun h z => by rw [z, upd_same] at h; cases h
theorem made_heap {H : Hp} {a C dx : Addr} {o1 o2 o3 o4 : HO} (ha : H a = none) (n : dx ≠ a) : upd (del (upd (upd (upd H a o1) dx o2) a o3) a) dx o4 = upd H dx o4 := by
  funext b
  by_cases h1 : b = dx
  · subst h1; rw [upd_same, upd_same]
  · rw [upd_ne h1, upd_ne h1]
    by_cases h2 : b = a
    · subst h2; rw [del_same, ha]
    · rw [del_ne h2, upd_ne h2, upd_ne h1, upd_ne h2]
section
variable {X : Cx}
/-- arguments by what is known of them -/
def tMoA (ta : TA) : TA := fun σ H Q => ∃ R : List V → Hp → Prop, ta σ H R ∧ ∀ vs H1, R vs H1 → Q vs H1
theorem pa_mo {es : List Expr} {ta : TA} (h : PA X es ta) : PA X es (tMoA ta) :=
  ⟨fun pos pins s σ H Q I ⟨R, h1, k⟩ => thn (h.run pos pins s σ H R I h1) fun us s1 ⟨vs, H1, I1, r, q⟩ => ⟨vs, H1, I1, r, k vs H1 q⟩⟩
/-- C(e) -/
def tMkV (C : Addr) (f : Str) (ta : TA) : L2.St → Hp → XK → Prop := fun σ H Q => ∃ R : List V → Hp → Prop, ta σ H R ∧ ∀ vs H1, R vs H1 → ∃ v, vs = [v] ∧ ∀ d, H1 d = none → Q (.ref C) (some d) (upd H1 d (.xd [(f, v)]))
theorem pmk_val {x f ps1 ps2 : Str} {C fI : Addr} {k : Nat} {fd : FuncData} {e : Expr} {ta : TA} {p pos : Pos} (T : OexC X.K C) (iC : PySem.W.findIn X.K (.ref C) "__init__" = some (some (.ref fI))) (tI : PySem.W.typeIn X.K (.ref fI) = some (.type "function"))
    (noF : PySem.W.findIn X.K (.ref C) f = some none) (F1 : FnOk X.prog X.w X.K X.mg X.base CX0 k fI fd [ps1, ps2] (spEi X.K C f)) (hr : Room (k + 1) X.A) (hb : Binds X.K fd [ps1, ps2] []) (hg : Gl X x) (hm : X.mg x = some (.ref C)) (ha : PA X [e] ta)
    (hdb : (x == ("__debug__" : Str)) = false := by decide) (he : starEach [e] X.env = (false, eval e X.env) :: starEach [] X.env := by rfl) (hpl : (backTo pos (starEach [] X.env)).any (·.1) = false := by rfl) :
    PMk X (.Call (.Name x p) [e] [] pos) (tMkV C f ta) := by
  intro pins s σ H Q I h
  obtain ⟨R, h1, kk⟩ := h
  refine pmk_oex T iC tI F1 hr hb .nil (fun _ _ _ _ _ _ _ z => z.elim) hg hm (pa_mo ha) hdb he hpl pins s σ H Q I ⟨R, h1, fun vs H1 r => ?_⟩
  obtain ⟨v, rfl, q⟩ := kk vs H1 r
  refine ⟨(by show 1 ≤ 1000; decide), fun a hn => ⟨a, v, rfl, upd_same, T, noF, fun dx hdx nd => ⟨rfl, dx, [(f, v)], upd_same, by rw [upd_ne nd]; exact upd_same, ?_, ?_⟩⟩⟩
  · rw [upd_ne nd] at hdx; exact hdx
  · rw [made_heap (C := C) hn nd]
    refine q dx ?_
    rw [upd_ne nd] at hdx; exact hdx
end
section
variable {X : Cx} {k : Nat} {f : Addr} {fd : FuncData} {ps ks : List Str} {sp : Sp} {E : L2.St → XK} {x : Str} {p pos : Pos} {e : Expr} {es : List Expr} {kws : List Keyword} {t tk : TA} {g : List Value → List Value → List Value} {gV : List V → List V → List V}
/-- f(e, .., k = v, ..) in a try: what it raises is taken with the slots as they are -/
def tCallKS (sp : Sp) (gV : List V → List V → List V) (E : L2.St → XK) (t tk : TA) : TE := fun σ H Q => t σ H fun vs H1 => tk σ H1 fun zs H2 => sp (gV vs zs) H2 Q (E σ)
theorem pe_callKS (F : FnOk X.prog X.w X.K X.mg X.base (L2.CX X.prog X.w) k f fd ps sp) (hr : Room k X.A) (hg : Gl X x) (hm : X.mg x = some (.ref f)) (hk : PySem.W.keepIn X.K (.ref f) = true) (hb : KBinds X.K fd ps ks g gV) (hx : ∀ σ, PassesAt (L2.CX X.prog X.w) X σ (E σ))
    (ha : PA X (e :: es) t) (hkw : PK X kws tk) (hall : (backToKw pos (keywordEach kws X.env)).all (·.1.isSome) = true := by rfl) (hks : (backToKw pos (keywordEach kws X.env)).filterMap (·.1) = ks := by rfl) (hdb : (x == ("__debug__" : Str)) = false := by decide)
    (he : starEach (e :: es) X.env = (false, eval e X.env) :: starEach es X.env := by rfl) (hpl : ((backTo pos (starEach (e :: es) X.env)).any (·.1) || (backToKw pos (keywordEach kws X.env)).any (·.1.isNone)) = false := by rfl) :
    PE X (.Call (.Name x p) (e :: es) kws pos) (tCallKS sp gV E t tk) := ⟨fun pins s σ H Q I h => by
  refine wpAny_Call_Name_kw (ld_glob I hg hm (PySem.W.callWith_KW (h₀ := X.base) I.ok.mod.kin hk hall (thn (ha.run pos pins s σ H _ I h) ?_) hpl he) hdb)
  rintro us s1 ⟨vs, H1, I1, r, q⟩
  refine thn (hkw.run pos pins s1 σ H1 _ I1 q) ?_
  rintro ws s2 ⟨zs, H2, I2, rz, q2⟩
  rw [hks]
  refine ⟨I2.kIn, ?_⟩
  have r2 := hb.rel r rz
  have hl : (g us ws).length = ps.length := by rw [← r2.length]; exact F.len _ _ _ _ q2
  refine wpAny_call (codeAny_mono (F.run X.A X.stack s2 H2 ⟨us, ks.zip ws⟩ (g us ws) (gV vs zs) Q (E σ) hr I2.env0 (hb.to s2 us ws I2.kIn hl) r2 q2) fun o s' hq => ?_)
  match o, hq with
  | .error u, hq => exact hx σ pins H2 s2 u s' I2 hq
  | .ok (.ret u), hq => exact I2.after hq
  | .ok .next, hq => exact hq.elim
  | .ok .brk, hq => exact hq.elim
  | .ok .cont, hq => exact hq.elim⟩
end
/-- what an exception class's makers and readers need of it -/
structure ETx (K : PySem.W.Frag) (mg : Str → Option Value) (x f : Str) (C fI : Addr) : Prop where
  ox : OexC K C
  xf : XfC K C
  iC : PySem.W.findIn K (.ref C) "__init__" = some (some (.ref fI))
  tI : PySem.W.typeIn K (.ref fI) = some (.type "function")
  noF : PySem.W.findIn K (.ref C) f = some none
  mgC : mg x = some (.ref C)
end KX

set_option Elab.async false
set_option linter.all false
set_option maxRecDepth 100000
set_option maxHeartbeats 4000000
/-! Own layer: texts of digits. -/
namespace KX
open PySem
/-- the signs of a text -/
def cs (z : Str) : List Nat := z.cps.toList
theorem cs_len (z : Str) : (cs z).length = z.length := by unfold cs; rw [Array.length_toList]; rfl
theorem str_ext {y z : Str} (h : cs y = cs z) : y = z := by
  obtain ⟨⟨a⟩⟩ := y
  obtain ⟨⟨b⟩⟩ := z
  exact congrArg (fun l => (⟨⟨l⟩⟩ : Str)) h
def dg (c : Nat) : Bool := decide (48 ≤ c) && decide (c ≤ 57)
/-- behind a minus -/
def ab : List Nat → List Nat
  | 45 :: r => r
  | l => l
/-- a decimal number of at most thirty digits -/
def dec (l : List Nat) : Bool := decide (l = [48]) || (decide (ab l ≠ []) && (ab l).all dg && decide ((ab l).head? ≠ some 48) && decide ((ab l).length ≤ 30))
def nval (l : List Nat) : Int := match l with
  | 45 :: r => -((NumText.digitsVal r : Nat) : Int)
  | l => ((NumText.digitsVal l : Nat) : Int)
theorem all_dg {l : List Nat} (h : l.all dg = true) : NumText.AllDigits l := fun c hc => by
  have := List.all_eq_true.mp h c hc
  unfold dg at this
  obtain ⟨h1, h2⟩ := Bool.and_eq_true_iff.mp this
  exact ⟨of_decide_eq_true h1, of_decide_eq_true h2⟩
theorem uni_dg {c : Nat} (h : c < 128) : Unicode.isDigit c = dg c := by
  have e : Txt.isdigit ⟨#[c]⟩ = dg c := PySem.W.os_isdigit h
  have e2 : Txt.isdigit ⟨#[c]⟩ = (Unicode.isDigit c) := by
    show (decide ((⟨#[c]⟩ : Str).length > 0) && (#[c] : Array Nat).all Unicode.isDigit) = _
    simp [Str.length]
  rw [← e2, e]
theorem asc_cs (z : Str) : Txt.isascii z = (cs z).all (fun c => decide (c < 128)) := by
  unfold Txt.isascii cs
  rw [Array.all_toList]
theorem dig_cs {z : Str} (h : Txt.isascii z = true) : Txt.isdigit z = (decide (cs z ≠ []) && (cs z).all dg) := by
  rw [asc_cs] at h
  unfold Txt.isdigit
  have e : z.cps.all Unicode.isDigit = (cs z).all dg := by
    rw [← Array.all_toList]
    show (cs z).all Unicode.isDigit = _
    rw [Bool.eq_iff_iff, List.all_eq_true, List.all_eq_true]
    exact ⟨fun k c hc => by rw [← uni_dg (of_decide_eq_true (List.all_eq_true.mp h c hc))]; exact k c hc, fun k c hc => by rw [uni_dg (of_decide_eq_true (List.all_eq_true.mp h c hc))]; exact k c hc⟩
  rw [e]
  refine congrArg (· && _) ?_
  rw [Bool.eq_iff_iff, decide_eq_true_iff, decide_eq_true_iff, ← cs_len]
  exact ⟨fun k n => by rw [n] at k; exact absurd k (Nat.lt_irrefl 0), fun k => List.length_pos_iff.mpr k⟩
/-- dg signs are below 128 -/
theorem dg_asc {l : List Nat} (h : l.all dg = true) : l.all (fun c => decide (c < 128)) = true := by
  refine List.all_eq_true.mpr fun c hc => ?_
  have := all_dg h c hc
  exact decide_eq_true (by omega)
theorem int_cs {z : Str} (h : dec (cs z) = true) : intText? z = some (nval (cs z)) := by
  unfold dec at h
  rcases Bool.or_eq_true_iff.mp h with h | h
  · have e : cs z = [48] := of_decide_eq_true h
    rw [e]
    have ez : z = ⟨#[48]⟩ := str_ext e
    rw [ez]
    exact PySem.intText_digits (x := ⟨#[48]⟩) (fun c hc => by cases List.mem_singleton.mp hc; decide) (List.cons_ne_nil _ _) (by decide)
  · obtain ⟨h, h4⟩ := Bool.and_eq_true_iff.mp h
    obtain ⟨h, h3⟩ := Bool.and_eq_true_iff.mp h
    obtain ⟨h1, h2⟩ := Bool.and_eq_true_iff.mp h
    have n0 : ab (cs z) ≠ [] := of_decide_eq_true h1
    have l30 : (ab (cs z)).length ≤ 30 := of_decide_eq_true h4
    have ad := all_dg h2
    match hz : cs z with
    | 45 :: r =>
      rw [hz] at n0 l30 ad
      have hl : z.length ≤ 4300 := by rw [← cs_len, hz]; have : r.length ≤ 30 := l30; simp; omega
      exact PySem.intText_neg (x := z) hz ad n0 hl
    | [] => rw [hz] at n0; exact absurd rfl n0
    | c :: r =>
      by_cases hc : c = 45
      · subst hc
        rw [hz] at n0 l30 ad
        have hl : z.length ≤ 4300 := by rw [← cs_len, hz]; have : r.length ≤ 30 := l30; simp; omega
        exact PySem.intText_neg (x := z) hz ad n0 hl
      · have ea : ab (c :: r) = c :: r := by
          unfold ab
          split
          · rename_i q; exact absurd (List.cons.inj q).1 hc
          · rfl
        have ev : nval (c :: r) = ((NumText.digitsVal (c :: r) : Nat) : Int) := by
          unfold nval
          split
          · rename_i q; exact absurd (List.cons.inj q).1 hc
          · rfl
        rw [hz, ea] at n0 l30 ad
        have hl : z.length ≤ 4300 := by rw [← cs_len, hz]; omega
        rw [ev, ← hz]
        exact PySem.intText_digits (x := z) (by show NumText.AllDigits (cs z); rw [hz]; exact ad) (by show cs z ≠ []; rw [hz]; exact n0) hl
/-- text.removeprefix('-') -/
theorem rp_cs (z : Str) : cs (Txt.removeprefix z ⟨#[45]⟩) = ab (cs z) := by
  rw [StrLaws.removeprefix_eq, StrLaws.subAt_eq]
  have l1 : (⟨#[45]⟩ : Str).length = 1 := rfl
  have e1 : (⟨#[45]⟩ : Str).cps.toList = [45] := rfl
  rw [l1, e1]
  have hc : z.cps.toList = cs z := rfl
  have hn := cs_len z
  rw [hc]
  match hz : cs z with
  | [] =>
    rw [if_neg (by rw [Bool.and_eq_true]; rintro ⟨_, q⟩; exact absurd q (by decide))]
    exact hz
  | c :: r =>
    have hl : z.length = r.length + 1 := by rw [← hn, hz]; rfl
    by_cases h : c = 45
    · subst h
      rw [if_pos (by rw [Bool.and_eq_true]; exact ⟨decide_eq_true (by omega), rfl⟩)]
      show ((List.drop 1 (45 :: r)).take (z.length - 1)).toArray.toList = r
      rw [hl]
      show r.take (r.length + 1 - 1) = r
      rw [Nat.add_sub_cancel]
      exact List.take_length
    · rw [if_neg (by
        rw [Bool.and_eq_true]; rintro ⟨_, q⟩
        have q' : ([c] == [45]) = true := q
        exact h (List.cons.inj (eq_of_beq q')).1)]
      have ea : ab (c :: r) = c :: r := by
        unfold ab
        split
        · rename_i q; exact absurd (List.cons.inj q).1 h
        · rfl
      rw [ea]; exact hz
end KX

set_option Elab.async false
set_option linter.all false
set_option maxRecDepth 100000
set_option maxHeartbeats 4000000
/-! Own layer: a text times a number; a call that raises nothing. -/
namespace KX
open PySem PySem.Spec PyProof.Rows L2
def repS (z : Str) (k : Int) : Str := ⟨(List.replicate k.toNat z.cps).foldl (fun a b => a ++ b) #[]⟩
theorem foldl_app (z : Array Nat) : ∀ (n : Nat) (acc : Array Nat), ((List.replicate n z).foldl (fun a b => a ++ b) acc).toList = acc.toList ++ (List.replicate n z.toList).flatten
  | 0, acc => by simp
  | n + 1, acc => by
    rw [List.replicate_succ, List.foldl_cons, foldl_app z n, Array.toList_append, List.replicate_succ, List.flatten_cons, List.append_assoc]
theorem repS_cs (z : Str) (k : Int) : cs (repS z k) = (List.replicate k.toNat (cs z)).flatten := by
  show ((List.replicate k.toNat z.cps).foldl (fun a b => a ++ b) #[]).toList = _
  rw [foldl_app]; rfl
theorem repS_len (z : Str) (k : Int) : (repS z k).length = k.toNat * z.length := by
  rw [← cs_len, repS_cs, List.length_flatten, List.map_replicate, List.sum_replicate_nat, cs_len]
theorem repS_mem {z : Str} {k : Int} {c : Nat} (h : c ∈ cs (repS z k)) : c ∈ cs z := by
  rw [repS_cs] at h
  obtain ⟨l, h1, h2⟩ := List.mem_flatten.mp h
  rw [(List.mem_replicate.mp h1).2] at h2
  exact h2
section
variable {X : Cx}
theorem op_mulS : OpR X (binaryOp .Mult) (fun x y H Q => ∃ z k, x = .str z ∧ y = .int k ∧ 2 ≤ k ∧ k ≤ 10000 ∧ z.length = 1 ∧ Q (.str (repS z k)) H) := by
  intro pins s σ H x y v u Q I rx ry h
  obtain ⟨z, k, rfl, rfl, h1, h2, h3, q⟩ := h
  obtain ⟨t, rfl⟩ := rx
  obtain ⟨t', rfl⟩ := ry
  have n1 : ¬ k < 1 := by omega
  have n2 : (k == 1 || z.length == 0) = false := by
    rw [h3]
    have : (k == 1) = false := by rw [beq_eq_false_iff_ne]; omega
    rw [this]; rfl
  have hl : (repS z k).length ≤ sizeLine := by rw [repS_len, h3, sizeLine_eq]; omega
  refine P.mul_str ?_ (fun _ _ => ?_) (fun _ _ => ?_) ?_
  · rw [decide_eq_false (by omega), decide_eq_false (by omega)]; rfl
  · rw [h3]
    have : (1 : Int) ≤ (2 ^ 63 - 1) / k := Int.le_ediv_of_mul_le (by omega) (by omega)
    exact fun z => absurd this (Int.not_le.mpr z)
  · have : z.length * k.toNat ≤ sizeLine := by rw [h3, sizeLine_eq]; omega
    unfold Builtin.Str.tooLong
    exact decide_eq_false (by omega)
  · rw [if_neg n1, n2, if_neg Bool.false_ne_true]
    exact ⟨hl, .str (repS z k), H, I.tok _, ⟨_, rfl⟩, q⟩
/-- a def that may raise, called where it raises nothing -/
theorem passF {P : Program} {w : World} : Passes (L2.CX P w) X (fun _ _ _ => False) := fun _ _ _ _ _ _ _ h => by
  obtain ⟨_, _, _, _, _, _, _, _, _, _, _, _, h⟩ := h
  exact h.elim
end
section
variable {X : Cx} {CX : CXT} {k : Nat} {f : Addr} {fd : FuncData} {ps ks : List Str} {sp : Sp} {E : XK} {x : Str} {p pos : Pos} {kws : List Keyword} {tk : TA} {g : List Value → List Value → List Value} {gV : List V → List V → List V}
/-- f(k = v, ..), defaults fill up -/
theorem pe_kwN (F : FnOk X.prog X.w X.K X.mg X.base CX k f fd ps sp) (hr : Room k X.A) (hg : Gl X x) (hm : X.mg x = some (.ref f)) (hk : PySem.W.keepIn X.K (.ref f) = true) (hb : KBn X.K fd ps 0 ks g gV) (hx : Passes CX X E)
    (hkw : PK X kws tk) (hall : (backToKw pos (keywordEach kws X.env)).all (·.1.isSome) = true := by rfl) (hks : (backToKw pos (keywordEach kws X.env)).filterMap (·.1) = ks := by rfl) (hdb : (x == ("__debug__" : Str)) = false := by decide)
    (hpl : ((backTo pos (starEach [] X.env)).any (·.1) || (backToKw pos (keywordEach kws X.env)).any (·.1.isNone)) = false := by rfl) :
    PE X (.Call (.Name x p) [] kws pos) (tCallN 0 ks.length sp gV E tNil tk) := ⟨fun pins s σ H Q I h => by
  refine wpAny_Call_Name_kw (ld_glob I hg hm (PySem.W.callWith_KW0 (h₀ := X.base) I.ok.mod.kin hk hall (thn (hkw.run pos pins s σ H _ I h) ?_) hpl) hdb)
  rintro ws s2 ⟨zs, H2, I2, rz, l1, l2, q2⟩
  rw [hks]
  exact ⟨I2.kIn, run_fnN (us := []) (vs := []) F hr hb hx I2 .nil rz l1 l2 q2⟩⟩
end
section
variable {X : Cx} {k n : Nat} {f : Addr} {fd : FuncData} {ps ks : List Str} {sp : Sp} {E : L2.St → XK} {x : Str} {p pos : Pos} {e : Expr} {es : List Expr} {kws : List Keyword} {t tk : TA} {g : List Value → List Value → List Value} {gV : List V → List V → List V}
/-- f(e, .., k = v, ..) in a try, n places and the keywords ks, the other defaults fill up -/
def tCallNS (n m : Nat) (sp : Sp) (gV : List V → List V → List V) (E : L2.St → XK) (t tk : TA) : TE := fun σ H Q => t σ H fun vs H1 => tk σ H1 fun zs H2 => vs.length = n ∧ zs.length = m ∧ sp (gV vs zs) H2 Q (E σ)
theorem pe_callNS (F : FnOk X.prog X.w X.K X.mg X.base (L2.CX X.prog X.w) k f fd ps sp) (hr : Room k X.A) (hg : Gl X x) (hm : X.mg x = some (.ref f)) (hk : PySem.W.keepIn X.K (.ref f) = true) (hb : KBn X.K fd ps n ks g gV) (hx : ∀ σ, PassesAt (L2.CX X.prog X.w) X σ (E σ))
    (ha : PA X (e :: es) t) (hkw : PK X kws tk) (hall : (backToKw pos (keywordEach kws X.env)).all (·.1.isSome) = true := by rfl) (hks : (backToKw pos (keywordEach kws X.env)).filterMap (·.1) = ks := by rfl) (hdb : (x == ("__debug__" : Str)) = false := by decide)
    (he : starEach (e :: es) X.env = (false, eval e X.env) :: starEach es X.env := by rfl) (hpl : ((backTo pos (starEach (e :: es) X.env)).any (·.1) || (backToKw pos (keywordEach kws X.env)).any (·.1.isNone)) = false := by rfl) :
    PE X (.Call (.Name x p) (e :: es) kws pos) (tCallNS n ks.length sp gV E t tk) := ⟨fun pins s σ H Q I h => by
  refine wpAny_Call_Name_kw (ld_glob I hg hm (PySem.W.callWith_KW (h₀ := X.base) I.ok.mod.kin hk hall (thn (ha.run pos pins s σ H _ I h) ?_) hpl he) hdb)
  rintro us s1 ⟨vs, H1, I1, r, q⟩
  refine thn (hkw.run pos pins s1 σ H1 _ I1 q) ?_
  rintro ws s2 ⟨zs, H2, I2, rz, l1, l2, q2⟩
  rw [hks]
  refine ⟨I2.kIn, ?_⟩
  have r2 := hb.rel r rz
  refine wpAny_call (codeAny_mono (F.run X.A X.stack s2 H2 ⟨us, ks.zip ws⟩ (g us ws) (gV vs zs) Q (E σ) hr I2.env0 (hb.to s2 us ws I2.kIn (r.length.symm.trans l1) (rz.length.symm.trans l2)) r2 q2) fun o s' hq => ?_)
  match o, hq with
  | .error u, hq => exact hx σ pins H2 s2 u s' I2 hq
  | .ok (.ret u), hq => exact I2.after hq
  | .ok .next, hq => exact hq.elim
  | .ok .brk, hq => exact hq.elim
  | .ok .cont, hq => exact hq.elim⟩
end
/-- an except of the very class -/
theorem exm_mk {K : PySem.W.Frag} {C : Addr} (o : OexC K C) (s : PySem.W.subIn K (.ref C) (.ref C) = some true) : PySem.W.exmOne K (.ref C) (.ref C) = some true := by
  obtain ⟨⟨_, _, _, _, _, _, _, _, _, _, _, _, _, _, _, hC, _⟩, _, b, t, _⟩ := o
  have hcl : (PySem.W.clsIn K C).isSome = true := by unfold PySem.W.clsIn; rw [hC]; rfl
  unfold PySem.W.exmOne PySem.W.kitCls
  rw [b]
  show (if (some true == some true) = true then (if ((PySem.W.clsIn K C).isSome && PySem.W.typeIn K (.ref C) == some (.type "type")) = true then PySem.W.subIn K (.ref C) (.ref C) else none) else none) = some true
  rw [hcl, t, s]
  have e : (some (Value.type "type") == some (Value.type "type")) = true := by rfl
  rw [e]; rfl
end KX

set_option Elab.async false
set_option linter.all false
set_option maxRecDepth 100000
set_option maxHeartbeats 4000000
namespace L
open PySem L2 KX

def top (i : Nat) : Stmt := PySem.Challenge.pw_producttrees_k02_parsed_integers.main.body.getD i (.Pass ⟨0, 0, 0, 0⟩)
abbrev sCell : Stmt := top 11
abbrev sBox : Stmt := top 12
abbrev sTake : Stmt := top 13
/-- the names of built-ins are the built-ins' -/
structure Mn (mg : Str → Option Value) : Prop where
  max : mg "max" = none
  min : mg "min" = none
  len : mg "len" = none
  range : mg "range" = none
  repr : mg "repr" = none
  isin : mg "isinstance" = none
  all : mg "all" = none
  enum : mg "enumerate" = none
  tuple : mg "tuple" = none
  dict : mg "dict" = none
  str : mg "str" = none
  int : mg "int" = none
  bool : mg "bool" = none
  list : mg "list" = none
/-- the box of a cell stands at p -/
def Bx (H : Hp) (p : Addr) : Prop := ∃ b0 b1 b2 : Int, H p = some (.lst [.int b0, .int b1, .int b2]) ∧ 0 ≤ b0 ∧ 0 ≤ b1 ∧ b1 < 2147483647 ∧ 0 ≤ b2
/-- all but what stands at p is as it was -/
def Sx (p : Addr) (H H' : Hp) : Prop := ∀ b o, b ≠ p → H b = some o → H' b = some o
def spCell (K : PySem.W.Frag) : Sp := fun vs H Q _ => ∃ (a : Addr) (ns : List Int) (k : Int), vs = [.ref a, .int k] ∧ SqL K H a (ns.map V.int) ∧ 0 ≤ k ∧ ∀ c : Int, Q (.int c) H
def spBox : Sp := fun vs H Q _ => ∃ c : Int, vs = [.int c] ∧ ∀ p H', Same H H' → H p = none → Bx H' p → Q (.ref p) H'
def spTake : Sp := fun vs H Q _ => ∃ (p : Addr) (n : Int), vs = [.ref p, .int n] ∧ Bx H p ∧ 0 < n ∧ n < 316912650057057350374175801344 ∧ ∀ (r : Int) H', 0 ≤ r → r < n → Bx H' p → Sx p H H' → Q (.int r) H'
section
variable {P : Program} {w : World} {K : PySem.W.Frag} {mg : Str → Option Value} {base : Heap} {f : Addr} {fd : FuncData}
theorem scCell : FnScope ["script", "k"] ["script", "k"] (defScope sCell) := ⟨rfl, rfl, rfl, by decide +kernel, rfl, by decide +kernel, by decide +kernel⟩
theorem ok_cell (F : Fun K "_law_cell" "_law_cell" sCell f fd) (M : Mn mg) : FnOk P w K mg base CX0 1 f fd ["script", "k"] (spCell K) := by
  refine F.ok scCell (fun vs H Q E h => ?_) (fun cdv A outer s H vs Q E hr h => ?_)
  · obtain ⟨a, ns, k, rfl, _⟩ := h
    rfl
  obtain ⟨a, ns, k, rfl, hS, hk, q⟩ := h
  refine ⟨_, pss_cons (ps_if (pt_cmpR op_lt (pv 1) (pe_callB call_len_seq (by rfl) M.len PySem.boot_len (pa_cons (pv 0) pa_nil)) (nomark _)) (pss_one (ps_ret (pe_ix ix_list (pv 0) (pv 1) (fun _ _ => rfl)))) pss_nil)
    (pss_one (ps_ret (pe_op op_add (pe_op op_mul pe_int (pv 1)) pe_int))), ?_⟩
  refine ⟨_, rfl, _, rfl, a, _, rfl, .inl hS, _, _, rfl, rfl, _, rfl, ?_⟩
  refine ite2 (fun c => ?_) (fun c => ?_)
  · have c' : k < (((ns.map V.int).length : Nat) : Int) := of_decide_eq_true c
    rw [List.length_map] at c'
    have hlt : k.toNat < ns.length := by omega
    refine ⟨_, rfl, _, rfl, a, _, _, V.int ns[k.toNat], rfl, rfl, hS, at_of (j := k.toNat) (by omega) (by rw [List.getElem?_map, List.getElem?_eq_getElem hlt]; rfl), q _⟩
  · exact ⟨_, rfl, _, _, rfl, rfl, .inl ⟨by decide, by decide⟩, _, _, rfl, rfl, q _⟩
theorem scBox : FnScope ["cell"] ["cell"] (defScope sBox) := ⟨rfl, rfl, rfl, by decide +kernel, rfl, by decide +kernel, by decide +kernel⟩
theorem ok_box (F : Fun K "_law_box" "_law_box" sBox f fd) (M : Mn mg) : FnOk P w K mg base CX0 1 f fd ["cell"] spBox := by
  refine F.ok scBox (fun vs H Q E h => ?_) (fun cdv A outer s H vs Q E hr h => ?_)
  · obtain ⟨c, rfl, _⟩ := h
    rfl
  obtain ⟨c, rfl, q⟩ := h
  refine ⟨_, pss_one (ps_ret (pe_lst (pa_cons (pe_callB (call_max2 rfl) (by rfl) M.max (by decide +kernel) (pa_cons pe_int (pa_cons (pe_op op_sub (pv 0) (pe_op op_pow pe_int pe_int)) pa_nil)))
    (pa_cons (pe_op op_mod (pv 0) pe_int) (pa_cons pe_int pa_nil))))), ?_⟩
  refine ⟨_, rfl, _, _, rfl, rfl, ⟨by decide, by decide, by decide⟩, _, _, rfl, rfl, _, _, rfl, _, rfl, _, _, rfl, rfl, (by show (0 : Int) < 2147483629; decide), (by show 3 ≤ sizeLine; decide), fun p hp => ?_⟩
  refine q p _ (fun b o e => by rw [upd_ne (ne_of_none e hp)]; exact e) hp ⟨_, _, _, upd_same, ?_, Int.emod_nonneg _ (by decide), ?_, Int.le_refl 0⟩
  · split <;> omega
  · have := Int.emod_lt_of_pos c (show (0 : Int) < 2147483629 by decide)
    omega
theorem scTake : FnScope ["box", "size", "digit", "mixed"] ["box", "size"] (defScope sTake) := ⟨rfl, rfl, rfl, by decide +kernel, rfl, by decide +kernel, by decide +kernel⟩
theorem ok_take (F : Fun K "_law_take" "_law_take" sTake f fd) (M : Mn mg) : FnOk P w K mg base CX0 1 f fd ["box", "size"] spTake := by
  refine F.ok scTake (fun vs H Q E h => ?_) (fun cdv A outer s H vs Q E hr h => ?_)
  · obtain ⟨p, n, rfl, _⟩ := h
    rfl
  obtain ⟨p, n, rfl, ⟨b0, b1, b2, hp, z0, z1, z1', z2⟩, n0, n1, q⟩ := h
  refine ⟨_, pss_cons (ps_if (pt_cmpR op_gt (pe_ix ix_list (pv 0) pe_int (fun _ _ => rfl)) pe_int (nomark _))
      (pss_cons (ps_set (i := 2) scTake.nd rfl (Or.inl rfl) (pe_op op_mod (pe_ix ix_list (pv 0) pe_int (fun _ _ => rfl)) (pv 1)))
      (pss_cons (ps_asg (pe_op op_fdivW (pe_ix ix_list (pv 0) pe_int (fun _ _ => rfl)) (pv 1)) (pg_sub (pv 0) pe_int set_list))
      (pss_one (ps_ret (pv 2))))) pss_nil)
    (pss_cons (ps_asg (pe_op op_add (pe_ix ix_list (pv 0) pe_int (fun _ _ => rfl)) pe_int) (pg_sub (pv 0) pe_int set_list))
    (pss_cons (ps_set (i := 3) scTake.nd rfl (Or.inl rfl) (pe_op op_mod (pe_op op_add (pe_op op_add (pe_op op_mul (pe_ix ix_list (pv 0) pe_int (fun _ _ => rfl)) pe_int) (pe_op op_mul pe_int (pe_ix ix_list (pv 0) pe_int (fun _ _ => rfl)))) pe_int) pe_int))
    (pss_cons (ps_asg (pe_op op_mod (pe_op op_add (pe_op op_pow (pv 3) pe_int) (pe_op op_mul pe_int (pe_ix ix_list (pv 0) pe_int (fun _ _ => rfl)))) pe_int) (pg_sub (pv 0) pe_int set_list))
    (pss_one (ps_ret (pe_op op_mod (pe_op op_fdiv (pe_ix ix_list (pv 0) pe_int (fun _ _ => rfl)) pe_int) (pv 1))))))), ?_⟩
  refine ⟨_, rfl, p, _, _, _, rfl, rfl, SqL.of hp, rfl, _, _, rfl, rfl, _, rfl, ?_⟩
  refine ite2 (fun c => ?_) (fun c => ?_)
  · refine ⟨_, rfl, p, _, _, _, rfl, rfl, SqL.of hp, rfl, _, rfl, _, _, rfl, rfl, n0, ?_⟩
    refine ⟨_, rfl, p, _, _, _, rfl, rfl, SqL.of hp, rfl, _, rfl, _, _, rfl, rfl, wide_div (b := 98) n0 (by omega) (by decide) (by decide), _, rfl, p, _, _, 0, rfl, rfl, hp, rfl, ?_⟩
    refine ⟨_, rfl, q _ _ (Int.emod_nonneg _ (by omega)) (Int.emod_lt_of_pos _ n0) ⟨_, _, _, upd_same, Int.ediv_nonneg z0 (by omega), z1, z1', z2⟩ fun b o hb e => by rw [upd_ne hb]; exact e⟩
  · refine ⟨_, rfl, p, _, _, _, rfl, rfl, SqL.of hp, rfl, _, _, rfl, rfl, _, rfl, p, _, _, 2, rfl, rfl, hp, rfl, ?_⟩
    have h1 : ∀ o, (upd H p o) p = some o := fun o => upd_same
    refine ⟨_, rfl, p, _, _, _, rfl, rfl, SqL.of (h1 _), rfl, _, _, rfl, rfl, .inr ⟨by decide, by decide⟩, _, rfl, p, _, _, _, rfl, rfl, SqL.of (h1 _), rfl, _, _, rfl, rfl, .inl ⟨by decide, by decide⟩, _, _, rfl, rfl, _, _, rfl, rfl, _, _, rfl, rfl, (by show (0 : Int) < 2147483647; decide), ?_⟩
    have m0 : ∀ x : Int, 0 ≤ x % 2147483647 := fun x => Int.emod_nonneg _ (by decide)
    have m1 : ∀ x : Int, x % 2147483647 < 2147483647 := fun x => Int.emod_lt_of_pos _ (by decide)
    refine ⟨_, rfl, _, _, rfl, rfl, ⟨by decide, by decide, ?_⟩, _, rfl, p, _, _, _, rfl, rfl, SqL.of (h1 _), rfl, _, _, rfl, rfl, .inl ⟨by decide, by decide⟩, _, _, rfl, rfl, _, _, rfl, rfl, (by show (0 : Int) < 2147483647; decide), _, rfl, p, _, _, 1, rfl, rfl, (h1 _), rfl, ?_⟩
    · have a0 := m0 (b1 * 48271 + 69621 * (b2 + 1) + 59)
      have a1 := m1 (b1 * 48271 + 69621 * (b2 + 1) + 59)
      omega
    · refine ⟨_, rfl, p, _, _, _, rfl, rfl, SqL.of upd_same, rfl, _, _, rfl, rfl, ⟨by decide, by decide⟩, _, rfl, _, _, rfl, rfl, n0, ?_⟩
      refine q _ _ (Int.emod_nonneg _ (by omega)) (Int.emod_lt_of_pos _ n0) ⟨_, _, _, upd_same, z0, m0 _, m1 _, (by omega)⟩ fun b o hb e => by rw [upd_ne hb, upd_ne hb]; exact e
end
theorem Sx.refl {p : Addr} (H : Hp) : Sx p H H := fun _ _ _ e => e
theorem Sx.trans {p : Addr} {H G J : Hp} (a : Sx p H G) (b : Sx p G J) : Sx p H J := fun c o n e => b c o n (a c o n e)
theorem Sx.of {p : Addr} {H G : Hp} (a : Same H G) : Sx p H G := fun c o _ e => a c o e
theorem Sx.new {p q : Addr} {H : Hp} {o : HO} (h : H q = none) : Sx p H (upd H q o) := fun c u _ e => by rw [upd_ne (ne_of_none e h)]; exact e
theorem Bx.new {p q : Addr} {H : Hp} {o : HO} (b : Bx H p) (h : H q = none) : Bx (upd H q o) p := by
  obtain ⟨b0, b1, b2, e, r⟩ := b
  exact ⟨b0, b1, b2, by rw [upd_ne (ne_of_none e h)]; exact e, r⟩
theorem Bx.ne {p q : Addr} {H : Hp} (b : Bx H p) (h : H q = none) : q ≠ p := by
  obtain ⟨b0, b1, b2, e, r⟩ := b
  exact (ne_of_none e h).symm
theorem Bx.at_ne {p q : Addr} {H : Hp} {o : HO} (b : Bx H p) (h : q ≠ p) : Bx (upd H q o) p := by
  obtain ⟨b0, b1, b2, e, r⟩ := b
  exact ⟨b0, b1, b2, by rw [upd_ne h.symm]; exact e, r⟩
theorem Sx.free {p q : Addr} {H G : Hp} (s : Sx p H G) (b : Bx G p) (h : G q = none) : H q = none := by
  cases e : H q with
  | none => rfl
  | some o =>
    have n := b.ne h
    rw [s q o n e] at h
    cases h
theorem Bx.nn {p : Addr} {H : Hp} (b : Bx H p) : H p ≠ none := by
  obtain ⟨b0, b1, b2, e, r⟩ := b
  rw [e]; exact fun z => nomatch z
/-- what was new stays, where only p changes -/
theorem nw_step {p : Addr} {H G J : Hp} (b : Bx H p) (s : Sx p G J) : Same (nw H G) (nw H J) := fun c o h => by
  obtain ⟨h1, h2⟩ := nw_some h
  rw [nw_at h1]
  exact s c o (fun z => b.nn (z ▸ h1)) h2
/-- what is new behind a later heap is new behind an earlier one -/
theorem nw_back {p : Addr} {H G J : Hp} (s : Sx p H G) (b : Bx G p) : Same (nw G J) (nw H J) := fun c o h => by
  obtain ⟨h1, h2⟩ := nw_some h
  rw [nw_at (s.free b h1)]
  exact h2
end L

set_option Elab.async false
set_option linter.all false
set_option maxRecDepth 100000
set_option maxHeartbeats 4000000
namespace L
open PySem L2 KX
abbrev sIsInt : Stmt := top 7
abbrev sIsDec : Stmt := top 9
abbrev sParse : Stmt := top 8
abbrev sEiInt : Stmt := inClass (top 4) 0
/-- what isinstance tells of a value -/
def Isi (K : PySem.W.Frag) (H : Hp) (v : V) (b1 b2 : Bool) : Prop := ∃ t, TyX K H v t ∧ PySem.W.kitOne K t (.type "int") = some b1 ∧ PySem.W.kitOne K t (.type "bool") = some b2
def spIsInt (K : PySem.W.Frag) : Sp := fun vs H Q _ => ∃ v b1 b2, vs = [v] ∧ Isi K H v b1 b2 ∧ Q (.bl (b1 && !b2)) H
theorem TyX.same {K : PySem.W.Frag} {H G : Hp} (s : Same H G) {v : V} {t : Value} (h : TyX K H v t) : TyX K G v t := by
  cases h with
  | base b =>
    cases b with
    | non => exact .base .non
    | bl b => exact .base (.bl b)
    | int i => exact .base (.int i)
    | str x => exact .base (.str x)
    | flt x => exact .base (.flt x)
    | lst e => exact .base (.lst (s _ _ e))
    | frz e => exact .base (.frz (s _ _ e))
    | tup e => exact .base (.tup (s _ _ e))
    | dK e => exact .base (.dK (s _ _ e))
    | dT e => exact .base (.dT (s _ _ e))
    | ins e a b c d f => exact .base (.ins (s _ _ e) a b c d f)
  | byt b => exact .byt b
  | set e => exact .set (s _ _ e)
  | kList e c => exact .kList e c
  | kTuple e c => exact .kTuple e c
  | kDict e c => exact .kDict e c
  | fTuple e => exact .fTuple (s _ _ e)
  | fDict e => exact .fDict (s _ _ e)
theorem Isi.same {K : PySem.W.Frag} {H G : Hp} (s : Same H G) {v : V} {a b : Bool} (h : Isi K H v a b) : Isi K G v a b := let ⟨t, h1, h2, h3⟩ := h; ⟨t, TyX.same s h1, h2, h3⟩
theorem Same.new {H : Hp} {p : Addr} (h : H p = none) (o : HO) : Same H (upd H p o) := fun b u e => by rw [upd_ne (ne_of_none e h)]; exact e
/-- an int, or something that is_integer refuses -/
def Itm (K : PySem.W.Frag) (H : Hp) (v : V) : Prop := (∃ i, v = .int i) ∨ ((∀ i, v ≠ .int i) ∧ ∃ b1 b2, Isi K H v b1 b2 ∧ (b1 && !b2) = false)
theorem Itm.same {K : PySem.W.Frag} {H G : Hp} {v : V} (s : Same H G) (h : Itm K H v) : Itm K G v := h.imp id fun ⟨a, b1, b2, c, d⟩ => ⟨a, b1, b2, c.same s, d⟩
def limB : V → Bool
  | .non => true
  | .int _ => true
  | _ => false
/-- a limit -/
def Lim (K : PySem.W.Frag) (H : Hp) (v : V) : Prop := v = .non ∨ (v ≠ .non ∧ Itm K H v)
theorem Lim.same {K : PySem.W.Frag} {H G : Hp} {v : V} (s : Same H G) (h : Lim K H v) : Lim K G v := h.imp id fun ⟨a, b⟩ => ⟨a, b.same s⟩
/-- a text, or something that isinstance(.., str) refuses -/
def Txv (K : PySem.W.Frag) (H : Hp) (v : V) : Prop := (∃ z : Str, v = .str z ∧ z.length ≤ 5000 ∧ ∀ c, c ∈ cs z → c < 1114112) ∨ ((∀ z, v ≠ .str z) ∧ ∃ t, TyX K H v t ∧ PySem.W.kitOne K t (.type "str") = some false)
theorem Txv.same {K : PySem.W.Frag} {H G : Hp} {v : V} (s : Same H G) (h : Txv K H v) : Txv K G v := h.imp id fun ⟨a, t, b, c⟩ => ⟨a, t, TyX.same s b, c⟩
def below (lo : V) (n : Int) : Bool := match lo with | .int i => decide (n < i) | _ => false
def above (hi : V) (n : Int) : Bool := match hi with | .int i => decide (i < n) | _ => false
/-- the number of a text -/
def num : V → V
  | .str z => if dec (cs z) = true then .int (nval (cs z)) else .non
  | _ => .non
/-- the number, within limits -/
def prs (x lo hi : V) : V := match num x with
  | .int n => if (below lo n || above hi n) = true then .non else .int n
  | _ => .non
def spDec : Sp := fun vs H Q _ => ∃ z : Str, vs = [.str z] ∧ z.length ≤ 5000 ∧ Q (.bl (dec (cs z))) H
def spParse (K : PySem.W.Frag) (C : Addr) : Sp := fun vs H Q E => ∃ x lo hi, vs = [x, lo, hi] ∧ Txv K H x ∧ Lim K H lo ∧ Lim K H hi ∧
  (limB lo = true → limB hi = true → ∀ H', Same H H' → Q (prs x lo hi) H') ∧
  (limB lo = false → ∀ H' d, Same H H' → H' d = none → E (.ref C) (some d) (upd H' d (.xd [("value", lo)]))) ∧
  (limB lo = true → limB hi = false → ∀ H' d, Same H H' → H' d = none → E (.ref C) (some d) (upd H' d (.xd [("value", hi)])))
theorem eq_str (y z : Str) : decide (V.str y = V.str z) = decide (cs y = cs z) := by
  rw [Bool.eq_iff_iff, decide_eq_true_iff, decide_eq_true_iff]
  exact ⟨fun h => by cases h; rfl, fun h => by rw [str_ext h]⟩
section
variable {P : Program} {w : World} {K : PySem.W.Frag} {mg : Str → Option Value} {base : Heap} {f g gn : Addr} {fd gd gnd : FuncData} {C fI : Addr} {dI : FuncData}
theorem scIsInt : FnScope ["value"] ["value"] (defScope sIsInt) := ⟨rfl, rfl, rfl, by decide +kernel, rfl, by decide +kernel, by decide +kernel⟩
theorem ok_isint (F : Fun K "is_integer" "is_integer" sIsInt f fd) (M : Mn mg) : FnOk P w K mg base CX0 1 f fd ["value"] (spIsInt K) := by
  refine F.ok scIsInt (fun vs H Q E h => ?_) (fun cdv A outer s H vs Q E hr h => ?_)
  · obtain ⟨v, b1, b2, rfl, _⟩ := h
    rfl
  obtain ⟨v, b1, b2, rfl, ⟨t, ty, k1, k2⟩, q⟩ := h
  refine ⟨_, pss_one (ps_ret (pe_and (pe_callB call_isi (by rfl) M.isin (by decide +kernel) (pa_cons (pv 0) (pa_cons (pe_bltn (v := .ty "int") (by rfl) M.int (by decide +kernel) rfl) pa_nil)))
    (pe_one (pe_not (pe_callB call_isi (by rfl) M.isin (by decide +kernel) (pa_cons (pv 0) (pa_cons (pe_bltn (v := .ty "bool") (by rfl) M.bool (by decide +kernel) rfl) pa_nil))))))), ?_⟩
  refine ⟨_, rfl, v, .ty "int", t, .type "int", b1, rfl, .ty _, ty, k1, b1, rfl, ?_⟩
  cases b1 with
  | false => exact iteF q
  | true => exact iteT ⟨_, rfl, v, .ty "bool", t, .type "bool", b2, rfl, .ty _, ty, k2, b2, rfl, q⟩
theorem scEiI : FnScope ["self", "value"] ["self", "value"] (defScope sEiInt) := ⟨rfl, rfl, rfl, by decide +kernel, rfl, by decide +kernel, by decide +kernel⟩
theorem ok_eiInt (F : Fun K "__init__" "InvalidInteger.__init__" sEiInt f fd) : FnOk P w K mg base CX0 1 f fd ["self", "value"] (spEi K C "value") := by
  refine F.ok scEiI (fun vs H Q E h => ?_) (fun cdv A outer s H vs Q E hr h => ?_)
  · obtain ⟨a, v, rfl, _⟩ := h
    rfl
  obtain ⟨a, v, rfl, ha, T, no, q⟩ := h
  exact ⟨_, pss_one (ps_ost (pv 0) (pv 1)), ⟨_, rfl, _, rfl, a, C, rfl, T, no, .inl ⟨ha, fun dx h1 h2 => q dx h1 h2⟩⟩⟩
theorem scIsDec : FnScope ["text", "digits"] ["text"] (defScope sIsDec) := ⟨rfl, rfl, rfl, by decide +kernel, rfl, by decide +kernel, by decide +kernel⟩
theorem ok_isdec (F : Fun K "_is_decimal" "_is_decimal" sIsDec f fd) (M : Mn mg) (mD : ∃ t, mg "MOST_DIGITS" = some (.int 30 t)) : FnOk P w K mg base CX0 1 f fd ["text"] spDec := by
  obtain ⟨tD, mD⟩ := mD
  refine F.ok scIsDec (fun vs H Q E h => ?_) (fun cdv A outer s H vs Q E hr h => ?_)
  · obtain ⟨z, rfl, _⟩ := h
    rfl
  obtain ⟨z, rfl, hz, q⟩ := h
  refine ⟨_, pss_cons (ps_if (pt_cmpR op_eq (pv 0) pe_str (nomark _)) (pss_one (ps_ret pe_bl)) pss_nil)
    (pss_cons (ps_set (i := 1) scIsDec.nd rfl (Or.inl rfl) (pe_m1 PySem.F.slot_str_removeprefix PySem.F.type_str_removeprefix mt_removeprefix (pv 0) pe_str))
    (pss_cons (ps_if (pt_mo (pw_or (pt_not (pt_val (pe_m0 PySem.F.slot_str_isascii PySem.F.type_str_isascii mt_isascii (pv 1)))) (pw_or1 (pt_not (pt_val (pe_m0 PySem.F.slot_str_isdigit PySem.F.type_str_isdigit mt_isdigit (pv 1)))))).pt) (pss_one (ps_ret pe_bl)) pss_nil)
    (pss_one (ps_ret (pe_and (pe_cmpR op_ne (pe_ix ix_str (pv 1) pe_int (fun _ _ => rfl)) pe_str (nomark _)) (pe_one (pe_cmpR op_le (pe_callB call_len_str (by rfl) M.len PySem.boot_len (pa_cons (pv 1) pa_nil)) (pe_glob (v := .int 30) (by rfl) mD ⟨_, rfl⟩) (nomark _)))))))), ?_⟩
  refine ⟨_, rfl, rfl, _, rfl, ?_⟩
  rw [eq_str]
  refine ite2 (fun c => ?_) (fun c => ?_)
  · have e : cs z = [48] := of_decide_eq_true c
    have e2 : dec (cs z) = true := by rw [e]; rfl
    rw [e2] at q
    exact q
  have n48 : ¬ cs z = [48] := fun e => c (decide_eq_true e)
  have hs : z.length ≤ sizeLine := Nat.le_trans hz (by decide)
  refine ⟨_, rfl, ⟨_, rfl⟩, _, _, rfl, rfl, hs, ?_⟩
  have ec := rp_cs z
  have hmi : (Str.ofString "-") = ⟨#[45]⟩ := by decide +kernel
  rw [← hmi] at ec
  have edec : dec (cs z) = (decide (ab (cs z) ≠ []) && (ab (cs z)).all dg && decide ((ab (cs z)).head? ≠ some 48) && decide ((ab (cs z)).length ≤ 30)) := by
    unfold dec
    rw [decide_eq_false n48, Bool.false_or]
  generalize hyy : Txt.removeprefix z (Str.ofString "-") = y at ec ⊢
  have ly : y.length ≤ sizeLine := by
    have h1 := cs_len y
    have h2 := cs_len z
    have h3 : (ab (cs z)).length ≤ (cs z).length := by
      match cs z with
      | [] => exact Nat.le_refl _
      | c :: r =>
        by_cases hc : c = 45
        · subst hc; exact Nat.le_succ _
        · unfold ab
          split
          · rename_i q; exact absurd (List.cons.inj q).1 hc
          · exact Nat.le_refl _
    rw [← ec] at h3
    omega
  rw [← ec] at edec
  rw [edec] at q
  refine ⟨fun b G => H = G ∧ b = !(decide (cs y ≠ []) && (cs y).all dg), ?_, ?_⟩
  · refine ⟨_, rfl, ⟨_, rfl⟩, _, rfl, rfl, trivial, _, rfl, ?_⟩
    cases ha : Txt.isascii y with
    | false =>
      refine iteT ⟨rfl, ?_⟩
      have : (cs y).all dg = false := by
        cases hd : (cs y).all dg with
        | false => rfl
        | true => rw [asc_cs, dg_asc hd] at ha; cases ha
      rw [this, Bool.and_false]; rfl
    | true => exact iteF ⟨_, rfl, ⟨_, rfl⟩, _, rfl, rfl, trivial, _, rfl, rfl, by rw [dig_cs ha]⟩
  rintro b _ ⟨rfl, rfl⟩
  refine ite2 (fun c => ?_) (fun c => ?_)
  · have e : (decide (cs y ≠ []) && (cs y).all dg) = false := by cases h : (decide (cs y ≠ []) && (cs y).all dg) with | false => rfl | true => rw [h] at c; cases c
    rw [e] at q
    exact q
  have e : (decide (cs y ≠ []) && (cs y).all dg) = true := by cases h : (decide (cs y ≠ []) && (cs y).all dg) with | true => rfl | false => rw [h] at c; exact absurd rfl c
  rw [e, Bool.true_and] at q
  have ne : cs y ≠ [] := of_decide_eq_true (Bool.and_eq_true_iff.mp e).1
  match hy : cs y with
  | [] => exact absurd hy ne
  | c0 :: r =>
    rw [hy] at q
    refine ⟨_, rfl, y, 0, c0, rfl, rfl, ly, ?_, ?_⟩
    · show atI (cs y) 0 = some c0
      rw [hy]; exact atI_nat (j := 0) rfl
    have ed : decide (V.str ⟨#[c0]⟩ = V.str (Str.ofString "0")) = decide (some c0 = some 48) := by
      rw [eq_str, Bool.eq_iff_iff, decide_eq_true_iff, decide_eq_true_iff]
      exact ⟨fun h => congrArg some (List.cons.inj h).1, fun h => by cases h; rfl⟩
    refine ⟨rfl, _, rfl, ?_⟩
    rw [ed]
    have q' : Q (.bl (decide ((some c0 : Option Nat) ≠ some 48) && decide ((c0 :: r).length ≤ 30))) H := q
    by_cases h48 : (some c0 : Option Nat) = some 48
    · rw [decide_eq_false (fun z => z h48), Bool.false_and] at q'
      rw [decide_eq_true h48]
      exact iteF q'
    · rw [decide_eq_true h48, Bool.true_and] at q'
      rw [decide_eq_false h48]
      refine iteT ⟨_, rfl, y, rfl, ly, _, _, rfl, rfl, ?_⟩
      have el : decide (((y.length : Nat) : Int) ≤ 30) = decide ((c0 :: r).length ≤ 30) := by
        rw [← hy, cs_len, Bool.eq_iff_iff, decide_eq_true_iff, decide_eq_true_iff]; omega
      rw [← el] at q'
      exact q'
end
end L

set_option Elab.async false
set_option linter.all false
set_option maxRecDepth 100000
set_option maxHeartbeats 4000000
namespace L
open PySem L2 KX
section
variable {P : Program} {w : World} {K : PySem.W.Frag} {mg : Str → Option Value} {base : Heap} {f g gn : Addr} {fd gd gnd : FuncData} {C fI : Addr} {dI : FuncData}
theorem scParse : FnScope ["text", "minimum", "maximum", "limit", "number"] ["text", "minimum", "maximum"] (defScope sParse) := ⟨rfl, rfl, rfl, by decide +kernel, rfl, by decide +kernel, by decide +kernel⟩
theorem num_t {z : Str} (h : dec (cs z) = true) : num (.str z) = .int (nval (cs z)) := by
  show (if dec (cs z) = true then V.int (nval (cs z)) else V.non) = _
  rw [if_pos h]
theorem num_f {z : Str} (h : dec (cs z) = false) : num (.str z) = .non := by
  show (if dec (cs z) = true then V.int (nval (cs z)) else V.non) = _
  rw [h, if_neg Bool.false_ne_true]
theorem lim_ok {v : V} (h : limB v = true) : v = .non ∨ ∃ i, v = .int i := by
  cases v with
  | non => exact .inl rfl
  | int i => exact .inr ⟨i, rfl⟩
  | _ => cases h
theorem ok_parse (F : Fun K "parse_integer" "parse_integer" sParse f fd) (M : Mn mg) (TI : ETx K mg "InvalidInteger" "value" C fI) (FI : FnOk P w K mg base CX0 1 fI dI ["self", "value"] (spEi K C "value")) (bI : Binds K dI ["self", "value"] [])
    (N : FnOk P w K mg base CX0 1 gn gnd ["value"] (spIsInt K)) (bN : Binds K gnd ["value"] []) (kN : PySem.W.keepIn K (.ref gn) = true) (mN : mg "is_integer" = some (.ref gn))
    (D : FnOk P w K mg base CX0 1 g gd ["text"] spDec) (bD : Binds K gd ["text"] []) (kD : PySem.W.keepIn K (.ref g) = true) (mD : mg "_is_decimal" = some (.ref g)) : FnOk P w K mg base (L2.CX P w) 3 f fd ["text", "minimum", "maximum"] (spParse K C) := by
  refine F.okX scParse (fun vs H Q E h => ?_) (fun cdv A outer s H vs Q E hr h => ?_)
  · obtain ⟨x, lo, hi, rfl, _⟩ := h
    rfl
  obtain ⟨x, lo, hi, rfl, hx, hlo, hhi, q1, q2, q3⟩ := h
  have hr1 : Room 1 _ := hr.mono (by decide)
  refine ⟨_, pss_cons (ps_for (passes_of rfl) rfl (pi_tup (pe_tup (pa_cons (pv 1) (pa_cons (pv 2) pa_nil)))) (pg_name (i := 3) scParse.nd rfl (Or.inl rfl))
      (pss_one (ps_if (pt_mo (pw_and (pt_cmp (pc_notN (pv 3))) (pw_and1 (pt_not (pt_val (pe_call N hr1 (by rfl) mN kN bN .nil pass0 (pa_cons (pv 3) pa_nil)))))).pt)
        (pss_one (ps_raise rfl (takes_of rfl rfl rfl rfl) (pmk_val TI.ox TI.iC TI.tI TI.noF FI hr bI (by rfl) TI.mgC (pa_cons (pv 3) pa_nil)))) pss_nil)))
    (pss_cons (ps_if (pt_mo (pw_or (pt_not (pt_val (pe_callB call_isi (by rfl) M.isin (by decide +kernel) (pa_cons (pv 0) (pa_cons (pe_bltn (v := .ty "str") (by rfl) M.str (by decide +kernel) rfl) pa_nil)))))
        (pw_or1 (pt_not (pt_val (pe_call D hr1 (by rfl) mD kD bD .nil pass0 (pa_cons (pv 0) pa_nil)))))).pt) (pss_one (ps_ret pe_non)) pss_nil)
    (pss_cons (ps_set (i := 4) scParse.nd rfl (Or.inl rfl) (pe_callTy call_int_str (by rfl) M.int (by decide +kernel) (pa_cons (pv 0) pa_nil)))
    (pss_cons (ps_if (pt_mo (pw_and (pt_cmp (pc_notN (pv 1))) (pw_and1 (pt_cmpR op_lt (pv 4) (pv 1) (nomark _)))).pt) (pss_one (ps_ret pe_non)) pss_nil)
    (pss_cons (ps_if (pt_mo (pw_and (pt_cmp (pc_notN (pv 2))) (pw_and1 (pt_cmpR op_gt (pv 4) (pv 2) (nomark _)))).pt) (pss_one (ps_ret pe_non)) pss_nil)
    (pss_one (ps_ret (pv 4))))))), ?_⟩
  refine ⟨_, rfl, _, rfl, (by show 2 ≤ sizeLine; decide), fun tp htp => ⟨tp, rfl, ⟨_, SqT.of upd_same⟩, ?_⟩⟩
  have s0 := Same.new htp (.tup [lo, hi])
  have tst : ∀ {v : V} {J : Hp}, Same H J → Lim K H v → ∃ b : Bool, b = !limB v := fun _ _ => ⟨_, rfl⟩
  refine for_it (walk_tup (xs := [lo, hi])) (fun i σ J => Same H J ∧ J tp = some (.tup [lo, hi]) ∧ (0 < i → limB lo = true) ∧ (1 < i → limB hi = true) ∧ ∃ x3 x4, σ = [some x, some lo, some hi, x3, x4])
    ⟨s0, upd_same, fun z => absurd z (Nat.lt_irrefl 0), fun z => absurd z (by decide), _, _, rfl⟩ (fun _ _ _ _ z => SqT.of z.2.1) ?_ ?_
  · rintro i v _ J J1 hi2 ⟨sJ, eT, b1, b2, x3, x4, rfl⟩ ⟨rfl, hv⟩
    have hL : Lim K J1 v := by
      match i, hi2, hv with
      | 0, _, hv => cases hv; exact hlo.same sJ
      | 1, _, hv => cases hv; exact hhi.same sJ
    refine ⟨fun b G => J1 = G ∧ b = !limB v, ?_, ?_⟩
    · refine ⟨_, rfl, _, rfl, ?_⟩
      rcases hL with rfl | ⟨nn, ht⟩
      · exact iteF ⟨rfl, rfl⟩
      · have e1 : (!decide (v = V.non)) = true := by rw [decide_eq_false nn]; rfl
        rw [e1]
        refine iteT ?_
        rcases ht with ⟨j, rfl⟩ | ⟨ni, c1, c2, hi', hb⟩
        · exact ⟨_, rfl, _, true, false, rfl, ⟨_, .base (.int j), kit_ty (by decide +kernel), kit_ty (by decide +kernel)⟩, _, rfl, rfl, rfl⟩
        · refine ⟨_, rfl, _, c1, c2, rfl, hi', _, rfl, rfl, ?_⟩
          rw [hb]
          cases v with
          | non => exact absurd rfl nn
          | int j => exact absurd rfl (ni j)
          | _ => rfl
    rintro b _ ⟨rfl, rfl⟩
    cases hb : limB v with
    | false =>
      refine iteT ⟨fun vs H1 => vs = [v] ∧ H1 = J1, ⟨_, rfl, rfl, rfl⟩, ?_⟩
      rintro _ _ ⟨rfl, rfl⟩
      refine ⟨v, rfl, fun d hd => ?_⟩
      match i, hi2, hv with
      | 0, _, hv => cases hv; exact q2 hb _ d sJ hd
      | 1, _, hv => cases hv; exact q3 (b1 (by decide)) hb _ d sJ hd
    | true =>
      refine iteF ⟨sJ, eT, fun _ => ?_, fun hi1 => ?_, _, _, rfl⟩
      · match i, hi2, hv with
        | 0, _, hv => cases hv; exact hb
        | 1, _, hv => exact b1 (by decide)
      · match i, hi2, hv with
        | 0, _, hv => exact absurd hi1 (by decide)
        | 1, _, hv => cases hv; exact hb
  rintro _ J ⟨sJ, eT, b1, b2, x3, x4, rfl⟩
  have q := q1 (b1 (show 0 < 2 by decide)) (b2 (show 1 < 2 by decide)) J sJ
  refine ⟨fun b G => J = G ∧ (b = true → num x = .non) ∧ (b = false → num x ≠ .non), ?_, ?_⟩
  · rcases hx.same sJ with ⟨z, rfl, hz, _⟩ | ⟨nz, t, ty, kt⟩
    · refine ⟨_, rfl, _, .ty "str", .type "str", .type "str", true, rfl, .ty _, .base (.str z), kit_ty (by decide +kernel), _, rfl, iteF ⟨_, rfl, z, rfl, hz, _, rfl, rfl, ?_⟩⟩
      cases hd : dec (cs z) with
      | true => exact ⟨(fun e => nomatch e), fun _ e => by rw [num_t hd] at e; cases e⟩
      | false => exact ⟨fun _ => num_f hd, (fun e => nomatch e)⟩
    · refine ⟨_, rfl, _, .ty "str", t, .type "str", false, rfl, .ty _, ty, kt, _, rfl, iteT ⟨rfl, ?_⟩⟩
      refine ⟨fun _ => ?_, fun e => by cases e⟩
      cases x with
      | str z => exact absurd rfl (nz z)
      | _ => rfl
  rintro b _ ⟨rfl, t1, t2⟩
  unfold prs at q
  cases b with
  | true =>
    rw [t1 rfl] at q
    exact iteT q
  | false =>
  have hn := t2 rfl
  refine iteF ?_
  have ex : ∃ z : Str, x = .str z ∧ dec (cs z) = true := by
    cases x with
    | str z =>
      refine ⟨z, rfl, ?_⟩
      cases hd : dec (cs z) with
      | true => rfl
      | false => exact absurd (num_f hd) hn
    | _ => exact absurd rfl hn
  obtain ⟨z, rfl, hd⟩ := ex
  have en := num_t hd
  rw [en] at q
  have hz : z.length ≤ 640 := by
    have h1 := cs_len z
    unfold dec at hd
    rcases Bool.or_eq_true_iff.mp hd with h | h
    · have e : cs z = [48] := of_decide_eq_true h
      rw [e] at h1
      have h1' : 1 = z.length := h1
      omega
    · have h4 : (ab (cs z)).length ≤ 30 := of_decide_eq_true (Bool.and_eq_true_iff.mp h).2
      have h3 : (cs z).length ≤ (ab (cs z)).length + 1 := by
        match cs z with
        | [] => exact Nat.zero_le _
        | c :: r =>
          by_cases hc : c = 45
          · subst hc; exact Nat.le_refl _
          · have ea : ab (c :: r) = c :: r := by
              unfold ab
              split
              · rename_i q; exact absurd (List.cons.inj q).1 hc
              · rfl
            rw [ea]; exact Nat.le_succ _
      omega
  refine ⟨_, rfl, z, _, rfl, int_cs hd, hz, ?_⟩
  generalize nval (cs z) = n at q ⊢
  have q' : Q (if (below lo n || above hi n) = true then V.non else .int n) J := q
  refine ⟨fun b G => J = G ∧ b = below lo n, ?_, ?_⟩
  · refine ⟨_, rfl, _, rfl, ?_⟩
    rcases lim_ok (b1 (show 0 < 2 by decide)) with rfl | ⟨i, rfl⟩
    · exact iteF ⟨rfl, rfl⟩
    · exact iteT ⟨_, rfl, _, rfl, _, _, rfl, rfl, _, rfl, rfl, rfl⟩
  rintro b _ ⟨rfl, rfl⟩
  cases hb : below lo n with
  | true =>
    rw [hb, Bool.true_or, if_pos rfl] at q'
    exact iteT q'
  | false =>
    rw [hb, Bool.false_or] at q'
    refine iteF ⟨fun b G => J = G ∧ b = above hi n, ?_, ?_⟩
    · refine ⟨_, rfl, _, rfl, ?_⟩
      rcases lim_ok (b2 (show 1 < 2 by decide)) with rfl | ⟨i, rfl⟩
      · exact iteF ⟨rfl, rfl⟩
      · exact iteT ⟨_, rfl, _, rfl, _, _, rfl, rfl, _, rfl, rfl, rfl⟩
    rintro b _ ⟨rfl, rfl⟩
    cases ha : above hi n with
    | true =>
      rw [ha, if_pos rfl] at q'
      exact iteT q'
    | false =>
      rw [ha, if_neg Bool.false_ne_true] at q'
      exact iteF ⟨_, rfl, q'⟩
end
end L

set_option Elab.async false
set_option linter.all false
set_option maxRecDepth 100000
set_option maxHeartbeats 4000000
namespace L
open PySem L2 KX
abbrev sLawNum : Stmt := top 15
def ten : Str := Str.ofString "0123456789"
theorem ten_cs : cs ten = [48, 49, 50, 51, 52, 53, 54, 55, 56, 57] := by decide +kernel
theorem ten_mem {c : Nat} : c ∈ cs ten ↔ dg c = true := by
  rw [ten_cs]
  unfold dg
  rw [Bool.and_eq_true, decide_eq_true_iff, decide_eq_true_iff]
  constructor
  · intro h
    simp only [List.mem_cons, List.not_mem_nil, or_false] at h
    omega
  · rintro ⟨h1, h2⟩
    simp only [List.mem_cons, List.not_mem_nil, or_false]
    omega
theorem ten_idx {c : Nat} (h : dg c = true) : Txt.index0 ten ⟨#[c]⟩ = some (c - 48) := by
  have k : ∀ n : Fin 10, Txt.index0 ten ⟨#[n.val + 48]⟩ = some (n.val + 48 - 48) := by decide +kernel
  unfold dg at h
  obtain ⟨h1, h2⟩ := Bool.and_eq_true_iff.mp h
  have h1' := of_decide_eq_true h1
  have h2' := of_decide_eq_true h2
  have e := k ⟨c - 48, by omega⟩
  have e2 : c - 48 + 48 = c := by omega
  rw [show ((⟨c - 48, by omega⟩ : Fin 10).val + 48) = c from e2] at e
  exact e
/-- what isn't a digit -/
def odd (l : List Nat) : List Nat := l.filter fun c => !dg c
theorem odd_all {l : List Nat} : decide (odd l = []) = l.all dg := by
  unfold odd
  rw [Bool.eq_iff_iff, decide_eq_true_iff, List.filter_eq_nil_iff, List.all_eq_true]
  exact ⟨fun h c hc => by cases e : dg c with | true => rfl | false => exact absurd (by rw [e]; rfl) (h c hc), fun h c hc => by rw [h c hc]; exact Bool.false_ne_true⟩
theorem odd_next {l : List Nat} {i c : Nat} (h : l[i]? = some c) : odd (l.take (i + 1)) = if dg c = true then odd (l.take i) else odd (l.take i) ++ [c] := by
  unfold odd
  rw [List.take_add_one, h, List.filter_append]
  cases e : dg c with
  | true =>
    have : (([c] : List Nat).filter fun c => !dg c) = [] := List.filter_cons_of_neg (p := fun c => !dg c) (by show ¬ (!dg c) = true; rw [e]; exact Bool.false_ne_true)
    rw [if_pos rfl]
    show _ ++ (([c] : List Nat).filter fun c => !dg c) = _
    rw [this, List.append_nil]
  | false =>
    have : (([c] : List Nat).filter fun c => !dg c) = [c] := List.filter_cons_of_pos (p := fun c => !dg c) (by show (!dg c) = true; rw [e]; rfl)
    rw [if_neg Bool.false_ne_true]
    show _ ++ (([c] : List Nat).filter fun c => !dg c) = _
    rw [this]
theorem val_next {l : List Nat} {i c : Nat} (h : l[i]? = some c) : NumText.digitsVal (l.take (i + 1)) = NumText.digitsVal (l.take i) * 10 + (c - 48) := by
  unfold NumText.digitsVal
  rw [List.take_add_one, h, List.foldl_append]; rfl
theorem cut_to1 (z : Str) : cs (cutS z none (some 1)) = (cs z).take 1 := by
  unfold cutS cs
  show ((z.cps.toList.drop (HT.sIx z.length 0 none)).take (HT.sIx z.length z.length (some ((1 : Nat) : Int)) - HT.sIx z.length 0 none)) = z.cps.toList.take 1
  rw [HT.sIx_none, HT.sIx_nat, List.drop_zero, Nat.sub_zero]
  by_cases h : 1 ≤ z.length
  · rw [Nat.min_eq_left h]
  · have h0 : z.cps.toList.length = 0 := by rw [Array.length_toList]; show z.length = 0; omega
    rw [List.eq_nil_of_length_eq_zero h0]; simp
theorem cut_from1 (z : Str) : cs (cutS z (some 1) none) = (cs z).drop 1 := by
  unfold cutS cs
  show ((z.cps.toList.drop (HT.sIx z.length 0 (some ((1 : Nat) : Int)))).take (HT.sIx z.length z.length none - HT.sIx z.length 0 (some ((1 : Nat) : Int)))) = z.cps.toList.drop 1
  rw [HT.sIx_none, HT.sIx_nat]
  by_cases h : 1 ≤ z.length
  · rw [Nat.min_eq_left h]
    exact List.take_of_length_le (by rw [List.length_drop, Array.length_toList]; exact Nat.le_refl _)
  · have h0 : z.cps.toList.length = 0 := by rw [Array.length_toList]; show z.length = 0; omega
    rw [List.eq_nil_of_length_eq_zero h0]; simp
theorem ab_minus {l : List Nat} (h : l.take 1 = [45]) : ab l = l.drop 1 ∧ l.head? = some 45 := by
  match l, h with
  | [], h => cases h
  | c :: r, h =>
    have hc : c = 45 := (List.cons.inj h).1
    subst hc
    exact ⟨rfl, rfl⟩
theorem ab_plain {l : List Nat} (h : ¬ l.take 1 = [45]) : ab l = l ∧ nval l = ((NumText.digitsVal l : Nat) : Int) := by
  match l with
  | [] => exact ⟨rfl, rfl⟩
  | c :: r =>
    have hc : c ≠ 45 := fun z => h (by rw [z]; rfl)
    constructor
    · unfold ab
      split
      · rename_i q; exact absurd (List.cons.inj q).1 hc
      · rfl
    · unfold nval
      split
      · rename_i q; exact absurd (List.cons.inj q).1 hc
      · rfl
theorem nval_minus {l : List Nat} (h : l.take 1 = [45]) : nval l = -((NumText.digitsVal (l.drop 1) : Nat) : Int) := by
  match l, h with
  | [], h => cases h
  | c :: r, h =>
    have hc : c = 45 := (List.cons.inj h).1
    subst hc
    rfl
def sg (c : Nat) : V := .str ⟨#[c]⟩
def sgD (c : Nat) : PyData := .str ⟨#[c]⟩
theorem sgD_lay : ∀ l : List Nat, (∀ c, c ∈ l → c < 1114112) → PyData.canLayAll0 (l.map sgD) = true ∧ PyData.depthAll (l.map sgD) = 0
  | [], _ => ⟨by simp [PyData.canLayAll0], by simp [PyData.depthAll]⟩
  | c :: l, hc => by
    have h := sgD_lay l fun x m => hc x (List.mem_cons_of_mem _ m)
    have h0 := hc c List.mem_cons_self
    constructor
    · simp [PyData.canLayAll0, h.1, sgD, PyData.canLay0, PyData.strOk, h0]
    · simp [PyData.depthAll, h.2, sgD, PyData.depth]
theorem sgD_shaped {l : List Nat} (h : ∀ c, c ∈ l → c < 1114112) : SeqAt.shaped (.list (l.map sgD)) = true := by
  obtain ⟨h1, h2⟩ := sgD_lay l h
  have h3 : PyData.depth (.list (l.map sgD)) = 1 := by simp only [PyData.depth, h2]
  have h4 : PyData.canLay0 (.list (l.map sgD)) = true := by simp only [PyData.canLay0]; exact h1
  show (PyData.canLay0 (.list (l.map sgD)) && decide (PyData.depth (.list (l.map sgD)) ≤ 64)) = true
  rw [Bool.and_eq_true]
  exact ⟨h4, decide_eq_true (by omega)⟩
/-- the law's own look at the digits -/
def okd (l : List Nat) : Bool := decide (ab l ≠ []) && decide ((ab l).length ≤ 30) && (ab l).all dg
theorem dec_no {l : List Nat} (h : okd l = false) : dec l = false := by
  unfold dec
  have n : ¬ l = [48] := fun e => by rw [e] at h; cases h
  rw [decide_eq_false n, Bool.false_or]
  unfold okd at h
  revert h
  generalize decide (ab l ≠ []) = a
  generalize decide ((ab l).length ≤ 30) = b
  generalize (ab l).all dg = c
  generalize decide ((ab l).head? ≠ some 48) = d
  cases a <;> cases b <;> cases c <;> cases d <;> decide
theorem dec_yes {l : List Nat} (h : okd l = true) : dec l = !(decide (l ≠ [48]) && decide ((ab l).head? = some 48)) := by
  unfold dec
  unfold okd at h
  obtain ⟨h, h3⟩ := Bool.and_eq_true_iff.mp h
  obtain ⟨h1, h2⟩ := Bool.and_eq_true_iff.mp h
  rw [h1, h2, h3]
  by_cases e : l = [48]
  · rw [decide_eq_true e, decide_eq_false fun n : l ≠ [48] => n e]; rfl
  · rw [decide_eq_false e, decide_eq_true e]
    by_cases q : (ab l).head? = some 48
    · rw [decide_eq_true q, decide_eq_false fun n : (ab l).head? ≠ some 48 => n q]; rfl
    · rw [decide_eq_false q, decide_eq_true q]; rfl
def spLawNum (K : PySem.W.Frag) : Sp := fun vs H Q _ => ∃ x, vs = [x] ∧ Txv K H x ∧ ∀ H', Same H H' → Q (num x) H'
section
variable {P : Program} {w : World} {K : PySem.W.Frag} {mg : Str → Option Value} {base : Heap} {f g gn : Addr} {fd gd gnd : FuncData} {C fI : Addr} {dI : FuncData}
theorem scLawNum : FnScope ["typed", "digits", "sign", "found"] ["typed"] (defScope sLawNum) := ⟨rfl, rfl, rfl, by decide +kernel, rfl, by decide +kernel, by decide +kernel⟩
theorem ok_lawnum (F : Fun K "_law_number" "_law_number" sLawNum f fd) (M : Mn mg) : FnOk P w K mg base CX0 1 f fd ["typed"] (spLawNum K) := by
  refine F.ok scLawNum (fun vs H Q E h => ?_) (fun cdv A outer s H vs Q E hr h => ?_)
  · obtain ⟨x, rfl, _⟩ := h
    rfl
  obtain ⟨x, rfl, hx, q⟩ := h
  refine ⟨_, pss_cons (ps_if (pt_not (pt_val (pe_callB call_isi (by rfl) M.isin (by decide +kernel) (pa_cons (pv 0) (pa_cons (pe_bltn (v := .ty "str") (by rfl) M.str (by decide +kernel) rfl) pa_nil))))) (pss_one (ps_ret pe_non)) pss_nil)
    (pss_cons (ps_set (i := 1) scLawNum.nd rfl (Or.inl rfl) (pe_mo (pe_ifExp (pt_cmpR op_eq (pe_slice sl_str (pv 0) po_none (po_some pe_int)) pe_str (nomark _)) (pe_slice sl_str (pv 0) (po_some pe_int) po_none) (pv 0))))
    (pss_cons (ps_if (pt_mo (pw_or (pt_cmpR op_eq (pv 1) pe_str (nomark _)) (pw_or (pt_cmpR op_gt (pe_callB call_len_str (by rfl) M.len PySem.boot_len (pa_cons (pv 1) pa_nil)) pe_int (nomark _))
        (pw_or1 (pt_cmpR (op_neD hr.units) (pe_lc (own := [("sign", 2)]) (g := gName 2) rfl scLawNum.nd (pi_str (pv 1)) (blkOk_by (N := ["typed", "digits", "sign", "found"]) (sc := defScope sLawNum) (by decide +kernel)) (fun _ _ _ _ _ => pg_name (i := 2) scLawNum.nd rfl (Or.inl rfl))
          (fun _ _ _ _ _ => pts_one (pt_cmpR op_notIn_sign (pv 2) pe_str rfl)) (fun _ _ _ _ _ => pv 2)) (pe_lst pa_nil) (nomark _))))).pt) (pss_one (ps_ret pe_non)) pss_nil)
    (pss_cons (ps_if (pt_mo (pw_and (pt_cmpR op_ne (pv 0) pe_str (nomark _)) (pw_and1 (pt_cmpR op_eq (pe_ix ix_str (pv 1) pe_int (fun _ _ => rfl)) pe_str (nomark _)))).pt) (pss_one (ps_ret pe_non)) pss_nil)
    (pss_cons (ps_set (i := 3) scLawNum.nd rfl (Or.inl rfl) pe_int)
    (pss_cons (ps_for PassesOwn.never rfl (pi_str (pv 1)) (pg_name (i := 2) scLawNum.nd rfl (Or.inl rfl))
      (pss_one (ps_set (i := 3) scLawNum.nd rfl (Or.inl rfl) (pe_op op_add (pe_op op_mul (pv 3) pe_int) (pe_bmS PySem.F.plainAttrs_str PySem.F.slot_str_index PySem.F.type_str_index (mt_indexX rfl takes0) pe_str (pa_cons (pv 2) pa_nil))))))
    (pss_one (ps_ret (pe_mo (pe_ifExp (pt_cmpR op_eq (pe_ix ix_str (pv 0) pe_int (fun _ _ => rfl)) pe_str (nomark _)) (pe_op op_sub pe_int (pv 3)) (pv 3)))))))))), ?_⟩
  rcases hx with ⟨z, rfl, hz, hu⟩ | ⟨nz, t, ty, kt⟩
  rotate_left
  · refine ⟨_, rfl, _, .ty "str", t, .type "str", false, rfl, .ty _, ty, kt, _, rfl, iteT ?_⟩
    have qq := q H (Same.refl H)
    have en : num x = .non := by
      cases x with
      | str z => exact absurd rfl (nz z)
      | _ => rfl
    rw [en] at qq
    exact qq
  refine ⟨_, rfl, _, .ty "str", .type "str", .type "str", true, rfl, .ty _, .base (.str z), kit_ty (by decide +kernel), _, rfl, iteF ?_⟩
  have hs : z.length ≤ sizeLine := Nat.le_trans hz (by decide)
  have h45 : cs (Str.ofString "-") = [45] := by decide +kernel
  refine ⟨fun v G => H = G ∧ ∃ y : Str, v = .str y ∧ cs y = ab (cs z), ?_, ?_⟩
  · refine ⟨_, rfl, 1, rfl, z, rfl, hs, rfl, _, rfl, ?_⟩
    rw [eq_str, cut_to1, h45]
    refine ite2 (fun c => ⟨_, rfl, 1, rfl, z, rfl, hs, rfl, _, rfl, ?_⟩) (fun c => ⟨_, rfl, rfl, z, rfl, ?_⟩)
    · rw [cut_from1, (ab_minus (of_decide_eq_true c)).1]
    · rw [(ab_plain (of_decide_eq_false (Bool.eq_false_iff.mpr c))).1]
  rintro _ _ ⟨rfl, y, rfl, ey⟩
  have ly : (cs y).length ≤ (cs z).length := by
    rw [ey]
    by_cases h : (cs z).take 1 = [45]
    · rw [(ab_minus h).1, List.length_drop]; omega
    · rw [(ab_plain h).1]; exact Nat.le_refl _
  have hyl : y.length ≤ 5000 := by rw [cs_len, cs_len] at ly; omega
  have hys : y.length ≤ sizeLine := Nat.le_trans hyl (by decide)
  have h0 : cs (Str.ofString "") = [] := by decide +kernel
  have h48 : cs (Str.ofString "0") = [48] := by decide +kernel
  -- digits == '' or len(digits) > 30 or [..] != []
  refine ⟨fun b G => Same H G ∧ b = !(decide (cs y ≠ []) && decide ((cs y).length ≤ 30) && (cs y).all dg), ?_, ?_⟩
  · refine ⟨_, rfl, rfl, _, rfl, ?_⟩
    rw [eq_str, h0]
    refine ite2 (fun c => ⟨Same.refl H, ?_⟩) (fun c => ⟨_, rfl, y, rfl, hys, _, _, rfl, rfl, _, rfl, ite2 (fun d => ⟨Same.refl H, ?_⟩) (fun d => ⟨_, rfl, y, rfl, fun D hD => ?_⟩)⟩)
    · have e : cs y = [] := of_decide_eq_true c
      rw [decide_eq_false (fun n => n e)]; rfl
    · have d' : (30 : Int) < ((y.length : Nat) : Int) := of_decide_eq_true d
      have e : decide ((cs y).length ≤ 30) = false := decide_eq_false (by rw [cs_len]; omega)
      rw [e, Bool.and_false]; rfl
    · have ne : cs y ≠ [] := of_decide_eq_false (Bool.eq_false_iff.mpr c)
      have d' : ¬ (30 : Int) < ((y.length : Nat) : Int) := of_decide_eq_false (Bool.eq_false_iff.mpr d)
      have e30 : decide ((cs y).length ≤ 30) = true := decide_eq_true (by rw [cs_len]; omega)
      rw [decide_eq_true ne, e30, Bool.true_and]
      refine lc_it (walk_str (z := y)) (fun i J => Same H J ∧ J D = some (.lst ((odd ((cs y).take i)).map sg))) ⟨Same.new hD _, upd_same⟩ (fun _ _ _ _ => trivial) ?_ ?_
      · rintro i v J J1 hi ⟨sJ, eD⟩ ⟨rfl, c1, hc1, rfl⟩
        have hc : (cs y)[i]? = some c1 := by unfold cs; rw [Array.getElem?_toList]; exact hc1
        refine ⟨rfl, _, rfl, c1, ten, rfl, rfl, _, rfl, ?_⟩
        have em : (!decide (c1 ∈ ten.cps.toList)) = !dg c1 := congrArg (!·) (by rw [Bool.eq_iff_iff, decide_eq_true_iff]; exact ten_mem)
        rw [em]
        cases hd : dg c1 with
        | true =>
          refine iteF ⟨sJ, ?_⟩
          rw [odd_next hc, if_pos hd]; exact eD
        | false =>
          refine iteT ⟨_, rfl, _, eD, ?_, fun b o e => by rw [upd_ne (ne_of_none e hD)]; exact sJ b o e, ?_⟩
          · rw [List.length_map]
            have h1 : (odd ((cs y).take i)).length ≤ (cs y).length := Nat.le_trans (List.length_filter_le _ _) (by rw [List.length_take]; omega)
            rw [cs_len] at h1
            exact Nat.lt_of_le_of_lt (Nat.le_trans h1 hyl) (by rw [sizeLine_eq]; decide)
          · rw [upd_same, odd_next hc, if_neg (by rw [hd]; exact Bool.false_ne_true), List.map_append]; rfl
      · rintro J ⟨sJ, eD⟩
        have ef : (cs y).take y.cps.size = cs y := List.take_of_length_le (by rw [cs_len]; exact Nat.le_refl _)
        rw [ef] at eD
        refine ⟨(by show 0 ≤ sizeLine; decide), fun D2 hD2 => ?_⟩
        have s2 := Same.new hD2 (.lst [])
        have dp : ∀ l : List Nat, DpAll K (upd J D2 (.lst [])) (l.map sg) (l.map sgD) := fun l => by
          induction l with
          | nil => exact .nil
          | cons a l ih => exact .cons (.str _) ih
        have shp : SeqAt.shaped (.list ((odd (cs y)).map sgD)) = true := sgD_shaped fun c hc => by
          have h1 : c ∈ cs y := (List.mem_filter.mp hc).1
          rw [ey] at h1
          refine hu c ?_
          by_cases h : (cs z).take 1 = [45]
          · rw [(ab_minus h).1] at h1; exact List.mem_of_mem_drop h1
          · rw [(ab_plain h).1] at h1; exact h1
        refine ⟨.list ((odd (cs y)).map sgD), .list [], .lst (SqL.of (s2 _ _ eD)) (dp _), .lst (SqL.of upd_same) .nil, shp, rfl, _, rfl, sJ.trans s2, ?_⟩
        rw [← odd_all]
        cases odd (cs y) with
        | nil => rfl
        | cons a l => rfl
  have eok : (decide (cs y ≠ []) && decide ((cs y).length ≤ 30) && (cs y).all dg) = okd (cs z) := by unfold okd; rw [ey]
  rw [eok]
  rintro b G ⟨sG, rfl⟩
  have qG := q G sG
  cases hok : okd (cs z) with
  | false =>
    rw [num_f (dec_no hok)] at qG
    exact iteT qG
  | true =>
  refine iteF ?_
  have hp := hok
  unfold okd at hp
  rw [← ey] at hp
  obtain ⟨hp, hdg⟩ := Bool.and_eq_true_iff.mp hp
  obtain ⟨hne, h30⟩ := Bool.and_eq_true_iff.mp hp
  have hne := of_decide_eq_true hne
  obtain ⟨c0, r0, hy0⟩ : ∃ c0 r0, cs y = c0 :: r0 := by
    match hh : cs y with
    | [] => exact absurd hh hne
    | c :: r => exact ⟨c, r, rfl⟩
  have at0 : ∀ {x : Str} {c : Nat} {r : List Nat}, cs x = c :: r → atI x.cps.toList 0 = some c := fun {x c r} h => by
    show atI (cs x) 0 = some c
    rw [h]; exact atI_nat (j := 0) rfl
  refine ⟨fun b G' => G = G' ∧ b = (decide (cs z ≠ [48]) && decide ((ab (cs z)).head? = some 48)), ?_, ?_⟩
  · refine ⟨_, rfl, rfl, _, rfl, ?_⟩
    rw [eq_str, h48]
    have e48 : decide (V.str ⟨#[c0]⟩ = V.str (Str.ofString "0")) = decide ((ab (cs z)).head? = some 48) := by
      rw [eq_str, h48, ← ey, hy0, Bool.eq_iff_iff, decide_eq_true_iff, decide_eq_true_iff]
      exact ⟨fun h => congrArg some (List.cons.inj h).1, fun h => by cases h; rfl⟩
    by_cases e : cs z = [48]
    · rw [decide_eq_true e, decide_eq_false fun n : cs z ≠ [48] => n e]
      exact iteF ⟨rfl, rfl⟩
    · rw [decide_eq_false e, decide_eq_true e, Bool.true_and]
      exact iteT ⟨_, rfl, y, 0, c0, rfl, rfl, hys, at0 hy0, rfl, _, rfl, rfl, e48⟩
  rintro b _ ⟨rfl, rfl⟩
  have hd := dec_yes hok
  cases hb : (decide (cs z ≠ [48]) && decide ((ab (cs z)).head? = some 48)) with
  | true =>
    rw [hb] at hd
    rw [num_f hd] at qG
    exact iteT qG
  | false =>
  rw [hb] at hd
  rw [num_t hd] at qG
  refine iteF ?_
  refine ⟨_, rfl, y, rfl, ?_⟩
  refine for_it (walk_str (z := y)) (fun i σ J => J = G ∧ ∃ x2, σ = [some (.str z), some (.str y), x2, some (.int ((NumText.digitsVal ((cs y).take i) : Nat) : Int))]) ⟨rfl, _, rfl⟩ (fun _ _ _ _ _ => trivial) ?_ ?_
  · rintro i v _ J J1 hi ⟨rfl, x2, rfl⟩ ⟨rfl, c1, hc1, rfl⟩
    have hc : (cs y)[i]? = some c1 := by unfold cs; rw [Array.getElem?_toList]; exact hc1
    have hdc : dg c1 = true := List.all_eq_true.mp hdg c1 (List.mem_of_getElem? hc)
    refine ⟨_, rfl, _, _, rfl, rfl, .inr ⟨by decide, by decide⟩, rfl, _, rfl, ten, ⟨#[c1]⟩, rfl, rfl, fun k hk => ?_, fun hn => ?_⟩
    · rw [ten_idx hdc] at hk
      cases hk
      refine ⟨_, _, rfl, rfl, rfl, some (.str ⟨#[c1]⟩), ?_⟩
      rw [val_next hc, Int.natCast_add, Int.natCast_mul]; rfl
    · rw [ten_idx hdc] at hn; cases hn
  rintro _ J ⟨rfl, x2, rfl⟩
  have ef : (cs y).take y.cps.size = cs y := List.take_of_length_le (by rw [cs_len]; exact Nat.le_refl _)
  rw [ef]
  refine ⟨fun v G' => J = G' ∧ v = .int (nval (cs z)), ?_, ?_⟩
  · obtain ⟨c2, r2, hz0⟩ : ∃ c r, cs z = c :: r := by
      match hh : cs z with
      | [] => rw [hh] at ey; rw [ey] at hy0; cases hy0
      | c :: r => exact ⟨c, r, rfl⟩
    refine ⟨_, rfl, z, 0, c2, rfl, rfl, hs, at0 hz0, rfl, _, rfl, ?_⟩
    rw [eq_str, h45]
    have e1 : cs (⟨#[c2]⟩ : Str) = (cs z).take 1 := by rw [hz0]; rfl
    rw [e1]
    refine ite2 (fun c => ⟨_, rfl, _, _, rfl, rfl, rfl, ?_⟩) (fun c => ⟨_, rfl, rfl, ?_⟩)
    · have c' := of_decide_eq_true c
      rw [nval_minus c', ← (ab_minus c').1, ← ey]
      exact congrArg V.int (Int.zero_sub _)
    · have c' : ¬ (cs z).take 1 = [45] := of_decide_eq_false (Bool.eq_false_iff.mpr c)
      rw [(ab_plain c').2, ey, (ab_plain c').1]
  rintro _ _ ⟨rfl, rfl⟩
  exact qG
end
end L

set_option Elab.async false
set_option linter.all false
set_option maxRecDepth 100000
set_option maxHeartbeats 4000000
namespace L
open PySem L2 KX
abbrev sText : Stmt := top 14
/-- an ASCII text of at most n signs -/
def Asc (n : Nat) (z : Str) : Prop := z.length ≤ n ∧ ∀ c, c ∈ cs z → c < 128
theorem cs_app (x y : Str) : cs (x ++ y) = cs x ++ cs y := by
  unfold cs
  exact Array.toList_append
theorem Asc.app {m n : Nat} {x y : Str} (h : Asc m x) (k : Asc n y) : Asc (m + n) (x ++ y) := by
  refine ⟨?_, fun c hc => ?_⟩
  · have := cs_app x y
    rw [← cs_len, this, List.length_append, cs_len, cs_len]
    have := h.1; have := k.1; omega
  · rw [cs_app] at hc
    rcases List.mem_append.mp hc with h1 | h1
    · exact h.2 c h1
    · exact k.2 c h1
theorem cut_mem {z : Str} {lo hi : Option Int} {c : Nat} (h : c ∈ cs (cutS z lo hi)) : c ∈ cs z := by
  unfold cutS cs at h
  exact List.mem_of_mem_drop (List.mem_of_mem_take h)
theorem Asc.cut {n : Nat} {z : Str} (h : Asc n z) (lo hi : Option Int) : Asc n (cutS z lo hi) := ⟨Nat.le_trans (cutS_length z lo hi) h.1, fun c hc => h.2 c (cut_mem hc)⟩
theorem Asc.mono {m n : Nat} {z : Str} (h : Asc m z) (l : m ≤ n) : Asc n z := ⟨Nat.le_trans h.1 l, h.2⟩
theorem join_cs (l : List Nat) : cs (Txt.join (Str.ofString "") (l.map fun c => (⟨#[c]⟩ : Str))) = l := by
  have e0 : cs (Str.ofString "") = [] := by decide +kernel
  have e : ∀ l : List Nat, cs (Str.join (Str.ofString "") (l.map fun c => (⟨#[c]⟩ : Str))) = l := fun l => by
    induction l with
    | nil => decide +kernel
    | cons c l ih =>
      cases l with
      | nil => rfl
      | cons d l =>
        show cs ((⟨#[c]⟩ : Str) ++ Str.ofString "" ++ Str.join (Str.ofString "") ((d :: l).map fun c => (⟨#[c]⟩ : Str))) = c :: d :: l
        rw [cs_app, cs_app, ih, e0]; rfl
  have ej : Txt.join (Str.ofString "") (l.map fun c => (⟨#[c]⟩ : Str)) = Str.join (Str.ofString "") (l.map fun c => (⟨#[c]⟩ : Str)) := StrLaws.glued_eq_join _ _
  rw [ej, e]
theorem asc_dgs {l : List Nat} (h : ∀ c, c ∈ l → dg c = true) : Asc l.length (Txt.join (Str.ofString "") (l.map fun c => (⟨#[c]⟩ : Str))) := by
  refine ⟨by rw [← cs_len, join_cs]; exact Nat.le_refl _, fun c hc => ?_⟩
  rw [join_cs] at hc
  have := h c hc
  unfold dg at this
  have := of_decide_eq_true (Bool.and_eq_true_iff.mp this).2
  omega
theorem ten_at {r : Int} (h0 : 0 ≤ r) (h1 : r < 10) : ∃ c, atI ten.cps.toList r = some c ∧ dg c = true := by
  obtain ⟨n, rfl⟩ := Int.eq_ofNat_of_zero_le h0
  have hn : n < 10 := by omega
  have e : ten.cps.toList = [48, 49, 50, 51, 52, 53, 54, 55, 56, 57] := ten_cs
  rw [e]
  refine ⟨n + 48, atI_nat (j := n) ?_, ?_⟩
  · match n, hn with
    | 0, _ => rfl
    | 1, _ => rfl
    | 2, _ => rfl
    | 3, _ => rfl
    | 4, _ => rfl
    | 5, _ => rfl
    | 6, _ => rfl
    | 7, _ => rfl
    | 8, _ => rfl
    | 9, _ => rfl
  · unfold dg
    rw [decide_eq_true (by omega), decide_eq_true (by omega)]; rfl
/-- one of some texts -/
theorem asc_of {k : Nat} {zs : List Str} (h : (zs.all fun z => decide (z.length ≤ k) && (cs z).all fun c => decide (c < 128)) = true) {i : Int} (h0 : 0 ≤ i) (h1 : i < (zs.length : Int)) : ∃ z, atI (zs.map V.str) i = some (.str z) ∧ Asc k z := by
  obtain ⟨n, rfl⟩ := Int.eq_ofNat_of_zero_le h0
  have hn : n < zs.length := by omega
  refine ⟨zs[n], atI_nat (j := n) (by rw [List.getElem?_map, List.getElem?_eq_getElem hn]; rfl), ?_⟩
  have q := List.all_eq_true.mp h zs[n] (List.getElem_mem hn)
  obtain ⟨q1, q2⟩ := Bool.and_eq_true_iff.mp q
  exact ⟨of_decide_eq_true q1, fun c hc => of_decide_eq_true (List.all_eq_true.mp q2 c hc)⟩
def pres : List Str := ["", "", "-", "+", "0", "-0"]
def mids : List Str := ["", "", "", " ", "_", "-", ".", "x", "\n", ",", "0"]
def spText : Sp := fun vs H Q _ => ∃ p, vs = [.ref p] ∧ Bx H p ∧ ∀ z H', Asc 100 z → Bx H' p → Sx p H H' → Q (.str z) H'
abbrev nText : List Str := ["box", "digits", "size", "typed", "at", "some", "k"]
section
variable {X : Cx}
/-- a statement by what is known behind it -/
theorem ps_cut {st : Stmt} {t : TS} (h : PS X st t) : PS X st (fun D σ H => ∃ R : L2.St → Hp → Prop, t { D with nx := R } σ H ∧ ∀ σ' H', R σ' H' → D.nx σ' H') := by
  refine ⟨fun pins s σ H D I ⟨R, h1, k⟩ => thn (h.run pins s σ H { D with nx := R } I h1) fun f s1 q => ?_⟩
  cases f with
  | next =>
    obtain ⟨σ', H', I', q⟩ := q
    exact ⟨σ', H', I', k _ _ q⟩
  | ret v => exact q
  | brk => exact q
  | cont => exact q
end
section
variable {P : Program} {w : World} {K : PySem.W.Frag} {mg : Str → Option Value} {base : Heap} {f g gn : Addr} {fd gd gnd : FuncData} {C fI : Addr} {dI : FuncData}
theorem scText : FnScope nText ["box"] (defScope sText) := ⟨rfl, rfl, rfl, by decide +kernel, rfl, by decide +kernel, by decide +kernel⟩
theorem ok_text (F : Fun K "_law_text" "_law_text" sText f fd) (M : Mn mg) (G : FnOk P w K mg base CX0 1 g gd ["box", "size"] spTake) (bG : Binds K gd ["box", "size"] []) (kG : PySem.W.keepIn K (.ref g) = true) (mG : mg "_law_take" = some (.ref g)) : FnOk P w K mg base CX0 2 f fd ["box"] spText := by
  refine F.ok scText (fun vs H Q E h => ?_) (fun cdv A outer s H vs Q E hr h => ?_)
  · obtain ⟨p, rfl, _⟩ := h
    rfl
  obtain ⟨p, rfl, hb, q⟩ := h
  refine ⟨_, pss_cons (ps_set (i := 1) scText.nd rfl (Or.inr rfl) pe_str)
    (pss_cons (ps_set (i := 2) scText.nd rfl (Or.inl rfl) (pe_ix ix_list (pe_lst (pa_cons pe_int (pa_cons pe_int (pa_cons pe_int (pa_cons pe_int (pa_cons pe_int
      (pa_cons (pe_op op_add pe_int (pe_call G hr (by rfl) mG kG bG .nil pass0 (pa_cons (pv 0) (pa_cons pe_int pa_nil)))) (pa_cons (pe_op op_add pe_int (pe_call G hr (by rfl) mG kG bG .nil pass0 (pa_cons (pv 0) (pa_cons pe_int pa_nil)))) pa_nil))))))))
      (pe_call G hr (by rfl) mG kG bG .nil pass0 (pa_cons (pv 0) (pa_cons pe_int pa_nil))) (fun _ _ => rfl)))
    (pss_cons (ps_set (i := 3) scText.nd rfl (Or.inl rfl) (pe_join pe_str (pe_lc (own := [("k", 6)]) (g := gName 6) (tt := tYes) rfl scText.nd (pi_range1 (by rfl) M.range (pa_cons (pv 2) pa_nil))
      (blkOk_by (N := nText) (sc := defScope sText) (by decide +kernel)) (fun _ _ _ _ _ => pg_name (i := 6) scText.nd rfl (Or.inl rfl)) (fun _ _ _ _ _ => pts_nil)
      (fun _ _ _ _ _ => pe_ix ix_str (pv 1) (pe_call G hr (by rfl) mG kG bG .nil pass0 (pa_cons (pv 0) (pa_cons pe_int pa_nil))) (fun _ _ => rfl)))))
    (pss_cons (ps_cut (ps_if (pt_mo (pw_and (pt_cmpR op_gt (pe_call G hr (by rfl) mG kG bG .nil pass0 (pa_cons (pv 0) (pa_cons pe_int pa_nil))) pe_int (nomark _)) (pw_and (pt_cmpR op_eq (pe_ix ix_str (pv 3) pe_int (fun _ _ => rfl)) pe_str (nomark _)) (pw_and1 (pt_cmpR op_gt (pv 2) pe_int (nomark _))))).pt)
      (pss_one (ps_set (i := 3) scText.nd rfl (Or.inl rfl) (pe_op op_add_str (pe_ix ix_str (pv 1) (pe_op op_add pe_int (pe_call G hr (by rfl) mG kG bG .nil pass0 (pa_cons (pv 0) (pa_cons pe_int pa_nil)))) (fun _ _ => rfl)) (pe_slice sl_str (pv 3) (po_some pe_int) po_none)))) pss_nil))
    (pss_cons (ps_set (i := 3) scText.nd rfl (Or.inl rfl) (pe_op op_add_str (pe_ix ix_list (pe_lst (pa_cons pe_str (pa_cons pe_str (pa_cons pe_str (pa_cons pe_str (pa_cons pe_str (pa_cons pe_str pa_nil)))))))
      (pe_call G hr (by rfl) mG kG bG .nil pass0 (pa_cons (pv 0) (pa_cons pe_int pa_nil))) (fun _ _ => rfl)) (pv 3)))
    (pss_cons (ps_set (i := 4) scText.nd rfl (Or.inl rfl) (pe_call G hr (by rfl) mG kG bG .nil pass0 (pa_cons (pv 0) (pa_cons (pe_op op_add (pe_callB call_len_str (by rfl) M.len PySem.boot_len (pa_cons (pv 3) pa_nil)) pe_int) pa_nil))))
    (pss_cons (ps_set (i := 5) scText.nd rfl (Or.inl rfl) (pe_lst (pa_cons pe_str (pa_cons pe_str (pa_cons pe_str (pa_cons pe_str (pa_cons pe_str (pa_cons pe_str (pa_cons pe_str (pa_cons pe_str (pa_cons pe_str (pa_cons pe_str (pa_cons pe_str pa_nil)))))))))))))
    (pss_one (ps_ret (pe_op op_add_str (pe_op op_add_str (pe_slice sl_str (pv 3) po_none (po_some (pv 4))) (pe_ix ix_list (pv 5) (pe_call G hr (by rfl) mG kG bG .nil pass0 (pa_cons (pv 0) (pa_cons pe_int pa_nil))) (fun _ _ => rfl))) (pe_slice sl_str (pv 3) (po_some (pv 4)) po_none)))))))))), ?_⟩
  refine ⟨_, rfl, p, 8, rfl, hb, by decide, by decide, fun r1 H1 a1 e1 b1 s1 => ⟨_, _, rfl, rfl, _, rfl, p, 33, rfl, b1, by decide, by decide, fun r2 H2 a2 e2 b2 s2 => ⟨_, _, rfl, rfl, (by show 7 ≤ sizeLine; decide), fun l hl => ⟨_, rfl, p, 7, rfl, b2.new hl, by decide, by decide, fun i H3 ia ib b3 s3 => ?_⟩⟩⟩⟩
  have nl : l ≠ p := b2.ne hl
  have el : H3 l = some (.lst [.int 1, .int 2, .int 3, .int 30, .int 31, .int (1 + r1), .int (1 + r2)]) := s3 l _ nl upd_same
  obtain ⟨sz, hz, z1, z2⟩ : ∃ z : Int, atI [V.int 1, .int 2, .int 3, .int 30, .int 31, .int (1 + r1), .int (1 + r2)] i = some (.int z) ∧ 1 ≤ z ∧ z ≤ 33 := by
    obtain ⟨i, rfl⟩ := Int.eq_ofNat_of_zero_le ia
    have i7 : i < 7 := by omega
    match i, i7 with
    | 0, _ => exact ⟨1, rfl, by decide, by decide⟩
    | 1, _ => exact ⟨2, rfl, by decide, by decide⟩
    | 2, _ => exact ⟨3, rfl, by decide, by decide⟩
    | 3, _ => exact ⟨30, rfl, by decide, by decide⟩
    | 4, _ => exact ⟨31, rfl, by decide, by decide⟩
    | 5, _ => exact ⟨1 + r1, rfl, by omega, by omega⟩
    | 6, _ => exact ⟨1 + r2, rfl, by omega, by omega⟩
  refine ⟨l, _, _, _, rfl, rfl, SqL.of el, hz, ?_⟩
  obtain ⟨sz, rfl⟩ := Int.eq_ofNat_of_zero_le (show 0 ≤ sz by omega)
  have sx3 : Sx p H H3 := (s1.trans s2).trans ((Sx.new hl).trans s3)
  have lten : ten.length ≤ sizeLine := by decide +kernel
  -- join
  refine ⟨⟨_, rfl⟩, _, rfl, ((sz : Nat) : Int), rfl, by omega, by omega, fun D hD => ?_⟩
  have nD : D ≠ p := b3.ne hD
  refine lc_range (lo := 0) (n := ((sz : Nat) : Int).toNat) (fun i G => Bx G p ∧ Sx p H3 G ∧ ∃ ds : List Nat, G D = some (.lst (ds.map sg)) ∧ ds.length = i ∧ ∀ c, c ∈ ds → dg c = true)
    ⟨b3.new hD, Sx.new hD, [], upd_same, rfl, fun _ z => nomatch z⟩ ?_ ?_
  · rintro j J hj ⟨bJ, sJ, ds, eD, ld, hd⟩
    have hj' : j < sz := by simpa using hj
    refine ⟨rfl, _, rfl, _, rfl, p, 10, rfl, bJ, by decide, by decide, fun r J1 ra rb bJ1 sJ1 => ?_⟩
    obtain ⟨c, hc1, hc2⟩ := ten_at ra rb
    refine ⟨ten, r, c, rfl, rfl, lten, hc1, _, sJ1 D _ nD eD, by rw [List.length_map, ld]; exact Nat.lt_of_le_of_lt (show j ≤ 33 by omega) (by rw [sizeLine_eq]; decide), bJ1.at_ne nD, fun b o hbp e => ?_, ds ++ [c], by rw [upd_same, List.map_append]; rfl, by simp [ld], fun x h => ?_⟩
    · rw [upd_ne (ne_of_none e hD)]; exact sJ1 b o hbp (sJ b o hbp e)
    · rcases List.mem_append.mp h with h | h
      · exact hd x h
      · rw [List.mem_singleton.mp h]; exact hc2
  rintro H4 ⟨b4, s4, ds, eD, ld, hd⟩
  rw [Int.toNat_natCast] at ld
  have edd : ds.map sg = (ds.map fun c => (⟨#[c]⟩ : Str)).map V.str := by rw [List.map_map]; rfl
  refine ⟨Str.ofString "", D, ds.map fun c => (⟨#[c]⟩ : Str), rfl, rfl, .inl (by rw [← edd]; exact SqL.of eD), ?_, ?_⟩
  · have : ((ds.map fun c => (⟨#[c]⟩ : Str)).map (·.length)).sum = ds.length := by
      rw [List.map_map]
      clear hd eD edd ld
      induction ds with
      | nil => rfl
      | cons a l ih => rw [List.map_cons, List.sum_cons, ih]; show 1 + l.length = l.length + 1; omega
    rw [this, List.length_map, ld]
    show sz + sz * (Str.ofString "").length ≤ 16777216
    have e0 : (Str.ofString "").length = 0 := by decide +kernel
    rw [e0]; omega
  have A1 : Asc 33 (Txt.join (Str.ofString "") (ds.map fun c => (⟨#[c]⟩ : Str))) := (asc_dgs hd).mono (by omega)
  have L1 : (Txt.join (Str.ofString "") (ds.map fun c => (⟨#[c]⟩ : Str))).length = sz := by rw [← cs_len, join_cs]; exact ld
  have sx4 : Sx p H H4 := sx3.trans s4
  generalize Txt.join (Str.ofString "") (ds.map fun c => (⟨#[c]⟩ : Str)) = y at A1 L1 ⊢
  have ys : y.length ≤ sizeLine := Nat.le_trans A1.1 (by decide)
  clear hd eD edd
  -- the first digit may be changed
  refine ⟨fun σ G' => ∃ y : Str, Asc 33 y ∧ Bx G' p ∧ Sx p H G' ∧ ∃ x4 x5 x6, σ = [some (.ref p), some (.str ten), some (.int (sz : Int)), some (.str y), x4, x5, x6], ?_, ?_⟩
  · refine ⟨fun b G' => Bx G' p ∧ Sx p H4 G', ?_, ?_⟩
    · refine ⟨_, rfl, p, 3, rfl, b4, by decide, by decide, fun r G ra rb bG sG => ⟨_, _, rfl, rfl, _, rfl, ?_⟩⟩
      refine ite2 (fun c => ?_) (fun c => ⟨bG, sG⟩)
      obtain ⟨c0, r0, hy0⟩ : ∃ c0 r0, cs y = c0 :: r0 := by
        match hh : cs y with
        | [] => have := cs_len y; rw [hh, L1] at this; have t : 0 = sz := this; omega
        | c :: r => exact ⟨c, r, rfl⟩
      refine ⟨_, rfl, y, 0, c0, rfl, rfl, ys, ?_, rfl, _, rfl, ite2 (fun d => ⟨_, rfl, _, _, rfl, rfl, _, rfl, bG, sG⟩) (fun d => ⟨bG, sG⟩)⟩
      show atI (cs y) 0 = some c0
      rw [hy0]; exact atI_nat (j := 0) rfl
    rintro bb G ⟨bG, sG⟩
    refine ite2 (fun c => ?_) (fun c => ⟨y, A1, bG, sx4.trans sG, _, _, _, rfl⟩)
    refine ⟨_, rfl, _, rfl, p, 9, rfl, bG, by decide, by decide, fun r G1 ra rb bG1 sG1 => ⟨_, _, rfl, rfl, ?_⟩⟩
    obtain ⟨c, hc1, hc2⟩ := ten_at (r := 1 + r) (by omega) (by omega)
    have Ac : Asc 1 (⟨#[c]⟩ : Str) := ⟨Nat.le_refl _, fun x hx => by
      have : x = c := List.mem_singleton.mp hx
      subst this
      unfold dg at hc2
      have := of_decide_eq_true (Bool.and_eq_true_iff.mp hc2).2
      omega⟩
    have l33 := A1.1
    have lcut : (cutS y (some 1) none).length ≤ 32 := by
      rw [← cs_len, cut_from1, List.length_drop, cs_len]; omega
    refine ⟨ten, 1 + r, c, rfl, rfl, lten, hc1, _, rfl, 1, rfl, y, rfl, ys, _, _, rfl, rfl, ?_, _, ?_, bG1, (sx4.trans sG).trans sG1, _, _, _, rfl⟩
    · exact Nat.le_trans (Nat.add_le_add (Nat.le_refl 1) lcut) (by decide)
    · exact (Ac.app ((A1.cut (some 1) none).mono (Nat.le_refl 33) |> fun h => (⟨lcut, h.2⟩ : Asc 32 _))).mono (by decide)
  clear A1 L1 ys
  rintro _ G ⟨y, A1, bG, sG, x4, x5, x6, rfl⟩
  -- a sign or a nought ahead
  refine ⟨(by show 6 ≤ sizeLine; decide), fun l1 hl1 => ⟨_, rfl, p, 6, rfl, bG.new hl1, by decide, by decide, fun i G1 ia ib b1' s1' => ?_⟩⟩
  have nl1 : l1 ≠ p := bG.ne hl1
  have el1 : G1 l1 = some (.lst (pres.map V.str)) := s1' l1 _ nl1 upd_same
  obtain ⟨w1, hw1, aw1⟩ := asc_of (k := 2) (zs := pres) (by decide +kernel) ia ib
  have A2 := aw1.app A1
  refine ⟨l1, _, _, _, rfl, rfl, SqL.of el1, hw1, _, rfl, w1, y, rfl, rfl, Nat.le_trans (Nat.add_le_add aw1.1 A1.1) (by decide), ?_⟩
  have A2l := A2.1
  generalize w1 ++ y = u at A2 A2l ⊢
  have us : u.length ≤ sizeLine := Nat.le_trans A2l (by decide)
  have sx5 : Sx p H G1 := sG.trans ((Sx.new hl1).trans s1')
  refine ⟨_, rfl, _, rfl, u, rfl, us, _, _, rfl, rfl, p, _, rfl, b1', by omega, by omega, fun at_ G2 ta tb b2' s2' => ?_⟩
  refine ⟨(by show 11 ≤ sizeLine; decide), fun l2 hl2 => ?_⟩
  refine ⟨_, rfl, _, rfl, at_, rfl, u, rfl, us, _, rfl, _, rfl, p, 11, rfl, b2'.new hl2, by decide, by decide, fun i2 G3 ia2 ib2 b3' s3' => ?_⟩
  have nl2 : l2 ≠ p := b2'.ne hl2
  have el2 : G3 l2 = some (.lst (mids.map V.str)) := s3' l2 _ nl2 upd_same
  obtain ⟨w2, hw2, aw2⟩ := asc_of (k := 1) (zs := mids) (by decide +kernel) ia2 ib2
  have B1 := A2.cut none (some at_)
  have B2 := A2.cut (some at_) none
  refine ⟨l2, _, _, _, rfl, rfl, SqL.of el2, hw2, _, w2, rfl, rfl, Nat.le_trans (Nat.add_le_add B1.1 aw2.1) (by decide), _, rfl, _, rfl, at_, rfl, u, rfl, us, _, _, rfl, rfl, Nat.le_trans (Nat.add_le_add (B1.app aw2).1 B2.1) (by decide), ?_⟩
  exact q _ _ (((B1.app aw2).app B2).mono (by decide)) b3' ((sx5.trans s2').trans ((Sx.new hl2).trans s3'))
end
end L

set_option Elab.async false
set_option linter.all false
set_option maxRecDepth 100000
set_option maxHeartbeats 4000000
namespace L
open PySem L2 KX
abbrev sIsLim : Stmt := top 17
abbrev sCalled : Stmt := top 19
abbrev sDue : Stmt := top 18
section
variable {X : Cx}
/-- x is not True, x an int or a truth value -/
theorem op_notIB : OpR X (compareOp .IsNot) (fun x y H Q => ∃ b : Bool, y = .bl b ∧ ((∃ a : Bool, x = .bl a ∧ Q (.bl (!decide (a = b))) H) ∨ (∃ i, x = .int i ∧ Q (.bl true) H))) := by
  intro pins s σ H x y v u Q I rx ry h
  obtain ⟨b, rfl, h⟩ := h
  cases (show u = Value.bool b from ry)
  rcases h with ⟨a, rfl, q⟩ | ⟨i, rfl, q⟩
  · cases (show v = Value.bool a from rx)
    by_cases e : a = b
    · subst e
      exact wpAny_isNot_self rfl ⟨.bl false, H, I, rfl, by simpa using q⟩
    · exact wpAny_isNot_other rfl (fun z => e (Value.bool.inj z)) ⟨.bl true, H, I, rfl, by simpa [e] using q⟩
  · obtain ⟨t, rfl⟩ := (show ∃ t, v = Value.int i t from rx)
    exact wpAny_isNot_other rfl (fun z => nomatch z) ⟨.bl true, H, I, rfl, q⟩
end
/-- a limit whose int-ness isinstance tells -/
def Lim2 (K : PySem.W.Frag) (H : Hp) (v : V) : Prop := v = .non ∨ (∃ i, v = .int i) ∨ (∃ b, v = .bl b) ∨ (limB v = false ∧ ∃ t b2, TyX K H v t ∧ PySem.W.kitOne K t (.type "int") = some false ∧ PySem.W.kitOne K t (.type "bool") = some b2)
theorem Lim2.same {K : PySem.W.Frag} {H G : Hp} {v : V} (s : Same H G) (h : Lim2 K H v) : Lim2 K G v := by
  rcases h with h | h | h | ⟨h, t, b2, a, b, c⟩
  · exact .inl h
  · exact .inr (.inl h)
  · exact .inr (.inr (.inl h))
  · exact .inr (.inr (.inr ⟨h, t, b2, TyX.same s a, b, c⟩))
theorem Lim2.lim {K : PySem.W.Frag} {H : Hp} {v : V} (h : Lim2 K H v) : Lim K H v := by
  rcases h with h | ⟨i, h⟩ | ⟨b, h⟩ | ⟨h, t, b2, a, k1, k2⟩
  · exact .inl h
  · subst h
    exact .inr ⟨(fun z => nomatch z), .inl ⟨i, rfl⟩⟩
  · subst h
    exact .inr ⟨(fun z => nomatch z), .inr ⟨(fun i z => nomatch z), true, true, ⟨_, .base (.bl b), kit_ty (by decide +kernel), kit_ty (by decide +kernel)⟩, rfl⟩⟩
  · refine .inr ⟨(fun z => by rw [z] at h; cases h), .inr ⟨(fun i z => by rw [z] at h; cases h), false, b2, ⟨t, a, k1, k2⟩, rfl⟩⟩
def spIsLim (K : PySem.W.Frag) : Sp := fun vs H Q _ => ∃ v, vs = [v] ∧ Lim2 K H v ∧ Q (.bl (limB v)) H
/-- a list of a word and what is told -/
def Tld (H G : Hp) (a : Addr) (z : Str) (v : V) : Prop := H a = none ∧ G a = some (.lst [.str z, v])
def wordOf (lo hi : V) : Str := if limB lo = true then (if limB hi = true then Str.ofString "returned" else Str.ofString "invalid") else Str.ofString "invalid"
def valOf (x lo hi : V) : V := if limB lo = true then (if limB hi = true then prs x lo hi else hi) else lo
def spCalled (K : PySem.W.Frag) : Sp := fun vs H Q _ => ∃ x lo hi, vs = [x, lo, hi] ∧ Txv K H x ∧ Lim2 K H lo ∧ Lim2 K H hi ∧ ∀ a G, Same H G → Tld H G a (wordOf lo hi) (valOf x lo hi) → Q (.ref a) G
section
variable {P : Program} {w : World} {K : PySem.W.Frag} {mg : Str → Option Value} {base : Heap} {f g gn : Addr} {fd gd gnd : FuncData} {C fI : Addr} {dI : FuncData}
theorem scIsLim : FnScope ["thing"] ["thing"] (defScope sIsLim) := ⟨rfl, rfl, rfl, by decide +kernel, rfl, by decide +kernel, by decide +kernel⟩
theorem ok_islim (F : Fun K "_law_is_limit" "_law_is_limit" sIsLim f fd) (M : Mn mg) : FnOk P w K mg base CX0 1 f fd ["thing"] (spIsLim K) := by
  refine F.ok scIsLim (fun vs H Q E h => ?_) (fun cdv A outer s H vs Q E hr h => ?_)
  · obtain ⟨v, rfl, _⟩ := h
    rfl
  obtain ⟨v, rfl, hv, q⟩ := h
  refine ⟨_, pss_one (ps_ret (pe_or (pe_cmp (pc_isN (pv 0)) rfl) (pe_one (pe_and (pe_callB call_isi (by rfl) M.isin (by decide +kernel) (pa_cons (pv 0) (pa_cons (pe_bltn (v := .ty "int") (by rfl) M.int (by decide +kernel) rfl) pa_nil)))
    (pe_and (pe_cmpR op_notIB (pv 0) pe_bl (nomark _)) (pe_one (pe_cmpR op_notIB (pv 0) pe_bl (nomark _)))))))), ?_⟩
  rcases hv with rfl | ⟨i, rfl⟩ | ⟨b, rfl⟩ | ⟨h, t, b2, ty, k1, k2⟩
  · exact ⟨_, rfl, _, rfl, iteT q⟩
  · refine ⟨_, rfl, _, rfl, iteF ⟨_, rfl, _, .ty "int", .type "int", .type "int", true, rfl, .ty _, .base (.int i), kit_ty (by decide +kernel), _, rfl, iteT ⟨_, rfl, true, rfl, .inr ⟨i, rfl, _, rfl, iteT ⟨_, rfl, false, rfl, .inr ⟨i, rfl, q⟩⟩⟩⟩⟩⟩
  · refine ⟨_, rfl, _, rfl, iteF ⟨_, rfl, _, .ty "int", .type "bool", .type "int", true, rfl, .ty _, .base (.bl b), kit_ty (by decide +kernel), _, rfl, iteT ⟨_, rfl, true, rfl, .inl ⟨b, rfl, _, rfl, ?_⟩⟩⟩⟩
    cases b with
    | true => exact iteF q
    | false => exact iteT ⟨_, rfl, false, rfl, .inl ⟨false, rfl, q⟩⟩
  · have nn : v ≠ .non := fun z => by rw [z] at h; cases h
    rw [h] at q
    refine ⟨_, rfl, _, rfl, ?_⟩
    rw [decide_eq_false nn]
    exact iteF ⟨_, rfl, _, .ty "int", t, .type "int", false, rfl, .ty _, ty, k1, _, rfl, iteF q⟩
theorem scCalled : FnScope ["typed", "low", "high", "e"] ["typed", "low", "high"] (defScope sCalled) := ⟨rfl, rfl, rfl, by decide +kernel, rfl, by decide +kernel, by decide +kernel⟩
def gVp (vs zs : List V) : List V := vs ++ zs.reverse
def gp (us ws : List Value) : List Value := us ++ ws.reverse
theorem ok_called (F : Fun K "_law_called" "_law_called" sCalled f fd) (TI : ETx K mg "InvalidInteger" "value" C fI) (te : PySem.W.exmOne K (.ref C) (.ref C) = some true)
    (G : FnOk P w K mg base (L2.CX P w) 3 g gd ["text", "minimum", "maximum"] (spParse K C)) (bG : KBn K gd ["text", "minimum", "maximum"] 1 ["maximum", "minimum"] gp gVp) (kG : PySem.W.keepIn K (.ref g) = true) (mG : mg "parse_integer" = some (.ref g)) :
    FnOk P w K mg base CX0 4 f fd ["typed", "low", "high"] (spCalled K) := by
  refine F.ok scCalled (fun vs H Q E h => ?_) (fun cdv A outer s H vs Q E hr h => ?_)
  · obtain ⟨x, lo, hi, rfl, _⟩ := h
    rfl
  obtain ⟨x, lo, hi, rfl, hx, hlo, hhi, q⟩ := h
  refine ⟨_, pss_one (ps_try_to (tb := fun W => tRet (tLst (tCons (tC (.str (Str.ofString "returned"))) (tCons (tCallNS 1 (["maximum", "minimum"] : List Str).length (spParse K C) gVp (WE W) (tCons (tVar 0) tNil) (tCons (tVar 2) (tCons (tVar 1) tNil))) tNil))))
      (l := [(.ref C, 3, fun a cls d => tRet (tLst (tCons (tC (.str (Str.ofString "invalid"))) (tCons (tXf a cls d C "value" (tVar 3)) tNil))))]) rfl rfl scCalled.nd
    (.cons ⟨rfl, by decide, .inl TI.mgC⟩ rfl rfl (fun a oe cls d pn hz hf => pss_one (ps_ret (pe_lst (pa_cons pe_str (pa_cons (by exact pe_xf TI.xf TI.noF hz hf (pv 3)) pa_nil))))) .rest)
    (fun W pn xe tk _ => pss_one (ps_ret (pe_lst (pa_cons pe_str (pa_cons (by exact pe_callNS G hr (by rfl) mG kG bG (fun σ => passAt tk σ) (pa_cons (pv 0) pa_nil) (pk_cons (pv 2) (pk_cons (pv 1) pk_nil))) pa_nil)))))), ?_⟩
  refine ⟨_, rfl, _, rfl, _, rfl, rfl, rfl, x, lo, hi, rfl, hx, hlo.lim, hhi.lim, fun l1 l2 H' sH => ?_, fun l1 H' d sH hd => ?_, fun l1 l2 H' d sH hd => ?_⟩
  · refine ⟨(by show 2 ≤ sizeLine; decide), fun a ha => q a _ (sH.trans (Same.new ha _)) ⟨sH.free ha, ?_⟩⟩
    rw [upd_same]
    unfold wordOf valOf
    rw [if_pos l1, if_pos l2, if_pos l1, if_pos l2]
  · refine ⟨true, te, fun _ a ha => ?_, fun z => nomatch z⟩
    have sd := Same.new hd (.xd [("value", lo)])
    refine ⟨_, rfl, rfl, rfl, d, _, lo, rfl, upd_same, rfl, (by show 2 ≤ sizeLine; decide), fun a' ha' => q a' _ ((sH.trans sd).trans (Same.new ha' _)) ⟨(sH.trans sd).free ha', ?_⟩⟩
    rw [upd_same]
    unfold wordOf valOf
    rw [if_neg (by rw [l1]; exact Bool.false_ne_true), if_neg (by rw [l1]; exact Bool.false_ne_true)]
  · refine ⟨true, te, fun _ a ha => ?_, fun z => nomatch z⟩
    have sd := Same.new hd (.xd [("value", hi)])
    refine ⟨_, rfl, rfl, rfl, d, _, hi, rfl, upd_same, rfl, (by show 2 ≤ sizeLine; decide), fun a' ha' => q a' _ ((sH.trans sd).trans (Same.new ha' _)) ⟨(sH.trans sd).free ha', ?_⟩⟩
    rw [upd_same]
    unfold wordOf valOf
    rw [if_pos l1, if_neg (by rw [l2]; exact Bool.false_ne_true), if_pos l1, if_neg (by rw [l2]; exact Bool.false_ne_true)]
theorem scDue : FnScope ["typed", "low", "high", "number"] ["typed", "low", "high"] (defScope sDue) := ⟨rfl, rfl, rfl, by decide +kernel, rfl, by decide +kernel, by decide +kernel⟩
theorem ok_due (F : Fun K "_law_due" "_law_due" sDue f fd) (N : FnOk P w K mg base CX0 1 gn gnd ["typed"] (spLawNum K)) (bN : Binds K gnd ["typed"] []) (kN : PySem.W.keepIn K (.ref gn) = true) (mN : mg "_law_number" = some (.ref gn))
    (G : FnOk P w K mg base CX0 1 g gd ["thing"] (spIsLim K)) (bG : Binds K gd ["thing"] []) (kG : PySem.W.keepIn K (.ref g) = true) (mG : mg "_law_is_limit" = some (.ref g)) :
    FnOk P w K mg base CX0 2 f fd ["typed", "low", "high"] (spCalled K) := by
  refine F.ok scDue (fun vs H Q E h => ?_) (fun cdv A outer s H vs Q E hr h => ?_)
  · obtain ⟨x, lo, hi, rfl, _⟩ := h
    rfl
  obtain ⟨x, lo, hi, rfl, hx, hlo, hhi, q⟩ := h
  refine ⟨_, pss_cons (ps_if (pt_not (pt_val (pe_call G hr (by rfl) mG kG bG .nil pass0 (pa_cons (pv 1) pa_nil)))) (pss_one (ps_ret (pe_lst (pa_cons pe_str (pa_cons (pv 1) pa_nil))))) pss_nil)
    (pss_cons (ps_if (pt_not (pt_val (pe_call G hr (by rfl) mG kG bG .nil pass0 (pa_cons (pv 2) pa_nil)))) (pss_one (ps_ret (pe_lst (pa_cons pe_str (pa_cons (pv 2) pa_nil))))) pss_nil)
    (pss_cons (ps_set (i := 3) scDue.nd rfl (Or.inl rfl) (pe_call N hr (by rfl) mN kN bN .nil pass0 (pa_cons (pv 0) pa_nil)))
    (pss_cons (ps_if (pt_mo (pw_or (pt_cmp (pc_isN (pv 3))) (pw_or (pw_and (pt_cmp (pc_notN (pv 1))) (pw_and1 (pt_cmpR op_lt (pv 3) (pv 1) (nomark _)))).pt (pw_or1 (pw_and (pt_cmp (pc_notN (pv 2))) (pw_and1 (pt_cmpR op_gt (pv 3) (pv 2) (nomark _)))).pt))).pt)
      (pss_one (ps_ret (pe_lst (pa_cons pe_str (pa_cons pe_non pa_nil))))) pss_nil)
    (pss_one (ps_ret (pe_lst (pa_cons pe_str (pa_cons (pv 3) pa_nil)))))))), ?_⟩
  refine ⟨_, rfl, lo, rfl, hlo, _, rfl, ?_⟩
  cases l1 : limB lo with
  | false =>
    refine iteT ⟨_, rfl, (by show 2 ≤ sizeLine; decide), fun a ha => q a _ (Same.new ha _) ⟨ha, ?_⟩⟩
    rw [upd_same]
    unfold wordOf valOf
    rw [if_neg (by rw [l1]; exact Bool.false_ne_true), if_neg (by rw [l1]; exact Bool.false_ne_true)]
  | true =>
  refine iteF ⟨_, rfl, hi, rfl, hhi, _, rfl, ?_⟩
  cases l2 : limB hi with
  | false =>
    refine iteT ⟨_, rfl, (by show 2 ≤ sizeLine; decide), fun a ha => q a _ (Same.new ha _) ⟨ha, ?_⟩⟩
    rw [upd_same]
    unfold wordOf valOf
    rw [if_pos l1, if_neg (by rw [l2]; exact Bool.false_ne_true), if_pos l1, if_neg (by rw [l2]; exact Bool.false_ne_true)]
  | true =>
  refine iteF ⟨_, rfl, x, rfl, hx, fun H' sH => ?_⟩
  have ew : wordOf lo hi = Str.ofString "returned" := by unfold wordOf; rw [if_pos l1, if_pos l2]
  have ev : valOf x lo hi = prs x lo hi := by unfold valOf; rw [if_pos l1, if_pos l2]
  rw [ew, ev] at q
  refine ⟨fun b G => H' = G ∧ (b = true → prs x lo hi = .non) ∧ (b = false → prs x lo hi = num x), ?_, ?_⟩
  · unfold prs
    have nn : num x = .non ∨ ∃ n, num x = .int n := by
      cases x with
      | str z =>
        cases hd : dec (cs z) with
        | true => exact .inr ⟨_, num_t hd⟩
        | false => exact .inl (num_f hd)
      | _ => exact .inl rfl
    rcases nn with e | ⟨n, e⟩
    · rw [e]
      exact ⟨_, rfl, _, rfl, iteT ⟨rfl, fun _ => rfl, (fun z => nomatch z)⟩⟩
    · rw [e]
      refine ⟨_, rfl, _, rfl, iteF ?_⟩
      have fin : ∀ b : Bool, b = above hi n → below lo n = false → H' = H' ∧ (b = true → (if (below lo n || above hi n) = true then V.non else .int n) = .non) ∧ (b = false → (if (below lo n || above hi n) = true then V.non else .int n) = .int n) := fun b hb hl => by
        rw [hl, Bool.false_or, ← hb]
        exact ⟨rfl, fun z => by rw [z, if_pos rfl], fun z => by rw [z, if_neg Bool.false_ne_true]⟩
      have high : ∀ R : Prop, R → True := fun _ _ => trivial
      rcases lim_ok l1 with rfl | ⟨i, rfl⟩
      · refine ⟨_, rfl, _, rfl, iteF (iteF ?_)⟩
        rcases lim_ok l2 with rfl | ⟨j, rfl⟩
        · exact ⟨_, rfl, _, rfl, iteF (fin _ rfl rfl)⟩
        · exact ⟨_, rfl, _, rfl, iteT ⟨_, rfl, _, rfl, _, _, rfl, rfl, _, rfl, fin _ rfl rfl⟩⟩
      · refine ⟨_, rfl, _, rfl, iteT ⟨_, rfl, _, rfl, _, _, rfl, rfl, _, rfl, ?_⟩⟩
        refine ite2 (fun c => ⟨rfl, fun _ => ?_, (fun z => nomatch z)⟩) (fun c => ?_)
        · have : below (.int i) n = true := c
          show (if (below (.int i) n || above hi n) = true then V.non else V.int n) = .non
          rw [this, Bool.true_or, if_pos rfl]
        · have hl : below (.int i) n = false := Bool.eq_false_iff.mpr c
          rcases lim_ok l2 with rfl | ⟨j, rfl⟩
          · exact ⟨_, rfl, _, rfl, iteF (fin _ rfl hl)⟩
          · exact ⟨_, rfl, _, rfl, iteT ⟨_, rfl, _, rfl, _, _, rfl, rfl, _, rfl, fin _ rfl hl⟩⟩
  rintro b _ ⟨rfl, t1, t2⟩
  cases b with
  | true =>
    refine iteT ⟨(by show 2 ≤ sizeLine; decide), fun a ha => q a _ (sH.trans (Same.new ha _)) ⟨sH.free ha, ?_⟩⟩
    rw [upd_same, t1 rfl]
  | false =>
    refine iteF ⟨_, rfl, (by show 2 ≤ sizeLine; decide), fun a ha => q a _ (sH.trans (Same.new ha _)) ⟨sH.free ha, ?_⟩⟩
    rw [upd_same, t2 rfl]
end
end L

set_option Elab.async false
set_option linter.all false
set_option maxRecDepth 100000
set_option maxHeartbeats 4000000
namespace L
open PySem L2 KX
abbrev sLimit : Stmt := top 16
abbrev sGrown : Stmt := top 20
/-- a scalar -/
def Sc (v : V) : Prop := v = .non ∨ (∃ i : Int, v = .int i ∧ i.natAbs < 10000000000000000000000000000000) ∨ (∃ b, v = .bl b) ∨ ∃ z, v = .str z ∧ Ss 4500 z
def FlatO (n : Nat) (o : HO) : Prop := (∃ xs, o = .lst xs ∧ xs.length ≤ n ∧ ∀ x, x ∈ xs → Sc x) ∨ (∃ xs, o = .tup xs ∧ xs.length ≤ n ∧ ∀ x, x ∈ xs → Sc x) ∨
  ∃ kvs : List (Key × V), o = .dK kvs ∧ kvs.length ≤ n ∧ ∀ kv, kv ∈ kvs → KeyS kv.1 ∧ Sc kv.2
/-- a value without depth -/
def LV (n : Nat) (H : Hp) (v : V) : Prop := Sc v ∨ ∃ a o, v = .ref a ∧ H a = some o ∧ FlatO n o
theorem LV.same {n : Nat} {H G : Hp} {v : V} (s : Same H G) (h : LV n H v) : LV n G v := h.imp id fun ⟨a, o, e, k, f⟩ => ⟨a, o, e, s _ _ k, f⟩
theorem LV.upd {n : Nat} {H : Hp} {v : V} {a : Addr} {o : HO} (h : LV n H v) (f : FlatO n o) : LV n (upd H a o) v := h.imp id fun ⟨b, u, e, k, g⟩ => by
  by_cases hb : b = a
  · subst hb; exact ⟨b, o, e, upd_same, f⟩
  · exact ⟨b, u, e, by rw [upd_ne hb]; exact k, g⟩
theorem FlatO.mono {n m : Nat} (l : n ≤ m) {o : HO} (h : FlatO n o) : FlatO m o := by
  rcases h with ⟨xs, e, h, k⟩ | ⟨xs, e, h, k⟩ | ⟨xs, e, h, k⟩
  · exact .inl ⟨xs, e, Nat.le_trans h l, k⟩
  · exact .inr (.inl ⟨xs, e, Nat.le_trans h l, k⟩)
  · exact .inr (.inr ⟨xs, e, Nat.le_trans h l, k⟩)
theorem LV.mono {n m : Nat} {H : Hp} {v : V} (l : n ≤ m) (h : LV n H v) : LV m H v := h.imp id fun ⟨a, o, e, k, f⟩ => ⟨a, o, e, k, f.mono l⟩
theorem Sc.dd {H : Hp} {v : V} (h : Sc v) : Dd 0 4500 H v := by
  rcases h with rfl | ⟨i, rfl, hi⟩ | ⟨b, rfl⟩ | ⟨z, rfl, hz⟩
  · exact ⟨.none, .non, OkD.none.mono (Nat.le_refl 0) (Nat.zero_le _)⟩
  · exact ⟨.int i, .int i, OkD.mono (W := 106) (OkD.intB (Nat.lt_of_lt_of_le hi (by decide +kernel))) (Nat.le_refl 0) (by clear hi; omega)⟩
  · exact ⟨.bool b, .bl b, (OkD.bool b).mono (Nat.le_refl 0) (Nat.zero_le _)⟩
  · exact ⟨.str z, .str z, OkD.str hz⟩
theorem LV.dd {H : Hp} {v : V} (h : LV 3 H v) : Dd 1 14000 H v := by
  rcases h with h | ⟨a, o, rfl, k, f⟩
  · exact (Sc.dd h).mono (by omega) (by omega)
  · rcases f with ⟨xs, rfl, f, g⟩ | ⟨xs, rfl, f, g⟩ | ⟨kvs, rfl, f, g⟩
    · exact (Dd.lst k f fun x hx => (g x hx).dd).mono (by omega) (by omega)
    · exact (Dd.tup k f fun x hx => (g x hx).dd).mono (by omega) (by omega)
    · exact (Dd.dct k f fun kv hkv => ⟨(g kv hkv).1, (g kv hkv).2.dd⟩).mono (by omega) (by omega)
/-- only the objects of S change -/
def Gx (S : Addr → Prop) (H G : Hp) : Prop := ∀ b o, ¬ S b → H b = some o → G b = some o
theorem Gx.same {S : Addr → Prop} {H G J : Hp} (g : Gx S H G) (s : Same G J) : Gx S H J := fun b o n e => s _ _ (g b o n e)
def spGrown (K : PySem.W.Frag) (n : Nat) : Sp := fun vs H Q _ => ∃ v, vs = [v] ∧ LV n H v ∧ Q .non H ∧ ∀ a o', v = .ref a → H a ≠ none → FlatO (n + 1) o' → Q .non (upd H a o')
theorem scGrown : FnScope ["thing"] ["thing"] (defScope sGrown) := ⟨rfl, rfl, rfl, by decide +kernel, rfl, by decide +kernel, by decide +kernel⟩
theorem Ss.more : Ss 4500 (Str.ofString "more") := Ss.mono (n := 4) ⟨by decide +kernel, by decide +kernel⟩ (by omega)
theorem Ss.key : Ss 9 (Str.ofString "more") := Ss.mono (n := 4) ⟨by decide +kernel, by decide +kernel⟩ (by omega)
section
variable {P : Program} {w : World} {K : PySem.W.Frag} {mg : Str → Option Value} {base : Heap} {f g gn : Addr} {fd gd gnd : FuncData} {C fI : Addr} {dI : FuncData}
theorem ok_grown (n : Nat) (hn : n < 10) (F : Fun K "_law_grown" "_law_grown" sGrown f fd) (M : Mn mg) : FnOk P w K mg base CX0 1 f fd ["thing"] (spGrown K n) := by
  refine F.ok scGrown (fun vs H Q E h => ?_) (fun cdv A outer s H vs Q E hr h => ?_)
  · obtain ⟨v, rfl, _⟩ := h
    rfl
  obtain ⟨v, rfl, hv, q0, q1⟩ := h
  have hu := hu_of hr
  refine ⟨_, pss_cons (ps_if (pt_val (pe_callB call_isi (by rfl) M.isin (by decide +kernel) (pa_cons (pv 0) (pa_cons (pe_bltn (v := .ty "list") (by rfl) M.list (by decide +kernel) rfl) pa_nil))))
      (pss_one (ps_expr (pe_bm PySem.F.plainAttrs_list PySem.F.slot_list_append PySem.F.type_list_append mt_append (pv 0) (pa_cons pe_str pa_nil)))) pss_nil)
    (pss_one (ps_if (pt_val (pe_callB call_isi (by rfl) M.isin (by decide +kernel) (pa_cons (pv 0) (pa_cons (pe_bltn (v := .ty "dict") (by rfl) M.dict (by decide +kernel) rfl) pa_nil))))
      (pss_one (ps_dput hu (pv 0) pe_str pe_int rfl)) pss_nil)), ?_⟩
  rcases hv with h | ⟨a, o, rfl, k, f⟩
  · have ht : ∃ t, TyX K H v t ∧ PySem.W.kitOne K t (.type "list") = some false ∧ PySem.W.kitOne K t (.type "dict") = some false := by
      rcases h with rfl | ⟨i, rfl, hi⟩ | ⟨b, rfl⟩ | ⟨z, rfl, hz⟩
      · exact ⟨_, .base .non, kit_ty (by decide +kernel), kit_ty (by decide +kernel)⟩
      · exact ⟨_, .base (.int i), kit_ty (by decide +kernel), kit_ty (by decide +kernel)⟩
      · exact ⟨_, .base (.bl b), kit_ty (by decide +kernel), kit_ty (by decide +kernel)⟩
      · exact ⟨_, .base (.str z), kit_ty (by decide +kernel), kit_ty (by decide +kernel)⟩
    obtain ⟨t, ty, k1, k2⟩ := ht
    refine ⟨_, rfl, v, .ty "list", t, .type "list", false, rfl, .ty _, ty, k1, _, rfl, iteF ?_⟩
    exact ⟨_, rfl, v, .ty "dict", t, .type "dict", false, rfl, .ty _, ty, k2, _, rfl, iteF q0⟩
  · have nn : H a ≠ none := by rw [k]; exact fun z => nomatch z
    rcases f with ⟨xs, rfl, f, fs⟩ | ⟨xs, rfl, f, fs⟩ | ⟨kvs, rfl, f, fs⟩
    · refine ⟨_, rfl, _, .ty "list", _, .type "list", true, rfl, .ty _, .base (.lst k), kit_ty (by decide +kernel), _, rfl, iteT ?_⟩
      refine ⟨_, rfl, .inl ⟨rfl, _, SqL.of k⟩, a, _, _, rfl, rfl, k, Nat.lt_of_le_of_lt f (by rw [sizeLine_eq]; omega), ?_⟩
      refine ⟨_, rfl, _, .ty "dict", _, .type "dict", false, rfl, .ty _, .base (.lst upd_same), kit_ty (by decide +kernel), _, rfl, iteF ?_⟩
      refine q1 a _ rfl nn (.inl ⟨_, rfl, by rw [List.length_append]; exact Nat.succ_le_succ f, fun x hx => ?_⟩)
      rcases List.mem_append.mp hx with hx | hx
      · exact fs x hx
      · rw [List.mem_singleton.mp hx]; exact .inr (.inr (.inr ⟨_, rfl, Ss.more⟩))
    · refine ⟨_, rfl, _, .ty "list", _, .type "list", false, rfl, .ty _, .base (.tup k), kit_ty (by decide +kernel), _, rfl, iteF ?_⟩
      exact ⟨_, rfl, _, .ty "dict", _, .type "dict", false, rfl, .ty _, .base (.tup k), kit_ty (by decide +kernel), _, rfl, iteF q0⟩
    · refine ⟨_, rfl, _, .ty "list", _, .type "list", false, rfl, .ty _, .base (.dK k), kit_ty (by decide +kernel), _, rfl, iteF ?_⟩
      refine ⟨_, rfl, _, .ty "dict", _, .type "dict", true, rfl, .ty _, .base (.dK k), kit_ty (by decide +kernel), _, rfl, iteT ?_⟩
      refine ⟨_, rfl, a, _, rfl, DPut.k (k := Sum.inr (Str.ofString "more")) k (Nat.lt_of_le_of_lt f (by rw [sizeLine_eq]; omega)), ?_⟩
      have p := putK_all (p := fun kv : Key × V => KeyS kv.1 ∧ Sc kv.2) (k := Sum.inr (Str.ofString "more")) (v := V.int 1) ⟨⟨_, rfl, Ss.key⟩, .inr (.inl ⟨1, rfl, by decide +kernel⟩)⟩ fs
      exact q1 a _ rfl nn (.inr (.inr ⟨_, rfl, Nat.le_trans p.2 (Nat.succ_le_succ f), p.1⟩))
end
end L

set_option Elab.async false
set_option linter.all false
set_option maxRecDepth 100000
set_option maxHeartbeats 4000000
namespace L
open PySem L2 KX
/-- a limit that the law draws -/
def Gd (K : PySem.W.Frag) (H : Hp) (v : V) : Prop := LV 1 H v ∧ Lim2 K H v
theorem Gd.int {K : PySem.W.Frag} {H : Hp} {i : Int} (h : i.natAbs < 10000000000000000000000000000000) : Gd K H (.int i) := ⟨.inl (.inr (.inl ⟨i, rfl, h⟩)), .inr (.inl ⟨i, rfl⟩)⟩
theorem Gd.non {K : PySem.W.Frag} {H : Hp} : Gd K H .non := ⟨.inl (.inl rfl), .inl rfl⟩
theorem Gd.bl {K : PySem.W.Frag} {H : Hp} (b : Bool) : Gd K H (.bl b) := ⟨.inl (.inr (.inr (.inl ⟨b, rfl⟩))), .inr (.inr (.inl ⟨b, rfl⟩))⟩
theorem Gd.str {K : PySem.W.Frag} {H : Hp} {z : Str} (h : Ss 4500 z) : Gd K H (.str z) := ⟨.inl (.inr (.inr (.inr ⟨z, rfl, h⟩))), .inr (.inr (.inr ⟨rfl, _, false, .base (.str z), kit_ty (by decide +kernel), kit_ty (by decide +kernel)⟩))⟩
theorem Gd.lst {K : PySem.W.Frag} {H : Hp} {a : Addr} {xs : List V} (k : H a = some (.lst xs)) (l : xs.length ≤ 1) (h : ∀ x, x ∈ xs → Sc x) : Gd K H (.ref a) := ⟨.inr ⟨a, _, rfl, k, .inl ⟨_, rfl, l, h⟩⟩, .inr (.inr (.inr ⟨rfl, _, false, .base (.lst k), kit_ty (by decide +kernel), kit_ty (by decide +kernel)⟩))⟩
theorem Gd.tup {K : PySem.W.Frag} {H : Hp} {a : Addr} {xs : List V} (k : H a = some (.tup xs)) (l : xs.length ≤ 1) (h : ∀ x, x ∈ xs → Sc x) : Gd K H (.ref a) := ⟨.inr ⟨a, _, rfl, k, .inr (.inl ⟨_, rfl, l, h⟩)⟩, .inr (.inr (.inr ⟨rfl, _, false, .base (.tup k), kit_ty (by decide +kernel), kit_ty (by decide +kernel)⟩))⟩
theorem Gd.dct {K : PySem.W.Frag} {H : Hp} {a : Addr} (k : H a = some (.dK [])) : Gd K H (.ref a) := ⟨.inr ⟨a, _, rfl, k, .inr (.inr ⟨_, rfl, Nat.zero_le _, (fun _ z => nomatch z)⟩)⟩, .inr (.inr (.inr ⟨rfl, _, false, .base (.dK k), kit_ty (by decide +kernel), kit_ty (by decide +kernel)⟩))⟩
def spLimit (K : PySem.W.Frag) : Sp := fun vs H Q _ => ∃ p x, vs = [.ref p, x] ∧ Bx H p ∧ (x = .non ∨ ∃ n, x = .int n) ∧ ∀ v H', Gd K H' v → (∀ a, v = .ref a → H a = none) → Bx H' p → Sx p H H' → Q v H'
theorem scLimit : FnScope ["box", "number", "near", "some"] ["box", "number"] (defScope sLimit) := ⟨rfl, rfl, rfl, by decide +kernel, rfl, by decide +kernel, by decide +kernel⟩
section
variable {P : Program} {w : World} {K : PySem.W.Frag} {mg : Str → Option Value} {base : Heap} {f g gn : Addr} {fd gd gnd : FuncData} {C fI : Addr} {dI : FuncData}
theorem ok_limit (F : Fun K "_law_limit" "_law_limit" sLimit f fd) (M : Mn mg) (G : FnOk P w K mg base CX0 1 g gd ["box", "size"] spTake) (bG : Binds K gd ["box", "size"] []) (kG : PySem.W.keepIn K (.ref g) = true) (mG : mg "_law_take" = some (.ref g)) :
    FnOk P w K mg base CX0 2 f fd ["box", "number"] (spLimit K) := by
  refine F.ok scLimit (fun vs H Q E h => ?_) (fun cdv A outer s H vs Q E hr h => ?_)
  · obtain ⟨p, x, rfl, _⟩ := h
    rfl
  obtain ⟨p, x, rfl, hb, hx, q⟩ := h
  refine ⟨_, pss_cons (ps_set (i := 2) scLimit.nd rfl (Or.inl rfl) (pe_mo (pe_ifExp (PW.pt (pw_and (pt_cmp (pc_notN (pv 1))) (pw_and1 (pt_chain op_lt op_lt (pe_op op_sub pe_int (pe_op op_pow pe_int pe_int)) (pv 1) (pe_op op_sub (pe_op op_pow pe_int pe_int) pe_int))))) (pv 1) pe_int)))
    (pss_cons (ps_set (i := 3) scLimit.nd rfl (Or.inl rfl) (pe_lst (pa_cons pe_non (pa_cons pe_non (pa_cons (pv 2) (pa_cons (pe_op op_add (pv 2) pe_int) (pa_cons (pe_op op_sub (pv 2) pe_int) (pa_cons pe_int (pa_cons pe_int (pa_cons (pe_un un_neg pe_int)
      (pa_cons (pe_op op_pow pe_int pe_int) (pa_cons (pe_op op_sub pe_int (pe_op op_pow pe_int pe_int)) pa_nil))))))))))))
    (pss_cons (ps_set (i := 3) scLimit.nd rfl (Or.inl rfl) (pe_op op_cat (pv 3) (pe_lst (pa_cons pe_bl (pa_cons pe_str (pa_cons (pe_lst (pa_cons pe_int pa_nil)) (pa_cons (pe_tup (pa_cons pe_int pa_nil)) (pa_cons pe_dnewK (pa_cons pe_bl (pa_cons pe_str (pa_cons (pe_lst pa_nil)
      (pa_cons (pe_op op_sub (pe_op op_pow pe_int pe_int) pe_int) (pa_cons (pe_op op_sub pe_int (pe_op op_pow pe_int pe_int)) pa_nil)))))))))))))
    (pss_one (ps_ret (pe_ix ix_list (pv 3) (pe_call G hr (by rfl) mG kG bG .nil pass0 (pa_cons (pv 0) (pa_cons (pe_op op_add pe_int (pe_op op_mul (pe_call G hr (by rfl) mG kG bG .nil pass0 (pa_cons (pv 0) (pa_cons pe_int pa_nil))) pe_int)) pa_nil))) (fun _ _ => rfl)))))), ?_⟩
  have pw : ∀ j : Int, 0 ≤ j → j ≤ 100 → (0 ≤ j ∧ j ≤ 1000000 ∧ (10 : Int).natAbs < 2 ^ 64) := fun j h1 h2 => ⟨h1, by omega, by decide⟩
  have e30 : (10 : Int) ^ (30 : Int).toNat = 1000000000000000000000000000000 := by decide +kernel
  have e29 : (10 : Int) ^ (29 : Int).toNat = 100000000000000000000000000000 := by decide +kernel
  refine ⟨fun y H1 => H = H1 ∧ ∃ n : Int, y = .int n ∧ n.natAbs < 1000000000000000000000000000001, ?_, ?_⟩
  · refine ⟨_, rfl, _, rfl, ?_⟩
    rcases hx with rfl | ⟨n, rfl⟩
    · exact iteF ⟨rfl, 0, rfl, by decide⟩
    · refine iteT ⟨_, _, rfl, rfl, pw 30 (by decide) (by decide), _, _, rfl, rfl, _, rfl, _, _, rfl, rfl, _, rfl, ?_⟩
      rw [e30]
      refine ite2 (fun c1 => ?_) (fun c1 => ?_)
      · refine ⟨_, _, rfl, rfl, pw 30 (by decide) (by decide), _, _, rfl, rfl, _, _, rfl, rfl, _, rfl, ?_⟩
        rw [e30]
        have c1' := of_decide_eq_true c1
        refine ite2 (fun c2 => ?_) (fun c2 => ?_)
        · have c2' := of_decide_eq_true c2
          refine ⟨_, rfl, rfl, n, rfl, ?_⟩
          omega
        · exact ⟨rfl, 0, rfl, by decide⟩
      · exact ⟨_, rfl, rfl, 0, rfl, by decide⟩
  rintro _ _ ⟨rfl, n, rfl, hn⟩
  refine ⟨_, rfl, _, rfl, _, _, rfl, rfl, _, rfl, _, _, rfl, rfl, _, rfl, _, _, rfl, rfl, pw 29 (by decide) (by decide), _, _, rfl, rfl, pw 29 (by decide) (by decide), _, _, rfl, rfl, (by show 10 ≤ sizeLine; decide), fun l1 hl1 => ?_⟩
  refine ⟨_, rfl, (by show 1 ≤ sizeLine; decide), fun m1 hm1 => ⟨(by show 1 ≤ sizeLine; decide), fun m2 hm2 => fun m3 hm3 => ⟨(by show 0 ≤ sizeLine; decide), fun m4 hm4 => ?_⟩⟩⟩
  refine ⟨_, _, rfl, rfl, pw 30 (by decide) (by decide), _, _, rfl, rfl, _, _, rfl, rfl, pw 30 (by decide) (by decide), _, _, rfl, rfl, (by show 10 ≤ sizeLine; decide), fun l2 hl2 => ?_⟩
  let Ja : Hp := upd H l1 (.lst [.non, .non, .int n, .int (n + 1), .int (n - 1), .int 0, .int 1, .int (-1), .int ((10 : Int) ^ (29 : Int).toNat), .int (0 - (10 : Int) ^ (29 : Int).toNat)])
  let Jb : Hp := upd (upd (upd (upd Ja m1 (.lst [.int 1])) m2 (.tup [.int 0])) m3 (.dK [])) m4 (.lst [])
  let Jc : Hp := upd Jb l2 (.lst [.bl true, .str (Str.ofString "1"), .ref m1, .ref m2, .ref m3, .bl false, .str (Str.ofString ""), .ref m4, .int ((10 : Int) ^ (30 : Int).toNat - 1), .int (1 - (10 : Int) ^ (30 : Int).toNat)])
  have sHa : Same H Ja := Same.new hl1 _
  have sa1 : Same Ja (upd Ja m1 (.lst [.int 1])) := Same.new hm1 _
  have sa2 := Same.new hm2 (.tup [.int 0])
  have sa3 := Same.new hm3 (.dK [])
  have sa4 := Same.new hm4 (.lst [])
  have sa5 : Same Jb Jc := Same.new hl2 _
  have sab : Same Ja Jb := ((sa1.trans sa2).trans sa3).trans sa4
  have k0 : Jc l1 = some (.lst [.non, .non, .int n, .int (n + 1), .int (n - 1), .int 0, .int 1, .int (-1), .int ((10 : Int) ^ (29 : Int).toNat), .int (0 - (10 : Int) ^ (29 : Int).toNat)]) := sa5 _ _ (sab _ _ upd_same)
  have k1 : Jc m1 = some (.lst [.int 1]) := sa5 _ _ (sa4 _ _ (sa3 _ _ (sa2 _ _ upd_same)))
  have k2 : Jc m2 = some (.tup [.int 0]) := sa5 _ _ (sa4 _ _ (sa3 _ _ upd_same))
  have k3 : Jc m3 = some (.dK []) := sa5 _ _ (sa4 _ _ upd_same)
  have k4 : Jc m4 = some (.lst []) := sa5 _ _ upd_same
  have k5 : Jc l2 = some (.lst [.bl true, .str (Str.ofString "1"), .ref m1, .ref m2, .ref m3, .bl false, .str (Str.ofString ""), .ref m4, .int ((10 : Int) ^ (30 : Int).toNat - 1), .int (1 - (10 : Int) ^ (30 : Int).toNat)]) := upd_same
  have n1 : H m1 = none := by cases e : H m1 with | none => rfl | some o => exact absurd (sHa _ _ e) (by rw [show Ja m1 = none from hm1]; exact fun z => nomatch z)
  have n2 : H m2 = none := by cases e : H m2 with | none => rfl | some o => exact absurd ((sHa.trans sa1) _ _ e) (by rw [hm2]; exact fun z => nomatch z)
  have n3 : H m3 = none := by cases e : H m3 with | none => rfl | some o => exact absurd (((sHa.trans sa1).trans sa2) _ _ e) (by rw [hm3]; exact fun z => nomatch z)
  have n4 : H m4 = none := by cases e : H m4 with | none => rfl | some o => exact absurd ((((sHa.trans sa1).trans sa2).trans sa3) _ _ e) (by rw [hm4]; exact fun z => nomatch z)
  refine ⟨l1, l2, _, _, rfl, rfl, k0, k5, (by show 20 ≤ sizeLine; decide), fun l3 hl3 => ?_⟩
  let Jd : Hp := upd Jc l3 (.lst ([.non, .non, .int n, .int (n + 1), .int (n - 1), .int 0, .int 1, .int (-1), .int ((10 : Int) ^ (29 : Int).toNat), .int (0 - (10 : Int) ^ (29 : Int).toNat)] ++ [.bl true, .str (Str.ofString "1"), .ref m1, .ref m2, .ref m3, .bl false, .str (Str.ofString ""), .ref m4, .int ((10 : Int) ^ (30 : Int).toNat - 1), .int (1 - (10 : Int) ^ (30 : Int).toNat)]))
  have sa6 : Same Jc Jd := Same.new hl3 _
  have sHd : Same H Jd := ((sHa.trans sab).trans sa5).trans sa6
  have bd : Bx Jd p := by
    obtain ⟨b0, b1, b2, e, r⟩ := hb
    exact ⟨b0, b1, b2, sHd _ _ e, r⟩
  refine ⟨_, rfl, _, rfl, _, rfl, p, 2, rfl, bd, by decide, by decide, fun r H1 ra rb b1 s1 => ⟨_, _, rfl, rfl, .inl ⟨by omega, by omega⟩, _, _, rfl, rfl, p, _, rfl, b1, by omega, by omega, fun i H2 ia ib b2 s2 => ?_⟩⟩
  have sx : Sx p Jd H2 := s1.trans s2
  have np3 : l3 ≠ p := fun z => by rw [z] at hl3; exact absurd ((((sHa.trans sab).trans sa5)) _ _ hb.choose_spec.choose_spec.choose_spec.1) (by rw [show Jc p = none from hl3]; exact fun z => nomatch z)
  have ed : H2 l3 = _ := sx _ _ np3 (show Jd l3 = some _ from upd_same)
  obtain ⟨j, v, e1, e2, e3, e4⟩ := pick (xs := ([.non, .non, .int n, .int (n + 1), .int (n - 1), .int 0, .int 1, .int (-1), .int ((10 : Int) ^ (29 : Int).toNat), .int (0 - (10 : Int) ^ (29 : Int).toNat)] ++ [.bl true, .str (Str.ofString "1"), .ref m1, .ref m2, .ref m3, .bl false, .str (Str.ofString ""), .ref m4, .int ((10 : Int) ^ (30 : Int).toNat - 1), .int (1 - (10 : Int) ^ (30 : Int).toNat)] : List V)) ia
    (by show i < 20; omega)
  have nb : ∀ {m : Addr}, H m = none → m ≠ p := fun h z => hb.nn (z ▸ h)
  have fin : Gd K H2 v ∧ ∀ a, v = .ref a → H a = none := by
    clear e1 e3 e4 ed
    have cl : ∀ {i : Int} {z : V}, z = .int i → i.natAbs < 10000000000000000000000000000000 → Gd K H2 z ∧ ∀ a, z = .ref a → H a = none := fun e h => by subst e; exact ⟨Gd.int h, fun a z => nomatch z⟩
    simp only [List.cons_append, List.nil_append, List.mem_cons, List.not_mem_nil, or_false] at e2
    rcases e2 with e | e | e | e | e | e | e | e | e | e | e | e | e | e | e | e | e | e | e | e
    · subst e; exact ⟨Gd.non, fun a z => nomatch z⟩
    · subst e; exact ⟨Gd.non, fun a z => nomatch z⟩
    · exact cl e (by omega)
    · exact cl e (by omega)
    · exact cl e (by omega)
    · exact cl e (by decide +kernel)
    · exact cl e (by decide +kernel)
    · exact cl e (by decide +kernel)
    · exact cl e (by decide +kernel)
    · exact cl e (by decide +kernel)
    · subst e; exact ⟨Gd.bl true, fun a z => nomatch z⟩
    · subst e; exact ⟨Gd.str (Ss.mono (n := 1) ⟨by decide +kernel, by decide +kernel⟩ (by omega)), fun a z => nomatch z⟩
    · subst e; exact ⟨Gd.lst (sx _ _ (nb n1) (sa6 _ _ k1)) (Nat.le_refl 1) (fun x hx => by rw [List.mem_singleton.mp hx]; exact .inr (.inl ⟨1, rfl, by decide +kernel⟩)), fun a z => by cases z; exact n1⟩
    · subst e; exact ⟨Gd.tup (sx _ _ (nb n2) (sa6 _ _ k2)) (Nat.le_refl 1) (fun x hx => by rw [List.mem_singleton.mp hx]; exact .inr (.inl ⟨0, rfl, by decide +kernel⟩)), fun a z => by cases z; exact n2⟩
    · subst e; exact ⟨Gd.dct (sx _ _ (nb n3) (sa6 _ _ k3)), fun a z => by cases z; exact n3⟩
    · subst e; exact ⟨Gd.bl false, fun a z => nomatch z⟩
    · subst e; exact ⟨Gd.str (Ss.mono (n := 0) ⟨by decide +kernel, by decide +kernel⟩ (by omega)), fun a z => nomatch z⟩
    · subst e; exact ⟨Gd.lst (sx _ _ (nb n4) (sa6 _ _ k4)) (Nat.zero_le 1) (fun _ z => nomatch z), fun a z => by cases z; exact n4⟩
    · exact cl e (by decide +kernel)
    · exact cl e (by decide +kernel)
  exact ⟨l3, _, _, v, rfl, rfl, SqL.of ed, e4, q v H2 fin.1 fin.2 b2 ((Sx.of sHd).trans sx)⟩
end
end L

set_option Elab.async false
set_option linter.all false
set_option maxRecDepth 100000
set_option maxHeartbeats 4000000
namespace L
open PySem L2 KX
theorem dig_lt : ∀ {l : List Nat} (i : Nat), l.all dg = true → i ≤ l.length → NumText.digitsVal (l.take i) + 1 ≤ 10 ^ i
  | l, 0, _, _ => by rw [List.take_zero]; exact Nat.le_refl _
  | l, i + 1, h, hi => by
    have ih := dig_lt (l := l) i h (by omega)
    have hc : l[i]? = some l[i] := List.getElem?_eq_getElem (by omega)
    have hd := List.all_eq_true.mp h l[i] (List.getElem_mem (by omega))
    unfold dg at hd
    have h2 := of_decide_eq_true (Bool.and_eq_true_iff.mp hd).2
    rw [val_next hc, Nat.pow_succ]
    generalize NumText.digitsVal (l.take i) = v at ih ⊢
    generalize 10 ^ i = t at ih ⊢
    omega
theorem dig_small {l : List Nat} (h : l.all dg = true) (hl : l.length ≤ 30) : NumText.digitsVal l < 1000000000000000000000000000000 := by
  have h1 := dig_lt l.length h (Nat.le_refl _)
  rw [List.take_length] at h1
  have h2 : 10 ^ l.length ≤ 10 ^ 30 := Nat.pow_le_pow_right (by decide) hl
  have h3 : (10 : Nat) ^ 30 = 1000000000000000000000000000000 := by decide +kernel
  rw [h3] at h2
  exact Nat.lt_of_lt_of_le h1 h2
theorem nval_small {l : List Nat} (h : dec l = true) : (nval l).natAbs < 10000000000000000000000000000000 := by
  unfold dec at h
  have big : ∀ {n : Nat}, n < 1000000000000000000000000000000 → n < 10000000000000000000000000000000 := fun h => by omega
  rcases Bool.or_eq_true_iff.mp h with h | h
  · rw [of_decide_eq_true h]; decide +kernel
  · obtain ⟨h, h4⟩ := Bool.and_eq_true_iff.mp h
    obtain ⟨h, _⟩ := Bool.and_eq_true_iff.mp h
    have h2 := (Bool.and_eq_true_iff.mp h).2
    have := dig_small h2 (of_decide_eq_true h4)
    by_cases c : l.take 1 = [45]
    · rw [nval_minus c, Int.natAbs_neg, Int.natAbs_natCast, ← (ab_minus c).1]
      exact big this
    · rw [(ab_plain c).2, Int.natAbs_natCast]
      rw [(ab_plain c).1] at this
      exact big this
theorem num_cases (x : V) : num x = .non ∨ ∃ n, num x = .int n ∧ n.natAbs < 10000000000000000000000000000000 := by
  cases x with
  | str z =>
    cases hd : dec (cs z) with
    | true => exact .inr ⟨_, num_t hd, nval_small hd⟩
    | false => exact .inl (num_f hd)
  | _ => exact .inl rfl
theorem num_sc (x : V) : Sc (num x) := by
  rcases num_cases x with e | ⟨n, e, h⟩
  · rw [e]; exact .inl rfl
  · rw [e]; exact .inr (.inl ⟨n, rfl, h⟩)
theorem prs_sc (x lo hi : V) : Sc (prs x lo hi) := by
  unfold prs
  rcases num_cases x with e | ⟨n, e, h⟩
  · rw [e]; exact .inl rfl
  · rw [e]
    show Sc (if (below lo n || above hi n) = true then V.non else .int n)
    split
    · exact .inl rfl
    · exact .inr (.inl ⟨n, rfl, h⟩)
theorem prs_all (x : V) : prs x .non .non = num x := by
  unfold prs
  rcases num_cases x with e | ⟨n, e, h⟩
  · rw [e]
  · rw [e]; rfl
/-- what is drawn for a text -/
def Typ (K : PySem.W.Frag) (H : Hp) (v : V) : Prop := Txv K H v ∧ LV 1 H v
theorem Typ.same {K : PySem.W.Frag} {H G : Hp} {v : V} (s : Same H G) (h : Typ K H v) : Typ K G v := ⟨h.1.same s, h.2.same s⟩
theorem Asc.typ {K : PySem.W.Frag} {H : Hp} {n : Nat} {z : Str} (h : Asc n z) (l : n ≤ 4500) : Typ K H (.str z) :=
  ⟨.inl ⟨z, rfl, Nat.le_trans h.1 (by omega), fun c hc => Nat.lt_trans (h.2 c hc) (by omega)⟩, .inl (.inr (.inr (.inr ⟨z, rfl, Nat.le_trans h.1 l, fun c hc => Nat.lt_trans (h.2 c hc) (by omega)⟩)))⟩
theorem Sc.typ {K : PySem.W.Frag} {H : Hp} {v : V} (h : v = .non ∨ (∃ i : Int, v = .int i ∧ i.natAbs < 10000000000000000000000000000000) ∨ ∃ b, v = .bl b) : Typ K H v := by
  rcases h with rfl | ⟨i, rfl, h⟩ | ⟨b, rfl⟩
  · exact ⟨.inr ⟨(fun z q => nomatch q), _, .base .non, kit_ty (by decide +kernel)⟩, .inl (.inl rfl)⟩
  · exact ⟨.inr ⟨(fun z q => nomatch q), _, .base (.int i), kit_ty (by decide +kernel)⟩, .inl (.inr (.inl ⟨i, rfl, h⟩))⟩
  · exact ⟨.inr ⟨(fun z q => nomatch q), _, .base (.bl b), kit_ty (by decide +kernel)⟩, .inl (.inr (.inr (.inl ⟨b, rfl⟩)))⟩
theorem Typ.ref {K : PySem.W.Frag} {H : Hp} {a : Addr} {o : HO} (k : H a = some o) (f : FlatO 1 o) : Typ K H (.ref a) := by
  refine ⟨.inr ⟨fun z q => (nomatch q), ?_⟩, .inr ⟨a, o, rfl, k, f⟩⟩
  rcases f with ⟨xs, rfl, f, g⟩ | ⟨xs, rfl, f, g⟩ | ⟨kvs, rfl, f, g⟩
  · exact ⟨_, .base (.lst k), kit_ty (by decide +kernel)⟩
  · exact ⟨_, .base (.tup k), kit_ty (by decide +kernel)⟩
  · exact ⟨_, .base (.dK k), kit_ty (by decide +kernel)⟩
/-- a list's data -/
theorem Dq.lst_items {H : Hp} {l : Addr} {xs : List V} {d : PyData} (e : H l = some (.lst xs)) (h : Dq H (.ref l) d) : ∃ ds, d = .list ds ∧ DqAll H xs ds := by
  cases h with
  | lst e2 h2 => rw [e] at e2; cases e2; exact ⟨_, rfl, h2⟩
  | tup e2 h2 => rw [e] at e2; cases e2
  | dct e2 h2 => rw [e] at e2; cases e2
/-- another list of the same values shows the same -/
theorem Dq.again {H G : Hp} {l m : Addr} {xs : List V} {d : PyData} (s : Same H G) (e : H l = some (.lst xs)) (e2 : G m = some (.lst xs)) (h : Dq H (.ref l) d) : Dq G (.ref m) d := by
  obtain ⟨ds, rfl, h2⟩ := Dq.lst_items e h
  exact .lst e2 (DqAll.same s ds _ h2)
/-- a list of two or three such values -/
theorem list_dd {H : Hp} {l : Addr} {xs : List V} (e : H l = some (.lst xs)) (n : xs.length ≤ 3) (h : ∀ x, x ∈ xs → LV 3 H x) : ∃ d, Dq H (.ref l) d ∧ d.showable = true ∧ d.depth ≤ 60 ∧ d.shown.length ≤ sizeLine := by
  obtain ⟨d, hd, o⟩ := Dd.lst e n fun x hx => (h x hx).dd
  exact ⟨d, hd, o.shows, Nat.le_trans o.deep (by omega), o.len (by omega)⟩
theorem LV.nref {n : Nat} {H : Hp} {v : V} {a : Addr} (h : LV n H v) (k : H a = none) : v ≠ .ref a := by
  rintro rfl
  rcases h with h | ⟨b, o, e, k2, f⟩
  · rcases h with h | ⟨i, h, _⟩ | ⟨b, h⟩ | ⟨z, h, _⟩ <;> cases h
  · cases e; rw [k] at k2; cases k2
theorem LV.txv {n : Nat} {K : PySem.W.Frag} {H : Hp} {v : V} (h : LV n H v) : Txv K H v := by
  rcases h with h | ⟨a, o, rfl, k, f⟩
  · rcases h with rfl | ⟨i, rfl, hi⟩ | ⟨b, rfl⟩ | ⟨z, rfl, hz⟩
    · exact .inr ⟨(fun z q => nomatch q), _, .base .non, kit_ty (by decide +kernel)⟩
    · exact .inr ⟨(fun z q => nomatch q), _, .base (.int i), kit_ty (by decide +kernel)⟩
    · exact .inr ⟨(fun z q => nomatch q), _, .base (.bl b), kit_ty (by decide +kernel)⟩
    · exact .inl ⟨z, rfl, Nat.le_trans hz.1 (by omega), hz.2⟩
  · refine .inr ⟨fun z q => (nomatch q), ?_⟩
    rcases f with ⟨xs, rfl, f, g⟩ | ⟨xs, rfl, f, g⟩ | ⟨kvs, rfl, f, g⟩
    · exact ⟨_, .base (.lst k), kit_ty (by decide +kernel)⟩
    · exact ⟨_, .base (.tup k), kit_ty (by decide +kernel)⟩
    · exact ⟨_, .base (.dK k), kit_ty (by decide +kernel)⟩
theorem LV.lim2 {n : Nat} {K : PySem.W.Frag} {H : Hp} {v : V} (h : LV n H v) : Lim2 K H v := by
  rcases h with h | ⟨a, o, rfl, k, f⟩
  · rcases h with rfl | ⟨i, rfl, hi⟩ | ⟨b, rfl⟩ | ⟨z, rfl, hz⟩
    · exact .inl rfl
    · exact .inr (.inl ⟨i, rfl⟩)
    · exact .inr (.inr (.inl ⟨b, rfl⟩))
    · exact .inr (.inr (.inr ⟨rfl, _, false, .base (.str z), kit_ty (by decide +kernel), kit_ty (by decide +kernel)⟩))
  · rcases f with ⟨xs, rfl, f, g⟩ | ⟨xs, rfl, f, g⟩ | ⟨kvs, rfl, f, g⟩
    · exact .inr (.inr (.inr ⟨rfl, _, false, .base (.lst k), kit_ty (by decide +kernel), kit_ty (by decide +kernel)⟩))
    · exact .inr (.inr (.inr ⟨rfl, _, false, .base (.tup k), kit_ty (by decide +kernel), kit_ty (by decide +kernel)⟩))
    · exact .inr (.inr (.inr ⟨rfl, _, false, .base (.dK k), kit_ty (by decide +kernel), kit_ty (by decide +kernel)⟩))
theorem LV.np {H : Hp} {v : V} {p : Addr} (h : LV 1 H v) (b : Bx H p) : v ≠ .ref p := by
  rintro rfl
  rcases h with h | ⟨a, o, e, k, f⟩
  · rcases h with h | ⟨i, h, _⟩ | ⟨b, h⟩ | ⟨z, h, _⟩ <;> cases h
  · cases e
    obtain ⟨b0, b1, b2, e, r⟩ := b
    rw [e] at k
    cases k
    rcases f with ⟨xs, e, f, g⟩ | ⟨xs, e, f, g⟩ | ⟨kvs, e, f, g⟩ <;> cases e
    exact absurd f (by show ¬ 3 ≤ 1; omega)
theorem LV.sx {H G : Hp} {v : V} {p : Addr} (h : LV 1 H v) (b : Bx H p) (s : Sx p H G) : LV 1 G v := by
  have n := h.np b
  exact h.imp id fun ⟨a, o, e, k, f⟩ => ⟨a, o, e, s _ _ (fun z => n (by rw [e, z])) k, f⟩
theorem LV.gx {S : Addr → Prop} {n : Nat} {H G : Hp} {v : V} (h : LV n H v) (g : Gx S H G) (ns : ∀ a, v = .ref a → ¬ S a) : LV n G v := h.imp id fun ⟨a, o, e, k, f⟩ => ⟨a, o, e, g _ _ (ns a e) k, f⟩
theorem val_lv {n : Nat} {H : Hp} {x lo hi : V} (h1 : LV n H lo) (h2 : LV n H hi) : LV n H (valOf x lo hi) := by
  unfold valOf
  split
  · split
    · exact .inl (prs_sc x lo hi)
    · exact h2
  · exact h1
theorem word_sc (lo hi : V) : Sc (.str (wordOf lo hi)) := by
  have a : ∀ z, Ss 10 z → Sc (.str z) := fun z h => .inr (.inr (.inr ⟨z, rfl, h.mono (by omega)⟩))
  unfold wordOf
  split
  · split
    · exact a _ ⟨by decide +kernel, by decide +kernel⟩
    · exact a _ ⟨by decide +kernel, by decide +kernel⟩
  · exact a _ ⟨by decide +kernel, by decide +kernel⟩
end L

set_option Elab.async false
set_option linter.all false
set_option maxRecDepth 100000
set_option maxHeartbeats 4000000
namespace L
open PySem L2 KX
abbrev sLaw : Stmt := top 21
abbrev nLaw : List Str := ["script", "k", "box", "turn", "typed", "some", "number", "low", "high", "stood", "due", "found", "thing", "plain", "told"]
def spGrownE (K : PySem.W.Frag) : Sp := fun vs H Q E => ∃ n, n < 10 ∧ spGrown K n vs H Q E
theorem grownE {P : Program} {w : World} {K : PySem.W.Frag} {mg : Str → Option Value} {base : Heap} {f : Addr} {fd : FuncData} (F : Fun K "_law_grown" "_law_grown" sGrown f fd) (M : Mn mg) : FnOk P w K mg base CX0 1 f fd ["thing"] (spGrownE K) where
  len := fun vs H Q E ⟨n, hn, h⟩ => (ok_grown (P := P) (w := w) (base := base) n hn F M).len vs H Q E h
  run := fun A outer s H args us vs Q E hr e b r ⟨n, hn, h⟩ => (ok_grown (P := P) (w := w) (base := base) n hn F M).run A outer s H args us vs Q E hr e b r h
def spLaw (K : PySem.W.Frag) : Sp := fun vs H Q _ => ∃ (a : Addr) (ns : List Int), vs = [.ref a] ∧ SqL K H a (ns.map V.int) ∧ ns.length ≤ 63 ∧ ∀ H', Q (.bl true) H'
theorem Bx.same {p : Addr} {H G : Hp} (b : Bx H p) (s : Same H G) : Bx G p := by
  obtain ⟨b0, b1, b2, e, r⟩ := b
  exact ⟨b0, b1, b2, s _ _ e, r⟩
theorem Bx.gx {S : Addr → Prop} {p : Addr} {H G : Hp} (b : Bx H p) (g : Gx S H G) (n : ¬ S p) : Bx G p := by
  obtain ⟨b0, b1, b2, e, r⟩ := b
  exact ⟨b0, b1, b2, g _ _ n e, r⟩
section
variable {P : Program} {w : World} {K : PySem.W.Frag} {mg : Str → Option Value} {base : Heap} {f fC fB fT fX fN fM fD fA fG fP C : Addr} {fd dC dB dT dX dN dM dD dA dG dP : FuncData} {ds : List Value} {gk : List Value → List Value → List Value}
theorem scLaw : FnScope nLaw ["script"] (defScope sLaw) := ⟨rfl, rfl, rfl, by decide +kernel, rfl, by decide +kernel, by decide +kernel⟩
theorem ok_law (F : Fun K "law" "law" sLaw f fd) (M : Mn mg) (hS : ∃ o, base.get? sysModules = some o)
    (GC : FnOk P w K mg base CX0 1 fC dC ["script", "k"] (spCell K)) (bC : Binds K dC ["script", "k"] []) (kC : PySem.W.keepIn K (.ref fC) = true) (mC : mg "_law_cell" = some (.ref fC))
    (GB : FnOk P w K mg base CX0 1 fB dB ["cell"] spBox) (bB : Binds K dB ["cell"] []) (kB : PySem.W.keepIn K (.ref fB) = true) (mB : mg "_law_box" = some (.ref fB))
    (GT : FnOk P w K mg base CX0 1 fT dT ["box", "size"] spTake) (bT : Binds K dT ["box", "size"] []) (kT : PySem.W.keepIn K (.ref fT) = true) (mT : mg "_law_take" = some (.ref fT))
    (GX : FnOk P w K mg base CX0 2 fX dX ["box"] spText) (bX : Binds K dX ["box"] []) (kX : PySem.W.keepIn K (.ref fX) = true) (mX : mg "_law_text" = some (.ref fX))
    (GN : FnOk P w K mg base CX0 1 fN dN ["typed"] (spLawNum K)) (bN : Binds K dN ["typed"] []) (kN : PySem.W.keepIn K (.ref fN) = true) (mN : mg "_law_number" = some (.ref fN))
    (GM : FnOk P w K mg base CX0 2 fM dM ["box", "number"] (spLimit K)) (bM : Binds K dM ["box", "number"] []) (kM : PySem.W.keepIn K (.ref fM) = true) (mM : mg "_law_limit" = some (.ref fM))
    (GD : FnOk P w K mg base CX0 2 fD dD ["typed", "low", "high"] (spCalled K)) (bD : Binds K dD ["typed", "low", "high"] []) (kD : PySem.W.keepIn K (.ref fD) = true) (mD : mg "_law_due" = some (.ref fD))
    (GA : FnOk P w K mg base CX0 4 fA dA ["typed", "low", "high"] (spCalled K)) (bA : Binds K dA ["typed", "low", "high"] []) (kA : PySem.W.keepIn K (.ref fA) = true) (mA : mg "_law_called" = some (.ref fA))
    (GG : FnOk P w K mg base CX0 1 fG dG ["thing"] (spGrownE K)) (bG : Binds K dG ["thing"] []) (kG : PySem.W.keepIn K (.ref fG) = true) (mG : mg "_law_grown" = some (.ref fG))
    (GP : FnOk P w K mg base (L2.CX P w) 3 fP dP ["text", "minimum", "maximum"] (spParse K C)) (vP : Vals [.int 0, .non] ds) (bP : Binds K dP ["text", "minimum", "maximum"] ds) (nP : KBn K dP ["text", "minimum", "maximum"] 0 ["text", "minimum"] gk (fun us zs => us ++ (zs ++ [.non])))
    (kP : PySem.W.keepIn K (.ref fP) = true) (mP : mg "parse_integer" = some (.ref fP)) :
    GOk P w K mg base CX0 5 f fd ["script"] (spLaw K) := by
  refine gok F scLaw (fun vs H Q E h => ?_) (fun cdv A outer s H vs Q E hr hA h => ?_)
  · obtain ⟨a, ns, rfl, _⟩ := h
    rfl
  obtain ⟨a, ns, rfl, hN, h63, q⟩ := h
  have hr1 : Room 1 _ := hr.mono (by decide)
  have hr2 : Room 2 _ := hr.mono (by decide)
  have hr3 : Room 3 _ := hr.mono (by decide)
  have hu := hr.units
  have rp := fun {X : Cx} (h1 : X.base = base) (h2 : X.A = (A.deeper (PyProof.Rows.envOfC "law" (defScope sLaw) s.heap.objs.size f cdv))) => @call_repr_q X (by rw [h1]; exact hS) (by rw [h2]; exact hA) (by rw [h2]; exact hu)
  refine ⟨_, pss_cons (ps_for PassesOwn.never rfl (pi_range1 (by rfl) M.range (pa_cons (pe_callB (call_max2 rfl) (by rfl) M.max (by decide +kernel) (pa_cons pe_int (pa_cons
        (pe_callB (call_min2 rfl) (by rfl) M.min (by decide +kernel) (pa_cons pe_int (pa_cons (pe_callB call_len_seq (by rfl) M.len PySem.boot_len (pa_cons (pv 0) pa_nil)) pa_nil))) pa_nil))) pa_nil)) (pg_name (i := 1) scLaw.nd rfl (Or.inl rfl))
      (pss_cons (ps_set (i := 2) scLaw.nd rfl (Or.inl rfl) (pe_call GB hr1 rfl mB kB bB .nil pass0 (pa_cons (pe_call GC hr1 rfl mC kC bC .nil pass0 (pa_cons (pv 0) (pa_cons (pv 1) pa_nil))) pa_nil)))
      (pss_one (ps_for PassesOwn.never rfl (pi_range1 (by rfl) M.range (pa_cons pe_int pa_nil)) (pg_name (i := 3) scLaw.nd rfl (Or.inl rfl))
        (pss_cons (ps_set (i := 4) scLaw.nd rfl (Or.inl rfl) (pe_call GX hr2 rfl mX kX bX .nil pass0 (pa_cons (pv 2) pa_nil)))
        (pss_cons (ps_cut (ps_if (pt_cmpR op_eq (pe_call GT hr1 (by rfl) mT kT bT .nil pass0 (pa_cons (pv 2) (pa_cons pe_int pa_nil))) pe_int (nomark _))
          (pss_cons (ps_set (i := 5) scLaw.nd rfl (Or.inl rfl) (pe_lst (pa_cons pe_non (pa_cons pe_bl (pa_cons pe_int (pa_cons (pe_un un_neg pe_int) (pa_cons (pe_lst (pa_cons pe_str pa_nil)) (pa_cons (pe_tup (pa_cons pe_str pa_nil)) (pa_cons pe_dnewK (pa_cons pe_str
            (pa_cons (pe_op op_mulS pe_str pe_int) (pa_cons (pe_op op_add_str pe_str (pe_op op_mulS pe_str pe_int)) pa_nil))))))))))))
          (pss_one (ps_set (i := 4) scLaw.nd rfl (Or.inl rfl) (pe_ix ix_list (pv 5) (pe_call GT hr1 (by rfl) mT kT bT .nil pass0 (pa_cons (pv 2) (pa_cons pe_int pa_nil))) (fun _ _ => rfl))))) pss_nil))
        (pss_cons (ps_set (i := 6) scLaw.nd rfl (Or.inl rfl) (pe_call GN hr1 rfl mN kN bN .nil pass0 (pa_cons (pv 4) pa_nil)))
        (pss_cons (ps_par (i := 7) (j := 8) (by rfl) scLaw.nd rfl rfl (by decide) rfl rfl (pa_cons (pe_call GM hr2 rfl mM kM bM .nil pass0 (pa_cons (pv 2) (pa_cons (pv 6) pa_nil))) (pa_cons (pe_call GM hr2 rfl mM kM bM .nil pass0 (pa_cons (pv 2) (pa_cons (pv 6) pa_nil))) pa_nil)) (by rfl))
        (pss_cons (ps_par (i := 9) (j := 10) (by rfl) scLaw.nd rfl rfl (by decide) rfl rfl (pa_cons (pe_callB (rp rfl rfl) (by rfl) M.repr (by decide +kernel) (pa_cons (pe_lst (pa_cons (pv 4) (pa_cons (pv 7) (pa_cons (pv 8) pa_nil)))) pa_nil))
          (pa_cons (pe_call GD hr2 rfl mD kD bD .nil pass0 (pa_cons (pv 4) (pa_cons (pv 7) (pa_cons (pv 8) pa_nil)))) pa_nil)) (by rfl))
        (pss_cons (ps_set (i := 11) scLaw.nd rfl (Or.inl rfl) (pe_call GA hr rfl mA kA bA .nil pass0 (pa_cons (pv 4) (pa_cons (pv 7) (pa_cons (pv 8) pa_nil)))))
        (pss_cons (ps_if (pw_or (pt_cmpR op_ne (pe_callB (rp rfl rfl) (by rfl) M.repr (by decide +kernel) (pa_cons (pv 11) pa_nil)) (pe_callB (rp rfl rfl) (by rfl) M.repr (by decide +kernel) (pa_cons (pv 10) pa_nil)) (nomark _))
            (pw_or1 (pt_cmpR op_ne (pe_callB (rp rfl rfl) (by rfl) M.repr (by decide +kernel) (pa_cons (pe_lst (pa_cons (pv 4) (pa_cons (pv 7) (pa_cons (pv 8) pa_nil)))) pa_nil)) (pv 9) (nomark _)))).pt (pss_one (ps_ret pe_bl)) pss_nil)
        (pss_cons (ps_for PassesOwn.never rfl (pi_list (pe_lst (pa_cons (pv 7) (pa_cons (pv 8) pa_nil)))) (pg_name (i := 12) scLaw.nd rfl (Or.inl rfl)) (pss_one (ps_expr (pe_call GG hr1 rfl mG kG bG .nil pass0 (pa_cons (pv 12) pa_nil)))))
        (pss_cons (ps_if (pt_cmpR op_ne (pe_callB (rp rfl rfl) (by rfl) M.repr (by decide +kernel) (pa_cons (pv 11) pa_nil)) (pe_callB (rp rfl rfl) (by rfl) M.repr (by decide +kernel) (pa_cons (pv 10) pa_nil)) (nomark _)) (pss_one (ps_ret pe_bl)) pss_nil)
        (pss_cons (ps_set (i := 13) scLaw.nd rfl (Or.inl rfl) (pe_mo (pe_ifExp (PW.pt (pw_and (pt_cmp (pc_notN (pv 6))) (pw_and1 (pt_cmpR op_ge (pv 6) pe_int (nomark _))))) (pv 6) pe_non)))
        (pss_cons (ps_set (i := 14) scLaw.nd rfl (Or.inl rfl) (pe_lst (pa_cons (pe_call GP hr3 rfl mP kP bP vP passF (pa_cons (pv 4) pa_nil)) (pa_cons (pe_kwN GP hr3 rfl mP kP nP passF (pk_cons (pv 4) (pk_cons pe_non pk_nil))) pa_nil))))
        (pss_one (ps_if (pt_cmpR op_ne (pe_callB (rp rfl rfl) (by rfl) M.repr (by decide +kernel) (pa_cons (pv 14) pa_nil)) (pe_callB (rp rfl rfl) (by rfl) M.repr (by decide +kernel) (pa_cons (pe_lst (pa_cons (pv 13) (pa_cons (pv 6) pa_nil))) pa_nil)) (nomark _)) (pss_one (ps_ret pe_bl)) pss_nil)))))))))))))))))
    (pss_one (ps_ret pe_bl)), ?_⟩
  have len : (ns.map V.int).length = ns.length := List.length_map _
  refine ⟨_, rfl, a, _, rfl, .inl hN, _, _, rfl, _, _, rfl, _, rfl, ?_⟩
  rw [len]
  generalize hm : (if (if (ns.length : Int) < 8 then (ns.length : Int) else 8) > 2 then (if (ns.length : Int) < 8 then (ns.length : Int) else 8) else 2) = m
  have hm8 : 0 ≤ m ∧ m ≤ 8 := by rw [← hm]; split <;> split <;> omega
  refine ⟨by omega, by omega, ?_⟩
  refine for_range (lo := 0) (n := m.toNat) (fun _ σ J => Same H J ∧ ∃ x1 x2 x3 x4 x5 x6 x7 x8 x9 x10 x11 x12 x13 x14, σ = [some (.ref a), x1, x2, x3, x4, x5, x6, x7, x8, x9, x10, x11, x12, x13, x14]) ⟨Same.refl H, _, _, _, _, _, _, _, _, _, _, _, _, _, _, rfl⟩ ?_ ?_
  · rintro k _ J hk ⟨sJ, x1, x2, x3, x4, x5, x6, x7, x8, x9, x10, x11, x12, x13, x14, rfl⟩
    refine ⟨_, rfl, _, rfl, a, ns, _, rfl, sJ.seq hN, by omega, fun c => ⟨c, rfl, fun p J1 sJ1 hp0 b1 => ?_⟩⟩
    have np : H p = none := sJ.free hp0
    have sH1 : Same H J1 := sJ.trans sJ1
    have sx_same : ∀ {G G' : Hp}, Same H G → Sx p G G' → Same H G' := fun s1 s2 b o e => s2 b o (ne_of_none e np) (s1 b o e)
    refine ⟨30, rfl, by decide, by decide, ?_⟩
    refine for_range (lo := 0) (n := Int.toNat 30) (fun _ σ J => Same H J ∧ Bx J p ∧ ∃ x3 x4 x5 x6 x7 x8 x9 x10 x11 x12 x13 x14, σ = [some (.ref a), some (.int (0 + (k : Int))), some (.ref p), x3, x4, x5, x6, x7, x8, x9, x10, x11, x12, x13, x14]) ⟨sH1, b1, _, _, _, _, _, _, _, _, _, _, _, _, rfl⟩ ?_ ?_
    · rintro u _ J2 hu2 ⟨s2, b2, y3, y4, y5, y6, y7, y8, y9, y10, y11, y12, y13, y14, rfl⟩
      refine ⟨_, rfl, p, rfl, b2, fun z J3 az b3 s3 => ?_⟩
      refine ⟨fun σ G => ∃ x, LV 1 G x ∧ Bx G p ∧ Sx p J3 G ∧ ∃ x5, σ = [some (.ref a), some (.int (0 + (k : Int))), some (.ref p), some (.int (0 + (u : Int))), some x, x5, y6, y7, y8, y9, y10, y11, y12, y13, y14], ?_, ?_⟩
      · refine ⟨_, rfl, p, 6, rfl, b3, by decide, by decide, fun r G ra rb bG sG => ⟨rfl, _, rfl, ?_⟩⟩
        refine ite2 (fun c => ?_) (fun c => ⟨.str z, (Asc.typ (K := K) az (by omega)).2, bG, sG, _, rfl⟩)
        refine ⟨_, rfl, (by show 1 ≤ sizeLine; decide), fun m1 hm1 => ⟨(by show 1 ≤ sizeLine; decide), fun m2 hm2 => fun m3 hm3 => ?_⟩⟩
        refine ⟨_, _, rfl, rfl, by decide, by decide, rfl, _, _, rfl, rfl, by decide, by decide, rfl, _, _, rfl, rfl, ?_, (by show 10 ≤ sizeLine; decide), fun l hl => ?_⟩
        · rw [repS_len]; decide +kernel
        let Ja : Hp := upd (upd (upd G m1 (.lst [.str (Str.ofString "1")])) m2 (.tup [.str (Str.ofString "1")])) m3 (.dK [])
        let xs : List V := [.non, .bl true, .int 7, .int (-3), .ref m1, .ref m2, .ref m3, .str (Str.ofString ""), .str (repS (Str.ofString "9") 4000), .str (Str.ofString "-" ++ repS (Str.ofString "9") 3999)]
        have sa1 := Same.new hm1 (.lst [.str (Str.ofString "1")])
        have sa2 := Same.new hm2 (.tup [.str (Str.ofString "1")])
        have sa3 := Same.new hm3 (.dK [])
        have sa4 : Same Ja (upd Ja l (.lst xs)) := Same.new hl _
        have sGl : Same G (upd Ja l (.lst xs)) := ((sa1.trans sa2).trans sa3).trans sa4
        have bl : Bx (upd Ja l (.lst xs)) p := bG.same sGl
        refine ⟨_, rfl, _, rfl, p, 10, rfl, bl, by decide, by decide, fun i G2 ia ib b2 s2 => ?_⟩
        have nb : ∀ {q : Addr} {X Y : Hp}, Same G X → X q = none → q ≠ p := fun sX hq z => (bG.same sX).nn (z ▸ hq)
        have k1 : G2 m1 = some (.lst [.str (Str.ofString "1")]) := s2 _ _ (nb (Y := G) (Same.refl G) hm1) (sa4 _ _ (sa3 _ _ (sa2 _ _ upd_same)))
        have k2 : G2 m2 = some (.tup [.str (Str.ofString "1")]) := s2 _ _ (nb (Y := G) sa1 hm2) (sa4 _ _ (sa3 _ _ upd_same))
        have k3 : G2 m3 = some (.dK []) := s2 _ _ (nb (Y := G) (sa1.trans sa2) hm3) (sa4 _ _ upd_same)
        have k4 : G2 l = some (.lst xs) := s2 _ _ (nb (Y := G) ((sa1.trans sa2).trans sa3) hl) upd_same
        obtain ⟨j, v, e1, e2, e3, e4⟩ := pick (xs := xs) ia (by show i < 10; omega)
        have one : Sc (.str (Str.ofString "1")) := .inr (.inr (.inr ⟨_, rfl, Ss.mono (n := 1) ⟨by decide +kernel, by decide +kernel⟩ (by omega)⟩))
        have a9 : Asc 1 (Str.ofString "9") := ⟨by decide +kernel, by decide +kernel⟩
        have a9n : ∀ k : Int, 0 ≤ k → k ≤ 4000 → Asc 4000 (repS (Str.ofString "9") k) := fun k h0 h1 => ⟨by
          rw [repS_len]
          have : (Str.ofString "9").length = 1 := by decide +kernel
          rw [this]; omega, fun c hc => a9.2 c (repS_mem hc)⟩
        have ad : Asc 1 (Str.ofString "-") := ⟨by decide +kernel, by decide +kernel⟩
        have fin : LV 1 G2 v := by
          have e2' : v = .non ∨ v = .bl true ∨ v = .int 7 ∨ v = .int (-3) ∨ v = .ref m1 ∨ v = .ref m2 ∨ v = .ref m3 ∨ v = .str (Str.ofString "") ∨ v = .str (repS (Str.ofString "9") 4000) ∨ v = .str (Str.ofString "-" ++ repS (Str.ofString "9") 3999) := by simpa only [xs, List.mem_cons, List.not_mem_nil, or_false] using e2
          rcases e2' with e | e | e | e | e | e | e | e | e | e
          · subst e; exact .inl (.inl rfl)
          · subst e; exact .inl (.inr (.inr (.inl ⟨_, rfl⟩)))
          · subst e; exact .inl (.inr (.inl ⟨_, rfl, by decide +kernel⟩))
          · subst e; exact .inl (.inr (.inl ⟨_, rfl, by decide +kernel⟩))
          · subst e; exact .inr ⟨_, _, rfl, k1, .inl ⟨_, rfl, Nat.le_refl 1, fun x hx => by rw [List.mem_singleton.mp hx]; exact one⟩⟩
          · subst e; exact .inr ⟨_, _, rfl, k2, .inr (.inl ⟨_, rfl, Nat.le_refl 1, fun x hx => by rw [List.mem_singleton.mp hx]; exact one⟩)⟩
          · subst e; exact .inr ⟨_, _, rfl, k3, .inr (.inr ⟨_, rfl, Nat.zero_le 1, (fun _ z => nomatch z)⟩)⟩
          · subst e; exact .inl (.inr (.inr (.inr ⟨_, rfl, Ss.mono (n := 0) ⟨by decide +kernel, by decide +kernel⟩ (by omega)⟩)))
          · subst e; exact ((a9n 4000 (by decide) (by decide)).typ (K := K) (by omega)).2
          · subst e; exact ((ad.app (a9n 3999 (by decide) (by decide))).typ (K := K) (by omega)).2
        exact ⟨l, _, _, v, rfl, rfl, SqL.of k4, e4, v, fin, b2, sG.trans ((Sx.of sGl).trans s2), _, rfl⟩
      rintro _ G ⟨x, lx, bG, sG, x5, rfl⟩
      have sHG : Same H G := sx_same (sx_same s2 s3) sG
      refine ⟨_, rfl, x, rfl, lx.txv, fun G1 sG1 => ?_⟩
      have nc : num x = .non ∨ ∃ n, num x = .int n := (num_cases x).imp id fun ⟨n, e, _⟩ => ⟨n, e⟩
      have bG1 : Bx G1 p := bG.same sG1
      refine ⟨_, rfl, _, rfl, p, _, rfl, bG1, nc, fun lo G2 g2 n2 b2' sx2 => ⟨_, rfl, _, rfl, p, _, rfl, b2', nc, fun hi G3 g3 n3 b3' sx3 => ⟨lo, hi, rfl, ?_⟩⟩⟩
      have sHG1 : Same H G1 := sHG.trans sG1
      have sHG2 : Same H G2 := sx_same sHG1 sx2
      have sHG3 : Same H G3 := sx_same sHG2 sx3
      have lx3 : LV 1 G3 x := ((lx.same sG1).sx bG1 sx2).sx b2' sx3
      have ll3 : LV 1 G3 lo := g2.1.sx b2' sx3
      have lh3 : LV 1 G3 hi := g3.1
      have nlo : ∀ b, lo = .ref b → H b = none := fun b e => sHG1.free (n2 b e)
      have nhi : ∀ b, hi = .ref b → H b = none := fun b e => sHG2.free (n3 b e)
      let S : Addr → Prop := fun b => lo = .ref b ∨ hi = .ref b
      have nSp : ¬ S p := fun z => z.elim (ll3.np b3') (lh3.np b3')
      have nS : ∀ {X : Hp} {b : Addr}, Same G3 X → X b = none → ¬ S b := fun sX hb z => z.elim ((ll3.same sX).nref hb) ((lh3.same sX).nref hb)
      refine ⟨_, rfl, _, rfl, _, rfl, (by show 3 ≤ sizeLine; decide), fun l1 hl1 => ?_⟩
      have s4 : Same G3 (upd G3 l1 (.lst [x, lo, hi])) := Same.new hl1 _
      have all3 : ∀ {X : Hp}, Same G3 X → ∀ y, y ∈ [x, lo, hi] → LV 3 X y := fun sX y hy => by
        simp only [List.mem_cons, List.not_mem_nil, or_false] at hy
        rcases hy with rfl | rfl | rfl
        · exact (lx3.same sX).mono (by omega)
        · exact (ll3.same sX).mono (by omega)
        · exact (lh3.same sX).mono (by omega)
      obtain ⟨d0, hd0, sh0, dp0, ln0⟩ := list_dd (H := upd G3 l1 (.lst [x, lo, hi])) (l := l1) (xs := [x, lo, hi]) upd_same (Nat.le_refl 3) (all3 s4)
      refine ⟨.ref l1, d0, rfl, hd0, sh0, dp0, ln0, ?_⟩
      refine ⟨_, rfl, _, rfl, _, rfl, x, lo, hi, rfl, (lx3.same s4).txv, (ll3.same s4).lim2, (lh3.same s4).lim2, fun ad G5 s5 t5 => ⟨_, _, rfl, ?_⟩⟩
      have s35 : Same G3 G5 := s4.trans s5
      refine ⟨_, rfl, _, rfl, _, rfl, x, lo, hi, rfl, (lx3.same s35).txv, (ll3.same s35).lim2, (lh3.same s35).lim2, fun af G6 s6 t6 => ?_⟩
      have s36 : Same G3 G6 := s35.trans s6
      have v3 : ∀ {X : Hp}, LV 3 X lo → LV 3 X hi → ∀ y, y ∈ [V.str (wordOf lo hi), valOf x lo hi] → LV 3 X y := fun h1 h2 y hy => by
        simp only [List.mem_cons, List.not_mem_nil, or_false] at hy
        rcases hy with rfl | rfl
        · exact .inl (word_sc lo hi)
        · exact val_lv h1 h2
      obtain ⟨d1, hd1, sh1, dp1, ln1⟩ := list_dd (l := af) t6.2 (show 2 ≤ 3 by omega) (v3 ((ll3.same s36).mono (by omega)) ((lh3.same s36).mono (by omega)))
      refine ⟨_, rfl, .ref af, d1, rfl, hd1, sh1, dp1, ln1, _, rfl, .ref ad, d1, rfl, Dq.again (Same.refl G6) t6.2 (s6 _ _ t5.2) hd1, sh1, dp1, ln1, rfl, _, rfl, ?_⟩
      refine iteNS rfl ?_
      refine ⟨_, rfl, _, rfl, _, rfl, (by show 3 ≤ sizeLine; decide), fun l2 hl2 => ?_⟩
      have s7 : Same G6 (upd G6 l2 (.lst [x, lo, hi])) := Same.new hl2 _
      refine ⟨.ref l2, d0, rfl, Dq.again ((s5.trans s6).trans s7) upd_same upd_same hd0, sh0, dp0, ln0, _, rfl, rfl, _, rfl, ?_⟩
      refine iteNS rfl ?_
      refine ⟨_, rfl, _, rfl, (by show 2 ≤ sizeLine; decide), fun l3 hl3 => ?_⟩
      have s8 := Same.new hl3 (.lst [lo, hi])
      have s38 := (s36.trans s7).trans s8
      refine ⟨l3, rfl, ⟨_, SqL.of upd_same⟩, ?_⟩
      refine for_list (K := K) (a := l3) (xs := [lo, hi]) (fun i σ J => Gx S (upd (upd G6 l2 (.lst [x, lo, hi])) l3 (.lst [lo, hi])) J ∧ LV (1 + i) J lo ∧ LV (1 + i) J hi ∧
          ∃ x12, σ = [some (.ref a), some (.int (0 + (k : Int))), some (.ref p), some (.int (0 + (u : Int))), some x, x5, some (num x), some lo, some hi, some (.str d0.shown), some (.ref ad), some (.ref af), x12, y13, y14])
        ⟨fun b o _ e => e, ll3.same s38, lh3.same s38, _, rfl⟩ (fun _ _ J _ z => SqL.of (z.1 _ _ (nS (s36.trans s7) hl3) upd_same)) ?_ ?_
      · rintro i y _ J hi' ⟨g, h1, h2, x12, rfl⟩
        have i2 : i < 2 := (List.getElem?_eq_some_iff.mp hi').1
        have yS : ∀ b, y = .ref b → S b := fun b e => by
          match i, i2, hi' with
          | 0, _, hi' => cases hi'; exact .inl e
          | 1, _, hi' => cases hi'; exact .inr e
        have hy : LV (1 + i) J y := by
          match i, i2, hi' with
          | 0, _, hi' => cases hi'; exact h1
          | 1, _, hi' => cases hi'; exact h2
        refine ⟨_, rfl, 1 + i, by omega, y, rfl, hy, ⟨g, h1.mono (by omega), h2.mono (by omega), _, rfl⟩, fun b o' e nb fo => ⟨fun c o nc' ec => ?_, (h1.mono (by omega)).upd fo, (h2.mono (by omega)).upd fo, _, rfl⟩⟩
        rw [upd_ne (fun z => nc' (by rw [z]; exact yS b e))]
        exact g c o nc' ec
      rintro _ J ⟨g, h1, h2, x12, rfl⟩
      have h1' : LV 3 J lo := h1
      have h2' : LV 3 J hi := h2
      have eaf : J af = some (.lst [.str (wordOf lo hi), valOf x lo hi]) := g _ _ (nS s35 t6.1) (s8 _ _ (s7 _ _ t6.2))
      have ead : J ad = some (.lst [.str (wordOf lo hi), valOf x lo hi]) := g _ _ (nS s4 t5.1) (s8 _ _ (s7 _ _ (s6 _ _ t5.2)))
      obtain ⟨d2, hd2, sh2, dp2, ln2⟩ := list_dd eaf (show 2 ≤ 3 by omega) (v3 h1' h2')
      refine ⟨_, rfl, .ref af, d2, rfl, hd2, sh2, dp2, ln2, _, rfl, .ref ad, d2, rfl, Dq.again (Same.refl J) eaf ead hd2, sh2, dp2, ln2, rfl, _, rfl, ?_⟩
      refine iteNS rfl ?_
      refine ⟨fun y J' => J = J' ∧ y = prs x (.int 0) .non, ?_, ?_⟩
      · refine ⟨_, rfl, _, rfl, ?_⟩
        unfold prs
        rcases num_cases x with e | ⟨n, e, _⟩
        · rw [e]
          exact iteF ⟨rfl, rfl⟩
        · rw [e]
          refine iteT ⟨_, rfl, _, _, rfl, rfl, _, rfl, ?_⟩
          refine ite2 (fun c => ⟨_, rfl, rfl, ?_⟩) (fun c => ⟨rfl, ?_⟩)
          · have c' : (0 : Int) ≤ n := of_decide_eq_true c
            show V.int n = if (decide (n < 0) || false) = true then V.non else V.int n
            rw [decide_eq_false (by omega)]; rfl
          · have c' : ¬ (0 : Int) ≤ n := fun z => c (decide_eq_true z)
            show V.non = if (decide (n < 0) || false) = true then V.non else V.int n
            rw [decide_eq_true (by omega)]; rfl
      rintro _ _ ⟨rfl, rfl⟩
      have sHJ : Same H J := fun b o e => g b o (fun z => z.elim (fun e2 => by rw [nlo b e2] at e; cases e) (fun e2 => by rw [nhi b e2] at e; cases e)) (s38 _ _ (sHG3 _ _ e))
      have bJ : Bx J p := (b3'.same s38).gx g nSp
      have lxJ : LV 1 J x := by
        refine (lx3.same s38).gx g fun b e z => ?_
        rcases z with z | z
        · exact (lx.same sG1).nref (n2 b z) e
        · exact ((lx.same sG1).sx bG1 sx2).nref (n3 b z) e
      refine ⟨_, rfl, x, .int 0, .non, rfl, lxJ.txv, .inr ⟨(fun z => nomatch z), .inl ⟨0, rfl⟩⟩, .inl rfl, fun _ _ J1 sJ1 => ?_, (fun z => nomatch z), (fun _ z => nomatch z)⟩
      refine ⟨_, rfl, rfl, rfl, x, .non, .non, rfl, (lxJ.same sJ1).txv, .inl rfl, .inl rfl, fun _ _ J2' sJ2 => ?_, (fun z => nomatch z), (fun _ z => nomatch z)⟩
      rw [prs_all]
      refine ⟨(by show 2 ≤ sizeLine; decide), fun l4 hl4 => ?_⟩
      have s9 := Same.new hl4 (.lst [prs x (.int 0) .non, num x])
      obtain ⟨d3, hd3, sh3, dp3, ln3⟩ := list_dd (H := upd J2' l4 (.lst [prs x (.int 0) .non, num x])) (l := l4) upd_same (show 2 ≤ 3 by omega) (fun y hy => by
        simp only [List.mem_cons, List.not_mem_nil, or_false] at hy
        rcases hy with rfl | rfl
        · exact .inl (prs_sc x (.int 0) .non)
        · exact .inl (num_sc x))
      refine ⟨_, rfl, .ref l4, d3, rfl, hd3, sh3, dp3, ln3, _, rfl, _, rfl, (by show 2 ≤ sizeLine; decide), fun l5 hl5 => ?_⟩
      have s10 := Same.new hl5 (.lst [prs x (.int 0) .non, num x])
      refine ⟨.ref l5, d3, rfl, Dq.again s10 upd_same upd_same hd3, sh3, dp3, ln3, rfl, _, rfl, ?_⟩
      have sJe := ((sJ1.trans sJ2).trans s9).trans s10
      exact iteNS rfl ⟨sHJ.trans sJe, bJ.same sJe, _, _, _, _, _, _, _, _, _, _, _, _, rfl⟩
    · rintro _ J2 ⟨s2, b2, y3, y4, y5, y6, y7, y8, y9, y10, y11, y12, y13, y14, rfl⟩
      exact ⟨s2, _, _, _, _, _, _, _, _, _, _, _, _, _, _, rfl⟩
  · rintro _ J ⟨sJ, x1, x2, x3, x4, x5, x6, x7, x8, x9, x10, x11, x12, x13, x14, rfl⟩
    exact q J
end
end L

set_option Elab.async false
set_option linter.all false
set_option maxRecDepth 100000
set_option maxHeartbeats 4000000
namespace L
open PySem L2 KX
theorem all_mk {l : PySem.W.OpenLaw} {w : World} {K : PySem.W.Frag} {h : Heap} {mg : Str → Option Value} {fa : Addr} (X : K.In h) (G : h.Ns mainGlobals mg) (hfa : mg "law" = some (.ref fa))
    {D : Addr}
    {tkD : Tok}
    {f0 : Addr} {od0 an0 : Option Addr} {sl0 : Array (Option Value)} {oc0 kV0 dc0 pm0 cd0 ct0 : Value}
    {f1 : Addr} {od1 an1 : Option Addr} {sl1 : Array (Option Value)} {oc1 dc1 pm1 cd1 ct1 : Value}
    {f2 : Addr} {od2 an2 : Option Addr} {sl2 : Array (Option Value)} {oc2 kV2 dc2 pm2 cd2 ct2 : Value}
    {f3 : Addr} {od3 an3 : Option Addr} {sl3 : Array (Option Value)} {oc3 kV3 dc3 pm3 cd3 ct3 : Value}
    {f4 : Addr} {od4 an4 : Option Addr} {sl4 : Array (Option Value)} {oc4 kV4 dc4 pm4 cd4 ct4 : Value}
    {f5 : Addr} {od5 an5 : Option Addr} {sl5 : Array (Option Value)} {oc5 kV5 dc5 pm5 cd5 ct5 : Value}
    {f6 : Addr} {od6 an6 : Option Addr} {sl6 : Array (Option Value)} {oc6 kV6 dc6 pm6 cd6 ct6 : Value}
    {f7 : Addr} {od7 an7 : Option Addr} {sl7 : Array (Option Value)} {oc7 kV7 dc7 pm7 cd7 ct7 : Value}
    {f8 : Addr} {od8 an8 : Option Addr} {sl8 : Array (Option Value)} {oc8 kV8 dc8 pm8 cd8 ct8 : Value}
    {f9 : Addr} {od9 an9 : Option Addr} {sl9 : Array (Option Value)} {oc9 kV9 dc9 pm9 cd9 ct9 : Value}
    {f10 : Addr} {od10 an10 : Option Addr} {sl10 : Array (Option Value)} {oc10 kV10 dc10 pm10 cd10 ct10 : Value}
    {f11 : Addr} {od11 an11 : Option Addr} {sl11 : Array (Option Value)} {oc11 kV11 dc11 pm11 cd11 ct11 : Value}
    {f12 : Addr} {od12 an12 : Option Addr} {sl12 : Array (Option Value)} {oc12 kV12 dc12 pm12 cd12 ct12 : Value}
    {f13 : Addr} {od13 an13 : Option Addr} {sl13 : Array (Option Value)} {oc13 kV13 dc13 pm13 cd13 ct13 : Value}
    {f14 : Addr} {od14 an14 : Option Addr} {sl14 : Array (Option Value)} {oc14 kV14 dc14 pm14 cd14 ct14 : Value}
    {CI : Addr}
    {tk0 : Tok}
    (aCI : PySem.W.nsIn K mainGlobals "InvalidInteger" = some (some (.ref CI)))
    (clI : ∃ nm q N bs bm sn sub ab col dd k0 k1 k2 k3 k5, K.lookup CI = some (excClassObj nm q CI N bs bm true sn sub ab col dd k0 k1 k2 k3 k5 "ValueError.__new__") ∧ PySem.HandSPX.refsVE bm = true)
    (saI : PySem.W.findIn K (.ref CI) "__setattr__" = some (some (.builtin "object.__setattr__")))
    (exI : PySem.W.subIn K (.ref CI) (.type "BaseException") = some true)
    (tyI : PySem.W.typeIn K (.ref CI) = some (.type "type"))
    (kI : PySem.W.keepIn K (.ref CI) = true)
    (gaI : PySem.W.findIn K (.ref CI) "__getattribute__" = some (some (.builtin "BaseException.__getattribute__")))
    (ggI : PySem.W.findIn K (.ref CI) "__getattr__" = some none)
    (hdI : PySem.W.hasDictIn K CI = true)
    (suI : PySem.W.subIn K (.ref CI) (.ref CI) = some true)
    (nvI : PySem.W.findIn K (.ref CI) "value" = some none)
    (a0 : PySem.W.nsIn K mainGlobals "is_integer" = some (some (.ref f0)))
    (l0 : K.lookup f0 = some ⟨oc0, od0, .func (PySem.W.fnOf "is_integer" "is_integer" (defArgs sIsInt) (defBody sIsInt) (defScope sIsInt) .none kV0 dc0 pm0 an0 cd0 ct0), sl0⟩)
    (c0 : PySem.W.codeIn K cd0 "is_integer" = true)
    (k0 : PySem.W.keepIn K (.ref f0) = true)
    (a1 : PySem.W.nsIn K mainGlobals "parse_integer" = some (some (.ref f1)))
    (l1 : K.lookup f1 = some ⟨oc1, od1, .func (PySem.W.fnOf "parse_integer" "parse_integer" (defArgs sParse) (defBody sParse) (defScope sParse) .none (.ref D) dc1 pm1 an1 cd1 ct1), sl1⟩)
    (c1 : PySem.W.codeIn K cd1 "parse_integer" = true)
    (k1 : PySem.W.keepIn K (.ref f1) = true)
    (a2 : PySem.W.nsIn K mainGlobals "_is_decimal" = some (some (.ref f2)))
    (l2 : K.lookup f2 = some ⟨oc2, od2, .func (PySem.W.fnOf "_is_decimal" "_is_decimal" (defArgs sIsDec) (defBody sIsDec) (defScope sIsDec) .none kV2 dc2 pm2 an2 cd2 ct2), sl2⟩)
    (c2 : PySem.W.codeIn K cd2 "_is_decimal" = true)
    (k2 : PySem.W.keepIn K (.ref f2) = true)
    (a3 : PySem.W.findIn K (.ref CI) "__init__" = some (some (.ref f3)))
    (t3 : PySem.W.typeIn K (.ref f3) = some (.type "function"))
    (l3 : K.lookup f3 = some ⟨oc3, od3, .func (PySem.W.fnOf "__init__" "InvalidInteger.__init__" (defArgs sEiInt) (defBody sEiInt) (defScope sEiInt) .none kV3 dc3 pm3 an3 cd3 ct3), sl3⟩)
    (c3 : PySem.W.codeIn K cd3 "InvalidInteger.__init__" = true)
    (k3 : PySem.W.keepIn K (.ref f3) = true)
    (a4 : PySem.W.nsIn K mainGlobals "_law_cell" = some (some (.ref f4)))
    (l4 : K.lookup f4 = some ⟨oc4, od4, .func (PySem.W.fnOf "_law_cell" "_law_cell" (defArgs sCell) (defBody sCell) (defScope sCell) .none kV4 dc4 pm4 an4 cd4 ct4), sl4⟩)
    (c4 : PySem.W.codeIn K cd4 "_law_cell" = true)
    (k4 : PySem.W.keepIn K (.ref f4) = true)
    (a5 : PySem.W.nsIn K mainGlobals "_law_box" = some (some (.ref f5)))
    (l5 : K.lookup f5 = some ⟨oc5, od5, .func (PySem.W.fnOf "_law_box" "_law_box" (defArgs sBox) (defBody sBox) (defScope sBox) .none kV5 dc5 pm5 an5 cd5 ct5), sl5⟩)
    (c5 : PySem.W.codeIn K cd5 "_law_box" = true)
    (k5 : PySem.W.keepIn K (.ref f5) = true)
    (a6 : PySem.W.nsIn K mainGlobals "_law_take" = some (some (.ref f6)))
    (l6 : K.lookup f6 = some ⟨oc6, od6, .func (PySem.W.fnOf "_law_take" "_law_take" (defArgs sTake) (defBody sTake) (defScope sTake) .none kV6 dc6 pm6 an6 cd6 ct6), sl6⟩)
    (c6 : PySem.W.codeIn K cd6 "_law_take" = true)
    (k6 : PySem.W.keepIn K (.ref f6) = true)
    (a7 : PySem.W.nsIn K mainGlobals "_law_text" = some (some (.ref f7)))
    (l7 : K.lookup f7 = some ⟨oc7, od7, .func (PySem.W.fnOf "_law_text" "_law_text" (defArgs sText) (defBody sText) (defScope sText) .none kV7 dc7 pm7 an7 cd7 ct7), sl7⟩)
    (c7 : PySem.W.codeIn K cd7 "_law_text" = true)
    (k7 : PySem.W.keepIn K (.ref f7) = true)
    (a8 : PySem.W.nsIn K mainGlobals "_law_number" = some (some (.ref f8)))
    (l8 : K.lookup f8 = some ⟨oc8, od8, .func (PySem.W.fnOf "_law_number" "_law_number" (defArgs sLawNum) (defBody sLawNum) (defScope sLawNum) .none kV8 dc8 pm8 an8 cd8 ct8), sl8⟩)
    (c8 : PySem.W.codeIn K cd8 "_law_number" = true)
    (k8 : PySem.W.keepIn K (.ref f8) = true)
    (a9 : PySem.W.nsIn K mainGlobals "_law_limit" = some (some (.ref f9)))
    (l9 : K.lookup f9 = some ⟨oc9, od9, .func (PySem.W.fnOf "_law_limit" "_law_limit" (defArgs sLimit) (defBody sLimit) (defScope sLimit) .none kV9 dc9 pm9 an9 cd9 ct9), sl9⟩)
    (c9 : PySem.W.codeIn K cd9 "_law_limit" = true)
    (k9 : PySem.W.keepIn K (.ref f9) = true)
    (a10 : PySem.W.nsIn K mainGlobals "_law_is_limit" = some (some (.ref f10)))
    (l10 : K.lookup f10 = some ⟨oc10, od10, .func (PySem.W.fnOf "_law_is_limit" "_law_is_limit" (defArgs sIsLim) (defBody sIsLim) (defScope sIsLim) .none kV10 dc10 pm10 an10 cd10 ct10), sl10⟩)
    (c10 : PySem.W.codeIn K cd10 "_law_is_limit" = true)
    (k10 : PySem.W.keepIn K (.ref f10) = true)
    (a11 : PySem.W.nsIn K mainGlobals "_law_due" = some (some (.ref f11)))
    (l11 : K.lookup f11 = some ⟨oc11, od11, .func (PySem.W.fnOf "_law_due" "_law_due" (defArgs sDue) (defBody sDue) (defScope sDue) .none kV11 dc11 pm11 an11 cd11 ct11), sl11⟩)
    (c11 : PySem.W.codeIn K cd11 "_law_due" = true)
    (k11 : PySem.W.keepIn K (.ref f11) = true)
    (a12 : PySem.W.nsIn K mainGlobals "_law_called" = some (some (.ref f12)))
    (l12 : K.lookup f12 = some ⟨oc12, od12, .func (PySem.W.fnOf "_law_called" "_law_called" (defArgs sCalled) (defBody sCalled) (defScope sCalled) .none kV12 dc12 pm12 an12 cd12 ct12), sl12⟩)
    (c12 : PySem.W.codeIn K cd12 "_law_called" = true)
    (k12 : PySem.W.keepIn K (.ref f12) = true)
    (a13 : PySem.W.nsIn K mainGlobals "_law_grown" = some (some (.ref f13)))
    (l13 : K.lookup f13 = some ⟨oc13, od13, .func (PySem.W.fnOf "_law_grown" "_law_grown" (defArgs sGrown) (defBody sGrown) (defScope sGrown) .none kV13 dc13 pm13 an13 cd13 ct13), sl13⟩)
    (c13 : PySem.W.codeIn K cd13 "_law_grown" = true)
    (k13 : PySem.W.keepIn K (.ref f13) = true)
    (a14 : PySem.W.nsIn K mainGlobals "law" = some (some (.ref f14)))
    (l14 : K.lookup f14 = some ⟨oc14, od14, .func (PySem.W.fnOf "law" "law" (defArgs sLaw) (defBody sLaw) (defScope sLaw) .none kV14 dc14 pm14 an14 cd14 ct14), sl14⟩)
    (c14 : PySem.W.codeIn K cd14 "law" = true)
    (k14 : PySem.W.keepIn K (.ref f14) = true)
    (q0 : PySem.W.nsIn K mainGlobals "MOST_DIGITS" = some (some (.int 30 tk0)))
    (z_max : PySem.W.nsIn K mainGlobals "max" = some none)
    (z_min : PySem.W.nsIn K mainGlobals "min" = some none)
    (z_len : PySem.W.nsIn K mainGlobals "len" = some none)
    (z_range : PySem.W.nsIn K mainGlobals "range" = some none)
    (z_repr : PySem.W.nsIn K mainGlobals "repr" = some none)
    (z_isinstance : PySem.W.nsIn K mainGlobals "isinstance" = some none)
    (z_all : PySem.W.nsIn K mainGlobals "all" = some none)
    (z_enumerate : PySem.W.nsIn K mainGlobals "enumerate" = some none)
    (z_tuple : PySem.W.nsIn K mainGlobals "tuple" = some none)
    (z_dict : PySem.W.nsIn K mainGlobals "dict" = some none)
    (z_str : PySem.W.nsIn K mainGlobals "str" = some none)
    (z_int : PySem.W.nsIn K mainGlobals "int" = some none)
    (z_bool : PySem.W.nsIn K mainGlobals "bool" = some none)
    (z_list : PySem.W.nsIn K mainGlobals "list" = some none)
    (dmin : PySem.W.nsIn K D "minimum" = some (some (.int 0 tkD)))
    (dmax : PySem.W.nsIn K D "maximum" = some (some .none))
    : ∃ fd : FuncData, (∀ (s : Shared) (v : Value), BindsTo s fd ⟨[v], []⟩ [("script", v)]) ∧ ∀ base : Heap, K.In base → base.Ns mainGlobals mg → (∃ o, base.get? sysModules = some o) → GOk l.prog w K mg base CX0 5 fa fd ["script"] (spLaw K) := by
  have e := hfa.symm.trans (PySem.W.mg_of X G a14)
  cases e
  have F0 := fun_mk (st := sIsInt) l0 c0 k0
  have b0 := F0.binds (ps := ["value"]) fun _ _ _ _ _ _ us hl => match us, hl with | [_], _ => rfl
  have m0 := PySem.W.mg_of X G a0
  have F1 := fun_mk (st := sParse) l1 c1 k1
  have m1 := PySem.W.mg_of X G a1
  have F2 := fun_mk (st := sIsDec) l2 c2 k2
  have b2 := F2.binds (ps := ["text"]) fun _ _ _ _ _ _ us hl => match us, hl with | [_], _ => rfl
  have m2 := PySem.W.mg_of X G a2
  have F3 := fun_mk (st := sEiInt) l3 c3 k3
  have b3 := F3.binds (ps := ["self", "value"]) fun _ _ _ _ _ _ us hl => match us, hl with | [_, _], _ => rfl
  have F4 := fun_mk (st := sCell) l4 c4 k4
  have b4 := F4.binds (ps := ["script", "k"]) fun _ _ _ _ _ _ us hl => match us, hl with | [_, _], _ => rfl
  have m4 := PySem.W.mg_of X G a4
  have F5 := fun_mk (st := sBox) l5 c5 k5
  have b5 := F5.binds (ps := ["cell"]) fun _ _ _ _ _ _ us hl => match us, hl with | [_], _ => rfl
  have m5 := PySem.W.mg_of X G a5
  have F6 := fun_mk (st := sTake) l6 c6 k6
  have b6 := F6.binds (ps := ["box", "size"]) fun _ _ _ _ _ _ us hl => match us, hl with | [_, _], _ => rfl
  have m6 := PySem.W.mg_of X G a6
  have F7 := fun_mk (st := sText) l7 c7 k7
  have b7 := F7.binds (ps := ["box"]) fun _ _ _ _ _ _ us hl => match us, hl with | [_], _ => rfl
  have m7 := PySem.W.mg_of X G a7
  have F8 := fun_mk (st := sLawNum) l8 c8 k8
  have b8 := F8.binds (ps := ["typed"]) fun _ _ _ _ _ _ us hl => match us, hl with | [_], _ => rfl
  have m8 := PySem.W.mg_of X G a8
  have F9 := fun_mk (st := sLimit) l9 c9 k9
  have b9 := F9.binds (ps := ["box", "number"]) fun _ _ _ _ _ _ us hl => match us, hl with | [_, _], _ => rfl
  have m9 := PySem.W.mg_of X G a9
  have F10 := fun_mk (st := sIsLim) l10 c10 k10
  have b10 := F10.binds (ps := ["thing"]) fun _ _ _ _ _ _ us hl => match us, hl with | [_], _ => rfl
  have m10 := PySem.W.mg_of X G a10
  have F11 := fun_mk (st := sDue) l11 c11 k11
  have b11 := F11.binds (ps := ["typed", "low", "high"]) fun _ _ _ _ _ _ us hl => match us, hl with | [_, _, _], _ => rfl
  have m11 := PySem.W.mg_of X G a11
  have F12 := fun_mk (st := sCalled) l12 c12 k12
  have b12 := F12.binds (ps := ["typed", "low", "high"]) fun _ _ _ _ _ _ us hl => match us, hl with | [_, _, _], _ => rfl
  have m12 := PySem.W.mg_of X G a12
  have F13 := fun_mk (st := sGrown) l13 c13 k13
  have b13 := F13.binds (ps := ["thing"]) fun _ _ _ _ _ _ us hl => match us, hl with | [_], _ => rfl
  have m13 := PySem.W.mg_of X G a13
  have F14 := fun_mk (st := sLaw) l14 c14 k14
  have b14 := F14.binds (ps := ["script"]) fun _ _ _ _ _ _ us hl => match us, hl with | [_], _ => rfl
  have m14 := PySem.W.mg_of X G a14
  have M : Mn mg := ⟨PySem.W.mg_none_of X G z_max, PySem.W.mg_none_of X G z_min, PySem.W.mg_none_of X G z_len, PySem.W.mg_none_of X G z_range, PySem.W.mg_none_of X G z_repr, PySem.W.mg_none_of X G z_isinstance, PySem.W.mg_none_of X G z_all, PySem.W.mg_none_of X G z_enumerate, PySem.W.mg_none_of X G z_tuple, PySem.W.mg_none_of X G z_dict, PySem.W.mg_none_of X G z_str, PySem.W.mg_none_of X G z_int, PySem.W.mg_none_of X G z_bool, PySem.W.mg_none_of X G z_list⟩
  refine ⟨PySem.W.fnOf "law" "law" (defArgs sLaw) (defBody sLaw) (defScope sLaw) .none kV14 dc14 pm14 an14 cd14 ct14, fun s v => .of_eq rfl, fun base _ _ hS => ?_⟩
  have ET : ETx K mg "InvalidInteger" "value" CI f3 := ⟨⟨clI, saI, exI, tyI, kI⟩, ⟨gaI, ggI, exI, hdI⟩, a3, t3, nvI, PySem.W.mg_of X G aCI⟩
  have teI : PySem.W.exmOne K (.ref CI) (.ref CI) = some true := exm_mk ET.ox suI
  have D1 : FunD K "parse_integer" "parse_integer" (defArgs sParse) (defBody sParse) (defScope sParse) [] [("minimum", V.int 0), ("maximum", V.non)] f1 (PySem.W.fnOf "parse_integer" "parse_integer" (defArgs sParse) (defBody sParse) (defScope sParse) .none (.ref D) dc1 pm1 an1 cd1 ct1) :=
    ⟨⟨oc1, od1, .none, .ref D, dc1, pm1, an1, cd1, ct1, sl1, rfl, l1, c1, .inl ⟨rfl, rfl⟩, .inr ⟨D, rfl, fun q hq => by
      rcases List.mem_cons.mp hq with e | hq
      · subst e; exact ⟨_, dmin, ⟨_, rfl⟩⟩
      · rw [List.mem_singleton.mp hq]; exact ⟨_, dmax, rfl⟩⟩⟩, k1⟩
  obtain ⟨ds, vds, bds⟩ := D1.binds0 (ps := ["text", "minimum", "maximum"]) 1 (by simp) rfl fun D' doc pm an cdv ct us ks h1 h2 => match us, h1, ks, h2 with
    | [u], _, [a, b], _ => ⟨_, _, _, _, _, _, rfl, rfl, _, _, _, _, _, _, rfl, rfl, rfl⟩
  have nP : KBn K (PySem.W.fnOf "parse_integer" "parse_integer" (defArgs sParse) (defBody sParse) (defScope sParse) .none (.ref D) dc1 pm1 an1 cd1 ct1) ["text", "minimum", "maximum"] 0 ["text", "minimum"] (fun us ws => us ++ (ws ++ [Value.none])) (fun us zs => us ++ (zs ++ [V.non])) :=
    ⟨fun s us ws X l1 l2 => match us, l1, ws, l2 with
      | [], _, [a, b], _ => BindsTo.of_looks fun M => KwChain.looks X (D := D) (l := [("maximum", Value.none)]) (fun q hq => by rw [List.mem_singleton.mp hq]; exact dmax) ⟨_, _, _, _, _, _, rfl, rfl, rfl⟩,
     fun r1 r2 => r1.append (r2.append (.cons rfl .nil))⟩
  have nC : KBn K (PySem.W.fnOf "parse_integer" "parse_integer" (defArgs sParse) (defBody sParse) (defScope sParse) .none (.ref D) dc1 pm1 an1 cd1 ct1) ["text", "minimum", "maximum"] 1 ["maximum", "minimum"] gp gVp :=
    ⟨fun s us ws X l1 l2 => match us, l1, ws, l2 with
      | [t], _, [a, b], _ => BindsTo.of_eq rfl,
     fun {vs us zs ws} r1 r2 => r1.append (r2.reverse)⟩
  have G0 := ok_isint (P := l.prog) (w := w) (base := base) F0 M
  have G2 := ok_isdec (P := l.prog) (w := w) (base := base) F2 M ⟨_, PySem.W.mg_of X G q0⟩
  have G3 := ok_eiInt (P := l.prog) (w := w) (base := base) (mg := mg) (C := CI) F3
  have G1 := ok_parse F1 M ET G3 b3 G0 b0 k0 m0 G2 b2 k2 m2
  have G4 := ok_cell (P := l.prog) (w := w) (base := base) F4 M
  have G5 := ok_box (P := l.prog) (w := w) (base := base) F5 M
  have G6 := ok_take (P := l.prog) (w := w) (base := base) F6 M
  have G7 := ok_text F7 M G6 b6 k6 m6
  have G8 := ok_lawnum (P := l.prog) (w := w) (base := base) F8 M
  have G9 := ok_limit F9 M G6 b6 k6 m6
  have G10 := ok_islim (P := l.prog) (w := w) (base := base) F10 M
  have G11 := ok_due F11 G8 b8 k8 m8 G10 b10 k10 m10
  have G12 := ok_called F12 ET teI G1 nC k1 m1
  have G13 := grownE (P := l.prog) (w := w) (base := base) F13 M
  exact ok_law F14 M hS G4 b4 k4 m4 G5 b5 k5 m5 G6 b6 k6 m6 G7 b7 k7 m7 G8 b8 k8 m8 G9 b9 k9 m9 G11 b11 k11 m11 G12 b12 k12 m12 G13 b13 k13 m13 G1 vds bds nP k1 m1
theorem walk {l : PySem.W.OpenLaw} {q : Program} {loose : List Str} {XP : (Str → Option Value) → Heap → Prop} {YP : World → Heap → Prop} {d : DefRec} {K : Params → PySem.W.Frag} (hn : l.most = some 63) (hdf : d.params.defaults = []) (him : PyProof.Rows.importsNone q = true)
    (hY : ∀ (w : World) (h : Heap), YP w h → (K w.params).In h)
    (F : ∀ (w : World) (mg : Str → Option Value) (fa : Addr) (h : Heap), (K w.params).In h → h.Ns mainGlobals mg → mg d.name = some (.ref fa) →
      ∃ fd : FuncData, (∀ (s : Shared) (u : Value), BindsTo s fd ⟨[u], []⟩ [("script", u)]) ∧ ∀ base : Heap, (K w.params).In base → base.Ns mainGlobals mg → (∃ o, base.get? sysModules = some o) → GOk l.prog w (K w.params) mg base CX0 5 fa fd ["script"] (spLaw (K w.params))) :
    PySem.W.WalkO q loose XP YP l.row.toRowW d [] (fun f vs => PySem.call f vs) :=
  walk_g (n := 63) (k := 5) (x := "script") (sp := spLaw) hn (by decide) hdf ⟨rfl, by decide, by decide⟩ him hY F fun _ _ a ns hl _ hS => ⟨a, ns, rfl, hS, hl, fun _ => rfl⟩
end L
open PySem PySem.W PyProof.Rows
set_option maxRecDepth 100000 in
set_option pp.maxSteps 400 in
set_option maxHeartbeats 0 in
theorem PySem.Challenge.cw_producttrees_k02_parsed_integers_holds : PySem.Challenge.rw_producttrees_k02_parsed_integers.Holds := by
  w_on; o_law; k_head; (case hw => w_witness2)
  k_fill
  refine L.walk (l := PySem.Challenge.rw_producttrees_k02_parsed_integers) rfl rfl (by decide +kernel) (fun w h Y => PySem.W.kIn_of Y) ?F
  case F =>
    intro w mg fa h KX G hmg
    refine' L.all_mk KX G hmg ?aCI ?clI ?saI ?exI ?tyI ?kI ?gaI ?ggI ?hdI ?suI ?nvI ?a0 ?l0 ?c0 ?k0 ?a1 ?l1 ?c1 ?k1 ?a2 ?l2 ?c2 ?k2 ?a3 ?t3 ?l3 ?c3 ?k3 ?a4 ?l4 ?c4 ?k4 ?a5 ?l5 ?c5 ?k5 ?a6 ?l6 ?c6 ?k6 ?a7 ?l7 ?c7 ?k7 ?a8 ?l8 ?c8 ?k8 ?a9 ?l9 ?c9 ?k9 ?a10 ?l10 ?c10 ?k10 ?a11 ?l11 ?c11 ?k11 ?a12 ?l12 ?c12 ?k12 ?a13 ?l13 ?c13 ?k13 ?a14 ?l14 ?c14 ?k14 ?q0 ?z_max ?z_min ?z_len ?z_range ?z_repr ?z_isinstance ?z_all ?z_enumerate ?z_tuple ?z_dict ?z_str ?z_int ?z_bool ?z_list ?dmin ?dmax
    (case aCI => k_is)
    (case clI => exact ⟨_, _, _, _, _, _, _, _, _, _, _, _, _, _, _, by k_is, by decide +kernel⟩)
    (case saI => k_is)
    (case exI => k_is)
    (case tyI => k_is)
    (case kI => k_is)
    (case gaI => k_is)
    (case ggI => k_is)
    (case hdI => k_is)
    (case suI => k_is)
    (case nvI => k_is)
    (case a0 => k_is)
    (case l0 => k_is)
    (case c0 => k_is)
    (case k0 => k_is)
    (case a1 => k_is)
    (case l1 => k_is)
    (case c1 => k_is)
    (case k1 => k_is)
    (case a2 => k_is)
    (case l2 => k_is)
    (case c2 => k_is)
    (case k2 => k_is)
    (case a3 => k_is)
    (case t3 => k_is)
    (case l3 => k_is)
    (case c3 => k_is)
    (case k3 => k_is)
    (case a4 => k_is)
    (case l4 => k_is)
    (case c4 => k_is)
    (case k4 => k_is)
    (case a5 => k_is)
    (case l5 => k_is)
    (case c5 => k_is)
    (case k5 => k_is)
    (case a6 => k_is)
    (case l6 => k_is)
    (case c6 => k_is)
    (case k6 => k_is)
    (case a7 => k_is)
    (case l7 => k_is)
    (case c7 => k_is)
    (case k7 => k_is)
    (case a8 => k_is)
    (case l8 => k_is)
    (case c8 => k_is)
    (case k8 => k_is)
    (case a9 => k_is)
    (case l9 => k_is)
    (case c9 => k_is)
    (case k9 => k_is)
    (case a10 => k_is)
    (case l10 => k_is)
    (case c10 => k_is)
    (case k10 => k_is)
    (case a11 => k_is)
    (case l11 => k_is)
    (case c11 => k_is)
    (case k11 => k_is)
    (case a12 => k_is)
    (case l12 => k_is)
    (case c12 => k_is)
    (case k12 => k_is)
    (case a13 => k_is)
    (case l13 => k_is)
    (case c13 => k_is)
    (case k13 => k_is)
    (case a14 => k_is)
    (case l14 => k_is)
    (case c14 => k_is)
    (case k14 => k_is)
    (case q0 => k_is)
    (case z_max => k_is)
    (case z_min => k_is)
    (case z_len => k_is)
    (case z_range => k_is)
    (case z_repr => k_is)
    (case z_isinstance => k_is)
    (case z_all => k_is)
    (case z_enumerate => k_is)
    (case z_tuple => k_is)
    (case z_dict => k_is)
    (case z_str => k_is)
    (case z_int => k_is)
    (case z_bool => k_is)
    (case z_list => k_is)
    (case dmin => k_is)
    (case dmax => k_is)

