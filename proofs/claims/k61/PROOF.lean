import PyProof.Rows.All
import Wide.All
import OpenK.AllK
import Wide.FinOn
import PyProof.EqAt
import PyProof.EqKinds
import PyProof.TupleCall
import PyProof.ReprReads
import PyProof.ReprRoads
import KE.KStateDown
import KE.KExcIs
import KE.KIsAll
import HandS.ForMost
import HandS.Exc
import HandS.ExcInit
import HandS.More
import HandS.DictEq
import HandS.DeepEq
import HandS.Defaults
import HandS.Wide
import HandS.Flow
import HandS.Head0
import HandS.Head1
import HandS.Head2
import HandS.HeadEnd
import HandS.HeadHook1
import HandS.HeadHook2
import HandS.ExcIs
import HandS.ExcValue
import HandS.Walk
import HandS.TupAny
import HandS.IsInst
import PyProof.Rows.RuleB_pow
import HandS.WordsExc
import Lean
import HandS.Ends
import HandS.Words
import HandS.ExcOwn
import HandS.Strs
import HandS.Conv
import HandS.Codes
import HandS.TupSets
import HandS.SetKeys
import HandS.FStr
import HandS.Zip
import HandS.TryOnly
import HandS.SetBool
import HandS.TupMul
import PyProof.ReprLen
import PySem.Challenge.RW_treadplans_k61_pictures_as_texts
set_option Elab.async false
set_option linter.all false
set_option maxRecDepth 100000
set_option maxHeartbeats 0
/-! # Calls that know which reprs run: none -/
namespace Tp
open PySem PySem.Spec PyProof.Rows L2
abbrev Quiet (A : Around) : Prop := A.guards = some []
/-- a def's promise, kept wherever no repr runs -/
structure FnG (P : Program) (w : World) (K : PySem.W.Frag) (mg : Str → Option Value) (base : Heap) (CX : CXT)
    (k : Nat) (f : Addr) (fd : FuncData) (ps : List Str) (sp : Sp) : Prop where
  len : ∀ vs H Q E, sp vs H Q E → vs.length = ps.length
  run : ∀ (A : Around) (outer : List Env) (s : Shared) (H : Hp) (args : Args) (us : List Value) (vs : List V) (Q : VK) (E : XK),
    Room k A → Quiet A → Env0 P w K mg base A outer s H → BindsTo s fd args (ps.zip us) → Vals vs us → sp vs H Q E →
    codeAny (model P w) A (.call (.ref f) args) (CR CX outer P w H s Q E) s
section
variable {P : Program} {w : World} {K : PySem.W.Frag} {mg : Str → Option Value} {base : Heap} {CX : CXT} {j k : Nat} {f : Addr} {fd : FuncData} {ps : List Str} {sp sp' : Sp}
theorem FnG.mono (F : FnG P w K mg base CX j f fd ps sp) (h : j ≤ k) : FnG P w K mg base CX k f fd ps sp :=
  ⟨F.len, fun A outer s H args us vs Q E hr => F.run A outer s H args us vs Q E (hr.mono h)⟩
theorem FnG.of (F : FnOk P w K mg base CX k f fd ps sp) : FnG P w K mg base CX k f fd ps sp :=
  ⟨F.len, fun A outer s H args us vs Q E hr _ => F.run A outer s H args us vs Q E hr⟩
theorem FnG.imp (F : FnG P w K mg base CX k f fd ps sp) (h : ∀ vs H Q E, sp' vs H Q E → sp vs H Q E) : FnG P w K mg base CX k f fd ps sp' :=
  ⟨fun vs H Q E q => F.len vs H Q E (h _ _ _ _ q), fun A outer s H args us vs Q E hr hq he hb hv hs => F.run A outer s H args us vs Q E hr hq he hb hv (h _ _ _ _ hs)⟩
end
section
variable {X : Cx} {CX : CXT} {k : Nat} {f C : Addr} {fd : FuncData} {ps : List Str} {sp : Sp} {dvs : List V} {ds : List Value} {E : XK} {x m : Str} {p pos apos : Pos} {e o : Expr} {es : List Expr} {ta : TE} {t : TA}
theorem runG {pins : List (Addr × Obj)} {σ : L2.St} {H : Hp} {s : Shared} {Q : VK} {us : List Value} {vs : List V}
    (F : FnG X.prog X.w X.K X.mg X.base CX k f fd ps sp) (hr : Room k X.A) (gq : Quiet X.A) (hb : Binds X.K fd ps ds) (hd : Vals dvs ds) (hx : Passes CX X E)
    (I : Inv X pins σ H s) (r : Vals vs us) (h : sp (vs ++ dvs) H Q E) : wpAny (model X.prog X.w) X.A (call (.ref f) us) (EP X pins σ Q) X.xe s := by
  have both := r.append hd
  have len : (us ++ ds).length = ps.length := both.length.symm.trans (F.len _ _ _ _ h)
  have body := F.run X.A X.stack s H ⟨us, []⟩ (us ++ ds) (vs ++ dvs) Q E hr gq I.env0 (hb s us I.kIn len) both h
  refine wpAny_call (codeAny_mono body fun res s' out => ?_)
  rcases res with er | fl
  · exact hx pins σ H s er s' I out
  · cases fl
    case ret u => exact I.after out
    all_goals exact False.elim out
theorem pg_call (F : FnG X.prog X.w X.K X.mg X.base CX k f fd ps sp) (hr : Room k X.A) (gq : Quiet X.A) (hg : Gl X x) (hm : X.mg x = some (.ref f))
    (hk : PySem.W.keepIn X.K (.ref f) = true) (hb : Binds X.K fd ps ds) (hd : Vals dvs ds) (hx : Passes CX X E)
    (ha : PA X (e :: es) t) (hdb : (x == ("__debug__" : Str)) = false := by decide)
    (he : starEach (e :: es) X.env = (false, eval e X.env) :: starEach es X.env := by rfl) (hpl : (backTo pos (starEach es X.env)).any (·.1) = false := by rfl) :
    PE X (.Call (.Name x p) (e :: es) [] pos) (tCall sp dvs E t) :=
  ⟨fun pins s σ H Q I h => wpAny_Call_Name_kw (ld_glob I hg hm (PySem.W.callWith_K (h₀ := X.base) I.ok.mod.kin hk
    (thn (ha.run pos pins s σ H _ I h) fun us s1 ⟨vs, H1, I1, r, q⟩ => ⟨I1.kIn, runG F hr gq hb hd hx I1 r q⟩) he hpl) hdb)⟩
theorem pg_call0 (F : FnG X.prog X.w X.K X.mg X.base CX k f fd ps sp) (hr : Room k X.A) (gq : Quiet X.A) (hg : Gl X x) (hm : X.mg x = some (.ref f))
    (hk : PySem.W.keepIn X.K (.ref f) = true) (hb : Binds X.K fd ps ds) (hd : Vals dvs ds) (hx : Passes CX X E) (hdb : (x == ("__debug__" : Str)) = false := by decide) :
    PE X (.Call (.Name x p) [] [] pos) (tCall sp dvs E tNil) :=
  ⟨fun pins s σ H Q I h => wpAny_Call_Name_kw (ld_glob I hg hm (PySem.W.callWith_K0 I.kIn hk (runG (us := []) F hr gq hb hd hx I .nil h)) hdb)⟩
end
theorem quiet_deeper {A : Around} {env : Env} (h : Quiet A) : Quiet (A.deeper env) := h
theorem quiet_make {A : Around} {C : Addr} {us : List Value} {kw : List (Str × Value)} (h : Quiet A) : Quiet (A.under (.builtin "type.__call__" ⟨.ref C :: us, kw⟩)) := by
  unfold Quiet at h ⊢
  first
    | rfl
    | (simp [Around.under, Code.guards, Code.isGuard, guardIds, pushGuards, h])
section
variable {P : Program} {w : World} {K : PySem.W.Frag} {mg : Str → Option Value} {base : Heap}
/-- a def, by its body -/
theorem fnG_of {CX : CXT} {k : Nat} {f : Addr} {name qual : Str} {params : Arguments} {body : List Stmt} {scope : Scope} {dV kV doc pm cdv ct oc : Value} {an od : Option Addr}
    {osl : Array (Option Value)} {N ps : List Str} {sp : Sp} (lk : K.lookup f = some ⟨oc, od, .func (PySem.W.fnOf name qual params body scope dV kV doc pm an cdv ct), osl⟩)
    (hcd : PySem.W.codeIn K cdv qual = true) (S : FnScope N ps scope) (len : ∀ vs H Q E, sp vs H Q E → vs.length = ps.length)
    (hbody : ∀ (A : Around) (outer : List Env) (s : Shared) (H : Hp) (vs : List V) (Q : VK) (E : XK),
      Room k (A.deeper (envOfC qual scope s.heap.objs.size f cdv)) → Quiet A → sp vs H Q E →
      ∃ t, PSs (cxOf CX P w K mg base N qual scope f cdv A outer s H E) body t ∧ t { nx := fun _ H' => Q .non H', rt := Q } (start N vs) H) :
    FnG P w K mg base CX (k + 1) f (PySem.W.fnOf name qual params body scope dV kV doc pm an cdv ct) ps sp where
  len := len
  run := fun A outer s H args us vs Q E hr gq e0 hb r hsp => by
    have old : ∀ b o, base.get? b = some o → s.heap.get? b = some o := fun b o e => (e0.bs b o e).1
    have KX : K.In s.heap := e0.mod.kin.keeps old
    have kinds : ∀ y ∈ ps.zip us, scope.names.lookup y.1 = some .local ∨
        (scope.names.lookup y.1 = some .cell ∧ ((cellsFrom (s.heap.objs.size + 1) scope.names []).lookup y.1).isSome = true) := by
      rintro ⟨n, v⟩ hy
      exact (S.par n (List.of_mem_zip hy).1).imp id fun q => ⟨q, PySem.W.cellsFrom_some _ _ _ (.inl q)⟩
    refine codeAny_call_function hr.depth (KX _ _ lk) rfl S.co S.gen rfl (PySem.W.codeRec_of KX hcd) (hb _ _ _ _ ?_)
    refine wpAny_newFunctionEnv_cells S.kind kinds fun env he s1 x => ?_
    subst he
    refine ⟨(e0.mod.nolimit.keeps old).keeps x.toInCall.keep, codeAny_func ?_⟩
    obtain ⟨t, ht, hq⟩ := hbody A outer s H vs Q E (hr.deeper _) gq hsp
    have I := inv_start (CX := CX) (E := E) (N := N) (f := f) (cd := cdv) (qual := qual) S hr.hd e0 (len _ _ _ _ hsp) r x
    refine wpAny_mono (ht.run [] s1 (start N vs) H _ I hq) (fun fl s' hs => ?_) fun _ _ z => z
    cases fl
    case ret u =>
      obtain ⟨v, _, H', J, rv, q⟩ := hs
      exact ⟨v, H', J.os, J.bare, J.base, J.hok, rv, q⟩
    case next =>
      obtain ⟨_, H', J, q⟩ := hs
      exact ⟨V.non, H', J.os, J.bare, J.base, J.hok, rfl, q⟩
    all_goals
      obtain ⟨_, _, _, q⟩ := hs
      exact False.elim q
end
end Tp
/-! # A def of the text, by name -/
namespace Tp
open PySem PySem.Spec PyProof.Rows L2
section
variable {P : Program} {w : World} {K : PySem.W.Frag} {mg : Str → Option Value} {base : Heap}
theorem okG {CX : CXT} {x qual : Str} {st : Stmt} {f : Addr} {fd : FuncData} {N ps : List Str} {k : Nat} {sp : Sp} (F : Fun K x qual st f fd) (S : FnScope N ps (defScope st))
    (len : ∀ vs H Q E, sp vs H Q E → vs.length = ps.length)
    (hbody : ∀ (cdv : Value) (A : Around) (outer : List Env) (s : Shared) (H : Hp) (vs : List V) (Q : VK) (E : XK),
      Room k (A.deeper (envOfC qual (defScope st) s.heap.objs.size f cdv)) → Quiet A → sp vs H Q E →
      ∃ t, PSs (cxOf CX P w K mg base N qual (defScope st) f cdv A outer s H E) (defBody st) t ∧ t { nx := fun _ H' => Q .non H', rt := Q } (start N vs) H) :
    FnG P w K mg base CX (k + 1) f fd ps sp := by
  obtain ⟨oc, od, kV, doc, pm, an, cdv, ct, osl, rfl, lk, hcd⟩ := F.ex
  exact fnG_of lk hcd S len fun A outer s H vs Q E hr gq hsp => hbody cdv A outer s H vs Q E hr gq hsp
/-- from the function object that a Hook tells -/
theorem fun_ofD {x qual : Str} {st : Stmt} {f : Addr} {fd : FuncData} (F : FunD K x qual (defArgs st) (defBody st) (defScope st) [] [] f fd) : Fun K x qual st f fd := by
  obtain ⟨⟨oc, od, dV, kV, doc, pm, an, cdv, ct, osl, e, lk, hcd, dfl, kwd⟩, kp⟩ := F
  have ed : dV = .none := by
    rcases dfl with z | z
    · exact z.2
    · exact absurd rfl z.1
  subst ed
  exact ⟨⟨oc, od, kV, doc, pm, an, cdv, ct, osl, e, lk, hcd⟩, kp⟩
/-! ### the law's call -/
theorem callG {mb : Str → Option Value} {CX : CXT} {k : Nat} {fa a : Addr} {fd : FuncData} {x : Str} {sp : Sp} {s₁ : Shared} {vs : List Value} {ns : List Int}
    (KX : K.In s₁.heap) (hns : s₁.heap.Ns mainGlobals mg) (hb : s₁.heap.Ns builtinsNs mb) (hbb : ∀ x : Str, x ≠ "__name__" → mb x = bootBuiltins x) (hlim : s₁.heap.NoLimit) (hg : s₁.gens = #[])
    (ha : s₁.heap.get? a = some { cls := .type "list", data := .seq vs.toArray }) (hi : IntsAre vs ns) (hl : ns.length ≤ sizeLine) (hr : Room k callerA)
    (F : ∀ base : Heap, K.In base → base.Ns mainGlobals mg → FnG P w K mg base CX k fa fd [x] sp) (hbind : ∀ (s : Shared) (u : Value), BindsTo s fd ⟨[u], []⟩ [(x, u)])
    (hsp : ∀ H : Hp, Only H → SqL K H a (ns.map V.int) → sp [.ref a] H (fun v _ => v = .bl true) fun _ _ _ => False)
    (hCX : ∀ H e s', CX [] H s₁ (fun _ _ _ => False) e s' → False) :
    codeAny (model P w) callerA (.call (.ref fa) ⟨[.ref a], []⟩) (fun r s' => r = .ok (.ret (.bool true)) ∧ OldK s₁.heap s'.heap ∧ s'.os = s₁.os ∧ AllBare s'.gens) s₁ := by
  have lenV := hi.length
  -- what the call does from an abstract heap that tracks at most the script
  suffices core : ∀ H : Hp, Only H → SqL K H a (ns.map V.int) → HOk P w H s₁.heap → (∀ b u, H b = some u → b = a) → (∀ u, H a = some u → K.lookup a = none) →
      codeAny (model P w) callerA (.call (.ref fa) ⟨[.ref a], []⟩) (fun r s' => r = .ok (.ret (.bool true)) ∧ OldK s₁.heap s'.heap ∧ s'.os = s₁.os ∧ AllBare s'.gens) s₁ by
    cases hk : K.lookup a with
    | some o =>
      have e := KX a o hk
      rw [ha] at e
      cases e
      refine core (fun _ => none) (fun _ => .inl rfl) (.inr ⟨_, vs.toArray, _, hk, rfl, rfl, rfl, ?_, ?_⟩) ?_ ?_ ?_
      · rw [List.size_toArray, lenV]
        exact hl
      · rw [List.toList_toArray]
        exact vals_ints hi
      · exact fun b u z => nomatch (show (none : Option HO) = some u from z)
      · exact fun b u z => nomatch (show (none : Option HO) = some u from z)
      · exact fun u z => nomatch (show (none : Option HO) = some u from z)
    | none =>
      let H : Hp := upd (fun _ => none) a (.frz { cls := .type "list", data := .seq vs.toArray } (.lst (ns.map V.int)))
      have only : ∀ b u, H b = some u → b = a ∧ u = .frz { cls := .type "list", data := .seq vs.toArray } (.lst (ns.map V.int)) := by
        intro b u z
        by_cases q : b = a
        · rw [q, show H a = _ from upd_same] at z
          exact ⟨q, (Option.some.inj z).symm⟩
        · rw [show H b = _ from upd_ne q] at z
          cases z
      refine core H (fun b => ?_) (.inl (.inr ⟨_, upd_same⟩)) (fun b u z => ?_) (fun b u z => (only b u z).1) fun _ _ => hk
      · cases z : H b with
        | none => exact .inl rfl
        | some u => exact .inr ⟨_, _, by rw [(only b u z).2]⟩
      · obtain ⟨rfl, rfl⟩ := only b u z
        exact ⟨ha, by rw [List.length_map]; exact hl, vs, _, vals_ints hi, ha⟩
  intro H hO hS hok hA hK
  have free : ∀ {b : Addr} {o : Obj}, s₁.heap.get? b = some o → (b = a → False) → H b = none := fun {b o} _ n => by
    cases q : H b with
    | none => rfl
    | some u => exact (n (hA b u q)).elim
  have isD : ∀ {b : Addr} {o : Obj} {es : Array DictEntry} {ep : Nat}, s₁.heap.get? b = some o → o.data = .dict es ep → H b = none := fun {b o es ep} e d => free e fun q => by
    rw [q, ha] at e
    cases e
    exact nomatch (show Data.seq vs.toArray _ = Data.dict es ep from d)
  have ns2 : ∀ {b : Addr} {m : Str → Option Value}, s₁.heap.Ns b m → (hidT s₁.heap H).Ns b m := by
    rintro b m ⟨o, es, ep, e, d, r⟩
    exact ⟨o, es, ep, hidT_get e (isD e d), d, r⟩
  have kin : K.In (hidT s₁.heap H) := fun b o e => by
    refine hidT_get (KX b o e) ?_
    cases q : H b with
    | none => rfl
    | some u =>
      have z := hA b u q
      rw [z] at q e
      rw [hK u q] at e
      cases e
  obtain ⟨mc, h1, h2⟩ := hlim
  have env : Env0 P w K mg (hidT s₁.heap H) callerA [] s₁ H :=
    ⟨rfl, ⟨kin, ns2 hns, ⟨mb, ns2 hb, hbb⟩, ⟨mc, ns2 h1, h2⟩⟩, fun b o e => of_hidT e, Nat.le_of_eq (hidT_size _ _), trivial, fun b z => absurd z List.not_mem_nil, hok, .of_eq hg⟩
  have go := (F _ kin (ns2 hns)).run callerA [] s₁ H ⟨[.ref a], []⟩ [.ref a] [.ref a] _ _ hr rfl env (hbind s₁ (.ref a)) (.cons rfl .nil) (hsp H hO hS)
  refine codeAny_mono go fun r s' h => ?_
  rcases r with er | fl
  · exact (hCX H er s' h).elim
  · cases fl
    case ret u =>
      obtain ⟨v, H', os, bare, un, hok', r', q⟩ := h
      cases (show v = .bl true from q)
      cases (show u = Value.bool true from r')
      refine ⟨rfl, OldK.of_keep fun b o e => ?_, os, bare⟩
      cases q : H b with
      | none => exact un.keep b o e q (fun z => absurd z List.not_mem_nil) List.not_mem_nil
      | some u =>
        rcases hO b with z | ⟨ob, xs, z⟩
        · rw [q] at z
          cases z
        · obtain ⟨e1, _⟩ := hok b _ z
          obtain ⟨e2, _⟩ := hok' b _ (un.frzs b ob _ z)
          rw [e] at e1
          cases e1
          exact e2
    all_goals exact False.elim h
theorem walkG {l : PySem.W.OpenLaw} {n k : Nat} {q : Program} {loose : List Str} {XP : (Str → Option Value) → Heap → Prop} {YP : World → Heap → Prop} {d : DefRec} {CX : CXT} {x : Str}
    (hn : l.most = some n) (hn2 : n ≤ sizeLine) (hdf : d.params.defaults = []) (hr : Room k callerA)
    (F : ∀ (w : World) (mg : Str → Option Value) (fa : Addr) (h : Heap), YP w h → h.Ns mainGlobals mg → mg d.name = some (.ref fa) →
      ∃ (K : PySem.W.Frag) (fd : FuncData) (sp : Sp), K.In h ∧ (∀ (s : Shared) (u : Value), BindsTo s fd ⟨[u], []⟩ [(x, u)]) ∧
        (∀ (H : Hp) (a : Addr) (ns : List Int), ns.length ≤ n → Only H → SqL K H a (ns.map V.int) → sp [.ref a] H (fun v _ => v = .bl true) fun _ _ _ => False) ∧
        ∀ base : Heap, K.In base → base.Ns mainGlobals mg → FnG l.prog w K mg base CX k fa fd [x] sp)
    (hCX : ∀ (H : Hp) (s : Shared) (e : Value) (s' : Shared), CX [] H s (fun _ _ _ => False) e s' → False) :
    PySem.W.WalkO q loose XP YP l.row.toRowW d [] (fun f vs => PySem.call f vs) := by
  refine Att.attach_call hn hdf fun w _ s₁ mg _ fa o pm cd doc a vs ns G Y ho hd hcd hmg hobj hints hlen hg => ?_
  obtain ⟨K, fd, sp, KX, hb, hsp, hF⟩ := F w mg fa _ Y G.T.g hmg
  exact callG KX G.T.g G.T.b G.T.builtins G.T.nolimit hg hobj hints (Nat.le_trans hlen hn2) hr hF hb (fun H hO hS => hsp H a ns hlen hO hS) (fun H e s' => hCX H s₁ e s')
end
end Tp

/-! # Data: None, bools, ints, texts, lists, tuples, dicts with int and text keys -/
namespace Tp
open PySem PySem.Spec PyProof.Rows L2
def kD : L2.Key → PyData
  | .inl i => .int i
  | .inr x => .str x
mutual
inductive Dt (K : PySem.W.Frag) (H : Hp) : V → PyData → Prop
  | non : Dt K H .non .none
  | bl (b : Bool) : Dt K H (.bl b) (.bool b)
  | int (i : Int) : Dt K H (.int i) (.int i)
  | str (x : Str) : Dt K H (.str x) (.str x)
  | lst {a : Addr} {xs : List V} {ds : List PyData} : SqL K H a xs → DtAll K H xs ds → Dt K H (.ref a) (.list ds)
  | tup {a : Addr} {xs : List V} {ds : List PyData} : SqT K H a xs → DtAll K H xs ds → Dt K H (.ref a) (.tuple ds)
  | dic {a : Addr} {kvs : List (L2.Key × V)} {ds : List (PyData × PyData)} : Rd H a (.dK kvs) → DtKv K H kvs ds → Dt K H (.ref a) (.dict ds)
inductive DtAll (K : PySem.W.Frag) (H : Hp) : List V → List PyData → Prop
  | nil : DtAll K H [] []
  | cons {v : V} {vs : List V} {d : PyData} {ds : List PyData} : Dt K H v d → DtAll K H vs ds → DtAll K H (v :: vs) (d :: ds)
inductive DtKv (K : PySem.W.Frag) (H : Hp) : List (L2.Key × V) → List (PyData × PyData) → Prop
  | nil : DtKv K H [] []
  | cons {k : L2.Key} {v : V} {vs : List (L2.Key × V)} {d : PyData} {ds : List (PyData × PyData)} : Dt K H v d → DtKv K H vs ds → DtKv K H ((k, v) :: vs) ((kD k, d) :: ds)
end
theorem _root_.L2.Same.rdd {H H' : Hp} (e : Same H H') {a : Addr} {u : HO} (h : Rd H a u) : Rd H' a u := h.imp (e _ _) fun ⟨o, q⟩ => ⟨o, e _ _ q⟩
theorem _root_.L2.Same.sqLd {K : PySem.W.Frag} {H H' : Hp} (e : Same H H') {a : Addr} {xs : List V} (h : SqL K H a xs) : SqL K H' a xs := h.imp e.rdd id
theorem _root_.L2.Same.sqTd {K : PySem.W.Frag} {H H' : Hp} (e : Same H H') {a : Addr} {xs : List V} (h : SqT K H a xs) : SqT K H' a xs := h.imp e.rdd id
section
variable {K : PySem.W.Frag} {H H' : Hp}
mutual
theorem Dt.mono (e : Same H H') : ∀ {d : PyData} {v : V}, Dt K H v d → Dt K H' v d
  | .none, _, h => by
    cases h
    exact .non
  | .bool b, _, h => by
    cases h
    exact .bl b
  | .int i, _, h => by
    cases h
    exact .int i
  | .str x, _, h => by
    cases h
    exact .str x
  | .list ds, _, h => by
    cases h with
    | lst hs ha => exact .lst (e.sqLd hs) (DtAll.mono e ha)
  | .tuple ds, _, h => by
    cases h with
    | tup hs ha => exact .tup (e.sqTd hs) (DtAll.mono e ha)
  | .dict ds, _, h => by
    cases h with
    | dic hs ha => exact .dic (e.rdd hs) (DtKv.mono e ha)
theorem DtAll.mono (e : Same H H') : ∀ {ds : List PyData} {vs : List V}, DtAll K H vs ds → DtAll K H' vs ds
  | [], _, h => by
    cases h
    exact .nil
  | d :: ds, _, h => by
    cases h with
    | cons h1 h2 => exact .cons (Dt.mono e h1) (DtAll.mono e h2)
theorem DtKv.mono (e : Same H H') : ∀ {ds : List (PyData × PyData)} {vs : List (L2.Key × V)}, DtKv K H vs ds → DtKv K H' vs ds
  | [], _, h => by
    cases h
    exact .nil
  | (_, d) :: ds, _, h => by
    cases h with
    | cons h1 h2 => exact .cons (Dt.mono e h1) (DtKv.mono e h2)
end
theorem DtAll.length : ∀ {ds : List PyData} {vs : List V}, DtAll K H vs ds → vs.length = ds.length
  | [], _, h => by
    cases h
    rfl
  | d :: ds, _, h => by
    cases h with
    | cons h1 h2 => rw [List.length_cons, List.length_cons, DtAll.length h2]
theorem DtAll.at : ∀ {ds : List PyData} {vs : List V} {i : Nat} {v : V}, DtAll K H vs ds → vs[i]? = some v → ∃ d, ds[i]? = some d ∧ Dt K H v d
  | [], _, i, v, h, e => by
    cases h
    cases e
  | d :: ds, _, i, v, h, e => by
    cases h with
    | cons h1 h2 =>
      cases i with
      | zero =>
        cases e
        exact ⟨d, rfl, h1⟩
      | succ i => exact DtAll.at (i := i) h2 e
theorem DtAll.back : ∀ {ds : List PyData} {vs : List V} {i : Nat} {d : PyData}, DtAll K H vs ds → ds[i]? = some d → ∃ v, vs[i]? = some v ∧ Dt K H v d
  | [], _, i, v, h, e => by cases e
  | d :: ds, _, i, v, h, e => by
    cases h with
    | cons h1 h2 =>
      cases i with
      | zero =>
        cases e
        exact ⟨_, rfl, h1⟩
      | succ i => exact DtAll.back (i := i) h2 e
theorem DtAll.append : ∀ {ds es : List PyData} {vs us : List V}, DtAll K H vs ds → DtAll K H us es → DtAll K H (vs ++ us) (ds ++ es)
  | [], _, _, _, h, k => by
    cases h
    exact k
  | d :: ds, _, _, _, h, k => by
    cases h with
    | cons h1 h2 => exact .cons h1 (DtAll.append h2 k)
theorem DtAll.snoc {ds : List PyData} {vs : List V} {d : PyData} {v : V} (h : DtAll K H vs ds) (k : Dt K H v d) : DtAll K H (vs ++ [v]) (ds ++ [d]) := h.append (.cons k .nil)
end
/-- the module table's place is taken by a dict of the interpreter -/
def SysK (K : PySem.W.Frag) : Prop := ∃ o, K.lookup sysModules = some o ∧ o.cls = .type "dict"
def sysB (K : PySem.W.Frag) : Bool := match K.lookup sysModules with
  | some o => o.cls == .type "dict"
  | none => false
theorem sysB_ok {K : PySem.W.Frag} (h : sysB K = true) : SysK K := by
  unfold sysB at h
  cases e : K.lookup sysModules with
  | none =>
    rw [e] at h
    cases h
  | some o =>
    rw [e] at h
    exact ⟨o, e, eq_of_beq h⟩
section
variable {X : Cx} {pins : List (Addr × Obj)} {σ : L2.St} {H : Hp} {s : Shared}
theorem key_reads {k : L2.Key} {v : Value} {h : Heap} (e : keyIs k v = true) : Reads h v (kD k) [] := by
  rcases keyIs_shape e with ⟨i, t, rfl, rfl⟩ | ⟨x, t, rfl, rfl⟩
  · exact Reads.int i t
  · exact Reads.str x t
theorem keys_read {P : Program} {w : World} {h : Heap} : ∀ {es : List DictEntry} {kvs : List (L2.Key × Value)}, Pairs (mixKind P w) es kvs → ReadsAll h (es.map (·.key)) (kvs.map fun q => kD q.1) []
  | _, _, .nil => .nil
  | _, _, .cons h1 _ h3 => .cons (bs := []) (as := []) (key_reads h1) (keys_read h3)
theorem vals_of_pairs {P : Program} {w : World} : ∀ {es : List DictEntry} {kvs : List (L2.Key × Value)}, Pairs (mixKind P w) es kvs → es.map (·.val) = kvs.map (·.2)
  | _, _, .nil => rfl
  | _, _, .cons _ h2 h3 => by
    rw [List.map_cons, List.map_cons, h2, vals_of_pairs h3]
theorem kv_split {K : PySem.W.Frag} {H : Hp} : ∀ {ds : List (PyData × PyData)} {kvs : List (L2.Key × V)} {vs : List (L2.Key × Value)}, DtKv K H kvs ds → KV kvs vs →
    ds.map (·.1) = vs.map (fun q => kD q.1) ∧ DtAll K H (kvs.map (·.2)) (ds.map (·.2)) ∧ Vals (kvs.map (·.2)) (vs.map (·.2))
  | [], _, _, h, r => by
    cases h
    cases r
    exact ⟨rfl, .nil, .nil⟩
  | (_, d) :: ds, _, _, h, r => by
    cases h with
    | cons h1 h2 =>
      cases r with
      | cons q1 q2 =>
        obtain ⟨a, b, c⟩ := kv_split h2 q2
        refine ⟨?_, .cons h1 b, .cons q1.2 c⟩
        rw [List.map_cons, List.map_cons, a]
        exact congrArg (fun z => kD z :: _) q1.1
mutual
theorem Dt.reads (hs : SysK X.K) (I : Inv X pins σ H s) : ∀ (d : PyData) (v : V) (u : Value), Dt X.K H v d → RelV v u → ∃ as, Reads s.heap u d as ∧ sysModules ∉ as
  | .none, _, _, h, r => by
    cases h
    cases r
    exact ⟨_, Reads.none, List.not_mem_nil⟩
  | .bool b, _, _, h, r => by
    cases h
    cases r
    exact ⟨_, Reads.bool b, List.not_mem_nil⟩
  | .int i, _, _, h, r => by
    cases h
    obtain ⟨t, rfl⟩ := r
    exact ⟨_, Reads.int i t, List.not_mem_nil⟩
  | .str x, _, _, h, r => by
    cases h
    obtain ⟨t, rfl⟩ := r
    exact ⟨_, Reads.str x t, List.not_mem_nil⟩
  | .list ds, _, _, h, r => by
    cases h with
    | @lst a _ _ hq ha =>
      cases r
      obtain ⟨its, rv, ⟨o, n, ho, hc, _, hd⟩, _⟩ := I.list hq
      obtain ⟨as, hr, na⟩ := DtAll.reads hs I ds _ its ha rv
      refine ⟨_, Reads.list ho hc hd hr, fun z => ?_⟩
      rcases List.mem_cons.mp z with z | z
      · obtain ⟨o', e, c⟩ := hs
        have q := I.kIn _ _ e
        rw [z, ho] at q
        cases q
        rw [hc] at c
        exact absurd (Value.type.inj c) (by decide)
      · exact na z
  | .tuple ds, _, _, h, r => by
    cases h with
    | tup hq ha =>
      cases r
      obtain ⟨its, rv, ⟨o, ho, hc, n, hd⟩, _⟩ := I.tuple hq
      obtain ⟨as, hr, na⟩ := DtAll.reads hs I ds _ its ha rv
      exact ⟨_, Reads.tuple ho hc hd hr, na⟩
  | .dict ds, _, _, h, r => by
    cases h with
    | @dic a kvs _ hq ha =>
      cases r
      obtain ⟨_, ne, vs, kv, o, es, ep, ho, hx, hd, _, hp, _⟩ := (show ObjOk X.prog X.w H s.heap a (.dK kvs) from hq.ok I.hok)
      obtain ⟨e1, e2, e3⟩ := kv_split ha kv
      obtain ⟨bs, hr, nb⟩ := DtKv.reads hs I ds _ _ e2 e3
      refine ⟨_, Reads.dict ho hx.1 hd (by rw [e1]; exact keys_read hp) (by rw [vals_of_pairs hp]; exact hr), fun z => ?_⟩
      rcases List.mem_append.mp z with z | z
      · have e : sysModules = a := by simpa using z
        rw [e] at ne
        simp at ne
      · exact nb z
theorem DtAll.reads (hs : SysK X.K) (I : Inv X pins σ H s) : ∀ (ds : List PyData) (vs : List V) (us : List Value), DtAll X.K H vs ds → Vals vs us → ∃ as, ReadsAll s.heap us ds as ∧ sysModules ∉ as
  | [], _, _, h, r => by
    cases h
    cases r
    exact ⟨_, ReadsAll.nil, List.not_mem_nil⟩
  | d :: ds, _, _, h, r => by
    cases h with
    | cons h1 h2 =>
      cases r with
      | cons r1 r2 =>
        obtain ⟨as, q1, n1⟩ := Dt.reads hs I d _ _ h1 r1
        obtain ⟨bs, q2, n2⟩ := DtAll.reads hs I ds _ _ h2 r2
        exact ⟨_, ReadsAll.cons q1 q2, fun z => (List.mem_append.mp z).elim n1 n2⟩
theorem DtKv.reads (hs : SysK X.K) (I : Inv X pins σ H s) : ∀ (ds : List (PyData × PyData)) (vs : List V) (us : List Value), DtAll X.K H vs (ds.map (·.2)) → Vals vs us → ∃ as, ReadsAll s.heap us (ds.map (·.2)) as ∧ sysModules ∉ as
  | [], _, _, h, r => by
    cases h
    cases r
    exact ⟨_, ReadsAll.nil, List.not_mem_nil⟩
  | (_, d) :: ds, _, _, h, r => by
    cases h with
    | cons h1 h2 =>
      cases r with
      | cons r1 r2 =>
        obtain ⟨as, q1, n1⟩ := Dt.reads hs I d _ _ h1 r1
        obtain ⟨bs, q2, n2⟩ := DtKv.reads hs I ds _ _ h2 r2
        exact ⟨_, ReadsAll.cons q1 q2, fun z => (List.mem_append.mp z).elim n1 n2⟩
end
end
/-! ### repr -/
section
variable {X : Cx}
def rRepr (K : PySem.W.Frag) : List V → Hp → VK → Prop := fun xs H Q => ∃ v d, xs = [v] ∧ Dt K H v d ∧ d.showable = true ∧ d.depth ≤ 60 ∧ d.shown.length ≤ sizeLine ∧ Q (.str d.shown) H
theorem cr_repr (hs : SysK X.K) (gq : Quiet X.A) (hu : X.A.units + 64 < cLine) : CallR X (.builtin "repr") (rRepr X.K) := by
  intro pins s σ H xs us Q I r h
  obtain ⟨v, d, rfl, hd, sh, dp, sz, q⟩ := h
  cases r with
  | cons rv rn =>
    rename_i u us'
    cases rn
    obtain ⟨as, hr, na⟩ := Dt.reads hs I d v u hd rv
    have fin : ∀ (h' : Heap) (t tk : Nat), (∀ b o, s.heap.get? b = some o → h'.get? b = some o) → EP X pins σ Q (.str d.shown t) { s with heap := h', toks := tk } := fun h' t tk k =>
      ⟨.str d.shown, H, I.kept (t' := tk) k, ⟨t, rfl⟩, q⟩
    cases hr with
    | none =>
      have f := fin s.heap s.toks (s.toks + 1) fun _ _ z => z
      simp only [PyData.shown] at f
      exact PySem.P.repr_of_none f
    | bool b =>
      have f := fin s.heap s.toks (s.toks + 1) fun _ _ z => z
      simp only [PyData.shown] at f
      exact PySem.P.repr_of_bool f
    | int i t =>
      have f := fin s.heap s.toks (s.toks + 1) fun _ _ z => z
      simp only [PyData.shown] at f
      exact PySem.P.repr_of_int (by simpa only [PyData.showable, decide_eq_true_eq] using sh) f
    | str x t =>
      have f := fin s.heap s.toks (s.toks + 1) fun _ _ z => z
      simp only [PyData.shown] at f sz
      exact PySem.P.repr_of_str f sz
    | list h1 h2 h3 h4 => exact repr_of_reads' (Reads.list h1 h2 h3 h4) sh (fun _ => na) gq (by omega) (fun _ _ z => z) fin sz
    | tuple h1 h2 h3 h4 => exact repr_of_reads' (Reads.tuple h1 h2 h3 h4) sh (fun _ => na) gq (by omega) (fun _ _ z => z) fin sz
    | dict h1 h2 h3 h4 h5 => exact repr_of_reads' (Reads.dict h1 h2 h3 h4 h5) sh (fun _ => na) gq (by omega) (fun _ _ z => z) fin sz
end
end Tp

/-! # == of one value with itself; errors of own classes as values -/
namespace Tp
open PySem PySem.Spec PyProof.Rows L2
section
variable {X : Cx} {pins : List (Addr × Obj)} {σ : L2.St} {H : Hp} {s : Shared}
theorem same_at {A : Around} {K : PySem.W.Frag} {d : PyData} {v : V} {u u' : Value} (h : Dt K H v d) (r : RelV v u) (r' : RelV v u') : SeqAt.EqAt A s u u' true := by
  cases h with
  | lst _ _ =>
    cases r
    cases r'
    exact SeqAt.EqAt.same _
  | tup _ _ =>
    cases r
    cases r'
    exact SeqAt.EqAt.same _
  | dic _ _ =>
    cases r
    cases r'
    exact SeqAt.EqAt.same _
  | _ => exact eqAt_same r r' rfl
theorem all_same {A : Around} {K : PySem.W.Frag} : ∀ {ds : List PyData} {vs : List V} {us us' : List Value}, DtAll K H vs ds → Vals vs us → Vals vs us' → ∀ j (h1 : j < us.length) (h2 : j < us'.length), SeqAt.EqAt A s us[j] us'[j] true
  | [], _, _, _, h, r, r', j, h1, _ => by
    cases h
    cases r
    exact absurd h1 (Nat.not_lt_zero j)
  | d :: ds, _, _, _, h, r, r', j, h1, h2 => by
    cases h with
    | cons q1 q2 =>
      cases r with
      | cons a1 a2 =>
        cases r' with
        | cons b1 b2 =>
          cases j with
          | zero => exact same_at q1 a1 b1
          | succ j => exact all_same q2 a2 b2 j (Nat.lt_of_succ_lt_succ h1) (Nat.lt_of_succ_lt_succ h2)
theorem all_range1 (n : Nat) : ((List.range n).all fun _ => true) = true := List.all_eq_true.mpr fun _ _ => rfl
/-- a value beside itself -/
def rEqS (K : PySem.W.Frag) : R2 := fun x y H Q => x = y ∧ (∃ d, Dt K H x d) ∧ Q (.bl true) H
theorem dict_same {P : Program} {w : World} {A : Around} {vb : List (L2.Key × Value)} {ls : List (L2.Key × V)} (rb : KV ls vb) (nd : (ls.map (·.1)).Nodup) (dt : ∀ p ∈ ls, ∃ d, Dt X.K H p.2 d) :
    ∀ {ks : List (L2.Key × V)} {va : List (L2.Key × Value)}, KV ks va → (∀ p ∈ ks, p ∈ ls) → PySem.W.KeqHitsP P w A s vb va true
  | [], _, ra, _ => by
    cases ra
    exact .nil
  | p :: ps, _, ra, hp => by
    cases ra with
    | @cons _ q _ qs h t =>
      obtain ⟨key, v⟩ := q
      obtain ⟨h1, h2⟩ := h
      have m := hp p List.mem_cons_self
      have e : valV ls p.1 = some p.2 := val_nodup nd p m
      have rr : RelO (some p.2) (valueAt vb p.1) := by
        rw [← e]
        exact rb.val p.1
      obtain ⟨y, hy, ry⟩ := rr.some_of
      obtain ⟨d, hd⟩ := dt p m
      rw [show p.1 = key from h1] at hy
      show PySem.W.KeqHitsP P w A s vb ((key, v) :: qs) (true && true)
      exact .hit hy (same_at hd h2 ry).eqP (dict_same rb nd dt t fun p' z => hp p' (List.mem_cons_of_mem _ z))
theorem kv_dt {K : PySem.W.Frag} {H : Hp} : ∀ {ds : List (PyData × PyData)} {kvs : List (L2.Key × V)}, DtKv K H kvs ds → ∀ p ∈ kvs, ∃ d, Dt K H p.2 d
  | [], _, h, p, m => by
    cases h
    cases m
  | (_, d) :: ds, _, h, p, m => by
    cases h with
    | cons h1 h2 =>
      rcases List.mem_cons.mp m with z | z
      · rw [z]
        exact ⟨_, h1⟩
      · exact kv_dt h2 p z
theorem kv_keys : ∀ {kvs : List (L2.Key × V)} {vs : List (L2.Key × Value)}, KV kvs vs → kvs.map (·.1) = vs.map (·.1)
  | _, _, .nil => rfl
  | _, _, .cons h t => by
    rw [List.map_cons, List.map_cons, kv_keys t, h.1]
theorem op_eqS (hu : X.A.units + 64 < cLine) : OpR X (compareOp .Eq) (rEqS X.K) := by
  intro pins s σ H x y v u Q I rx ry h
  obtain ⟨rfl, ⟨d, hd⟩, q⟩ := h
  have fin : EP X pins σ Q (.bool true) s := ⟨.bl true, H, I, rfl, q⟩
  have hu1 : X.A.units < cLine := by omega
  have sc : ∀ z : V, x = z → scal z z = true → wpAny (model X.prog X.w) X.A (compareOp .Eq v u) (EP X pins σ Q) X.xe s := by
    rintro z rfl hz
    refine op_eq pins s σ H x x v u Q I rx ry ⟨hz, ?_⟩
    rw [decide_eq_true rfl]
    exact q
  cases hd with
  | non => exact sc _ rfl rfl
  | bl b => exact sc _ rfl rfl
  | int i => exact sc _ rfl rfl
  | str z => exact sc _ rfl rfl
  | @lst a xs ds hq ha =>
    cases rx
    cases ry
    obtain ⟨its, rv, p, _⟩ := I.list hq
    refine SeqAt.RcAt.lists (e := fun _ => true) p.isList p.isList rfl hu1 (fun j h1 h2 => ?_) X.prog X.w X.xe _ ?_
    · have k := all_same (A := X.A.in1) (s := s) ha rv rv j (by simpa using h1) (by simpa using h2)
      simpa using k
    · rw [all_range1]
      exact fin
  | @tup a xs ds hq ha =>
    cases rx
    cases ry
    obtain ⟨its, rv, p, _⟩ := I.tuple hq
    refine SeqAt.RcAt.tuples (e := fun _ => true) p p hu1 (fun j h1 h2 => ?_) X.prog X.w X.xe _ ?_
    · have k := all_same (A := X.A.in1) (s := s) ha rv rv j (by simpa using h1) (by simpa using h2)
      simpa using k
    · rw [all_range1, Bool.true_and, beq_self_eq_true]
      exact fin
  | @dic a kvs ds hq ha =>
    cases rx
    cases ry
    obtain ⟨_, ne, vs, kv, dv⟩ := (show ObjOk X.prog X.w H s.heap a (.dK kvs) from hq.ok I.hok)
    obtain ⟨_, _, _, _, _, _, _, _, nd⟩ := id dv
    have nk : (kvs.map (·.1)).Nodup := by
      rw [kv_keys kv]
      exact nd
    refine PySem.W.rcP_dicts (knd := mixKind X.prog X.w) (r := true) ne ne dv dv hu1 (fun _ => dict_same (X := X) (H := H) kv nk (kv_dt ha) kv fun _ z => z) X.xe _ ?_
    rw [beq_self_eq_true, Bool.true_and]
    exact fin
end
end Tp

/-! # Errors of own classes, held as values: made, a field read, isinstance asked -/
namespace Tp
open PySem PySem.Spec PyProof.Rows L2
/-- what the written part says of such a class, beyond OexC -/
structure ErrC (K : PySem.W.Frag) (C : Addr) : Prop where
  ox : OexC K C
  ga : PySem.W.findIn K (.ref C) "__getattribute__" = some (some (.builtin "BaseException.__getattribute__"))
  gg : PySem.W.findIn K (.ref C) "__getattr__" = some none
  hd : PySem.W.hasDictIn K C = true
  ac : PySem.W.findIn K (.ref C) "__class__" = some (some (.builtin "object.__class__"))
  gc : PySem.W.specialIn K (.builtin "object.__class__") "__get__" = some (some (.builtin "getset_descriptor.__get__"))
  tc : PySem.W.takesIn K (.builtin "object.__class__") = some true
  mo : PySem.W.mroIn K C (.type "object") = some true
  nv : PySem.W.findIn K (.ref C) "value" = some none
/-- at e an error of the class at C whose own dict, at d, holds the fields fs -/
def ErrAt0 (H : Hp) (e C d : Addr) (fs : List (Str × V)) : Prop := H e = some (exo e C (some d)) ∧ H d = some (exd d fs)
/-- an error that was caught: its other parts are whatever they are -/
def exq (e C : Addr) (d : Option Addr) : HO := .ext fun h => ∃ (o : Obj) (vs : Array Value), h.get? e = some o ∧ o.cls = .ref C ∧ o.dict = d ∧ o.data = .fields vs
def ErrAt1 (H : Hp) (e C d : Addr) (fs : List (Str × V)) : Prop := H e = some (exq e C (some d)) ∧ H d = some (.xd fs)
def ErrAt (H : Hp) (e C d : Addr) (fs : List (Str × V)) : Prop := ErrAt0 H e C d fs ∨ ErrAt1 H e C d fs
theorem ErrAt.mono {H H' : Hp} {e C d : Addr} {fs : List (Str × V)} (z : Same H H') (h : ErrAt H e C d fs) : ErrAt H' e C d fs := h.imp (fun h => ⟨z _ _ h.1, z _ _ h.2⟩) (fun h => ⟨z _ _ h.1, z _ _ h.2⟩)
section
variable {X : Cx} {pins : List (Addr × Obj)} {σ : L2.St} {H : Hp} {s : Shared} {e C d : Addr} {fs : List (Str × V)}
theorem ErrAt.inst (I : Inv X pins σ H s) (h : ErrAt H e C d fs) : ∃ (oe od : Obj) (mA : Str → Option Value), PySem.W.InstAt s.heap e oe C (some od) ∧ (∀ f, PySem.W.lookIn f od = some (mA f)) ∧ ∀ f, RelO (fs.lookup f) (mA f) := by
  rcases h with h | h
  · obtain ⟨t1, ho⟩ := exo_at I.hok h.1
    obtain ⟨mA, hns, rel⟩ := exd_at I.hok h.2
    obtain ⟨od, hd, hl⟩ := lookIn_ns hns
    exact ⟨_, od, mA, ⟨ho, rfl, rfl, hd⟩, hl, rel⟩
  · have x : ObjOk X.prog X.w H s.heap e (exq e C (some d)) := I.hok e _ h.1
    obtain ⟨o, vs, ho, c1, c2, c3⟩ := x.1
    have y : ObjOk X.prog X.w H s.heap d (.xd fs) := I.hok d _ h.2
    obtain ⟨mA, hns, rel⟩ := y
    obtain ⟨od, hd, hl⟩ := lookIn_ns hns
    exact ⟨o, od, mA, ⟨ho, c1, by unfold PySem.W.notCls; rw [c3], by rw [c2]; exact hd⟩, hl, rel⟩
end
/-- e.f -/
def tErrF (K : PySem.W.Frag) (f : Str) (te : TE) : TE := fun σ H Q => te σ H fun x H1 => ∃ (e C d : Addr) (fs : List (Str × V)) (v : V), x = .ref e ∧ ErrC K C ∧ PySem.W.findIn K (.ref C) f = some none ∧ ErrAt H1 e C d fs ∧ fs.lookup f = some v ∧ Q v H1
/-- isinstance(e, c) -/
def rIsX (K : PySem.W.Frag) : List V → Hp → VK → Prop := fun xs H Q => ∃ (e C d : Addr) (fs : List (Str × V)) (c : V) (cv : Value) (b : Bool), xs = [.ref e, c] ∧ ErrC K C ∧ ErrAt H e C d fs ∧ (∀ u, RelV c u → u = cv) ∧ PySem.W.kitOne K (.ref C) cv = some b ∧ Q (.bl b) H
/-- C(a, ..), the error kept as a value; sp: what __init__ promises -/
def tErrM (C : Addr) (sp : Sp) (dvs : List V) (ta : TA) : TE := fun σ H Q => ta σ H fun vs H1 => vs.length ≤ 1000 ∧ ∀ e, H1 e = none → sp (.ref e :: (vs ++ dvs)) (upd H1 e (exo e C none)) (fun v H2 => v = .non ∧ Q (.ref e) H2) (fun _ _ _ => False)
section
variable {X : Cx} {o e : Expr} {es : List Expr} {te : TE} {ta : TA} {f : Str} {p pos : Pos}
theorem pe_errF (he : PE X e te) (hb : attributeBase e f X.env (eval e X.env) = eval e X.env := by rfl) : PE X (.Attribute e f pos) (tErrF X.K f te) := by
  refine ⟨fun pins s σ H Q I h => attr_of hb (thn (he.run pins s σ H _ I h) fun u s1 hh => ?_)⟩
  obtain ⟨x, H1, I1, rx, a, C, d, fs, v, ex, T, nf, at_, lk, q⟩ := hh
  subst ex
  cases (show u = Value.ref a from rx)
  obtain ⟨oe, od, mA, J, hl, rel⟩ := at_.inst I1
  obtain ⟨w, hw, rw'⟩ := RelO.some_of (v := v) (o := mA f) (by
    rw [← lk]
    exact rel f)
  exact HandSPX.exc_get I1.kIn J T.ga T.gg T.ox.exC (PySem.W.findObj_own T.hd nf rfl (by rw [hl, hw])) (handed_of rw') ⟨v, H1, I1.tok _, rw', q⟩
theorem cr_isX : CallR X (.builtin "isinstance") (rIsX X.K) := by
  intro pins s σ H xs us Q I r h
  obtain ⟨a, C, d, fs, c, cv, b, rfl, T, at_, hc, hk, q⟩ := h
  cases r with
  | cons rx rr =>
    cases rr with
    | cons rt rr =>
      cases rr
      cases rx
      have ec := hc _ rt
      subst ec
      obtain ⟨oe, od, mA, J, _, _⟩ := at_.inst I
      have cl : (PySem.W.clsIn X.K C).isSome = true := by
        obtain ⟨cd, z, _⟩ := PySem.W.any_some T.hd
        rw [z]
        rfl
      exact PySem.W.kia_one (PySem.W.kitx_exc cl T.ga T.gg T.ox.exC T.ac T.gc T.tc T.mo) I.kIn J hk (fun z => nomatch z) fun tk => ⟨.bl b, H, I.kept (t' := tk) fun _ _ z => z, rfl, q⟩
theorem pe_errM {CX : CXT} {x : Str} {C fI : Addr} {k : Nat} {fd : FuncData} {ps : List Str} {sp : Sp} {ds : List Value} {dvs : List V} (T : OexC X.K C)
    (iC : PySem.W.findIn X.K (.ref C) "__init__" = some (some (.ref fI))) (tI : PySem.W.typeIn X.K (.ref fI) = some (.type "function"))
    (GI : FnG X.prog X.w X.K X.mg X.base CX k fI fd ps sp) (hr : Room (k + 1) X.A) (gq : Quiet X.A) (hb : Binds X.K fd ps ds) (hd : Vals dvs ds) (hx : Passes CX X (fun _ _ _ => False))
    (hg : Gl X x) (hm : X.mg x = some (.ref C)) (ha : PA X (e :: es) ta) (hdb : (x == ("__debug__" : Str)) = false := by decide)
    (he : starEach (e :: es) X.env = (false, eval e X.env) :: starEach es X.env := by rfl) (hpl : (backTo pos (starEach es X.env)).any (·.1) = false := by rfl) :
    PE X (.Call (.Name x p) (e :: es) [] pos) (tErrM C sp dvs ta) := by
  refine ⟨fun pins s σ H Q I h => ?_⟩
  obtain ⟨nm, q, N, bs, bm, sn, sub, ab, col, dd, k0, k1, k2, k3, k5, hC, hbm⟩ := T.cls
  refine wpAny_Call_Name_kw (ld_glob I hg hm ?_ hdb)
  refine PySem.W.callWith_K (h₀ := X.base) I.ok.mod.kin T.kC (thn (ha.run pos pins s σ H _ I h) fun us s1 ⟨vs, H1, I1, r1, hz, q1⟩ => ⟨I1.kIn, ?_⟩) he hpl
  show wpAny _ _ (call (.ref C) us) _ _ _
  obtain ⟨hp, g, dr, tk, os⟩ := s1
  let a : Addr := hp.objs.size + 1
  have big : hp.objs.size ≤ a := Nat.le_succ _
  have hq := q1 a (I1.hok.fresh big)
  let h2 : Heap := (hp.push (PySem.W.kdv_tup us)).push (PySem.HandSPX.excO C hp.objs.size)
  have old : ∀ b o, hp.get? b = some o → h2.get? b = some o := fun b o z => Heap.get?_push_of_some _ (Heap.get?_push_of_some _ z)
  have at_ : h2.get? a = some (PySem.HandSPX.excO C hp.objs.size) := by
    show ((hp.push (PySem.W.kdv_tup us)).push (PySem.HandSPX.excO C hp.objs.size)).get? (hp.objs.size + 1) = _
    heap_get
  have I2 : Inv X pins σ (upd H1 a (exo a C none)) ⟨h2, g, dr, tk, os⟩ := I1.laid (t' := tk) (a := a) (o := exo a C none) (h' := h2) old big (exo_ok at_)
  have r2 : Vals (V.ref a :: (vs ++ dvs)) (Value.ref a :: (us ++ ds)) := .cons rfl (r1.append hd)
  have hl : (Value.ref a :: us ++ ds).length = ps.length := r2.length.symm.trans (GI.len _ _ _ _ hq)
  have few : us.length ≤ sizeLine := by
    rw [← Paired.length r1, sizeLine_eq]
    omega
  have run := GI.run _ X.stack _ _ ⟨Value.ref a :: us, []⟩ (Value.ref a :: (us ++ ds)) _ _ (fun _ _ _ => False) (hr.make C us []) (quiet_make gq) (I2.env0.make C us []) (hb _ (Value.ref a :: us) I2.kIn hl) r2 hq
  refine wpAny_call (PySem.HandSPX.call_own PySem.F.excBase_ValueError (fun Y => PySem.HandSPX.refsVE_contains Y bm hbm) (I1.kIn _ _ hC) (PySem.W.looks_findIn I1.kIn iC) (fun self => PySem.W.bind_fn I1.kIn self tI) few
    (codeAny_mono run fun res s' out => ?_))
  rcases res with er | fl
  · exact hx pins σ _ _ er s' I2 out
  · cases fl
    case ret u =>
      obtain ⟨v, H', I3, rv, ev, q3⟩ := I2.after out
      subst ev
      exact ⟨rv, ⟨V.ref a, H', I3, rfl, q3⟩⟩
    all_goals exact False.elim out
end
/-- __init__ of the base class: it stores the value -/
def spErr (K : PySem.W.Frag) : Sp := fun vs H Q _ => ∃ (e C : Addr) (v : V), vs = [.ref e, v] ∧ OexC K C ∧ PySem.W.findIn K (.ref C) "value" = some none ∧ H e = some (exo e C none) ∧
  ∀ (d : Addr) (H' : Hp), H d = none → Same (fun b => if b = e then none else H b) H' → ErrAt0 H' e C d [("value", v)] → Q .non H'
end Tp

/-! # Data with objects; what is shared (G) and what is owned (M) of a heap; steps -/
namespace Tp
open PySem PySem.Spec PyProof.Rows L2
inductive D where
  | non
  | bl (b : Bool)
  | int (i : Int)
  | str (x : Str)
  | lst (xs : List D)
  | tup (xs : List D)
  | dic (kvs : List (L2.Key × D))
  | ins (C : Addr) (fs : List (Str × D))
  | err (C : Addr) (v : D)
  /-- the very value v -/
  | sam (v : V) (d : D)
mutual
inductive DV (K : PySem.W.Frag) (G : Hp) : V → D → Prop
  | non : DV K G .non .non
  | bl (b : Bool) : DV K G (.bl b) (.bl b)
  | int (i : Int) : DV K G (.int i) (.int i)
  | str (x : Str) : DV K G (.str x) (.str x)
  | lst {a : Addr} {xs : List V} {ds : List D} : G a = some (.lst xs) → DVs K G xs ds → DV K G (.ref a) (.lst ds)
  | tup {a : Addr} {xs : List V} {ds : List D} : SqT K G a xs → DVs K G xs ds → DV K G (.ref a) (.tup ds)
  | dic {a : Addr} {kvs : List (L2.Key × V)} {ds : List (L2.Key × D)} : Rd G a (.dK kvs) → DVk K G kvs ds → DV K G (.ref a) (.dic ds)
  | ins {a C dx : Addr} {fs : List (Str × V)} {ds : List (Str × D)} : G a = some (.ins C dx fs) → DVf K G fs ds → DV K G (.ref a) (.ins C ds)
  | err {a C dx : Addr} {v : V} {d : D} : ErrAt G a C dx [("value", v)] → DV K G v d → DV K G (.ref a) (.err C d)
  | sam {v : V} {d : D} : DV K G v d → DV K G v (.sam v d)
inductive DVs (K : PySem.W.Frag) (G : Hp) : List V → List D → Prop
  | nil : DVs K G [] []
  | cons {v : V} {vs : List V} {d : D} {ds : List D} : DV K G v d → DVs K G vs ds → DVs K G (v :: vs) (d :: ds)
inductive DVk (K : PySem.W.Frag) (G : Hp) : List (L2.Key × V) → List (L2.Key × D) → Prop
  | nil : DVk K G [] []
  | cons {k : L2.Key} {v : V} {vs : List (L2.Key × V)} {d : D} {ds : List (L2.Key × D)} : DV K G v d → DVk K G vs ds → DVk K G ((k, v) :: vs) ((k, d) :: ds)
inductive DVf (K : PySem.W.Frag) (G : Hp) : List (Str × V) → List (Str × D) → Prop
  | nil : DVf K G [] []
  | cons {k : Str} {v : V} {vs : List (Str × V)} {d : D} {ds : List (Str × D)} : DV K G v d → DVf K G vs ds → DVf K G ((k, v) :: vs) ((k, d) :: ds)
end
section
variable {K : PySem.W.Frag} {G G' : Hp}
mutual
theorem DV.mono (e : Same G G') : ∀ {v : V} {d : D}, DV K G v d → DV K G' v d
  | _, _, .non => .non
  | _, _, .bl b => .bl b
  | _, _, .int i => .int i
  | _, _, .str x => .str x
  | _, _, .lst h k => .lst (e _ _ h) (DVs.mono e k)
  | _, _, .tup h k => .tup (e.sqTd h) (DVs.mono e k)
  | _, _, .dic h k => .dic (e.rdd h) (DVk.mono e k)
  | _, _, .ins h k => .ins (e _ _ h) (DVf.mono e k)
  | _, _, .err h k => .err (h.mono e) (DV.mono e k)
  | _, _, .sam h => .sam (DV.mono e h)
theorem DVs.mono (e : Same G G') : ∀ {v : List V} {d : List D}, DVs K G v d → DVs K G' v d
  | _, _, .nil => .nil
  | _, _, .cons h k => .cons (DV.mono e h) (DVs.mono e k)
theorem DVk.mono (e : Same G G') : ∀ {v : List (L2.Key × V)} {d : List (L2.Key × D)}, DVk K G v d → DVk K G' v d
  | _, _, .nil => .nil
  | _, _, .cons h k => .cons (DV.mono e h) (DVk.mono e k)
theorem DVf.mono (e : Same G G') : ∀ {v : List (Str × V)} {d : List (Str × D)}, DVf K G v d → DVf K G' v d
  | _, _, .nil => .nil
  | _, _, .cons h k => .cons (DV.mono e h) (DVf.mono e k)
end
theorem DVs.length : ∀ {vs : List V} {ds : List D}, DVs K G vs ds → vs.length = ds.length
  | _, _, .nil => rfl
  | _, _, .cons _ k => congrArg (· + 1) k.length
theorem DVs.at : ∀ {vs : List V} {ds : List D} {i : Nat} {v : V}, DVs K G vs ds → vs[i]? = some v → ∃ d, ds[i]? = some d ∧ DV K G v d
  | _, _, _, _, .nil, e => by cases e
  | _, _, 0, _, .cons h _, e => by
    cases e
    exact ⟨_, rfl, h⟩
  | _, _, i + 1, _, .cons _ k, e => DVs.at (i := i) k e
theorem DVs.back : ∀ {vs : List V} {ds : List D} {i : Nat} {d : D}, DVs K G vs ds → ds[i]? = some d → ∃ v, vs[i]? = some v ∧ DV K G v d
  | _, _, _, _, .nil, e => by cases e
  | _, _, 0, _, .cons h _, e => by
    cases e
    exact ⟨_, rfl, h⟩
  | _, _, i + 1, _, .cons _ k, e => DVs.back (i := i) k e
theorem DVs.append : ∀ {vs us : List V} {ds es : List D}, DVs K G vs ds → DVs K G us es → DVs K G (vs ++ us) (ds ++ es)
  | _, _, _, _, .nil, k => k
  | _, _, _, _, .cons h t, k => .cons h (DVs.append t k)
theorem DVs.snoc {vs : List V} {ds : List D} {v : V} {d : D} (h : DVs K G vs ds) (k : DV K G v d) : DVs K G (vs ++ [v]) (ds ++ [d]) := h.append (.cons k .nil)
theorem DVs.take (n : Nat) : ∀ {vs : List V} {ds : List D}, DVs K G vs ds → DVs K G (vs.take n) (ds.take n) := by
  induction n with
  | zero => exact fun _ => .nil
  | succ n ih =>
    intro vs ds h
    cases h with
    | nil => exact .nil
    | cons h k => exact .cons h (ih k)
theorem DVs.drop (n : Nat) : ∀ {vs : List V} {ds : List D}, DVs K G vs ds → DVs K G (vs.drop n) (ds.drop n) := by
  induction n with
  | zero => exact fun h => h
  | succ n ih =>
    intro vs ds h
    cases h with
    | nil => exact .nil
    | cons h k => exact ih k
theorem DVs.reverse : ∀ {vs : List V} {ds : List D}, DVs K G vs ds → DVs K G vs.reverse ds.reverse
  | _, _, .nil => .nil
  | _, _, .cons h k => by
    rw [List.reverse_cons, List.reverse_cons]
    exact k.reverse.snoc h
theorem DVs.ints : ∀ {vs : List V} {is : List Int}, DVs K G vs (is.map D.int) → vs = is.map V.int
  | _, [], .nil => rfl
  | _, i :: is, .cons h k => by
    cases h
    rw [List.map_cons, DVs.ints k]
theorem DVs.strs : ∀ {vs : List V} {is : List Str}, DVs K G vs (is.map D.str) → vs = is.map V.str
  | _, [], .nil => rfl
  | _, i :: is, .cons h k => by
    cases h
    rw [List.map_cons, DVs.strs k]
theorem DVs.bls : ∀ {vs : List V} {is : List Bool}, DVs K G vs (is.map D.bl) → vs = is.map V.bl
  | _, [], .nil => rfl
  | _, i :: is, .cons h k => by
    cases h
    rw [List.map_cons, DVs.bls k]
theorem DVs.of_ints : ∀ {is : List Int}, DVs K G (is.map V.int) (is.map D.int)
  | [] => .nil
  | i :: is => .cons (.int i) DVs.of_ints
theorem DVs.of_strs : ∀ {is : List Str}, DVs K G (is.map V.str) (is.map D.str)
  | [] => .nil
  | i :: is => .cons (.str i) DVs.of_strs
theorem DVs.of_bls : ∀ {is : List Bool}, DVs K G (is.map V.bl) (is.map D.bl)
  | [] => .nil
  | i :: is => .cons (.bl i) DVs.of_bls
theorem lookup_putD {α : Type} {f g : Str} {y : α} {fs : List (Str × α)} : ((f, y) :: fs).lookup g = if g = f then some y else fs.lookup g := by
  by_cases h : g = f
  · subst h
    simp [List.lookup]
  · have e : (g == f) = false := by simpa using h
    rw [if_neg h]
    simp [List.lookup, e]
theorem DVf.look : ∀ {fs : List (Str × V)} {ds : List (Str × D)} {f : Str} {d : D}, DVf K G fs ds → ds.lookup f = some d → ∃ v, fs.lookup f = some v ∧ DV K G v d
  | _, _, _, _, .nil, e => by cases e
  | _, _, f, d, .cons (k := k) h t, e => by
    rw [lookup_putD] at e
    rw [lookup_put]
    by_cases q : f = k
    · rw [if_pos q] at e ⊢
      cases e
      exact ⟨_, rfl, h⟩
    · rw [if_neg q] at e ⊢
      exact DVf.look t e
end
/-! ### plain data -/
mutual
def D.py : D → PyData
  | .non => .none
  | .bl b => .bool b
  | .int i => .int i
  | .str x => .str x
  | .lst xs => .list (D.pys xs)
  | .tup xs => .tuple (D.pys xs)
  | .dic kvs => .dict (D.pyk kvs)
  | .ins _ _ => .none
  | .err _ _ => .none
  | .sam _ d => d.py
def D.pys : List D → List PyData
  | [] => []
  | d :: ds => d.py :: D.pys ds
def D.pyk : List (L2.Key × D) → List (PyData × PyData)
  | [] => []
  | (k, d) :: ds => (kD k, d.py) :: D.pyk ds
end
mutual
def D.plain : D → Bool
  | .non | .bl _ | .int _ | .str _ => true
  | .lst xs | .tup xs => D.plains xs
  | .dic kvs => D.plaink kvs
  | .ins _ _ => false
  | .err _ _ => false
  | .sam _ d => d.plain
def D.plains : List D → Bool
  | [] => true
  | d :: ds => d.plain && D.plains ds
def D.plaink : List (L2.Key × D) → Bool
  | [] => true
  | (_, d) :: ds => d.plain && D.plaink ds
end
section
variable {K : PySem.W.Frag} {G : Hp}
mutual
theorem DV.dt : ∀ {d : D} {v : V}, DV K G v d → d.plain = true → Dt K G v d.py
  | .non, _, h, _ => by
    cases h
    exact .non
  | .bl b, _, h, _ => by
    cases h
    exact .bl b
  | .int i, _, h, _ => by
    cases h
    exact .int i
  | .str x, _, h, _ => by
    cases h
    exact .str x
  | .lst xs, _, h, p => by
    cases h with
    | lst h k => exact .lst (.inl (.inl h)) (DVs.dt k p)
  | .tup xs, _, h, p => by
    cases h with
    | tup h k => exact .tup h (DVs.dt k p)
  | .dic xs, _, h, p => by
    cases h with
    | dic h k => exact .dic h (DVk.dt k p)
  | .ins _ _, _, _, p => by cases p
  | .err _ _, _, _, p => by cases p
  | .sam _ d, _, h, p => by
    cases h with
    | sam h2 => exact DV.dt (d := d) h2 p
theorem DVs.dt : ∀ {d : List D} {v : List V}, DVs K G v d → D.plains d = true → DtAll K G v (D.pys d)
  | [], _, h, _ => by
    cases h
    exact .nil
  | d :: ds, _, h, p => by
    cases h with
    | cons h k =>
      have q : d.plain = true ∧ D.plains ds = true := Bool.and_eq_true_iff.mp p
      exact .cons (DV.dt h q.1) (DVs.dt k q.2)
theorem DVk.dt : ∀ {d : List (L2.Key × D)} {v : List (L2.Key × V)}, DVk K G v d → D.plaink d = true → DtKv K G v (D.pyk d)
  | [], _, h, _ => by
    cases h
    exact .nil
  | (_, d) :: ds, _, h, p => by
    cases h with
    | cons h k =>
      have q : d.plain = true ∧ D.plaink ds = true := Bool.and_eq_true_iff.mp p
      exact .cons (DV.dt h q.1) (DVk.dt k q.2)
end
theorem pys_map : ∀ ds : List D, D.pys ds = ds.map D.py
  | [] => rfl
  | d :: ds => congrArg (d.py :: ·) (pys_map ds)
theorem plains_all : ∀ ds : List D, D.plains ds = ds.all D.plain
  | [] => rfl
  | d :: ds => by
    rw [List.all_cons, ← plains_all ds]
    rfl
end
/-! ### what is shared, what is owned -/
structure Sep (G M H : Hp) : Prop where
  g : Same G H
  m : Same M H
  d : ∀ a o, M a = some o → G a = none
theorem Sep.free {G M H : Hp} (s : Sep G M H) {p : Addr} (h : H p = none) : G p = none ∧ M p = none := ⟨s.g.free h, s.m.free h⟩
/-- from one heap to a later one: what was shared stays, what was neither shared nor owned stays as it was and is not shared now -/
structure Step (G M H G' M' H' : Hp) : Prop where
  s : Sep G' M' H'
  gg : Same G G'
  keep : ∀ a o, M a = none → H a = some o → H' a = some o
  out : ∀ a o, M a = none → G a = none → H a = some o → G' a = none
  old : ∀ a o, M a = none → H a = some o → M' a = none
section
variable {G M H G1 M1 H1 G2 M2 H2 : Hp} {p : Addr} {o : HO}
theorem Step.refl (s : Sep G M H) : Step G M H G M H := ⟨s, Same.refl _, fun _ _ _ z => z, fun _ _ _ z _ => z, fun _ _ z _ => z⟩
theorem Step.trans (a : Step G M H G1 M1 H1) (b : Step G1 M1 H1 G2 M2 H2) : Step G M H G2 M2 H2 where
  s := b.s
  gg := a.gg.trans b.gg
  keep := fun c o m h => b.keep c o (a.old c o m h) (a.keep c o m h)
  out := fun c o m g h => b.out c o (a.old c o m h) (a.out c o m g h) (a.keep c o m h)
  old := fun c o m h => b.old c o (a.old c o m h) (a.keep c o m h)
theorem some_ne {H : Hp} {a p : Addr} {o : HO} (h : H a = some o) (n : H p = none) : a ≠ p := fun z => by
  rw [z, n] at h
  cases h
theorem same_new {A B : Hp} (s : Same A B) (n : B p = none) : Same A (upd B p o) := fun b u z => by
  rw [upd_ne (some_ne (s b u z) n)]
  exact s b u z
theorem same_both {A B : Hp} (s : Same A B) : Same (upd A p o) (upd B p o) := fun b u z => by
  by_cases q : b = p
  · rw [q] at z ⊢
    rw [upd_same] at z ⊢
    exact z
  · rw [upd_ne q] at z ⊢
    exact s b u z
/-- a new object, shared from the start -/
theorem Step.new (s : Sep G M H) (n : H p = none) : Step G M H (upd G p o) M (upd H p o) where
  s := ⟨same_both s.g, same_new s.m n, fun a u z => by
    rw [upd_ne (some_ne z (s.free n).2)]
    exact s.d a u z⟩
  gg := fun b u z => by
    rw [upd_ne (some_ne z (s.free n).1)]
    exact z
  keep := fun a u _ h => by
    rw [upd_ne (some_ne h n)]
    exact h
  out := fun a u _ g h => by
    rw [upd_ne (some_ne h n)]
    exact g
  old := fun _ _ z _ => z
/-- a new object, owned -/
theorem Step.own (s : Sep G M H) (n : H p = none) : Step G M H G (upd M p o) (upd H p o) where
  s := ⟨same_new s.g n, same_both s.m, fun a u z => by
    by_cases q : a = p
    · rw [q]
      exact (s.free n).1
    · rw [upd_ne q] at z
      exact s.d a u z⟩
  gg := Same.refl _
  keep := fun a u _ h => by
    rw [upd_ne (some_ne h n)]
    exact h
  out := fun _ _ _ g _ => g
  old := fun a u z h => by
    rw [upd_ne (some_ne h n)]
    exact z
/-- an owned object changed -/
theorem Step.put {u : HO} (s : Sep G M H) (n : M p = some u) : Step G M H G (upd M p o) (upd H p o) where
  s := ⟨fun b w z => by
      rw [upd_ne (some_ne z (s.d p u n))]
      exact s.g b w z, same_both s.m, fun a w z => by
    by_cases q : a = p
    · rw [q]
      exact s.d p u n
    · rw [upd_ne q] at z
      exact s.d a w z⟩
  gg := Same.refl _
  keep := fun a w z h => by
    rw [upd_ne fun q => by rw [q, n] at z; cases z]
    exact h
  out := fun _ _ _ g _ => g
  old := fun a w z h => by
    rw [upd_ne fun q => by rw [q, n] at z; cases z]
    exact z
def dele (M : Hp) (p : Addr) : Hp := fun a => if a = p then none else M a
theorem dele_same : dele M p p = none := if_pos rfl
theorem dele_ne {a : Addr} (h : a ≠ p) : dele M p a = M a := if_neg h
/-- an owned object is shared from now on -/
theorem Step.share (s : Sep G M H) (n : M p = some o) : Step G M H (upd G p o) (dele M p) H where
  s := ⟨fun b w z => by
      by_cases q : b = p
      · rw [q, upd_same] at z
        rw [q, ← z]
        exact s.m p o n
      · rw [upd_ne q] at z
        exact s.g b w z, fun b w z => by
      by_cases q : b = p
      · rw [q, dele_same] at z
        cases z
      · rw [dele_ne q] at z
        exact s.m b w z, fun a w z => by
    by_cases q : a = p
    · rw [q, dele_same] at z
      cases z
    · rw [dele_ne q] at z
      rw [upd_ne q]
      exact s.d a w z⟩
  gg := fun b w z => by
    rw [upd_ne (some_ne z (s.d p o n))]
    exact z
  keep := fun _ _ _ h => h
  out := fun a w z g _ => by
    rw [upd_ne fun q => by rw [q, n] at z; cases z]
    exact g
  old := fun a w z _ => by
    by_cases q : a = p
    · rw [q]
      exact dele_same
    · rw [dele_ne q]
      exact z
/-- what is owned beside is let go -/
theorem Step.drop (a : Step G M H G1 M1 H1) (k : Same M2 M1) : Step G M H G1 M2 H1 where
  s := ⟨a.s.g, fun b w z => a.s.m b w (k b w z), fun b w z => a.s.d b w (k b w z)⟩
  gg := a.gg
  keep := a.keep
  out := a.out
  old := fun c o m h => k.free (a.old c o m h)
end
end Tp

/-! # Readings over data: what an expression, a statement does to the slots, told by data -/
namespace Tp
open PySem PySem.Spec PyProof.Rows L2
abbrev BIG : Nat := 1048576
abbrev HUGE : Int := 10 ^ 300
/-- a pot of draws at P (where there is one), from which at most m were taken so far -/
def PotM (P : Option Addr) (m : Nat) (M : Hp) : Prop := ∀ p, P = some p → ∃ a b c : Int, M p = some (.lst [.int a, .int b, .int c]) ∧ 0 ≤ a ∧ a < HUGE ∧ 0 ≤ b ∧ b < 2305843009213693951 ∧ 0 ≤ c ∧ c ≤ m
theorem PotM.mono {P : Option Addr} {m n : Nat} {M : Hp} (h : PotM P m M) (l : m ≤ n) : PotM P n M := fun p e => by
  obtain ⟨a, b, c, h1, h2, h3, h4, h5, h6, h7⟩ := h p e
  exact ⟨a, b, c, h1, h2, h3, h4, h5, h6, by omega⟩
theorem PotM.no {m : Nat} {M : Hp} : PotM none m M := fun _ e => nomatch e
/-- an owned object's content -/
inductive Ob where
  | lst (ds : List D)
  | dic (kvs : List (L2.Key × D))
  /-- the object at x of the own class at C, as its fields are set -/
  | ins (x C : Addr) (fs : List (Str × D))
/-- what is known of a slot -/
inductive Sx where
  | un
  | d (x : D)
  | pot
  | own (o : Ob)
  | scr (ns : List Int)
def OwnO (K : PySem.W.Frag) (G : Hp) (l : Addr) (u : HO) : Ob → Prop
  | .lst ds => ∃ vs, u = .lst vs ∧ DVs K G vs ds
  | .dic kvs => ∃ vs, u = .dK vs ∧ DVk K G vs kvs
  | .ins x C fs => ∃ dx vs, l = x ∧ u = .ins C dx vs ∧ DVf K G vs fs
theorem OwnO.mono {K : PySem.W.Frag} {G G' : Hp} (e : Same G G') {l : Addr} {u : HO} : ∀ {o : Ob}, OwnO K G l u o → OwnO K G' l u o
  | .lst _, ⟨vs, a, b⟩ => ⟨vs, a, b.mono e⟩
  | .dic _, ⟨vs, a, b⟩ => ⟨vs, a, b.mono e⟩
  | .ins _ _ _, ⟨dx, vs, a, b, c⟩ => ⟨dx, vs, a, b, c.mono e⟩
def Sl1 (K : PySem.W.Frag) (P : Option Addr) (M0 G M : Hp) (o : Option (Option V)) : Sx → Prop
  | .un => True
  | .d x => ∃ v, o = some (some v) ∧ DV K G v x
  | .pot => ∃ p, P = some p ∧ o = some (some (.ref p))
  | .own b => ∃ l u, o = some (some (.ref l)) ∧ M0 l = none ∧ P ≠ some l ∧ M l = some u ∧ OwnO K G l u b
  | .scr ns => ∃ a, o = some (some (.ref a)) ∧ SqL K G a (ns.map V.int)
/-- what is kept of a base: of what is framed, of the heap's course -/
structure Bas where
  zm : Hp → Prop
  zs : Hp → Hp → Hp → Prop
  step : ∀ {G M H G1 M1 H1 : Hp}, Step G M H G1 M1 H1 → zs G M H → zs G1 M1 H1
  up : ∀ {M0 : Hp} {a : Addr} {u : HO}, zm M0 → (∀ o, M0 a = some o → o = u) → zm (upd M0 a u)
abbrev Z0 : Bas := ⟨fun _ => True, fun _ _ _ => True, fun _ _ => trivial, fun _ _ => trivial⟩
structure At (K : PySem.W.Frag) (P : Option Addr) (Z : Bas) (M0 : Hp) (m : Nat) (G M H : Hp) (σ : L2.St) (ρ : List Sx) : Prop where
  sep : Sep G M H
  pot : PotM P m M
  fr : ∀ a o, P ≠ some a → M0 a = some o → M a = some o
  len : σ.length = ρ.length
  bm : Z.zm M0
  bs : Z.zs G M H
  sl : ∀ (i : Nat) (x : Sx), ρ[i]? = some x → Sl1 K P M0 G M σ[i]? x
  nd : ∀ (i j : Nat) (b b' : Ob), ρ[i]? = some (.own b) → ρ[j]? = some (.own b') → i ≠ j → σ[i]? ≠ σ[j]?
section
variable {K : PySem.W.Frag} {P : Option Addr} {Z : Bas} {M0 G M H G1 M1 H1 : Hp} {m n : Nat} {σ : L2.St} {ρ : List Sx}
/-- the state moved on: owned objects off the pot as they were -/
theorem At.go (a : At K P Z M0 m G M H σ ρ) (s : Step G M H G1 M1 H1) (p : PotM P n M1) (off : ∀ b o, P ≠ some b → M b = some o → M1 b = some o) : At K P Z M0 n G1 M1 H1 σ ρ where
  sep := s.s
  pot := p
  fr := fun b o h z => off b o h (a.fr b o h z)
  bm := a.bm
  bs := Z.step s a.bs
  len := a.len
  sl := fun i x e => by
    have q := a.sl i x e
    cases x with
    | un => trivial
    | d x =>
      obtain ⟨v, e1, e2⟩ := q
      exact ⟨v, e1, e2.mono s.gg⟩
    | pot => exact q
    | own b =>
      obtain ⟨l, u, e1, e2, e3, e4, e5⟩ := q
      exact ⟨l, u, e1, e2, e3, off l u e3 e4, e5.mono s.gg⟩
    | scr ns =>
      obtain ⟨l, e1, e2⟩ := q
      exact ⟨l, e1, s.gg.sqLd e2⟩
  nd := a.nd
theorem At.more (a : At K P Z M0 m G M H σ ρ) (h : m ≤ n) : At K P Z M0 n G M H σ ρ := a.go (Step.refl a.sep) (a.pot.mono h) fun _ _ _ z => z
/-- M untouched -/
theorem At.pure (a : At K P Z M0 m G M H σ ρ) (s : Step G M H G1 M H1) : At K P Z M0 m G1 M H1 σ ρ := a.go s a.pot fun _ _ _ z => z
theorem getset {α : Type} {xs : List α} {i j : Nat} {v : α} (h : i < xs.length) : (xs.set i v)[j]? = if i = j then some v else xs[j]? := by
  by_cases q : i = j
  · subst q
    rw [if_pos rfl, List.getElem?_set_self h]
  · rw [if_neg q, List.getElem?_set_ne q]
theorem At.set (a : At K P Z M0 m G M H σ ρ) {i : Nat} {v : V} {x : D} (h : i < ρ.length) (hv : DV K G v x) : At K P Z M0 m G M H (σ.set i (some v)) (ρ.set i (.d x)) where
  sep := a.sep
  pot := a.pot
  fr := a.fr
  bm := a.bm
  bs := a.bs
  len := by rw [List.length_set, List.length_set, a.len]
  sl := fun j y e => by
    rw [getset h] at e
    rw [getset (by rw [a.len]; exact h)]
    by_cases q : i = j
    · rw [if_pos q] at e ⊢
      cases e
      exact ⟨v, rfl, hv⟩
    · rw [if_neg q] at e ⊢
      exact a.sl j y e
  nd := fun j k b b' e1 e2 ne => by
    rw [getset h] at e1 e2
    rw [getset (by rw [a.len]; exact h), getset (by rw [a.len]; exact h)]
    by_cases q : i = j
    · rw [if_pos q] at e1
      cases e1
    · rw [if_neg q] at e1 ⊢
      by_cases q' : i = k
      · rw [if_pos q'] at e2
        cases e2
      · rw [if_neg q'] at e2 ⊢
        exact a.nd j k b b' e1 e2 ne
/-- slots forgotten -/
theorem At.weak (a : At K P Z M0 m G M H σ ρ) {ρ' : List Sx} (l : ρ'.length = ρ.length) (h : ∀ i : Nat, ρ'[i]? = ρ[i]? ∨ ρ'[i]? = some .un) : At K P Z M0 m G M H σ ρ' where
  sep := a.sep
  pot := a.pot
  fr := a.fr
  bm := a.bm
  bs := a.bs
  len := a.len.trans l.symm
  sl := fun i x e => by
    rcases h i with z | z
    · exact a.sl i x (z.symm.trans e)
    · rw [e] at z
      cases z
      trivial
  nd := fun i j b b' e1 e2 ne => by
    rcases h i with z | z
    · rcases h j with z' | z'
      · exact a.nd i j b b' (z.symm.trans e1) (z'.symm.trans e2) ne
      · rw [e2] at z'
        cases z'
    · rw [e1] at z
      cases z
theorem At.slot (a : At K P Z M0 m G M H σ ρ) {i : Nat} {x : D} (e : ρ[i]? = some (.d x)) : ∃ v, σ[i]? = some (some v) ∧ DV K G v x := a.sl i _ e
end
/-! ### judgements -/
section
variable (K : PySem.W.Frag) (P : Option Addr) (Z : Bas)
/-- an expression: its value is some d with φ d; k draws at most -/
def Ev (te : TE) (ρ : List Sx) (k : Nat) (φ : D → Prop) : Prop := ∀ (M0 : Hp) (σ : L2.St) (G M H : Hp) (m : Nat) (Q : VK), At K P Z M0 m G M H σ ρ → m + k ≤ BIG →
  (∀ v d G2 M2 H2, Step G M H G2 M2 H2 → At K P Z M0 (m + k) G2 M2 H2 σ ρ → φ d → DV K G2 v d → Q v H2) → te σ H Q
def EvT (tt : TT) (ρ : List Sx) (k : Nat) (φ : Bool → Prop) : Prop := ∀ (M0 : Hp) (σ : L2.St) (G M H : Hp) (m : Nat) (Q : Bool → Hp → Prop), At K P Z M0 m G M H σ ρ → m + k ≤ BIG →
  (∀ b G2 M2 H2, Step G M H G2 M2 H2 → At K P Z M0 (m + k) G2 M2 H2 σ ρ → φ b → Q b H2) → tt σ H Q
def EvA (ta : TA) (ρ : List Sx) (k : Nat) (φ : List D → Prop) : Prop := ∀ (M0 : Hp) (σ : L2.St) (G M H : Hp) (m : Nat) (Q : List V → Hp → Prop), At K P Z M0 m G M H σ ρ → m + k ≤ BIG →
  (∀ vs ds G2 M2 H2, Step G M H G2 M2 H2 → At K P Z M0 (m + k) G2 M2 H2 σ ρ → φ ds → DVs K G2 vs ds → Q vs H2) → ta σ H Q
/-- an operation on data -/
def OpD (r : R2) (a b : D) (χ : D → Prop) : Prop := ∀ (x y : V) (G M H : Hp) (Q : VK), Sep G M H → DV K G x a → DV K G y b → (∀ z d G2 H2, Step G M H G2 M H2 → χ d → DV K G2 z d → Q z H2) → r x y H Q
def CallD (r : List V → Hp → VK → Prop) (as : List D) (χ : D → Prop) : Prop := ∀ (xs : List V) (G M H : Hp) (Q : VK), Sep G M H → DVs K G xs as → (∀ z d G2 H2, Step G M H G2 M H2 → χ d → DV K G2 z d → Q z H2) → r xs H Q
def MethD (r : V → List V → Hp → VK → Prop) (a : D) (as : List D) (χ : D → Prop) : Prop := ∀ (x : V) (xs : List V) (G M H : Hp) (Q : VK), Sep G M H → DV K G x a → DVs K G xs as → (∀ z d G2 H2, Step G M H G2 M H2 → χ d → DV K G2 z d → Q z H2) → r x xs H Q
def OpE (r : R2) (a b c : D) : Prop := OpD K r a b (· = c)
end
section
variable {K : PySem.W.Frag} {P : Option Addr} {Z : Bas} {ρ : List Sx} {ta tb te to : TE} {tt tu : TT} {tr : TA} {k ka kb kc : Nat} {φ ψ χ : D → Prop} {β γ : Bool → Prop} {x : D} {i : Nat}
theorem Ev.imp (h : Ev K P Z te ρ k φ) (f : ∀ d, φ d → ψ d) : Ev K P Z te ρ k ψ := fun M0 σ G M H m Q a b q => h M0 σ G M H m Q a b fun v d G2 M2 H2 s a2 hd hv => q v d G2 M2 H2 s a2 (f d hd) hv
theorem Ev.le (h : Ev K P Z te ρ ka φ) (l : ka ≤ k) : Ev K P Z te ρ k φ := fun M0 σ G M H m Q a b q => h M0 σ G M H m Q a (by omega) fun v d G2 M2 H2 s a2 hd hv => q v d G2 M2 H2 s (a2.more (by omega)) hd hv
theorem EvT.imp (h : EvT K P Z tt ρ k β) (f : ∀ d, β d → γ d) : EvT K P Z tt ρ k γ := fun M0 σ G M H m Q a b q => h M0 σ G M H m Q a b fun v G2 M2 H2 s a2 hd => q v G2 M2 H2 s a2 (f v hd)
theorem EvT.le (h : EvT K P Z tt ρ ka β) (l : ka ≤ k) : EvT K P Z tt ρ k β := fun M0 σ G M H m Q a b q => h M0 σ G M H m Q a (by omega) fun v G2 M2 H2 s a2 hd => q v G2 M2 H2 s (a2.more (by omega)) hd
theorem EvA.imp {φ ψ : List D → Prop} (h : EvA K P Z tr ρ k φ) (f : ∀ d, φ d → ψ d) : EvA K P Z tr ρ k ψ := fun M0 σ G M H m Q a b q => h M0 σ G M H m Q a b fun v d G2 M2 H2 s a2 hd hv => q v d G2 M2 H2 s a2 (f d hd) hv
theorem ev_var (e : ρ[i]? = some (.d x)) : Ev K P Z (tVar i) ρ 0 (· = x) := fun M0 σ G M H m Q a _ q => by
  obtain ⟨v, h1, h2⟩ := a.slot e
  exact ⟨v, h1, q v x G M H (Step.refl a.sep) a rfl h2⟩
theorem ev_c {v : V} (h : ∀ G, DV K G v x) : Ev K P Z (tC v) ρ 0 (· = x) := fun M0 σ G M H m Q a _ q => q v x G M H (Step.refl a.sep) a rfl (h G)
theorem ev_int {j : Int} : Ev K P Z (tC (.int j)) ρ 0 (· = .int j) := ev_c fun _ => .int j
theorem ev_str {j : Str} : Ev K P Z (tC (.str j)) ρ 0 (· = .str j) := ev_c fun _ => .str j
theorem ev_bl {j : Bool} : Ev K P Z (tC (.bl j)) ρ 0 (· = .bl j) := ev_c fun _ => .bl j
theorem ev_non : Ev K P Z (tC .non) ρ 0 (· = .non) := ev_c fun _ => .non
theorem add3 {m a b c : Nat} (h : m + (a + b) ≤ c) : m + a ≤ c ∧ m + a + b ≤ c := by omega
theorem ev_op {r : R2} (ha : Ev K P Z ta ρ ka φ) (hb : Ev K P Z tb ρ kb ψ) (hr : ∀ a b, φ a → ψ b → OpD K r a b χ) : Ev K P Z (tOp r ta tb) ρ (ka + kb) χ := fun M0 σ G M H m Q a l q => by
  refine ha M0 σ G M H m _ a (add3 l).1 fun x d1 G1 M1 H1 s1 a1 p1 v1 => ?_
  refine hb M0 σ G1 M1 H1 (m + ka) _ a1 (add3 l).2 fun y d2 G2 M2 H2 s2 a2 p2 v2 => ?_
  refine hr d1 d2 p1 p2 x y G2 M2 H2 Q a2.sep (v1.mono s2.gg) v2 fun z d3 G3 H3 s3 p3 v3 => ?_
  exact q z d3 G3 M2 H3 ((s1.trans s2).trans s3) ((a2.pure s3).more (by omega)) p3 v3
theorem ev_if (hc : EvT K P Z tt ρ kc β) (h1 : β true → Ev K P Z ta ρ k φ) (h2 : β false → Ev K P Z tb ρ k φ) : Ev K P Z (tIf tt ta tb) ρ (kc + k) φ := fun M0 σ G M H m Q a l q => by
  refine hc M0 σ G M H m _ a (add3 l).1 fun b G1 M1 H1 s1 a1 p1 => ?_
  cases b with
  | true =>
    show ta σ H1 Q
    exact h1 p1 M0 σ G1 M1 H1 (m + kc) Q a1 (add3 l).2 fun v d G2 M2 H2 s2 a2 p2 v2 => q v d G2 M2 H2 (s1.trans s2) (a2.more (by omega)) p2 v2
  | false =>
    show tb σ H1 Q
    exact h2 p1 M0 σ G1 M1 H1 (m + kc) Q a1 (add3 l).2 fun v d G2 M2 H2 s2 a2 p2 v2 => q v d G2 M2 H2 (s1.trans s2) (a2.more (by omega)) p2 v2
theorem et_test (h : Ev K P Z te ρ k φ) (f : ∀ d, φ d → ∃ b, d = .bl b ∧ β b) : EvT K P Z (tTest te) ρ k β := fun M0 σ G M H m Q a l q =>
  h M0 σ G M H m _ a l fun v d G2 M2 H2 s2 a2 p2 v2 => by
    obtain ⟨b, rfl, hb⟩ := f d p2
    cases v2
    exact ⟨b, rfl, q b G2 M2 H2 s2 a2 hb⟩
theorem et_B (h : Ev K P Z te ρ k φ) (f : ∀ d, φ d → ∃ b, d = .bl b ∧ β b) : EvT K P Z (tB te) ρ k β := et_test h f
theorem et_not (h : EvT K P Z tt ρ k β) : EvT K P Z (tNot tt) ρ k (fun b => β (!b)) := fun M0 σ G M H m Q a l q =>
  h M0 σ G M H m _ a l fun b G2 M2 H2 s2 a2 p2 => q (!b) G2 M2 H2 s2 a2 (by show β (!!b); rw [Bool.not_not]; exact p2)
theorem et_and (h : EvT K P Z tt ρ ka β) (h2 : β true → EvT K P Z tu ρ kb γ) : EvT K P Z (tAnd tt tu) ρ (ka + kb) (fun b => (b = false ∧ β false) ∨ (β true ∧ γ b)) := fun M0 σ G M H m Q a l q => by
  refine h M0 σ G M H m _ a (add3 l).1 fun b G1 M1 H1 s1 a1 p1 => ?_
  cases b with
  | true =>
    show tu σ H1 Q
    exact h2 p1 M0 σ G1 M1 H1 (m + ka) Q a1 (add3 l).2 fun b G2 M2 H2 s2 a2 p2 => q b G2 M2 H2 (s1.trans s2) (a2.more (by omega)) (.inr ⟨p1, p2⟩)
  | false =>
    show Q false H1
    exact q false G1 M1 H1 s1 (a1.more (by omega)) (.inl ⟨rfl, p1⟩)
theorem et_or (h : EvT K P Z tt ρ ka β) (h2 : β false → EvT K P Z tu ρ kb γ) : EvT K P Z (tOr tt tu) ρ (ka + kb) (fun b => (b = true ∧ β true) ∨ (β false ∧ γ b)) := fun M0 σ G M H m Q a l q => by
  refine h M0 σ G M H m _ a (add3 l).1 fun b G1 M1 H1 s1 a1 p1 => ?_
  cases b with
  | false =>
    show tu σ H1 Q
    exact h2 p1 M0 σ G1 M1 H1 (m + ka) Q a1 (add3 l).2 fun b G2 M2 H2 s2 a2 p2 => q b G2 M2 H2 (s1.trans s2) (a2.more (by omega)) (.inr ⟨p1, p2⟩)
  | true =>
    show Q true H1
    exact q true G1 M1 H1 s1 (a1.more (by omega)) (.inl ⟨rfl, p1⟩)
/-- and, or, not as values -/
theorem ev_andV (h : Ev K P Z ta ρ ka φ) (f : ∀ d, φ d → ∃ b, d = .bl b ∧ β b) (h2 : β true → Ev K P Z tb ρ kb ψ) : Ev K P Z (tAndV ta tb) ρ (ka + kb) (fun d => (d = .bl false ∧ β false) ∨ (β true ∧ ψ d)) := fun M0 σ G M H m Q a l q => by
  refine h M0 σ G M H m _ a (add3 l).1 fun v d G1 M1 H1 s1 a1 p1 v1 => ?_
  obtain ⟨b, rfl, hb⟩ := f d p1
  cases v1
  refine ⟨b, rfl, ?_⟩
  cases b with
  | true =>
    show tb σ H1 Q
    exact h2 hb M0 σ G1 M1 H1 (m + ka) Q a1 (add3 l).2 fun v d G2 M2 H2 s2 a2 p2 v2 => q v d G2 M2 H2 (s1.trans s2) (a2.more (by omega)) (.inr ⟨hb, p2⟩) v2
  | false =>
    show Q (.bl false) H1
    exact q _ _ G1 M1 H1 s1 (a1.more (by omega)) (.inl ⟨rfl, hb⟩) (.bl false)
theorem ev_orV (h : Ev K P Z ta ρ ka φ) (f : ∀ d, φ d → ∃ b, d = .bl b ∧ β b) (h2 : β false → Ev K P Z tb ρ kb ψ) : Ev K P Z (tOrV ta tb) ρ (ka + kb) (fun d => (d = .bl true ∧ β true) ∨ (β false ∧ ψ d)) := fun M0 σ G M H m Q a l q => by
  refine h M0 σ G M H m _ a (add3 l).1 fun v d G1 M1 H1 s1 a1 p1 v1 => ?_
  obtain ⟨b, rfl, hb⟩ := f d p1
  cases v1
  refine ⟨b, rfl, ?_⟩
  cases b with
  | false =>
    show tb σ H1 Q
    exact h2 hb M0 σ G1 M1 H1 (m + ka) Q a1 (add3 l).2 fun v d G2 M2 H2 s2 a2 p2 v2 => q v d G2 M2 H2 (s1.trans s2) (a2.more (by omega)) (.inr ⟨hb, p2⟩) v2
  | true =>
    show Q (.bl true) H1
    exact q _ _ G1 M1 H1 s1 (a1.more (by omega)) (.inl ⟨rfl, hb⟩) (.bl true)
theorem ev_notV (h : Ev K P Z ta ρ k φ) (f : ∀ d, φ d → ∃ b, d = .bl b ∧ β b) : Ev K P Z (tNotV ta) ρ k (fun d => ∃ b, d = .bl (!b) ∧ β b) := fun M0 σ G M H m Q a l q =>
  h M0 σ G M H m _ a l fun v d G2 M2 H2 s2 a2 p2 v2 => by
    obtain ⟨b, rfl, hb⟩ := f d p2
    cases v2
    exact ⟨b, rfl, q _ _ G2 M2 H2 s2 a2 ⟨b, rfl, hb⟩ (.bl _)⟩
theorem ea_nil : EvA K P Z tNil ρ 0 (· = []) := fun M0 σ G M H m Q a _ q => q [] [] G M H (Step.refl a.sep) a rfl .nil
theorem ea_cons {Φ : List D → Prop} (h : Ev K P Z te ρ ka φ) (h2 : EvA K P Z tr ρ kb Φ) : EvA K P Z (tCons te tr) ρ (ka + kb) (fun ds => ∃ d es, ds = d :: es ∧ φ d ∧ Φ es) := fun M0 σ G M H m Q a l q => by
  refine h M0 σ G M H m _ a (add3 l).1 fun x d1 G1 M1 H1 s1 a1 p1 v1 => ?_
  refine h2 M0 σ G1 M1 H1 (m + ka) _ a1 (add3 l).2 fun vs ds G2 M2 H2 s2 a2 p2 v2 => ?_
  exact q _ _ G2 M2 H2 (s1.trans s2) (a2.more (by omega)) ⟨d1, ds, rfl, p1, p2⟩ (.cons (v1.mono s2.gg) v2)
theorem szOk {n : Nat} (h : n ≤ 1000000) : n ≤ sizeLine := Nat.le_trans h (by decide)
theorem sq_of' {G : Hp} {p : Addr} {vs : List V} (h : G p = some (.lst vs)) : SqL K G p vs := .inl (.inl h)
theorem st_new {G : Hp} {p : Addr} {vs : List V} : SqT K (upd G p (.tup vs)) p vs := .inl (.inl upd_same)
theorem new_tup {G M H : Hp} {p : Addr} {vs : List V} {ds : List D} (s : Sep G M H) (n : H p = none) (h : DVs K G vs ds) : DV K (upd G p (.tup vs)) (.ref p) (.tup ds) := .tup st_new (h.mono (Step.new s n).gg)
theorem new_lst {G M H : Hp} {p : Addr} {vs : List V} {ds : List D} (s : Sep G M H) (n : H p = none) (h : DVs K G vs ds) : DV K (upd G p (.lst vs)) (.ref p) (.lst ds) := .lst upd_same (h.mono (Step.new s n).gg)
theorem ev_tup {Φ : List D → Prop} (h : EvA K P Z tr ρ k Φ) (l : ∀ ds, Φ ds → ds.length ≤ 1000000) : Ev K P Z (tTup tr) ρ k (fun d => ∃ ds, d = .tup ds ∧ Φ ds) := fun M0 σ G M H m Q a b q =>
  h M0 σ G M H m _ a b fun vs ds G1 M1 H1 s1 a1 p1 v1 => ⟨szOk (by rw [v1.length]; exact l ds p1), fun p n =>
    q _ _ _ _ _ (s1.trans (Step.new a1.sep n)) (a1.pure (Step.new a1.sep n)) ⟨ds, rfl, p1⟩ (new_tup a1.sep n v1)⟩
theorem ev_lst {Φ : List D → Prop} (h : EvA K P Z tr ρ k Φ) (l : ∀ ds, Φ ds → ds.length ≤ 1000000) : Ev K P Z (tLst tr) ρ k (fun d => ∃ ds, d = .lst ds ∧ Φ ds) := fun M0 σ G M H m Q a b q =>
  h M0 σ G M H m _ a b fun vs ds G1 M1 H1 s1 a1 p1 v1 => ⟨szOk (by rw [v1.length]; exact l ds p1), fun p n =>
    q _ _ _ _ _ (s1.trans (Step.new a1.sep n)) (a1.pure (Step.new a1.sep n)) ⟨ds, rfl, p1⟩ (new_lst a1.sep n v1)⟩
theorem ev_call {r : List V → Hp → VK → Prop} {Φ : List D → Prop} (h : EvA K P Z tr ρ k Φ) (f : ∀ ds, Φ ds → CallD K r ds χ) : Ev K P Z (tCB r tr) ρ k χ := fun M0 σ G M H m Q a b q =>
  h M0 σ G M H m _ a b fun vs ds G1 M1 H1 s1 a1 p1 v1 => f ds p1 vs G1 M1 H1 Q a1.sep v1 fun z d G2 H2 s2 p2 v2 => q z d G2 M1 H2 (s1.trans s2) (a1.pure s2) p2 v2
theorem ev_fld {C : Addr} {fs : List (Str × D)} {f : Str} (c : Cls K C) (nf : NoAttr K C f) (h : Ev K P Z to ρ k φ) (g : ∀ d, φ d → ∃ fs x, d = .ins C fs ∧ fs.lookup f = some x ∧ χ x) : Ev K P Z (tFld K to f) ρ k χ := fun M0 σ G M H m Q a b q =>
  h M0 σ G M H m _ a b fun v d G1 M1 H1 s1 a1 p1 v1 => by
    obtain ⟨fs, x, rfl, lk, hx⟩ := g d p1
    cases v1 with
    | ins h1 h2 =>
      obtain ⟨w, l, hw⟩ := h2.look lk
      exact ⟨_, C, _, _, w, rfl, s1.s.g _ _ h1, c, nf, l, q w x G1 M1 H1 s1 a1 hx hw⟩
theorem ev_errF {f : Str} (h : Ev K P Z to ρ k φ) (g : ∀ d, φ d → ∃ C x, d = .err C x ∧ ErrC K C ∧ χ x) : Ev K P Z (tErrF K "value" to) ρ k χ := fun M0 σ G M H m Q a b q =>
  h M0 σ G M H m _ a b fun v d G1 M1 H1 s1 a1 p1 v1 => by
    obtain ⟨C, x, rfl, T, hx⟩ := g d p1
    cases v1 with
    | err h1 h2 => exact ⟨_, C, _, _, _, rfl, T, T.nv, h1.mono s1.s.g, by rw [lookup_put, if_pos rfl], q _ _ G1 M1 H1 s1 a1 hx h2⟩
theorem ev_bm {T : String} {r : V → List V → Hp → VK → Prop} {Φ : List D → Prop} (h : Ev K P Z to ρ ka φ) (h2 : EvA K P Z tr ρ kb Φ) (ty : ∀ d, φ d → ∀ G H v, Same G H → DV K G v d → tyV K T v H)
    (f : ∀ d ds, φ d → Φ ds → MethD K r d ds χ) : Ev K P Z (tBM K T r to tr) ρ (ka + kb) χ := fun M0 σ G M H m Q a l q => by
  refine h M0 σ G M H m _ a (add3 l).1 fun x d1 G1 M1 H1 s1 a1 p1 v1 => ⟨ty d1 p1 _ _ _ s1.s.g v1, ?_⟩
  refine h2 M0 σ G1 M1 H1 (m + ka) _ a1 (add3 l).2 fun vs ds G2 M2 H2 s2 a2 p2 v2 => ?_
  refine f d1 ds p1 p2 x vs G2 M2 H2 Q a2.sep (v1.mono s2.gg) v2 fun z d3 G3 H3 s3 p3 v3 => ?_
  exact q z d3 G3 M2 H3 ((s1.trans s2).trans s3) ((a2.pure s3).more (by omega)) p3 v3
theorem ev_bm0 {T : String} {r : V → List V → Hp → VK → Prop} (h : Ev K P Z to ρ k φ) (ty : ∀ d, φ d → ∀ G H v, Same G H → DV K G v d → tyV K T v H)
    (f : ∀ d, φ d → MethD K r d [] χ) : Ev K P Z (tBM0 K T r to) ρ k χ := fun M0 σ G M H m Q a l q =>
  h M0 σ G M H m _ a l fun x d1 G1 M1 H1 s1 a1 p1 v1 => ⟨ty d1 p1 _ _ _ s1.s.g v1, f d1 p1 x [] G1 M1 H1 Q a1.sep v1 .nil fun z d3 G3 H3 s3 p3 v3 => q z d3 G3 M1 H3 (s1.trans s3) (a1.pure s3) p3 v3⟩
end
/-! ### what a def promises, over data -/
/-- k: draws; pre, post: of the arguments' data, of them and the answer's -/
def spD (K : PySem.W.Frag) (k : Nat) (pre : List D → Prop) (post : List D → D → Prop) : Sp := fun vs H Q _ => ∃ (G M : Hp) (ds : List D), Sep G M H ∧ DVs K G vs ds ∧ pre ds ∧
  ∀ v d G2 H2, Step G M H G2 M H2 → post ds d → DV K G2 v d → Q v H2
def spP (K : PySem.W.Frag) (k : Nat) (pre : List D → Prop) (post : List D → D → Prop) : Sp := fun vs H Q _ => ∃ (p : Addr) (us : List V) (G M : Hp) (m : Nat) (ds : List D), vs = .ref p :: us ∧ Sep G M H ∧ PotM (some p) m M ∧ (∃ o, M p = some o) ∧ m + k ≤ BIG ∧ DVs K G us ds ∧ pre ds ∧
  ∀ v d G2 M2 H2, Step G M H G2 M2 H2 → PotM (some p) (m + k) M2 → (∀ a, a ≠ p → M2 a = M a) → post ds d → DV K G2 v d → Q v H2
section
variable {K : PySem.W.Frag} {P : Option Addr} {Z : Bas} {ρ : List Sx} {tr : TA} {k kf : Nat} {pre : List D → Prop} {post : List D → D → Prop} {Φ : List D → Prop} {i : Nat} {E : XK}
theorem ev_fun (h : EvA K P Z tr ρ k Φ) (f : ∀ ds, Φ ds → pre ds) : Ev K P Z (tCall (spD K kf pre post) [] E tr) ρ k (fun d => ∃ ds, Φ ds ∧ post ds d) := fun M0 σ G M H m Q a b q =>
  h M0 σ G M H m _ a b fun vs ds G1 M1 H1 s1 a1 p1 v1 => ⟨G1, M1, ds, a1.sep, by rw [List.append_nil]; exact v1, f ds p1, fun v d G2 H2 s2 p2 v2 => q v d G2 M1 H2 (s1.trans s2) (a1.pure s2) ⟨ds, p1, p2⟩ v2⟩
theorem ev_funP (e : ρ[i]? = some .pot) (h : EvA K P Z tr ρ k Φ) (f : ∀ ds, Φ ds → pre ds) : Ev K P Z (tCall (spP K kf pre post) [] E (tCons (tVar i) tr)) ρ (k + kf) (fun d => ∃ ds, Φ ds ∧ post ds d) := fun M0 σ G M H m Q a b q => by
  obtain ⟨p, ep, es⟩ := a.sl i _ e
  subst ep
  refine ⟨.ref p, es, h M0 σ G M H m _ a (add3 b).1 fun vs ds G1 M1 H1 s1 a1 p1 v1 => ?_⟩
  obtain ⟨c1, c2, c3, hc, _⟩ := a1.pot p rfl
  refine ⟨p, vs, G1, M1, m + k, ds, by rw [List.append_nil], a1.sep, a1.pot, ⟨_, hc⟩, (add3 b).2, v1, f ds p1, fun v d G2 M2 H2 s2 pm off p2 v2 => ?_⟩
  refine q v d G2 M2 H2 (s1.trans s2) ((a1.go s2 pm fun c o hc z => ?_).more (by omega)) ⟨ds, p1, p2⟩ v2
  rw [off c fun z => hc (congrArg some z.symm)]
  exact z
end
end Tp

/-! # Statements over data -/
namespace Tp
open PySem PySem.Spec PyProof.Rows L2
def setL (σ : L2.St) : List Nat → List V → L2.St
  | j :: js, v :: vs => setL (σ.set j (some v)) js vs
  | _, _ => σ
def setR (ρ : List Sx) : List Nat → List D → List Sx
  | j :: js, d :: ds => setR (ρ.set j (.d d)) js ds
  | _, _ => ρ
section
variable {K : PySem.W.Frag} {P : Option Addr} {Z : Bas} {M0 G M H : Hp} {m : Nat}
theorem At.setL : ∀ {js : List Nat} {vs : List V} {ds : List D} {σ : L2.St} {ρ : List Sx}, At K P Z M0 m G M H σ ρ → (∀ j ∈ js, j < ρ.length) → DVs K G vs ds → At K P Z M0 m G M H (Tp.setL σ js vs) (setR ρ js ds)
  | [], _, _, _, _, a, _, _ => a
  | _ :: _, _, _, _, _, a, _, .nil => a
  | j :: js, _, _, _, ρ, a, h, .cons (d := d) hv hs => by
    have step := a.set (h j List.mem_cons_self) hv
    have more : ∀ i ∈ js, i < (ρ.set j (.d d)).length := fun i hi => by
      rw [List.length_set]
      exact h i (List.mem_cons_of_mem _ hi)
    have rest := At.setL step more hs
    exact rest
end
theorem wipe_set (σ : L2.St) (x : Option V) : ∀ {vs : List Nat} {j : Nat}, j ∈ vs → wipe (σ.set j x) vs = wipe σ vs
  | v :: vs, j, h => by
    by_cases q : j ∈ vs
    · unfold wipe
      rw [wipe_set σ x q]
    · have e : j = v := by
        rcases List.mem_cons.mp h with z | z
        · exact z
        · exact absurd z q
      subst e
      have out : ∀ {ws : List Nat}, j ∉ ws → wipe (σ.set j x) ws = (wipe σ ws).set j x := by
        intro ws
        induction ws with
        | nil => exact fun _ => rfl
        | cons w ws ih =>
          intro n
          have n1 : j ≠ w := fun z => n (by rw [z]; exact List.mem_cons_self)
          have n2 : j ∉ ws := fun z => n (List.mem_cons_of_mem _ z)
          unfold wipe
          rw [ih n2, List.set_comm _ _ n1]
      unfold wipe
      rw [out q, List.set_set]
theorem wipe_wipe (σ : L2.St) : ∀ {vs us : List Nat}, (∀ v ∈ us, v ∈ vs) → wipe (wipe σ us) vs = wipe σ vs
  | vs, [], _ => rfl
  | vs, u :: us, h => by
    show wipe ((wipe σ us).set u none) vs = _
    rw [wipe_set _ _ (h u List.mem_cons_self), wipe_wipe σ fun v hv => h v (List.mem_cons_of_mem _ hv)]
theorem wipe_setL : ∀ (js : List Nat) (ws : List V) (σ : L2.St) {vs : List Nat}, (∀ j ∈ js, j ∈ vs) → wipe (setL σ js ws) vs = wipe σ vs
  | [], _, _, _, _ => rfl
  | _ :: _, [], _, _, _ => rfl
  | j :: js, w :: ws, σ, vs, h => by
    show wipe (setL (σ.set j (some w)) js ws) vs = _
    rw [wipe_setL js ws _ fun i hi => h i (List.mem_cons_of_mem _ hi), wipe_set _ _ (h j List.mem_cons_self)]
def wipeR (ρ : List Sx) : List Nat → List Sx
  | [] => ρ
  | v :: vs => (wipeR ρ vs).set v .un
section
variable {K : PySem.W.Frag} {P : Option Addr} {Z : Bas} {M0 G M H : Hp} {m : Nat} {σ : L2.St} {ρ : List Sx}
theorem At.un (a : At K P Z M0 m G M H σ ρ) (j : Nat) : At K P Z M0 m G M H σ (ρ.set j .un) := a.weak (by rw [List.length_set]) fun i => by
  by_cases h : j < ρ.length
  · rw [getset h]
    by_cases q : j = i
    · rw [if_pos q]
      exact .inr rfl
    · rw [if_neg q]
      exact .inl rfl
  · rw [List.set_eq_of_length_le (by omega)]
    exact .inl rfl
theorem At.setNone (a : At K P Z M0 m G M H σ ρ) (j : Nat) : At K P Z M0 m G M H (σ.set j none) (ρ.set j .un) where
  sep := a.sep
  pot := a.pot
  fr := a.fr
  bm := a.bm
  bs := a.bs
  len := by rw [List.length_set, List.length_set, a.len]
  sl := fun i y e => by
    by_cases h : j < ρ.length
    · rw [getset h] at e
      rw [getset (by rw [a.len]; exact h)]
      by_cases q : j = i
      · rw [if_pos q] at e
        cases e
        trivial
      · rw [if_neg q] at e ⊢
        exact a.sl i y e
    · rw [List.set_eq_of_length_le (by omega)] at e
      rw [List.set_eq_of_length_le (by rw [a.len]; omega)]
      exact a.sl i y e
  nd := fun i k b b' e1 e2 ne => by
    by_cases h : j < ρ.length
    · rw [getset h] at e1 e2
      rw [getset (by rw [a.len]; exact h), getset (by rw [a.len]; exact h)]
      by_cases q : j = i
      · rw [if_pos q] at e1
        cases e1
      · by_cases q' : j = k
        · rw [if_pos q'] at e2
          cases e2
        · rw [if_neg q] at e1 ⊢
          rw [if_neg q'] at e2 ⊢
          exact a.nd i k b b' e1 e2 ne
    · rw [List.set_eq_of_length_le (by omega)] at e1 e2
      rw [List.set_eq_of_length_le (by rw [a.len]; omega)]
      exact a.nd i k b b' e1 e2 ne
theorem At.wipe (a : At K P Z M0 m G M H σ ρ) : ∀ vs : List Nat, At K P Z M0 m G M H (L2.wipe σ vs) (wipeR ρ vs)
  | [] => a
  | v :: vs => (a.wipe vs).setNone v
theorem wipeR_len (ρ : List Sx) : ∀ vs, (wipeR ρ vs).length = ρ.length
  | [] => rfl
  | v :: vs => by
    unfold wipeR
    rw [List.length_set, wipeR_len ρ vs]
end
/-! ### what is walked; targets -/
section
variable (K : PySem.W.Frag) (P : Option Addr) (Z : Bas)
/-- a walk over the data ds, from a state on which it leans: (G2, H2) -/
structure WalkD (J : It) (ds : List D) (G2 : Hp) : Prop where
  ex : ∃ (GG : Hp → Prop) (YY : Nat → Hp → V → Hp → Prop), Walk J ds.length GG YY ∧ (∀ H, Same G2 H → GG H) ∧
    ∀ i G' M' H' x H'', i < ds.length → Same G2 G' → Sep G' M' H' → YY i H' x H'' → ∃ d G'', ds[i]? = some d ∧ Step G' M' H' G'' M' H'' ∧ DV K G'' x d
def EvI (ti : TI) (ρ : List Sx) (k : Nat) (φ : List D → Prop) : Prop := ∀ (M0 : Hp) (σ : L2.St) (G M H : Hp) (m : Nat) (R : It → Hp → Prop), At K P Z M0 m G M H σ ρ → m + k ≤ BIG →
  (∀ J ds G2 M2 H2, Step G M H G2 M2 H2 → At K P Z M0 (m + k) G2 M2 H2 σ ρ → φ ds → WalkD K J ds G2 → R J H2) → ti σ H R
/-- a target: it takes apart a value with the data d into the data f d, stored at js -/
def EvG (g : TG) (js : List Nat) (d : D) (es : List D) : Prop := ∀ (v : V) (σ : L2.St) (G H : Hp) (Q : L2.St → Hp → Prop), Same G H → DV K G v d → (∀ vs, vs.length = js.length → DVs K G vs es → Q (setL σ js vs) H) → g v σ H Q
end
section
variable {K : PySem.W.Frag} {P : Option Addr} {Z : Bas} {ρ : List Sx} {te tb : TE} {tr : TA} {k : Nat} {φ : D → Prop} {j : Nat} {d : D}
theorem eg_name : EvG K (gName j) [j] d [d] := fun v σ G H Q _ h q => q [v] rfl (.cons h .nil)
theorem eg_pair {i j : Nat} {a b : D} : EvG K (gTup K 2 (gCons (gName i) (gCons (gName j) gNil))) [i, j] (.tup [a, b]) [a, b] := fun v σ G H Q s h q => by
  cases h with
  | tup h1 h2 =>
    have h2' := h2
    cases h2 with
    | cons ha h2 =>
      cases h2 with
      | cons hb h2 =>
        cases h2
        exact ⟨_, _, rfl, s.sqTd h1, rfl, _, _, rfl, _, _, rfl, rfl, q _ rfl h2'⟩
theorem eg_triple {i j l : Nat} {a b c : D} : EvG K (gTup K 3 (gCons (gName i) (gCons (gName j) (gCons (gName l) gNil)))) [i, j, l] (.tup [a, b, c]) [a, b, c] := fun v σ G H Q s h q => by
  cases h with
  | tup h1 h2 =>
    have h2' := h2
    cases h2 with
    | cons ha h2 =>
      cases h2 with
      | cons hb h2 =>
        cases h2 with
        | cons hc h2 =>
          cases h2
          exact ⟨_, _, rfl, s.sqTd h1, rfl, _, _, rfl, _, _, rfl, _, _, rfl, rfl, q _ rfl h2'⟩
theorem ei_list (h : Ev K P Z te ρ k φ) {Φ : List D → Prop} (f : ∀ d, φ d → ∃ ds, d = .lst ds ∧ Φ ds) : EvI K P Z (iList K te) ρ k Φ := fun M0 σ G M H m R a l q =>
  h M0 σ G M H m _ a l fun v d G1 M1 H1 s1 a1 p1 v1 => by
    obtain ⟨ds, rfl, hd⟩ := f d p1
    cases v1 with
    | @lst b xs _ h1 h2 =>
      refine ⟨b, rfl, ⟨_, sq_of' (s1.s.g _ _ h1)⟩, q _ ds G1 M1 H1 s1 a1 hd ⟨_, _, by rw [← h2.length]; exact walk_list, fun H s => sq_of' (s _ _ h1), fun i G' M' H' x H'' hi s' sp y => ?_⟩⟩
      obtain ⟨rfl, e⟩ := y
      obtain ⟨d, e', hv⟩ := h2.at e
      exact ⟨d, G', e', Step.refl sp, hv.mono s'⟩
theorem ei_tup (h : Ev K P Z te ρ k φ) {Φ : List D → Prop} (f : ∀ d, φ d → ∃ ds, d = .tup ds ∧ Φ ds) : EvI K P Z (iTup K te) ρ k Φ := fun M0 σ G M H m R a l q =>
  h M0 σ G M H m _ a l fun v d G1 M1 H1 s1 a1 p1 v1 => by
    obtain ⟨ds, rfl, hd⟩ := f d p1
    cases v1 with
    | @tup b xs _ h1 h2 =>
      refine ⟨b, rfl, ⟨_, s1.s.g.sqTd h1⟩, q _ ds G1 M1 H1 s1 a1 hd ⟨_, _, by rw [← h2.length]; exact walk_tup, fun H s => s.sqTd h1, fun i G' M' H' x H'' hi s' sp y => ?_⟩⟩
      obtain ⟨rfl, e⟩ := y
      obtain ⟨d, e', hv⟩ := h2.at e
      exact ⟨d, G', e', Step.refl sp, hv.mono s'⟩
def rangeD (n : Nat) : List D := (List.range n).map fun i => .int (i : Nat)
theorem rangeD_len {n : Nat} : (rangeD n).length = n := by simp [rangeD]
theorem rangeD_at {n i : Nat} (h : i < n) : (rangeD n)[i]? = some (.int (i : Nat)) := by simp [rangeD, h]
theorem ei_range1 (h : EvA K P Z tr ρ k (fun ds => ∃ n : Int, ds = [.int n] ∧ n ≤ 1000000 ∧ -1000000 ≤ n ∧ φ (.int n))) : EvI K P Z (iRng1 tr) ρ k (fun ds => ∃ n : Int, ds = rangeD n.toNat ∧ φ (.int n)) := fun M0 σ G M H m R a l q =>
  h M0 σ G M H m _ a l fun vs ds G1 M1 H1 s1 a1 p1 v1 => by
    obtain ⟨n, rfl, h1, h2, h3⟩ := p1
    cases v1 with
    | cons hv hn =>
      cases hn
      cases hv
      refine ⟨n, rfl, by omega, by omega, q _ (rangeD n.toNat) G1 M1 H1 s1 a1 ⟨n, rfl, h3⟩ ⟨fun _ => True, _, by rw [rangeD_len]; exact walk_range, fun _ _ => trivial, fun i G' M' H' x H'' hi s' sp y => ?_⟩⟩
      obtain ⟨rfl, rfl⟩ := y
      rw [rangeD_len] at hi
      exact ⟨_, G', rangeD_at hi, Step.refl sp, by show DV K G' (.int (0 + (i : Int))) _; rw [Int.zero_add]; exact .int _⟩
def enumD (ds : List D) : List D := (List.range ds.length).zipWith (fun i d => .tup [.int (i : Nat), d]) ds
theorem enumD_len {ds : List D} : (enumD ds).length = ds.length := by simp [enumD]
theorem enumD_at {ds : List D} {i : Nat} {d : D} (h : ds[i]? = some d) : (enumD ds)[i]? = some (.tup [.int (i : Nat), d]) := by
  have hi : i < ds.length := (List.getElem?_eq_some_iff.mp h).1
  have e2 : ds[i] = d := (List.getElem?_eq_some_iff.mp h).2
  simp [enumD, List.getElem?_zipWith, hi, e2]
theorem pair_step {G M H : Hp} {T : Addr} {x y : V} {a b : D} (s : Sep G M H) (n : H T = none) (hx : DV K G x a) (hy : DV K G y b) : ∃ G'', Step G M H G'' M (upd H T (.tup [x, y])) ∧ DV K G'' (.ref T) (.tup [a, b]) :=
  ⟨_, Step.new s n, new_tup s n (.cons hx (.cons hy .nil))⟩
theorem ei_enum (h : EvA K P Z tr ρ k (fun ds => ∃ es, ds = [.lst es] ∧ φ (.lst es))) : EvI K P Z (iEnum K tr) ρ k (fun ds => ∃ es, ds = enumD es ∧ φ (.lst es)) := fun M0 σ G M H m R a l q =>
  h M0 σ G M H m _ a l fun vs ds G1 M1 H1 s1 a1 p1 v1 => by
    obtain ⟨es, rfl, h3⟩ := p1
    cases v1 with
    | cons hv hn =>
      cases hn
      cases hv with
      | @lst b xs _ h1 h2 =>
        refine ⟨b, xs, rfl, sq_of' (s1.s.g _ _ h1), q _ (enumD es) G1 M1 H1 s1 a1 ⟨es, rfl, h3⟩ ⟨_, _, by rw [enumD_len, ← h2.length]; exact walk_enum, fun H s => sq_of' (s _ _ h1), fun i G' M' H' x H'' hi s' sp y => ?_⟩⟩
        obtain ⟨T, x1, y1, rfl, n, rfl, e1, e2⟩ := y
        cases e1
        obtain ⟨d, e', hv⟩ := h2.at e2
        obtain ⟨G'', st, dv⟩ := pair_step sp n (.int (i : Nat)) (hv.mono s')
        exact ⟨_, G'', enumD_at e', st, dv⟩
def signsD (z : Str) : List D := z.cps.toList.map fun c => .str ⟨#[c]⟩
theorem ei_str (h : Ev K P Z te ρ k φ) {Φ : Str → Prop} (f : ∀ d, φ d → ∃ z, d = .str z ∧ z.length ≤ sizeLine ∧ Φ z) (hi : ∀ σ H R, (te σ H fun x H1 => ∃ z, x = .str z ∧ z.length ≤ sizeLine ∧ R (Its z) H1) → iStr te σ H R) : EvI K P Z (iStr te) ρ k (fun ds => ∃ z, ds = signsD z ∧ Φ z) := fun M0 σ G M H m R a l q => by
  refine hi _ _ _ (h M0 σ G M H m _ a l fun v d G1 M1 H1 s1 a1 p1 v1 => ?_)
  obtain ⟨z, rfl, hz, hd⟩ := f d p1
  cases v1
  have len : (signsD z).length = z.cps.size := by simp [signsD]
  refine ⟨z, rfl, hz, q _ (signsD z) G1 M1 H1 s1 a1 ⟨z, rfl, hd⟩ ⟨fun _ => True, _, by rw [len]; exact walk_str, fun _ _ => trivial, fun i G' M' H' x H'' hi s' sp y => ?_⟩⟩
  obtain ⟨rfl, c, e, rfl⟩ := y
  refine ⟨.str ⟨#[c]⟩, G', ?_, Step.refl sp, .str _⟩
  unfold signsD
  rw [List.getElem?_map]
  have e2 : z.cps.toList[i]? = some c := by simpa using e
  rw [e2]
  rfl
end
/-! ### statements -/
section
variable (K : PySem.W.Frag) (P : Option Addr) (Z : Bas)
def NoR : List Sx → Prop := fun _ => False
def NoD : D → Prop := fun _ => False
/-- a statement: N of the slots behind it, B at a break, C at a continue, R of what it hands back -/
def Es (ts : TS) (ρ : List Sx) (k : Nat) (N B C : List Sx → Prop) (R : D → Prop) : Prop := ∀ (M0 : Hp) (σ : L2.St) (G M H : Hp) (m : Nat) (E : Ends), At K P Z M0 m G M H σ ρ → m + k ≤ BIG →
  (∀ σ' ρ' G2 M2 H2, Step G M H G2 M2 H2 → At K P Z M0 (m + k) G2 M2 H2 σ' ρ' → N ρ' → E.nx σ' H2) →
  (∀ σ' ρ' G2 M2 H2, Step G M H G2 M2 H2 → At K P Z M0 (m + k) G2 M2 H2 σ' ρ' → B ρ' → E.bk σ' H2) →
  (∀ σ' ρ' G2 M2 H2, Step G M H G2 M2 H2 → At K P Z M0 (m + k) G2 M2 H2 σ' ρ' → C ρ' → E.ct σ' H2) →
  (∀ v d σ' ρ' G2 M2 H2, Step G M H G2 M2 H2 → At K P Z M0 (m + k) G2 M2 H2 σ' ρ' → R d → DV K G2 v d → E.rt v H2) → ts E σ H
end
section
variable {K : PySem.W.Frag} {P : Option Addr} {Z : Bas} {ρ : List Sx} {te : TE} {tr : TA} {tt : TT} {ti : TI} {g : TG} {k k1 k2 kc : Nat} {φ : D → Prop} {β : Bool → Prop} {i j : Nat} {d : D} {t u : TS} {N N1 B C : List Sx → Prop} {R : D → Prop}
theorem Es.imp {N' B' C' : List Sx → Prop} {R' : D → Prop} (h : Es K P Z t ρ k N B C R) (hn : ∀ r, N r → N' r) (hb : ∀ r, B r → B' r) (hc : ∀ r, C r → C' r) (hr : ∀ d, R d → R' d) : Es K P Z t ρ k N' B' C' R' :=
  fun M0 σ G M H m E a l q1 q2 q3 q4 => h M0 σ G M H m E a l (fun σ' ρ' G2 M2 H2 s a z => q1 σ' ρ' G2 M2 H2 s a (hn _ z)) (fun σ' ρ' G2 M2 H2 s a z => q2 σ' ρ' G2 M2 H2 s a (hb _ z))
    (fun σ' ρ' G2 M2 H2 s a z => q3 σ' ρ' G2 M2 H2 s a (hc _ z)) (fun v d σ' ρ' G2 M2 H2 s a z => q4 v d σ' ρ' G2 M2 H2 s a (hr _ z))
theorem Es.le (h : Es K P Z t ρ k1 N B C R) (l : k1 ≤ k) : Es K P Z t ρ k N B C R :=
  fun M0 σ G M H m E a b q1 q2 q3 q4 => h M0 σ G M H m E a (by omega) (fun σ' ρ' G2 M2 H2 s a z => q1 σ' ρ' G2 M2 H2 s (a.more (by omega)) z) (fun σ' ρ' G2 M2 H2 s a z => q2 σ' ρ' G2 M2 H2 s (a.more (by omega)) z)
    (fun σ' ρ' G2 M2 H2 s a z => q3 σ' ρ' G2 M2 H2 s (a.more (by omega)) z) (fun v d σ' ρ' G2 M2 H2 s a z => q4 v d σ' ρ' G2 M2 H2 s (a.more (by omega)) z)
/-- it ends in a return, a break, a continue: whatever is asked of what follows -/
theorem es_seq (h1 : Es K P Z t ρ k1 N1 B C R) (h2 : ∀ ρ1, N1 ρ1 → Es K P Z u ρ1 k2 N B C R) : Es K P Z (tSeq t u) ρ (k1 + k2) N B C R := fun M0 σ G M H m E a l q1 q2 q3 q4 => by
  refine h1 M0 σ G M H m { E with nx := u E } a (by omega) (fun σ1 ρ1 G1 M1 H1 s1 a1 n1 => ?_) (fun σ' ρ' G2 M2 H2 s a z => q2 σ' ρ' G2 M2 H2 s (a.more (by omega)) z)
    (fun σ' ρ' G2 M2 H2 s a z => q3 σ' ρ' G2 M2 H2 s (a.more (by omega)) z) (fun v d σ' ρ' G2 M2 H2 s a z => q4 v d σ' ρ' G2 M2 H2 s (a.more (by omega)) z)
  exact h2 ρ1 n1 M0 σ1 G1 M1 H1 (m + k1) E a1 (by omega) (fun σ' ρ' G2 M2 H2 s a z => q1 σ' ρ' G2 M2 H2 (s1.trans s) (a.more (by omega)) z) (fun σ' ρ' G2 M2 H2 s a z => q2 σ' ρ' G2 M2 H2 (s1.trans s) (a.more (by omega)) z)
    (fun σ' ρ' G2 M2 H2 s a z => q3 σ' ρ' G2 M2 H2 (s1.trans s) (a.more (by omega)) z) (fun v d σ' ρ' G2 M2 H2 s a z => q4 v d σ' ρ' G2 M2 H2 (s1.trans s) (a.more (by omega)) z)
theorem es_next : Es K P Z tNext ρ 0 (· = ρ) NoR NoR NoD := fun M0 σ G M H m E a l q1 _ _ _ => q1 σ ρ G M H (Step.refl a.sep) a rfl
theorem es_brk : Es K P Z tBreak ρ 0 NoR (· = ρ) NoR NoD := fun M0 σ G M H m E a l _ q1 _ _ => q1 σ ρ G M H (Step.refl a.sep) a rfl
theorem es_cont : Es K P Z tCont ρ 0 NoR NoR (· = ρ) NoD := fun M0 σ G M H m E a l _ _ q1 _ => q1 σ ρ G M H (Step.refl a.sep) a rfl
theorem es_asg (h : Ev K P Z te ρ k φ) (l : i < ρ.length) : Es K P Z (tAsg te (gName i)) ρ k (fun r => ∃ d, φ d ∧ r = ρ.set i (.d d)) NoR NoR NoD := fun M0 σ G M H m E a b q1 _ _ _ =>
  h M0 σ G M H m _ a b fun v d G1 M1 H1 s1 a1 p1 v1 => q1 _ _ G1 M1 H1 s1 (a1.set l v1) ⟨d, p1, rfl⟩
theorem es_asgG {js : List Nat} {f : D → List D} (h : Ev K P Z te ρ k φ) (hg : ∀ d, φ d → EvG K g js d (f d)) (l : ∀ j ∈ js, j < ρ.length) : Es K P Z (tAsg te g) ρ k (fun r => ∃ d, φ d ∧ r = setR ρ js (f d)) NoR NoR NoD := fun M0 σ G M H m E a b q1 _ _ _ =>
  h M0 σ G M H m _ a b fun v d G1 M1 H1 s1 a1 p1 v1 => hg d p1 v σ G1 H1 _ a1.sep.g v1 fun vs _ hs => q1 _ _ G1 M1 H1 s1 (a1.setL l hs) ⟨d, p1, rfl⟩
theorem es_ret (h : Ev K P Z te ρ k φ) : Es K P Z (tRet te) ρ k NoR NoR NoR φ := fun M0 σ G M H m E a b _ _ _ q4 =>
  h M0 σ G M H m _ a b fun v d G1 M1 H1 s1 a1 p1 v1 => q4 v d σ ρ G1 M1 H1 s1 a1 p1 v1
theorem es_retN : Es K P Z tRetN ρ 0 NoR NoR NoR (· = .non) := fun M0 σ G M H m E a b _ _ _ q4 => q4 .non .non σ ρ G M H (Step.refl a.sep) a rfl .non
theorem es_drop (h : Ev K P Z te ρ k φ) : Es K P Z (tDrop te) ρ k (· = ρ) NoR NoR NoD := fun M0 σ G M H m E a b q1 _ _ _ =>
  h M0 σ G M H m _ a b fun v d G1 M1 H1 s1 a1 p1 v1 => q1 σ ρ G1 M1 H1 s1 a1 rfl
theorem es_if (hc : EvT K P Z tt ρ kc β) (h1 : β true → Es K P Z t ρ k N B C R) (h2 : β false → Es K P Z u ρ k N B C R) : Es K P Z (tIfS tt t u) ρ (kc + k) N B C R := fun M0 σ G M H m E a l q1 q2 q3 q4 => by
  refine hc M0 σ G M H m _ a (by omega) fun b G1 M1 H1 s1 a1 p1 => ?_
  cases b with
  | true =>
    show t E σ H1
    exact h1 p1 M0 σ G1 M1 H1 (m + kc) E a1 (by omega) (fun σ' ρ' G2 M2 H2 s a z => q1 σ' ρ' G2 M2 H2 (s1.trans s) (a.more (by omega)) z) (fun σ' ρ' G2 M2 H2 s a z => q2 σ' ρ' G2 M2 H2 (s1.trans s) (a.more (by omega)) z)
      (fun σ' ρ' G2 M2 H2 s a z => q3 σ' ρ' G2 M2 H2 (s1.trans s) (a.more (by omega)) z) (fun v d σ' ρ' G2 M2 H2 s a z => q4 v d σ' ρ' G2 M2 H2 (s1.trans s) (a.more (by omega)) z)
  | false =>
    show u E σ H1
    exact h2 p1 M0 σ G1 M1 H1 (m + kc) E a1 (by omega) (fun σ' ρ' G2 M2 H2 s a z => q1 σ' ρ' G2 M2 H2 (s1.trans s) (a.more (by omega)) z) (fun σ' ρ' G2 M2 H2 s a z => q2 σ' ρ' G2 M2 H2 (s1.trans s) (a.more (by omega)) z)
      (fun σ' ρ' G2 M2 H2 s a z => q3 σ' ρ' G2 M2 H2 (s1.trans s) (a.more (by omega)) z) (fun v d σ' ρ' G2 M2 H2 s a z => q4 v d σ' ρ' G2 M2 H2 (s1.trans s) (a.more (by omega)) z)
/-- a for, by an invariant over the turn and what is known of the slots; n: at most so many turns -/
theorem es_for {ki kb n : Nat} {Φ : List D → Prop} {js : List Nat} (hi : EvI K P Z ti ρ ki Φ) (Iv : List D → Nat → List Sx → Prop) (f : List D → Nat → List D) (hn : ∀ ds, Φ ds → ds.length ≤ n) (h0 : ∀ ds, Φ ds → Iv ds 0 ρ)
    (hl : ∀ ds i r, Iv ds i r → ∀ j ∈ js, j < r.length) (hg : ∀ ds i d r, Φ ds → ds[i]? = some d → Iv ds i r → EvG K g js d (f ds i))
    (hs : ∀ ds i d r, Φ ds → ds[i]? = some d → Iv ds i r → Es K P Z t (setR r js (f ds i)) kb (Iv ds (i + 1)) N (Iv ds (i + 1)) R) (hd : ∀ ds r, Φ ds → Iv ds ds.length r → N r) :
    Es K P Z (tFor ti g t) ρ (ki + n * kb) N NoR NoR R := fun M0 σ G M H m E a l q1 _ _ q4 => by
  refine hi M0 σ G M H m _ a (by omega) fun J ds G1 M1 H1 s1 a1 p1 W => ?_
  obtain ⟨GG, YY, w, hG, hY⟩ := W.ex
  have lim : ∀ i, i ≤ ds.length → i * kb ≤ n * kb := fun i h => Nat.mul_le_mul_right _ (Nat.le_trans h (hn ds p1))
  refine for_it w (fun i σ' H' => ∃ ρ' G' M', Step G M H G' M' H' ∧ Same G1 G' ∧ At K P Z M0 (m + ki + i * kb) G' M' H' σ' ρ' ∧ Iv ds i ρ') ?_ ?_ ?_ ?_
  · exact ⟨ρ, G1, M1, s1, Same.refl _, by rw [Nat.zero_mul, Nat.add_zero]; exact a1, h0 ds p1⟩
  · rintro i σ' H' _ ⟨ρ', G', M', s', sg, a', _⟩
    exact hG H' (sg.trans a'.sep.g)
  · rintro i x σ' H' H'' hlt ⟨ρ', G', M', s', sg, a', iv⟩ y
    obtain ⟨d, G'', e, st, dv⟩ := hY i G' M' H' x H'' hlt sg a'.sep y
    have l1 := lim (i + 1) hlt
    have e1 : (i + 1) * kb = i * kb + kb := by rw [Nat.add_mul, Nat.one_mul]
    refine hg ds i d ρ' p1 e iv x σ' G'' H'' _ st.s.g dv fun vs _ hvs => ?_
    refine hs ds i d ρ' p1 e iv M0 _ G'' M' H'' (m + ki + i * kb) _ ((a'.pure st).setL (hl ds i ρ' iv) hvs) (by omega) (fun σ2 ρ2 G2 M2 H2 s2 a2 z => ?_) (fun σ2 ρ2 G2 M2 H2 s2 a2 z => ?_) (fun σ2 ρ2 G2 M2 H2 s2 a2 z => ?_) (fun v d σ2 ρ2 G2 M2 H2 s2 a2 z hv => ?_)
    · exact ⟨ρ2, G2, M2, (s'.trans st).trans s2, (sg.trans st.gg).trans s2.gg, by rw [e1, ← Nat.add_assoc]; exact a2, z⟩
    · exact q1 σ2 ρ2 G2 M2 H2 ((s'.trans st).trans s2) (a2.more (by omega)) z
    · exact ⟨ρ2, G2, M2, (s'.trans st).trans s2, (sg.trans st.gg).trans s2.gg, by rw [e1, ← Nat.add_assoc]; exact a2, z⟩
    · exact q4 v d σ2 ρ2 G2 M2 H2 ((s'.trans st).trans s2) (a2.more (by omega)) z hv
  · rintro σ' H' ⟨ρ', G', M', s', sg, a', iv⟩
    have l1 := lim ds.length (Nat.le_refl _)
    exact q1 σ' ρ' G' M' H' s' (a'.more (by omega)) (hd ds ρ' p1 iv)
/-- a while, by an invariant with a measure; n: at most so many turns -/
theorem es_while {kb n : Nat} (Iv : Nat → List Sx → Prop) (h0 : Iv n ρ) (hc : ∀ i r, Iv i r → ∃ β, EvT K P Z tt r kc β ∧ (β true → ∃ i', i = i' + 1 ∧ Es K P Z t r kb (Iv i') N (Iv i') R) ∧ (β false → N r)) :
    Es K P Z (tWhile tt t) ρ (n * (kc + kb) + kc) N NoR NoR R := fun M0 σ G M H m E a l q1 _ _ q4 => by
  refine ⟨fun i σ' H' => ∃ ρ' G' M' c, Step G M H G' M' H' ∧ At K P Z M0 c G' M' H' σ' ρ' ∧ c + (i * (kc + kb) + kc) ≤ m + (n * (kc + kb) + kc) ∧ Iv i ρ', ⟨n, ρ, G, M, m, Step.refl a.sep, a, Nat.le_refl _, h0⟩, ?_⟩
  rintro i σ' H' ⟨ρ', G', M', c, s', a', lc, iv⟩
  obtain ⟨β, ht, h1, h2⟩ := hc i ρ' iv
  refine ht M0 σ' G' M' H' c _ a' (by omega) fun b G1 M1 H1 s1 a1 p1 => ?_
  cases b with
  | true =>
    obtain ⟨i', rfl, hb⟩ := h1 p1
    have e1 : (i' + 1) * (kc + kb) = i' * (kc + kb) + (kc + kb) := by rw [Nat.add_mul, Nat.one_mul]
    rw [if_pos rfl]
    refine ⟨fun σ2 H2 => ∃ ρ' G' M' c, Step G M H G' M' H2 ∧ At K P Z M0 c G' M' H2 σ2 ρ' ∧ c + (i' * (kc + kb) + kc) ≤ m + (n * (kc + kb) + kc) ∧ Iv i' ρ', fun σ2 H2 z => ⟨i', Nat.lt_succ_self _, z⟩, ?_⟩
    refine hb M0 σ' G1 M1 H1 (c + kc) _ a1 (by omega) (fun σ2 ρ2 G2 M2 H2 s2 a2 z => ?_) (fun σ2 ρ2 G2 M2 H2 s2 a2 z => ?_) (fun σ2 ρ2 G2 M2 H2 s2 a2 z => ?_) (fun v d σ2 ρ2 G2 M2 H2 s2 a2 z hv => ?_)
    · exact ⟨ρ2, G2, M2, c + kc + kb, (s'.trans s1).trans s2, a2, by omega, z⟩
    · exact q1 σ2 ρ2 G2 M2 H2 ((s'.trans s1).trans s2) (a2.more (by omega)) z
    · exact ⟨ρ2, G2, M2, c + kc + kb, (s'.trans s1).trans s2, a2, by omega, z⟩
    · exact q4 v d σ2 ρ2 G2 M2 H2 ((s'.trans s1).trans s2) (a2.more (by omega)) z hv
  | false =>
    rw [if_neg Bool.false_ne_true]
    exact q1 σ' ρ' G1 M1 H1 (s'.trans s1) (a1.more (by omega)) (h2 p1)
end
end Tp

/-! # Comprehensions; owned lists -/
namespace Tp
open PySem PySem.Spec PyProof.Rows L2
section
variable {K : PySem.W.Frag} {P : Option Addr} {Z : Bas} {M0 G M H : Hp} {m : Nat} {σ : L2.St} {ρ : List Sx} {a : Addr} {u w : HO}
/-- no owned slot is the object at a -/
def NoSlot (σ : L2.St) (ρ : List Sx) (a : Addr) : Prop := ∀ (i : Nat) (b : Ob), ρ[i]? = some (.own b) → σ[i]? ≠ some (some (.ref a))
theorem At.noSlot (z : At K P Z M0 m G M H σ ρ) (n : H a = none) : NoSlot σ ρ a := fun i b e q => by
  obtain ⟨l, u, e1, _, _, e4, _⟩ := z.sl i _ e
  rw [e1] at q
  cases q
  have h := z.sep.m _ _ e4
  rw [n] at h
  cases h
theorem At.offP (z : At K P Z M0 m G M H σ ρ) (n : H a = none) : P ≠ some a := fun q => by
  obtain ⟨_, _, _, h, _⟩ := z.pot a q
  have h2 := z.sep.m _ _ h
  rw [n] at h2
  cases h2
theorem At.m0 (z : At K P Z M0 m G M H σ ρ) (n : H a = none) : M0 a = none := by
  cases q : M0 a with
  | none => rfl
  | some o =>
    have h := z.sep.m _ _ (z.fr a o (z.offP n) q)
    rw [n] at h
    cases h
/-- an object owned beside the slots joins what is kept -/
theorem At.frame (z : At K P Z M0 m G M H σ ρ) (hp : P ≠ some a) (ns : NoSlot σ ρ a) (h : M a = some u) : At K P Z (upd M0 a u) m G M H σ ρ where
  bm := Z.up z.bm fun o e => Option.some.inj ((z.fr a o hp e).symm.trans h)
  bs := z.bs
  sep := z.sep
  pot := z.pot
  fr := fun b o h1 h2 => by
    by_cases q : b = a
    · rw [q, upd_same] at h2
      rw [q, h]
      exact h2
    · rw [upd_ne q] at h2
      exact z.fr b o h1 h2
  len := z.len
  sl := fun i x e => by
    have q := z.sl i x e
    cases x with
    | own b =>
      obtain ⟨l, u, e1, e2, e3, e4, e5⟩ := q
      have ne : l ≠ a := fun k => ns i b e (by rw [e1, k])
      exact ⟨l, u, e1, by rw [upd_ne ne]; exact e2, e3, e4, e5⟩
    | _ => exact q
  nd := z.nd
theorem At.unframe (z : At K P Z (upd M0 a u) m G M H σ ρ) (n : M0 a = none) (w : Z.zm M0) : At K P Z M0 m G M H σ ρ where
  bm := w
  bs := z.bs
  sep := z.sep
  pot := z.pot
  fr := fun b o h1 h2 => z.fr b o h1 (by rw [upd_ne (some_ne h2 n)]; exact h2)
  len := z.len
  sl := fun i x e => by
    have q := z.sl i x e
    cases x with
    | own b =>
      obtain ⟨l, u, e1, e2, e3, e4, e5⟩ := q
      have ne : l ≠ a := fun k => by
        rw [k, upd_same] at e2
        cases e2
      exact ⟨l, u, e1, by rw [upd_ne ne] at e2; exact e2, e3, e4, e5⟩
    | _ => exact q
  nd := z.nd
/-- the object beside the slots changes, from an own place -/
theorem At.put (z : At K P Z M0 m G M H σ ρ) (hp : P ≠ some a) (n0 : M0 a = none) (ns : NoSlot σ ρ a) (h : M a = some u) : At K P Z M0 m G (upd M a w) (upd H a w) σ ρ where
  bm := z.bm
  bs := Z.step (Step.put z.sep h) z.bs
  sep := (Step.put z.sep h).s
  pot := fun p e => by
    rw [upd_ne fun q => hp (by rw [← q]; exact e)]
    exact z.pot p e
  fr := fun b o h1 h2 => by
    rw [upd_ne (some_ne h2 n0)]
    exact z.fr b o h1 h2
  len := z.len
  sl := fun i x e => by
    have q := z.sl i x e
    cases x with
    | own b =>
      obtain ⟨l, u, e1, e2, e3, e4, e5⟩ := q
      have ne : l ≠ a := fun k => ns i b e (by rw [e1, k])
      exact ⟨l, u, e1, e2, e3, by rw [upd_ne ne]; exact e4, e5⟩
    | _ => exact q
  nd := z.nd
/-- it is shared -/
theorem At.share (z : At K P Z M0 m G M H σ ρ) (hp : P ≠ some a) (n0 : M0 a = none) (ns : NoSlot σ ρ a) (h : M a = some u) : At K P Z M0 m (upd G a u) (dele M a) H σ ρ where
  bm := z.bm
  bs := Z.step (Step.share z.sep h) z.bs
  sep := (Step.share z.sep h).s
  pot := fun p e => by
    rw [dele_ne fun q => hp (by rw [← q]; exact e)]
    exact z.pot p e
  fr := fun b o h1 h2 => by
    rw [dele_ne (some_ne h2 n0)]
    exact z.fr b o h1 h2
  len := z.len
  sl := fun i x e => by
    have q := z.sl i x e
    cases x with
    | un => trivial
    | d x =>
      obtain ⟨v, e1, e2⟩ := q
      exact ⟨v, e1, e2.mono (Step.share z.sep h).gg⟩
    | pot => exact q
    | own b =>
      obtain ⟨l, u, e1, e2, e3, e4, e5⟩ := q
      have ne : l ≠ a := fun k => ns i b e (by rw [e1, k])
      exact ⟨l, u, e1, e2, e3, by rw [dele_ne ne]; exact e4, e5.mono (Step.share z.sep h).gg⟩
    | scr ns =>
      obtain ⟨l, e1, e2⟩ := q
      exact ⟨l, e1, (Step.share z.sep h).gg.sqLd e2⟩
  nd := z.nd
/-- the slots of a comprehension, of which nothing was known -/
theorem wipe_get (σ : L2.St) : ∀ {vs : List Nat} {i : Nat}, i ∉ vs → (wipe σ vs)[i]? = σ[i]?
  | [], _, _ => rfl
  | v :: vs, i, h => by
    unfold wipe
    rw [List.getElem?_set_ne fun q => h (by rw [q]; exact List.mem_cons_self)]
    exact wipe_get σ fun q => h (List.mem_cons_of_mem _ q)
theorem wipeR_get (ρ : List Sx) : ∀ {vs : List Nat} {i : Nat}, i ∉ vs → (wipeR ρ vs)[i]? = ρ[i]?
  | [], _, _ => rfl
  | v :: vs, i, h => by
    unfold wipeR
    rw [List.getElem?_set_ne fun q => h (by rw [q]; exact List.mem_cons_self)]
    exact wipeR_get ρ fun q => h (List.mem_cons_of_mem _ q)
def UnAt (ρ : List Sx) (vs : List Nat) : Prop := ∀ v ∈ vs, ρ[v]? = some .un
theorem wipeR_un : ∀ {vs : List Nat} {ρ : List Sx}, UnAt ρ vs → wipeR ρ vs = ρ
  | [], _, _ => rfl
  | v :: vs, ρ, h => by
    unfold wipeR
    rw [wipeR_un fun w hw => h w (List.mem_cons_of_mem _ hw)]
    have e := h v List.mem_cons_self
    obtain ⟨hv, ev⟩ := List.getElem?_eq_some_iff.mp e
    rw [← ev]
    exact List.set_getElem_self hv
theorem At.unwipe {vs : List Nat} (z : At K P Z M0 m G M H (L2.wipe σ vs) ρ) (un : UnAt ρ vs) : At K P Z M0 m G M H σ ρ where
  sep := z.sep
  pot := z.pot
  fr := z.fr
  bm := z.bm
  bs := z.bs
  len := by
    have := z.len
    rw [wipe_length] at this
    exact this
  sl := fun i x e => by
    have q := z.sl i x e
    by_cases h : i ∈ vs
    · rw [un i h] at e
      cases e
      trivial
    · rw [wipe_get σ h] at q
      exact q
  nd := fun i j b b' e1 e2 ne => by
    have h1 : i ∉ vs := fun h => by
      rw [un i h] at e1
      cases e1
    have h2 : j ∉ vs := fun h => by
      rw [un j h] at e2
      cases e2
    have q := z.nd i j b b' e1 e2 ne
    rw [wipe_get σ h1, wipe_get σ h2] at q
    exact q
theorem NoSlot.wipe {vs : List Nat} (un : UnAt ρ vs) (ns : NoSlot σ ρ a) : NoSlot (L2.wipe σ vs) ρ a := fun i b e => by
  have h1 : i ∉ vs := fun h => by
    rw [un i h] at e
    cases e
  rw [wipe_get σ h1]
  exact ns i b e
theorem setL_get : ∀ {js : List Nat} {ws : List V} {σ : L2.St} {i : Nat}, i ∉ js → (setL σ js ws)[i]? = σ[i]?
  | [], _, _, _, _ => rfl
  | _ :: _, [], _, _, _ => rfl
  | j :: js, w :: ws, σ, i, h => by
    show (setL (σ.set j (some w)) js ws)[i]? = _
    rw [setL_get fun q => h (List.mem_cons_of_mem _ q), List.getElem?_set_ne fun q => h (by rw [q]; exact List.mem_cons_self)]
theorem setR_get : ∀ {js : List Nat} {ws : List D} {ρ : List Sx} {i : Nat}, i ∉ js → (setR ρ js ws)[i]? = ρ[i]?
  | [], _, _, _, _ => rfl
  | _ :: _, [], _, _, _ => rfl
  | j :: js, w :: ws, ρ, i, h => by
    show (setR (ρ.set j (.d w)) js ws)[i]? = _
    rw [setR_get fun q => h (List.mem_cons_of_mem _ q), List.getElem?_set_ne fun q => h (by rw [q]; exact List.mem_cons_self)]
theorem setR_own : ∀ {js : List Nat} {ws : List D} {ρ : List Sx} {i : Nat} {b : Ob}, (setR ρ js ws)[i]? = some (.own b) → ρ[i]? = some (.own b)
  | [], _, _, _, _, h => h
  | _ :: _, [], _, _, _, h => h
  | j :: js, w :: ws, ρ, i, b, h => by
    have h2 := setR_own (js := js) (ws := ws) (ρ := ρ.set j (.d w)) h
    by_cases l : j < ρ.length
    · rw [getset l] at h2
      by_cases q : j = i
      · rw [if_pos q] at h2
        cases h2
      · rw [if_neg q] at h2
        exact h2
    · rw [List.set_eq_of_length_le (by omega)] at h2
      exact h2
theorem own_notin {js : List Nat} {vs : List Nat} (un : UnAt ρ vs) (hj : ∀ j ∈ js, j ∈ vs) {i : Nat} {b : Ob} (e : ρ[i]? = some (.own b)) : i ∉ js := fun h => by
  rw [un i (hj i h)] at e
  cases e
/-- back from a comprehension's turn -/
theorem At.back {js vs : List Nat} {ws : List V} {es : List D} (z : At K P Z M0 m G M H (Tp.setL (L2.wipe σ vs) js ws) (Tp.setR ρ js es)) (un : UnAt ρ vs) (hj : ∀ j ∈ js, j ∈ vs) : At K P Z M0 m G M H (L2.wipe σ vs) ρ where
  sep := z.sep
  pot := z.pot
  fr := z.fr
  bm := z.bm
  bs := z.bs
  len := by
    have h := z.len
    have e1 : ∀ {js : List Nat} {ws : List V} {σ : L2.St}, (Tp.setL σ js ws).length = σ.length := by
      intro js
      induction js with
      | nil => intros; rfl
      | cons j js ih =>
        intro ws σ
        cases ws with
        | nil => rfl
        | cons w ws =>
          show (Tp.setL (σ.set j (some w)) js ws).length = _
          rw [ih, List.length_set]
    have e2 : ∀ {js : List Nat} {ws : List D} {σ : List Sx}, (Tp.setR σ js ws).length = σ.length := by
      intro js
      induction js with
      | nil => intros; rfl
      | cons j js ih =>
        intro ws σ
        cases ws with
        | nil => rfl
        | cons w ws =>
          show (Tp.setR (σ.set j (.d w)) js ws).length = _
          rw [ih, List.length_set]
    rw [e1, e2] at h
    exact h
  sl := fun i x e => by
    by_cases h : i ∈ vs
    · rw [un i h] at e
      cases e
      trivial
    · have h2 : i ∉ js := fun q => h (hj i q)
      have q := z.sl i x (by rw [setR_get h2]; exact e)
      rw [setL_get h2] at q
      exact q
  nd := fun i j b b' e1 e2 ne => by
    have h1 := own_notin un hj e1
    have h2 := own_notin un hj e2
    have q := z.nd i j b b' (by rw [setR_get h1]; exact e1) (by rw [setR_get h2]; exact e2) ne
    rw [setL_get h1, setL_get h2] at q
    exact q
end
section
variable {K : PySem.W.Frag} {P : Option Addr} {Z : Bas} {ρ : List Sx} {te : TE} {tt : TT} {ti : TI} {g : TG} {ki kt ke n : Nat} {vs js : List Nat}
/-- [e for .. in .. if ..], by an invariant over the turn and what is made so far -/
theorem ev_lc {Φ : List D → Prop} (un : UnAt ρ vs) (hi : EvI K P Z ti ρ ki Φ) (hj : ∀ j ∈ js, j ∈ vs) (Iv : List D → Nat → List D → Prop) (f : List D → Nat → D → List D) (β : List D → Nat → List D → D → Bool → Prop)
    (hn : ∀ ds, Φ ds → ds.length ≤ n) (n6 : n ≤ 1000000) (h0 : ∀ ds, Φ ds → Iv ds 0 []) (hl : ∀ ds i acc, Iv ds i acc → acc.length ≤ i)
    (hg : ∀ ds i d, Φ ds → ds[i]? = some d → EvG K g js d (f ds i d))
    (ht : ∀ ds i d acc, Φ ds → ds[i]? = some d → Iv ds i acc → EvT K P Z tt (setR ρ js (f ds i d)) kt (β ds i acc d))
    (hf : ∀ ds i d acc, Φ ds → ds[i]? = some d → Iv ds i acc → β ds i acc d false → Iv ds (i + 1) acc)
    (he : ∀ ds i d acc, Φ ds → ds[i]? = some d → Iv ds i acc → β ds i acc d true → Ev K P Z te (setR ρ js (f ds i d)) ke (fun e => Iv ds (i + 1) (acc ++ [e]))) :
    Ev K P Z (tLc ti g tt te vs) ρ (ki + n * (kt + ke)) (fun d => ∃ ds es, d = .lst es ∧ Φ ds ∧ Iv ds ds.length es) := fun M0 σ G M H m Q a l q => by
  refine hi M0 σ G M H m _ a (by omega) fun J ds G1 M1 H1 s1 a1 p1 W D hD => ?_
  obtain ⟨GG, YY, w, hG, hY⟩ := W.ex
  have lim : ∀ i, i ≤ ds.length → i * (kt + ke) ≤ n * (kt + ke) := fun i h => Nat.mul_le_mul_right _ (Nat.le_trans h (hn ds p1))
  have hp := a1.offP hD
  have n0 := a1.m0 hD
  have ns0 := a1.noSlot hD
  have ns := ns0.wipe un
  have eR := wipeR_un un
  have aw := a1.wipe vs
  rw [eR] at aw
  refine lc_it w (fun i H' => ∃ (G' M' : Hp) (va : List V) (acc : List Tp.D), Step G1 M1 H1 G' M' H' ∧ At K P Z M0 (m + ki + i * (kt + ke)) G' M' H' (L2.wipe σ vs) ρ ∧ M' D = some (.lst va) ∧ DVs K G' va acc ∧ Iv ds i acc) ?_ ?_ ?_ ?_
  · refine ⟨G1, upd M1 D (.lst []), [], [], Step.own aw.sep hD, ?_, upd_same, .nil, h0 ds p1⟩
    rw [Nat.zero_mul, Nat.add_zero]
    refine aw.go (Step.own aw.sep hD) (fun p e => ?_) fun b o _ z => ?_
    · rw [upd_ne fun q => hp (by rw [← q]; exact e)]
      exact aw.pot p e
    · rw [upd_ne (some_ne z (aw.sep.free hD).2)]
      exact z
  · rintro i H' _ ⟨G', M', va, acc, s', a', _⟩
    exact hG H' (s'.gg.trans a'.sep.g)
  · rintro i x H' H'' hlt ⟨G', M', va, acc, s', a', hM, hv, iv⟩ y
    obtain ⟨d, G'', e, st, dv⟩ := hY i G' M' H' x H'' hlt s'.gg a'.sep y
    have l1 := lim (i + 1) hlt
    have e1 : (i + 1) * (kt + ke) = i * (kt + ke) + (kt + ke) := by rw [Nat.add_mul, Nat.one_mul]
    have few : acc.length ≤ 1000000 := Nat.le_trans (hl ds i acc iv) (Nat.le_trans (Nat.le_of_lt hlt) (Nat.le_trans (hn ds p1) n6))
    refine hg ds i d p1 e x _ G'' H'' _ st.s.g dv fun ws _ hws => ⟨wipe_setL js ws _ hj |>.trans (wipe_wipe σ fun v hv => hv) |>.trans rfl, ?_⟩
    have a2 := ((a'.frame hp ns hM).pure st).setL (js := js) (fun j h => (List.getElem?_eq_some_iff.mp (un j (hj j h))).1) hws
    refine ht ds i d acc p1 e iv (upd M0 D (.lst va)) _ G'' M' H'' (m + ki + i * (kt + ke)) _ a2 (by omega) fun b G3 M3 H3 s3 a3 p3 => ?_
    have out : ∀ {c : Nat} {Gx Mx Hx : Hp}, Step G'' M' H'' Gx Mx Hx → At K P Z (upd M0 D (.lst va)) c Gx Mx Hx (setL (L2.wipe σ vs) js ws) (setR ρ js (f ds i d)) → Step G1 M1 H1 Gx Mx Hx ∧ At K P Z M0 c Gx Mx Hx (L2.wipe σ vs) ρ ∧ Mx D = some (.lst va) := fun sx ax =>
      ⟨(s'.trans st).trans sx, (ax.back un hj).unframe n0 a.bm, ax.fr D _ hp upd_same⟩
    cases b with
    | false =>
      rw [if_neg Bool.false_ne_true]
      obtain ⟨x1, x2, x3⟩ := out s3 a3
      exact ⟨G3, M3, va, acc, x1, x2.more (by omega), x3, hv.mono (st.gg.trans s3.gg), hf ds i d acc p1 e iv p3⟩
    | true =>
      rw [if_pos rfl]
      refine he ds i d acc p1 e iv p3 (upd M0 D (.lst va)) _ G3 M3 H3 (m + ki + i * (kt + ke) + kt) _ a3 (by omega) fun v de G4 M4 H4 s4 a4 p4 v4 => ?_
      obtain ⟨x1, x2, x3⟩ := out (s3.trans s4) a4
      refine ⟨va, x2.sep.m _ _ x3, ?_, G4, upd M4 D (.lst (va ++ [v])), va ++ [v], acc ++ [de], x1.trans (Step.put x2.sep x3), ?_, upd_same, ?_, p4⟩
      · rw [hv.length]
        exact Nat.lt_of_le_of_lt few (by decide)
      · exact (x2.put hp n0 ns x3).more (by omega)
      · exact (hv.mono ((st.gg.trans s3.gg).trans s4.gg)).snoc v4
  · rintro H' ⟨G', M', va, acc, s', a', hM, hv, iv⟩
    have l1 := lim ds.length (Nat.le_refl _)
    have a2 := (a'.share hp n0 ns hM).unwipe un
    refine q _ (.lst acc) _ _ H' ((s1.trans s').trans (Step.share a'.sep hM)) (a2.more (by omega)) ⟨ds, acc, rfl, p1, iv⟩ (.lst upd_same (hv.mono (Step.share a'.sep hM).gg))
theorem et_yes : EvT K P Z tYes ρ 0 (· = true) := fun M0 σ G M H m Q a _ q => q true G M H (Step.refl a.sep) a rfl
/-- item by item -/
def Each (R : Nat → D → D → Prop) (ds es : List D) : Prop := es.length = ds.length ∧ ∀ i d e, ds[i]? = some d → es[i]? = some e → R i d e
theorem ev_lcAll {Φ : List D → Prop} (un : UnAt ρ vs) (hi : EvI K P Z ti ρ ki Φ) (hj : ∀ j ∈ js, j ∈ vs) (R : List D → Nat → D → D → Prop) (f : List D → Nat → D → List D) (hn : ∀ ds, Φ ds → ds.length ≤ n) (n6 : n ≤ 1000000)
    (hg : ∀ ds i d, Φ ds → ds[i]? = some d → EvG K g js d (f ds i d)) (he : ∀ ds i d, Φ ds → ds[i]? = some d → Ev K P Z te (setR ρ js (f ds i d)) ke (R ds i d)) :
    Ev K P Z (tLc ti g tYes te vs) ρ (ki + n * ke) (fun d => ∃ ds es, d = .lst es ∧ Φ ds ∧ Each (R ds) ds es) := by
  have h := ev_lc (kt := 0) (tt := tYes) (te := te) (ke := ke) un hi hj (fun ds i acc => acc.length = i ∧ ∀ j d e, j < i → ds[j]? = some d → acc[j]? = some e → R ds j d e) f (fun _ _ _ _ => (· = true)) hn n6
    (fun ds _ => ⟨rfl, fun j d e h => absurd h (Nat.not_lt_zero j)⟩) (fun _ _ _ h => Nat.le_of_eq h.1) hg (fun _ _ _ _ _ _ _ => et_yes) (fun _ _ _ _ _ _ _ h => nomatch h)
    (fun ds i d acc p e iv _ => (he ds i d p e).imp fun x hx => ⟨by rw [List.length_append, List.length_singleton, iv.1], fun j d' e' hj h1 h2 => by
      by_cases q : j < i
      · rw [List.getElem?_append_left (by rw [iv.1]; exact q)] at h2
        exact iv.2 j d' e' q h1 h2
      · have q2 : j = i := by omega
        subst q2
        rw [List.getElem?_append_right (by rw [iv.1]; exact Nat.le_refl _), iv.1, Nat.sub_self] at h2
        rw [e] at h1
        cases h1
        cases h2
        exact hx⟩)
  rw [Nat.zero_add] at h
  exact h.imp fun d ⟨ds, es, e, p, l, r⟩ => ⟨ds, es, e, p, l, fun i d e h1 h2 => r i d e (List.getElem?_eq_some_iff.mp h1).1 h1 h2⟩
end
end Tp

/-! # Owned lists as they grow; operations on data -/
namespace Tp
open PySem PySem.Spec PyProof.Rows L2
section
variable {K : PySem.W.Frag} {P : Option Addr} {Z : Bas} {M0 G M H : Hp} {m : Nat} {σ : L2.St} {ρ : List Sx} {a : Addr} {u w : HO} {i : Nat}
/-- a slot of which nothing was known is known by its value -/
theorem At.know (z : At K P Z M0 m G M H σ ρ) {v : V} {x : D} (e : σ[i]? = some (some v)) (h : DV K G v x) : At K P Z M0 m G M H σ (ρ.set i (.d x)) where
  sep := z.sep
  pot := z.pot
  fr := z.fr
  bm := z.bm
  bs := z.bs
  len := by rw [List.length_set, z.len]
  sl := fun j y k => by
    by_cases l : i < ρ.length
    · rw [getset l] at k
      by_cases q : i = j
      · rw [if_pos q] at k
        cases k
        exact ⟨v, by rw [← q]; exact e, h⟩
      · rw [if_neg q] at k
        exact z.sl j y k
    · rw [List.set_eq_of_length_le (by omega)] at k
      exact z.sl j y k
  nd := fun j k b b' e1 e2 ne => by
    by_cases l : i < ρ.length
    · rw [getset l] at e1 e2
      by_cases q : i = j
      · rw [if_pos q] at e1
        cases e1
      · by_cases q' : i = k
        · rw [if_pos q'] at e2
          cases e2
        · rw [if_neg q] at e1
          rw [if_neg q'] at e2
          exact z.nd j k b b' e1 e2 ne
    · rw [List.set_eq_of_length_le (by omega)] at e1 e2
      exact z.nd j k b b' e1 e2 ne
theorem own_lt (e : ρ[i]? = some x) : i < ρ.length := (List.getElem?_eq_some_iff.mp e).1
/-- the owned object in a slot: what stands there, and that no other slot holds it -/
theorem At.own (z : At K P Z M0 m G M H σ ρ) {b : Ob} (e : ρ[i]? = some (.own b)) : ∃ l u, σ[i]? = some (some (.ref l)) ∧ M0 l = none ∧ P ≠ some l ∧ M l = some u ∧ OwnO K G l u b ∧ NoSlot σ (ρ.set i .un) l := by
  obtain ⟨l, u, e1, e2, e3, e4, e5⟩ := z.sl i _ e
  refine ⟨l, u, e1, e2, e3, e4, e5, fun j b' k q => ?_⟩
  rw [getset (own_lt e)] at k
  by_cases h : i = j
  · rw [if_pos h] at k
    cases k
  · rw [if_neg h] at k
    exact z.nd i j b b' e k h (e1.trans q.symm)
theorem set_set' {x y : Sx} : (ρ.set i x).set i y = ρ.set i y := List.set_set ..
/-- the owned object in a slot is shared -/
theorem At.shareSlot (z : At K P Z M0 m G M H σ ρ) {ds : List D} (e : ρ[i]? = some (.own (.lst ds))) : ∃ G2 M2, Step G M H G2 M2 H ∧ At K P Z M0 m G2 M2 H σ (ρ.set i (.d (.lst ds))) := by
  obtain ⟨l, u, e1, e2, e3, e4, ⟨vs, rfl, hv⟩, ns⟩ := z.own e
  have st := Step.share z.sep e4
  refine ⟨_, _, st, ?_⟩
  have q := ((z.un i).share e3 e2 ns e4).know e1 (.lst upd_same (hv.mono st.gg))
  rw [set_set'] at q
  exact q
theorem At.shareDic (z : At K P Z M0 m G M H σ ρ) {ds : List (L2.Key × D)} (e : ρ[i]? = some (.own (.dic ds))) : ∃ G2 M2, Step G M H G2 M2 H ∧ At K P Z M0 m G2 M2 H σ (ρ.set i (.d (.dic ds))) := by
  obtain ⟨l, u, e1, e2, e3, e4, ⟨vs, rfl, hv⟩, ns⟩ := z.own e
  have st := Step.share z.sep e4
  refine ⟨_, _, st, ?_⟩
  have q := ((z.un i).share e3 e2 ns e4).know e1 (.dic (.inl upd_same) (hv.mono st.gg))
  rw [set_set'] at q
  exact q
/-- a new owned object in a slot -/
theorem At.ownNew (z : At K P Z M0 m G M H σ ρ) (l : i < ρ.length) (n : H a = none) {b : Ob} (o : OwnO K G a u b) : At K P Z M0 m G (upd M a u) (upd H a u) (σ.set i (some (.ref a))) (ρ.set i (.own b)) where
  bm := z.bm
  bs := Z.step (Step.own z.sep n) z.bs
  sep := (Step.own z.sep n).s
  pot := fun p e => by
    rw [upd_ne fun q => z.offP n (by rw [← q]; exact e)]
    exact z.pot p e
  fr := fun b o h1 h2 => by
    have q := z.fr b o h1 h2
    rw [upd_ne (some_ne q (z.sep.free n).2)]
    exact q
  len := by rw [List.length_set, List.length_set, z.len]
  sl := fun j y e => by
    rw [getset l] at e
    rw [getset (by rw [z.len]; exact l)]
    by_cases q : i = j
    · rw [if_pos q] at e ⊢
      cases e
      exact ⟨a, u, rfl, z.m0 n, z.offP n, upd_same, o⟩
    · rw [if_neg q] at e ⊢
      have r := z.sl j y e
      cases y with
      | own b =>
        obtain ⟨l, u, e1, e2, e3, e4, e5⟩ := r
        exact ⟨l, u, e1, e2, e3, by rw [upd_ne (some_ne e4 (z.sep.free n).2)]; exact e4, e5⟩
      | _ => exact r
  nd := fun j k b b' e1 e2 ne => by
    rw [getset l] at e1 e2
    rw [getset (by rw [z.len]; exact l), getset (by rw [z.len]; exact l)]
    by_cases q : i = j
    · by_cases q' : i = k
      · exact absurd (q.symm.trans q') ne
      · rw [if_neg q'] at e2
        rw [if_pos q, if_neg q']
        exact fun h => z.noSlot n k b' e2 h.symm
    · rw [if_neg q] at e1
      by_cases q' : i = k
      · rw [if_neg q, if_pos q']
        exact fun h => z.noSlot n j b e1 h
      · rw [if_neg q'] at e2
        rw [if_neg q, if_neg q']
        exact z.nd j k b b' e1 e2 ne
/-- the owned object in a slot changes -/
theorem At.ownPut (z : At K P Z M0 m G M H σ ρ) {l : Addr} {b b2 : Ob} (e : ρ[i]? = some (.own b)) (e1 : σ[i]? = some (some (.ref l))) (e2 : M0 l = none) (e3 : P ≠ some l) (e4 : M l = some u) (ns : NoSlot σ (ρ.set i .un) l) (o : OwnO K G l w b2) :
    At K P Z M0 m G (upd M l w) (upd H l w) σ (ρ.set i (.own b2)) := by
  have q := (z.un i).put (w := w) e3 e2 ns e4
  refine { sep := q.sep, pot := q.pot, fr := q.fr, bm := q.bm, bs := q.bs, len := by rw [List.length_set, z.len], sl := fun j y k => ?_, nd := fun j k b1 b1' k1 k2 ne => ?_ }
  · rw [getset (own_lt e)] at k
    by_cases h : i = j
    · rw [if_pos h] at k
      cases k
      exact ⟨l, w, by rw [← h]; exact e1, e2, e3, upd_same, o⟩
    · rw [if_neg h] at k
      exact q.sl j y (by rw [getset (own_lt e), if_neg h]; exact k)
  · rw [getset (own_lt e)] at k1 k2
    by_cases h : i = j
    · by_cases h' : i = k
      · exact absurd (h.symm.trans h') ne
      · rw [if_neg h'] at k2
        rw [← h]
        exact z.nd i k b b1' e k2 h'
    · rw [if_neg h] at k1
      by_cases h' : i = k
      · rw [← h']
        exact z.nd j i b1 b k1 e fun h2 => h h2.symm
      · rw [if_neg h'] at k2
        exact z.nd j k b1 b1' k1 k2 ne
end
section
variable {K : PySem.W.Frag} {P : Option Addr} {Z : Bas} {ρ : List Sx} {te : TE} {tr : TA} {k : Nat} {φ : D → Prop} {i : Nat} {t : TS} {N B C : List Sx → Prop} {R : D → Prop}
/-- found = [..], to be changed later -/
theorem es_newL {Φ : List D → Prop} (h : EvA K P Z tr ρ k Φ) (l : i < ρ.length) (f : ∀ ds, Φ ds → ds.length ≤ 1000000) : Es K P Z (tAsg (tLst tr) (gName i)) ρ k (fun r => ∃ ds, Φ ds ∧ r = ρ.set i (.own (.lst ds))) NoR NoR NoD := fun M0 σ G M H m E a b q1 _ _ _ =>
  h M0 σ G M H m _ a b fun vs ds G1 M1 H1 s1 a1 p1 v1 => ⟨szOk (by rw [v1.length]; exact f ds p1), fun p n =>
    q1 _ _ _ _ _ (s1.trans (Step.own a1.sep n)) (a1.ownNew (b := .lst ds) l n ⟨vs, rfl, v1⟩) ⟨ds, p1, rfl⟩⟩
theorem es_newD (l : i < ρ.length) : Es K P Z (tAsg tDNewK (gName i)) ρ 0 (· = ρ.set i (.own (.dic []))) NoR NoR NoD := fun M0 σ G M H m E a b q1 _ _ _ => fun p n =>
    q1 _ _ _ _ _ (Step.own a.sep n) (a.ownNew (b := .dic []) l n ⟨[], rfl, .nil⟩) rfl
theorem small_lt {n : Nat} (h : n < 1000000) : n < sizeLine := Nat.lt_of_lt_of_le h (by decide)
/-- found.append(e) -/
theorem es_app {ds : List D} (e : ρ[i]? = some (.own (.lst ds))) (h : Ev K P Z te ρ k φ) (few : ds.length < 1000000) : Es K P Z (tDrop (tBM K "list" rAppend (tVar i) (tCons te tNil))) ρ k (fun r => ∃ d, φ d ∧ r = ρ.set i (.own (.lst (ds ++ [d])))) NoR NoR NoD := fun M0 σ G M H m E a b q1 _ _ _ => by
  obtain ⟨l, u, e1, _, _, e4, ⟨vs, rfl, _⟩, _⟩ := a.own e
  refine ⟨.ref l, e1, .inl ⟨rfl, _, sq_of' (a.sep.m _ _ e4)⟩, h M0 σ G M H m _ a b fun v d G1 M1 H1 s1 a1 p1 v1 => ?_⟩
  obtain ⟨l', u', f1, f2, f3, f4, ⟨ws, rfl, hw⟩, ns⟩ := a1.own e
  rw [e1] at f1
  cases f1
  refine ⟨l, ws, v, rfl, rfl, a1.sep.m _ _ f4, by rw [hw.length]; exact small_lt few, ?_⟩
  exact q1 _ _ _ _ _ (s1.trans (Step.put a1.sep f4)) (a1.ownPut (w := .lst (ws ++ [v])) (b2 := .lst (ds ++ [d])) e e1 f2 f3 f4 ns ⟨_, rfl, hw.snoc v1⟩) ⟨d, p1, rfl⟩
/-- found.extend(e) -/
theorem es_ext {ds : List D} (e : ρ[i]? = some (.own (.lst ds))) (h : Ev K P Z te ρ k φ) (f : ∀ d, φ d → ∃ es, d = .lst es ∧ ds.length + es.length ≤ 1000000) :
    Es K P Z (tDrop (tBM K "list" rExtend (tVar i) (tCons te tNil))) ρ k (fun r => ∃ es, φ (.lst es) ∧ r = ρ.set i (.own (.lst (ds ++ es)))) NoR NoR NoD := fun M0 σ G M H m E a b q1 _ _ _ => by
  obtain ⟨l, u, e1, _, _, e4, ⟨vs, rfl, _⟩, _⟩ := a.own e
  refine ⟨.ref l, e1, .inl ⟨rfl, _, sq_of' (a.sep.m _ _ e4)⟩, h M0 σ G M H m _ a b fun v d G1 M1 H1 s1 a1 p1 v1 => ?_⟩
  obtain ⟨es, rfl, few⟩ := f d p1
  obtain ⟨l', u', f1, f2, f3, f4, ⟨ws, rfl, hw⟩, ns⟩ := a1.own e
  rw [e1] at f1
  cases f1
  cases v1 with
  | @lst p xs _ g1 g2 =>
    refine ⟨l, p, ws, xs, rfl, rfl, a1.sep.m _ _ f4, a1.sep.g _ _ g1, by rw [hw.length, g2.length]; exact szOk few, ?_⟩
    exact q1 _ _ _ _ _ (s1.trans (Step.put a1.sep f4)) (a1.ownPut (w := .lst (ws ++ xs)) (b2 := .lst (ds ++ es)) e e1 f2 f3 f4 ns ⟨_, rfl, hw.append g2⟩) ⟨es, p1, rfl⟩
/-- from here on it is shared -/
theorem es_share {ds : List D} (e : ρ[i]? = some (.own (.lst ds))) (h : Es K P Z t (ρ.set i (.d (.lst ds))) k N B C R) : Es K P Z t ρ k N B C R := fun M0 σ G M H m E a b q1 q2 q3 q4 => by
  obtain ⟨G2, M2, st, a2⟩ := a.shareSlot e
  exact h M0 σ G2 M2 H m E a2 b (fun σ' ρ' G3 M3 H3 s a z => q1 σ' ρ' G3 M3 H3 (st.trans s) a z) (fun σ' ρ' G3 M3 H3 s a z => q2 σ' ρ' G3 M3 H3 (st.trans s) a z)
    (fun σ' ρ' G3 M3 H3 s a z => q3 σ' ρ' G3 M3 H3 (st.trans s) a z) (fun v d σ' ρ' G3 M3 H3 s a z => q4 v d σ' ρ' G3 M3 H3 (st.trans s) a z)
theorem es_shareD {ds : List (L2.Key × D)} (e : ρ[i]? = some (.own (.dic ds))) (h : Es K P Z t (ρ.set i (.d (.dic ds))) k N B C R) : Es K P Z t ρ k N B C R := fun M0 σ G M H m E a b q1 q2 q3 q4 => by
  obtain ⟨G2, M2, st, a2⟩ := a.shareDic e
  exact h M0 σ G2 M2 H m E a2 b (fun σ' ρ' G3 M3 H3 s a z => q1 σ' ρ' G3 M3 H3 (st.trans s) a z) (fun σ' ρ' G3 M3 H3 s a z => q2 σ' ρ' G3 M3 H3 (st.trans s) a z)
    (fun σ' ρ' G3 M3 H3 s a z => q3 σ' ρ' G3 M3 H3 (st.trans s) a z) (fun v d σ' ρ' G3 M3 H3 s a z => q4 v d σ' ρ' G3 M3 H3 (st.trans s) a z)
/-- slots forgotten -/
theorem es_weak {ρ' : List Sx} (h : Es K P Z t ρ' k N B C R) (l : ρ'.length = ρ.length) (f : ∀ i : Nat, ρ'[i]? = ρ[i]? ∨ ρ'[i]? = some .un) : Es K P Z t ρ k N B C R := fun M0 σ G M H m E a b q1 q2 q3 q4 =>
  h M0 σ G M H m E (a.weak l f) b q1 q2 q3 q4
theorem weak_set (j : Nat) : ∀ i : Nat, (ρ.set j .un)[i]? = ρ[i]? ∨ (ρ.set j .un)[i]? = some .un := fun i => by
  by_cases h : j < ρ.length
  · rw [getset h]
    by_cases q : j = i
    · rw [if_pos q]
      exact .inr rfl
    · rw [if_neg q]
      exact .inl rfl
  · rw [List.set_eq_of_length_le (by omega)]
    exact .inl rfl
theorem es_un (j : Nat) (h : Es K P Z t (ρ.set j .un) k N B C R) : Es K P Z t ρ k N B C R := es_weak h (by rw [List.length_set]) (weak_set j)
end
/-! ### from a body to the def's promise -/
section
variable {K : PySem.W.Frag} {k : Nat} {pre : List D → Prop} {post : List D → D → Prop}
def paramsR (ds : List D) : List Sx := ds.map .d
theorem at_start {G M H : Hp} {m : Nat} {P : Option Addr} {Z : Bas} {vs : List V} {ds : List D} {N : List Str} (s : Sep G M H) (p : PotM P m M) (h : DVs K G vs ds) (l : ds.length ≤ N.length) (wm : Z.zm M) (ws : Z.zs G M H) :
    At K P Z M m G M H (L2.start N vs) (ds.map Sx.d ++ List.replicate (N.length - ds.length) .un) where
  sep := s
  pot := p
  fr := fun _ _ _ z => z
  bm := wm
  bs := ws
  len := by
    unfold L2.start
    rw [List.length_append, List.length_append, List.length_map, List.length_map, List.length_replicate, List.length_replicate, h.length]
  sl := fun i x e => by
    by_cases q : i < ds.length
    · rw [List.getElem?_append_left (by rw [List.length_map]; exact q), List.getElem?_map] at e
      cases hd : ds[i]? with
      | none =>
        rw [hd] at e
        cases e
      | some d =>
        rw [hd] at e
        cases e
        obtain ⟨v, h1, h2⟩ := h.back hd
        refine ⟨v, ?_, h2⟩
        unfold L2.start
        rw [List.getElem?_append_left (by rw [List.length_map, h.length]; exact q), List.getElem?_map, h1]
        rfl
    · rw [List.getElem?_append_right (by rw [List.length_map]; omega), List.getElem?_replicate] at e
      split at e
      · cases e
        trivial
      · cases e
  nd := fun i j b b' e1 e2 ne => by
    by_cases q : i < ds.length
    · rw [List.getElem?_append_left (by rw [List.length_map]; exact q), List.getElem?_map] at e1
      cases hd : ds[i]? with
      | none =>
        rw [hd] at e1
        cases e1
      | some d =>
        rw [hd] at e1
        cases e1
    · rw [List.getElem?_append_right (by rw [List.length_map]; omega), List.getElem?_replicate] at e1
      split at e1
      · cases e1
      · cases e1
theorem at_startP {G M H : Hp} {m : Nat} {p : Addr} {Z : Bas} {vs : List V} {ds : List D} {N : List Str} (s : Sep G M H) (pm : PotM (some p) m M) (h : DVs K G vs ds) (l : ds.length + 1 ≤ N.length) (wm : Z.zm M) (ws : Z.zs G M H) :
    At K (some p) Z M m G M H (L2.start N (.ref p :: vs)) (.pot :: (ds.map Sx.d ++ List.replicate (N.length - (ds.length + 1)) .un)) := by
  cases N with
  | nil => exact absurd l (by simp)
  | cons n N =>
    have l2 : ds.length ≤ N.length := by simpa using l
    have a := at_start (K := K) (N := N) s pm h l2 wm ws
    have e1 : L2.start (n :: N) (.ref p :: vs) = some (.ref p) :: L2.start N vs := by
      unfold L2.start
      rw [List.map_cons, List.length_cons, List.length_cons, Nat.add_sub_add_right]
      rfl
    have e2 : (n :: N).length - (ds.length + 1) = N.length - ds.length := by
      rw [List.length_cons, Nat.add_sub_add_right]
    rw [e1, e2]
    refine { sep := s, pot := pm, fr := fun _ _ _ z => z, bm := wm, bs := ws, len := by rw [List.length_cons, List.length_cons, a.len], sl := fun i x e => ?_, nd := fun i j b b' k1 k2 ne => ?_ }
    · cases i with
      | zero =>
        cases e
        exact ⟨p, rfl, rfl⟩
      | succ i => exact a.sl i x e
    · cases i with
      | zero => cases k1
      | succ i =>
        cases j with
        | zero => cases k2
        | succ j => exact a.nd i j b b' k1 k2 fun q => ne (congrArg (· + 1) q)
/-- a body over data keeps the promise -/
theorem body_D {t : TS} {N : List Str} (l : ∀ ds, pre ds → ds.length ≤ N.length)
    (h : ∀ ds, pre ds → Es K none Z0 t (ds.map Sx.d ++ List.replicate (N.length - ds.length) .un) 0 (fun _ => post ds .non) NoR NoR (post ds)) {vs : List V} {H : Hp} {Q : VK} {E : XK} (z : spD K k pre post vs H Q E) :
    t { nx := fun _ H' => Q .non H', rt := Q } (L2.start N vs) H := by
  obtain ⟨G, M, ds, s, hv, hp, q⟩ := z
  refine h ds hp M _ G M H 0 _ (at_start s PotM.no hv (l ds hp) trivial trivial) (by decide) (fun σ' ρ' G2 M2 H2 st a z => ?_) (fun _ _ _ _ _ _ _ z => z.elim) (fun _ _ _ _ _ _ _ z => z.elim) (fun v d σ' ρ' G2 M2 H2 st a z hv => ?_)
  · exact q .non .non G2 H2 (st.drop fun b o hb => a.fr b o (fun e => nomatch e) hb) z .non
  · exact q v d G2 H2 (st.drop fun b o hb => a.fr b o (fun e => nomatch e) hb) z hv
theorem body_P {t : TS} {N : List Str} (l : ∀ ds, pre ds → ds.length + 1 ≤ N.length)
    (h : ∀ p ds, pre ds → Es K (some p) Z0 t (.pot :: (ds.map Sx.d ++ List.replicate (N.length - (ds.length + 1)) .un)) k (fun _ => post ds .non) NoR NoR (post ds)) {vs : List V} {H : Hp} {Q : VK} {E : XK} (z : spP K k pre post vs H Q E) :
    t { nx := fun _ H' => Q .non H', rt := Q } (L2.start N vs) H := by
  obtain ⟨p, us, G, M, m, ds, rfl, s, pm, ⟨o, ho⟩, lm, hv, hp, q⟩ := z
  have fin : ∀ {v : V} {d : D} {σ' : L2.St} {ρ' : List Sx} {G2 M2 H2 : Hp}, Step G M H G2 M2 H2 → At K (some p) Z0 M (m + k) G2 M2 H2 σ' ρ' → post ds d → DV K G2 v d → Q v H2 := fun {v d σ' ρ' G2 M2 H2} st a z hv => by
    let M3 : Hp := fun b => if b = p then M2 b else M b
    have e3 : M3 p = M2 p := if_pos rfl
    have n3 : ∀ b, b ≠ p → M3 b = M b := fun b h => if_neg h
    have sm : Same M3 M2 := fun b o hb => by
      by_cases q : b = p
      · rw [q] at hb ⊢
        rw [← e3]
        exact hb
      · rw [n3 b q] at hb
        exact a.fr b o (fun e => q (Option.some.inj e).symm) hb
    refine q v d G2 M3 H2 (st.drop sm) (fun p' e => ?_) n3 z hv
    cases e
    rw [e3]
    exact a.pot p rfl
  refine h p ds hp M _ G M H m _ (at_startP s pm hv (l ds hp) trivial trivial) lm (fun σ' ρ' G2 M2 H2 st a z => fin st a z .non) (fun _ _ _ _ _ _ _ z => z.elim) (fun _ _ _ _ _ _ _ z => z.elim) (fun v d σ' ρ' G2 M2 H2 st a z hv => fin st a z hv)
end
end Tp

/-! # Operations: one rule a sign, what it does to data -/
namespace Tp
open PySem PySem.Spec PyProof.Rows L2
abbrev rAddI : R2 := rI0 fun i j => .int (i + j)
abbrev rAddS : R2 := fun x y H Q => ∃ i j, x = .str i ∧ y = .str j ∧ i.length + j.length ≤ sizeLine ∧ Q (.str (i ++ j)) H
abbrev orR (r r' : R2) : R2 := fun x y H Q => r x y H Q ∨ r' x y H Q
abbrev rAdd1 (K : PySem.W.Frag) : R2 := orR rAddI (orR rAddS (orR rCat (rCatA K)))
abbrev rMul1 : R2 := orR (rI CMulW fun i j => .int (i * j)) rRep
/-- powers below 2 ^ 27 bits -/
def CPowW (i j : Int) : Prop := 0 ≤ j ∧ (Builtin.Int.intBits i : Int) * j ≤ 2 ^ 27
abbrev rEq1 (K : PySem.W.Frag) : R2 := orR rEq (orR (rEqD K) (rEqS K))
abbrev rNe1 (K : PySem.W.Frag) : R2 := orR rNe (rNeD K)
section
variable {X : Cx}
theorem op_add1 : OpR X (binaryOp .Add) (rAdd1 X.K) := op_add.or (op_add_str.or (op_cat.or op_catA))
theorem op_mul1 : OpR X (binaryOp .Mult) rMul1 := op_mulW.or op_rep
theorem op_fdiv1 : OpR X (binaryOp .FloorDiv) (rI CDivW fun i j => .int (i / j)) := op_fdivW
theorem op_powW : OpR X (binaryOp .Pow) (rI CPowW fun i j => .int (i ^ j.toNat)) := opI fun _ _ _ _ _ _ _ hc q => pow_int hc.1 hc.2 q
theorem op_eq1 (hu : X.A.units + 64 < cLine) : OpR X (compareOp .Eq) (rEq1 X.K) := op_eq.or ((op_eqD hu).or (op_eqS hu))
theorem op_ne1 (hu : X.A.units + 64 < cLine) : OpR X (compareOp .NotEq) (rNe1 X.K) := op_ne.or (op_neD hu)
end
section
variable {K : PySem.W.Frag} {r r' : R2} {a b c d : D} {χ : D → Prop} {i j : Int}
theorem OpD.inl (h : OpD K r a b χ) : OpD K (orR r r') a b χ := fun x y G M H Q s ha hb q => .inl (h x y G M H Q s ha hb q)
theorem OpD.inr (h : OpD K r' a b χ) : OpD K (orR r r') a b χ := fun x y G M H Q s ha hb q => .inr (h x y G M H Q s ha hb q)
theorem opd_I0 {g : Int → Int → V} (h : ∀ G, DV K G (g i j) d) : OpD K (rI0 g) (.int i) (.int j) (· = d) := fun x y G M H Q s ha hb q => by
  cases ha
  cases hb
  exact ⟨i, j, rfl, rfl, q _ d G H (Step.refl s) rfl (h G)⟩
theorem opd_I {C : Int → Int → Prop} {g : Int → Int → V} (hc : C i j) (h : ∀ G, DV K G (g i j) d) : OpD K (rI C g) (.int i) (.int j) (· = d) := fun x y G M H Q s ha hb q => by
  cases ha
  cases hb
  exact ⟨i, j, rfl, rfl, hc, q _ d G H (Step.refl s) rfl (h G)⟩
theorem od_add : OpD K (rAdd1 K) (.int i) (.int j) (· = .int (i + j)) := (opd_I0 fun _ => .int _).inl
theorem od_sub : OpD K (rI0 fun i j => .int (i - j)) (.int i) (.int j) (· = .int (i - j)) := opd_I0 fun _ => .int _
theorem od_mul (h : CMulW i j) : OpD K rMul1 (.int i) (.int j) (· = .int (i * j)) := (opd_I h fun _ => .int _).inl
theorem od_mod (h : 0 < j) : OpD K (rI (fun _ j => 0 < j) fun i j => .int (i % j)) (.int i) (.int j) (· = .int (i % j)) := opd_I h fun _ => .int _
theorem od_fdiv (h : CDivW i j) : OpD K (rI CDivW fun i j => .int (i / j)) (.int i) (.int j) (· = .int (i / j)) := opd_I h fun _ => .int _
theorem od_lt : OpD K (rI0 fun i j => .bl (decide (i < j))) (.int i) (.int j) (· = .bl (decide (i < j))) := opd_I0 fun _ => .bl _
theorem od_le : OpD K (rI0 fun i j => .bl (decide (i ≤ j))) (.int i) (.int j) (· = .bl (decide (i ≤ j))) := opd_I0 fun _ => .bl _
theorem od_gt : OpD K (rI0 fun i j => .bl (decide (j < i))) (.int i) (.int j) (· = .bl (decide (j < i))) := opd_I0 fun _ => .bl _
theorem od_ge : OpD K (rI0 fun i j => .bl (decide (j ≤ i))) (.int i) (.int j) (· = .bl (decide (j ≤ i))) := opd_I0 fun _ => .bl _
theorem od_addS {x y : Str} (h : x.length + y.length ≤ 1000000) : OpD K (rAdd1 K) (.str x) (.str y) (· = .str (x ++ y)) := OpD.inr (OpD.inl fun u v G M H Q s ha hb q => by
  cases ha
  cases hb
  exact ⟨x, y, rfl, rfl, szOk h, q _ _ G H (Step.refl s) rfl (.str _)⟩)
theorem od_addL {xs ys : List D} (h : xs.length + ys.length ≤ 1000000) : OpD K (rAdd1 K) (.lst xs) (.lst ys) (· = .lst (xs ++ ys)) := OpD.inr (OpD.inr (OpD.inl fun u v G M H Q s ha hb q => by
  cases ha with
  | lst h1 k1 =>
    cases hb with
    | lst h2 k2 => exact ⟨_, _, _, _, rfl, rfl, s.g _ _ h1, s.g _ _ h2, by rw [k1.length, k2.length]; exact szOk h, fun p n => q _ _ _ _ (Step.new s n) rfl (new_lst s n (k1.append k2))⟩))
theorem od_addT {xs ys : List D} (h : xs.length + ys.length ≤ 1000000) : OpD K (rAdd1 K) (.tup xs) (.tup ys) (· = .tup (xs ++ ys)) := OpD.inr (OpD.inr (OpD.inr fun u v G M H Q s ha hb q => by
  cases ha with
  | tup h1 k1 =>
    cases hb with
    | tup h2 k2 =>
      refine ⟨_, _, _, _, rfl, rfl, s.g.sqTd h1, s.g.sqTd h2, by rw [k1.length, k2.length]; exact szOk h, fun e => ?_, fun n1 e => ?_, fun _ _ p n => q _ _ _ _ (Step.new s n) rfl (new_tup s n (k1.append k2))⟩
      · subst e
        cases k1
        exact q _ _ G H (Step.refl s) rfl (.tup h2 k2)
      · subst e
        cases k2
        rw [List.append_nil] at q
        exact q _ _ G H (Step.refl s) rfl (.tup h1 k1)))
theorem rep_len {α : Type} (n : Nat) (xs : List α) : ((List.replicate n xs).flatten).length = xs.length * n := by
  induction n with
  | zero => simp
  | succ n ih => rw [List.replicate_succ, List.flatten_cons, List.length_append, ih, Nat.mul_succ, Nat.add_comm]
theorem DVs.rep {G : Hp} {vs : List V} {ds : List D} (h : DVs K G vs ds) : ∀ n : Nat, DVs K G (List.replicate n vs).flatten (List.replicate n ds).flatten
  | 0 => by
    rw [List.replicate_zero, List.replicate_zero]
    exact .nil
  | n + 1 => by
    rw [List.replicate_succ, List.replicate_succ, List.flatten_cons, List.flatten_cons]
    exact h.append (DVs.rep h n)
theorem od_rep {xs : List D} {n : Nat} (h : xs.length * n ≤ 1000000) (h2 : n ≤ 1000000) : OpD K rMul1 (.lst xs) (.int (n : Nat)) (· = .lst (List.replicate n xs).flatten) := OpD.inr fun u v G M H Q s ha hb q => by
  cases ha with
  | lst h1 k1 =>
    cases hb
    exact ⟨_, _, _, rfl, rfl, s.g _ _ h1, by omega, by omega, by rw [k1.length]; exact szOk h, fun p w => q _ _ _ _ (Step.new s w) rfl (new_lst s w (k1.rep _))⟩
theorem opd_eqV {x y : V} {a b : D} {β : Bool} (hx : ∀ G v, DV K G v a → v = x) (hy : ∀ G v, DV K G v b → v = y) (sc : scal x y = true) (e : decide (x = y) = β) : OpD K rEq a b (· = .bl β) := fun u v G M H Q s ha hb q => by
  rw [hx G u ha, hy G v hb]
  refine ⟨sc, ?_⟩
  rw [e]
  exact q _ _ G H (Step.refl s) rfl (.bl _)
theorem opd_neV {x y : V} {a b : D} {β : Bool} (hx : ∀ G v, DV K G v a → v = x) (hy : ∀ G v, DV K G v b → v = y) (sc : scal x y = true) (e : (!decide (x = y)) = β) : OpD K rNe a b (· = .bl β) := fun u v G M H Q s ha hb q => by
  rw [hx G u ha, hy G v hb]
  refine ⟨sc, ?_⟩
  rw [e]
  exact q _ _ G H (Step.refl s) rfl (.bl _)
theorem dvI {i : Int} (G : Hp) (v : V) (h : DV K G v (.int i)) : v = .int i := by
  cases h
  rfl
theorem dvS {i : Str} (G : Hp) (v : V) (h : DV K G v (.str i)) : v = .str i := by
  cases h
  rfl
theorem dvB {i : Bool} (G : Hp) (v : V) (h : DV K G v (.bl i)) : v = .bl i := by
  cases h
  rfl
theorem decI {i j : Int} : decide (V.int i = V.int j) = decide (i = j) := by simp
theorem decS {i j : Str} : decide (V.str i = V.str j) = decide (i = j) := by simp
theorem decB {i j : Bool} : decide (V.bl i = V.bl j) = decide (i = j) := by simp
theorem od_eqI : OpD K (rEq1 K) (.int i) (.int j) (· = .bl (decide (i = j))) := (opd_eqV dvI dvI rfl decI).inl
theorem od_eqS {x y : Str} : OpD K (rEq1 K) (.str x) (.str y) (· = .bl (decide (x = y))) := (opd_eqV dvS dvS rfl decS).inl
theorem od_eqB {x y : Bool} : OpD K (rEq1 K) (.bl x) (.bl y) (· = .bl (decide (x = y))) := (opd_eqV dvB dvB rfl decB).inl
theorem od_neI : OpD K (rNe1 K) (.int i) (.int j) (· = .bl (!decide (i = j))) := (opd_neV dvI dvI rfl (by rw [decI])).inl
theorem od_neS {x y : Str} : OpD K (rNe1 K) (.str x) (.str y) (· = .bl (!decide (x = y))) := (opd_neV dvS dvS rfl (by rw [decS])).inl
/-- data without dicts -/
theorem od_eqP (ha : a.plain = true) (hb : b.plain = true) (sa : SeqAt.shaped a.py = true) (sb : SeqAt.shaped b.py = true) (toDp : ∀ (H : Hp) (v : V) (d : PyData), SeqAt.shaped d = true → Dt K H v d → Dp K H v d) : OpD K (rEq1 K) a b (· = .bl (PyData.eqv a.py b.py)) :=
  OpD.inr (OpD.inl fun u v G M H Q s h1 h2 q => ⟨a.py, b.py, toDp _ _ _ sa ((h1.mono s.g).dt ha), toDp _ _ _ sb ((h2.mono s.g).dt hb), sa, sb, q _ _ G H (Step.refl s) rfl (.bl _)⟩)
theorem od_neP (ha : a.plain = true) (hb : b.plain = true) (sa : SeqAt.shaped a.py = true) (sb : SeqAt.shaped b.py = true) (toDp : ∀ (H : Hp) (v : V) (d : PyData), SeqAt.shaped d = true → Dt K H v d → Dp K H v d) : OpD K (rNe1 K) a b (· = .bl (!PyData.eqv a.py b.py)) :=
  OpD.inr fun u v G M H Q s h1 h2 q => ⟨a.py, b.py, toDp _ _ _ sa ((h1.mono s.g).dt ha), toDp _ _ _ sb ((h2.mono s.g).dt hb), sa, sb, q _ _ G H (Step.refl s) rfl (.bl _)⟩
end
/-! ### without dicts -/
section
variable {K : PySem.W.Frag} {H : Hp}
mutual
theorem Dt.dp : ∀ {d : PyData} {v : V}, PyData.canLay0 d = true → Dt K H v d → Dp K H v d
  | .none, _, _, h => by
    cases h
    exact .non
  | .bool b, _, _, h => by
    cases h
    exact .bl b
  | .int i, _, _, h => by
    cases h
    exact .int i
  | .str x, _, _, h => by
    cases h
    exact .str x
  | .list ds, _, c, h => by
    cases h with
    | lst hs ha => exact .lst hs (DtAll.dp (by simpa only [PyData.canLay0] using c) ha)
  | .tuple ds, _, c, h => by
    cases h with
    | tup hs ha => exact .tup hs (DtAll.dp (by simpa only [PyData.canLay0] using c) ha)
  | .dict ds, _, c, h => by simp only [PyData.canLay0] at c; cases c
theorem DtAll.dp : ∀ {ds : List PyData} {vs : List V}, PyData.canLayAll0 ds = true → DtAll K H vs ds → DpAll K H vs ds
  | [], _, _, h => by
    cases h
    exact .nil
  | d :: ds, _, c, h => by
    simp only [PyData.canLayAll0, Bool.and_eq_true] at c
    cases h with
    | cons h1 h2 => exact .cons (Dt.dp c.1 h1) (DtAll.dp c.2 h2)
end
theorem toDp (H : Hp) (v : V) (d : PyData) (s : SeqAt.shaped d = true) (h : Dt K H v d) : Dp K H v d := h.dp (SeqAt.canLay_of_shaped s)
end
/-! ### items, calls -/
section
variable {K : PySem.W.Frag} {a b c d : D} {χ : D → Prop} {i j : Int} {xs : List D}
theorem atI_len {α β : Type} {xs : List α} {ys : List β} (h : xs.length = ys.length) {i : Int} : (ixN xs.length i) = ixN ys.length i := by rw [h]
theorem DVs.atI {G : Hp} {vs : List V} {ds : List D} {d : D} (h : DVs K G vs ds) (e : L2.atI ds i = some d) : ∃ v, L2.atI vs i = some v ∧ DV K G v d := by
  unfold L2.atI at e ⊢
  rw [h.length]
  cases q : ixN ds.length i with
  | none =>
    rw [q] at e
    cases e
  | some n =>
    rw [q] at e
    exact h.back e
theorem od_ixL (h : L2.atI xs i = some d) : OpD K (rIx K) (.lst xs) (.int i) (· = d) := fun u v G M H Q s ha hb q => by
  cases ha with
  | lst h1 k1 =>
    cases hb
    obtain ⟨w, e, hw⟩ := k1.atI h
    exact .inl ⟨_, _, i, w, rfl, rfl, sq_of' (s.g _ _ h1), e, q w d G H (Step.refl s) rfl hw⟩
theorem od_ixT (h : L2.atI xs i = some d) : OpD K (rIx K) (.tup xs) (.int i) (· = d) := fun u v G M H Q s ha hb q => by
  cases ha with
  | tup h1 k1 =>
    cases hb
    obtain ⟨w, e, hw⟩ := k1.atI h
    exact .inr (.inl ⟨_, _, i, w, rfl, rfl, s.g.sqTd h1, e, q w d G H (Step.refl s) rfl hw⟩)
theorem od_ixS {z : Str} {c : Nat} (l : z.length ≤ 1000000) (h : L2.atI z.cps.toList i = some c) : OpD K (rIx K) (.str z) (.int i) (· = .str ⟨#[c]⟩) := fun u v G M H Q s ha hb q => by
  cases ha
  cases hb
  exact .inr (.inr ⟨z, i, c, rfl, rfl, szOk l, h, q _ _ G H (Step.refl s) rfl (.str _)⟩)
abbrev rLen1 (K : PySem.W.Frag) : List V → Hp → VK → Prop := fun xs H Q => ∃ x n, xs = [x] ∧ LenV K x H n ∧ Q (.int n) H
theorem cd_lenL : CallD K (rLen1 K) [.lst xs] (· = .int (xs.length : Nat)) := fun vs G M H Q s h q => by
  cases h with
  | cons h k =>
    cases k
    cases h with
    | lst h1 k1 => exact ⟨_, xs.length, rfl, .inl ⟨_, sq_of' (s.g _ _ h1), k1.length.symm⟩, q _ _ G H (Step.refl s) rfl (.int _)⟩
theorem cd_lenT : CallD K (rLen1 K) [.tup xs] (· = .int (xs.length : Nat)) := fun vs G M H Q s h q => by
  cases h with
  | cons h k =>
    cases k
    cases h with
    | tup h1 k1 => exact ⟨_, xs.length, rfl, .inr ⟨_, s.g.sqTd h1, k1.length.symm⟩, q _ _ G H (Step.refl s) rfl (.int _)⟩
theorem cd_lenS {z : Str} (l : z.length ≤ 1000000) : CallD K (rLen1 K) [.str z] (· = .int (z.length : Nat)) := fun vs G M H Q s h q => by
  cases h with
  | cons h k =>
    cases k
    cases h
    exact ⟨_, z.length, rfl, ⟨szOk l, rfl⟩, q _ _ G H (Step.refl s) rfl (.int _)⟩
abbrev rInt1 : List V → Hp → VK → Prop := fun xs H Q => (∃ i, xs = [.int i] ∧ Q (.int i) H) ∨ ∃ k, xs = [.bl k] ∧ Q (.int (if k then 1 else 0)) H
theorem cd_int : CallD K rInt1 [.int i] (· = .int i) := fun vs G M H Q s h q => by
  cases h with
  | cons h k =>
    cases k
    cases h
    exact .inl ⟨i, rfl, q _ _ G H (Step.refl s) rfl (.int _)⟩
theorem cd_intB {b : Bool} : CallD K rInt1 [.bl b] (· = .int (if b then 1 else 0)) := fun vs G M H Q s h q => by
  cases h with
  | cons h k =>
    cases k
    cases h
    exact .inr ⟨b, rfl, q _ _ G H (Step.refl s) rfl (.int _)⟩
theorem cd_repr (p : d.plain = true) (sh : d.py.showable = true) (dp : d.py.depth ≤ 60) (sz : d.py.shown.length ≤ sizeLine) : CallD K (rRepr K) [d] (· = .str d.py.shown) := fun vs G M H Q s h q => by
  cases h with
  | cons h k =>
    cases k
    exact ⟨_, d.py, rfl, (h.mono s.g).dt p, sh, dp, sz, q _ _ G H (Step.refl s) rfl (.str _)⟩
theorem cd_all {bs : List Bool} : CallD K (rAll K) [.lst (bs.map .bl)] (· = .bl (bs.all id)) := fun vs G M H Q s h q => by
  cases h with
  | cons h k =>
    cases k
    cases h with
    | lst h1 k1 => exact ⟨_, bs, rfl, by rw [← k1.bls]; exact sq_of' (s.g _ _ h1), q _ _ G H (Step.refl s) rfl (.bl _)⟩
theorem cd_any {bs : List Bool} : CallD K (rAny K) [.lst (bs.map .bl)] (· = .bl (bs.any id)) := fun vs G M H Q s h q => by
  cases h with
  | cons h k =>
    cases k
    cases h with
    | lst h1 k1 => exact ⟨_, bs, rfl, by rw [← k1.bls]; exact sq_of' (s.g _ _ h1), q _ _ G H (Step.refl s) rfl (.bl _)⟩
/-- isinstance of an error against an own class or a built-in one -/
theorem cd_isX {C : Addr} {x : D} {c : V} {cv : Value} {b : Bool} {G0 : Hp} (T : ErrC K C) (hc : ∀ u, RelV c u → u = cv) (hk : PySem.W.kitOne K (.ref C) cv = some b) (v : V) (G M H : Hp) (Q : VK) (s : Sep G M H) (h : DV K G v (.err C x)) (q : Q (.bl b) H) : rIsX K [v, c] H Q := by
  cases h with
  | err h1 h2 => exact ⟨_, C, _, _, c, cv, b, rfl, T, h1.mono s.g, hc, hk, q⟩
end
end Tp

/-! # Callees by name -/
namespace Tp
open PySem PySem.Spec PyProof.Rows L2
/-- the module's name x stands for a def that keeps sp -/
structure Cal (P : Program) (w : World) (K : PySem.W.Frag) (mg : Str → Option Value) (base : Heap) (k : Nat) (x : Str) (sp : Sp) : Prop where
  ex : ∃ (CX : CXT) (f : Addr) (fd : FuncData) (ps : List Str), (CX = CX0 ∨ CX = L2.CX P w) ∧ FnG P w K mg base CX k f fd ps sp ∧ mg x = some (.ref f) ∧ PySem.W.keepIn K (.ref f) = true ∧ Binds K fd ps []
theorem pc_call {X : Cx} {k : Nat} {x : Str} {sp : Sp} {p pos : Pos} {e : Expr} {es : List Expr} {t : TA} (c : Cal X.prog X.w X.K X.mg X.base k x sp) (hr : Room k X.A) (gq : Quiet X.A) (hg : Gl X x) (ha : PA X (e :: es) t)
    (hdb : (x == ("__debug__" : Str)) = false := by decide)
    (he : starEach (e :: es) X.env = (false, eval e X.env) :: starEach es X.env := by rfl) (hpl : (backTo pos (starEach es X.env)).any (·.1) = false := by rfl) :
    PE X (.Call (.Name x p) (e :: es) [] pos) (tCall sp [] E0 t) := by
  obtain ⟨CX, f, fd, ps, hc, F, hm, hk, hb⟩ := c.ex
  rcases hc with rfl | rfl
  · exact pg_call F hr gq hg hm hk hb .nil pass0 ha hdb he hpl
  · exact pg_call F hr gq hg hm hk hb .nil passL ha hdb he hpl
section
variable {P : Program} {w : World} {K : PySem.W.Frag} {mg : Str → Option Value} {base : Heap}
/-- no error leaves the body -/
theorem okG0 {x qual : Str} {st : Stmt} {f : Addr} {fd : FuncData} {N ps : List Str} {k : Nat} {sp : Sp} (F : Fun K x qual st f fd) (S : FnScope N ps (defScope st))
    (len : ∀ vs H Q E, sp vs H Q E → vs.length = ps.length)
    (body : ∀ (cdv : Value) (A : Around) (outer : List Env) (s : Shared) (H : Hp) (vs : List V) (Q : VK) (E : XK),
      Room k (A.deeper (envOfC qual (defScope st) s.heap.objs.size f cdv)) → Quiet A → sp vs H Q E →
      ∃ t, PSs (cxOf CX0 P w K mg base N qual (defScope st) f cdv A outer s H E).nox (defBody st) t ∧ t { nx := fun _ H' => Q .non H', rt := Q } (L2.start N vs) H) :
    FnG P w K mg base CX0 (k + 1) f fd ps sp := okG F S len fun cdv A outer s H vs Q E hr gq hsp => by
  obtain ⟨t, h, q⟩ := body cdv A outer s H vs Q E hr gq hsp
  exact ⟨t, h.nox, q⟩
end
end Tp

/-! # Derivations as data: a piece of syntax with its reading -/
namespace Tp
open PySem PySem.Spec PyProof.Rows L2
abbrev DE (X : Cx) (e : Expr) := { t : TE // PE X e t }
abbrev DT (X : Cx) (e : Expr) := { t : TT // PT X e t }
abbrev DW (X : Cx) (e : Expr) := { t : TT // PW X e t }
abbrev DA (X : Cx) (es : List Expr) := { t : TA // PA X es t }
abbrev DG (X : Cx) (e : Expr) := { t : TG // PG X e t }
abbrev DGs (X : Cx) (es : List Expr) := { t : TGs // PGs X es t }
abbrev DI (X : Cx) (tg e : Expr) := { t : TI // PI X tg e t }
abbrev DS (X : Cx) (s : Stmt) := { t : TS // PS X s t }
abbrev DB (X : Cx) (s : List Stmt) := { t : TS // PSs X s t }
abbrev DTs (X : Cx) (es : List Expr) := { t : TT // PTs X es t }
section
variable {X : Cx} {a b c e o iter tg : Expr} {es rest : List Expr} {x : Str} {p pos apos cpos tpos pos' : Pos} {r : R2} {i : Nat}
abbrev de_int {j : Int} {kk : Nat} : DE X (.Constant (.int j) kk pos) := ⟨_, pe_int⟩
abbrev de_str {j : Str} {kk : Nat} : DE X (.Constant (.str j) kk pos) := ⟨_, pe_str⟩
abbrev de_bl {j : Bool} {kk : Nat} : DE X (.Constant (.bool j) kk pos) := ⟨_, pe_bl⟩
abbrev de_non {kk : Nat} : DE X (.Constant .none kk pos) := ⟨_, pe_non⟩
abbrev de_v (i : Nat) (hN : X.N[i]? = some x := by rfl) (hv : Vis X.env.scope x := by first | exact Or.inl rfl | exact Or.inr (Or.inl rfl) | exact Or.inr (Or.inr rfl)) (hd : (x == ("__debug__" : Str)) = false := by decide)
    (hcd : (x == ("__classdict__" : Str)) = false := by decide) : DE X (.Name x pos) := ⟨tVar i, pv i hN hv hd hcd⟩
abbrev de_op {op : Operator} (ho : OpR X (binaryOp op) r) (ha : DE X a) (hb : DE X b) : DE X (.BinOp a op b pos) := ⟨tOp r ha.1 hb.1, pe_op ho ha.2 hb.2⟩
abbrev de_cmp {op : CmpOp} (ho : OpR X (compareOp op) r) (ha : DE X a) (hb : DE X b) (hm : behindInMarks op b = false) : DE X (.Compare a [op] [b] pos) := ⟨tOp r ha.1 hb.1, pe_cmpR ho ha.2 hb.2 hm⟩
abbrev de_one {op : BoolOp} (ha : DE X a) : DE X (.BoolOp op [a] pos) := ⟨ha.1, pe_one ha.2⟩
abbrev de_and (ha : DE X a) (hb : DE X (.BoolOp .And (b :: rest) pos)) : DE X (.BoolOp .And (a :: b :: rest) pos) := ⟨tAndV ha.1 hb.1, pe_and ha.2 hb.2⟩
abbrev de_or (ha : DE X a) (hb : DE X (.BoolOp .Or (b :: rest) pos)) : DE X (.BoolOp .Or (a :: b :: rest) pos) := ⟨tOrV ha.1 hb.1, pe_or ha.2 hb.2⟩
abbrev de_not (ha : DE X a) : DE X (.UnaryOp .Not a pos) := ⟨tNotV ha.1, pe_not ha.2⟩
abbrev de_neg (ha : DE X a) : DE X (.UnaryOp .USub a pos) := ⟨_, pe_un un_neg ha.2⟩
abbrev de_ifE (hc : DT X c) (ha : DE X a) (hb : DE X b) : DE X (.IfExp c a b pos) := ⟨tIf hc.1 ha.1 hb.1, pe_ifExp hc.2 ha.2 hb.2⟩
abbrev de_dic0 : DE X (.Dict [] [] pos) := ⟨tDNewK, pe_dnewK⟩
abbrev de_dic1 {z : Str} {kk : Nat} (hv : DE X a) : DE X (.Dict [some (.Constant (.str z) kk p)] [a] pos) := ⟨tDisp [(tC (.str z), hv.1)], pe_disp (pps_cons pe_str hv.2 pps_nil) rfl rfl (List.cons_ne_nil _ _) (Nat.le_of_ble_eq_true rfl)⟩
abbrev da_nil : DA X [] := ⟨tNil, pa_nil⟩
abbrev da_cons (ha : DE X e) (hr : DA X es) (hs : starEach (e :: es) X.env = (false, eval e X.env) :: starEach es X.env := by rfl) : DA X (e :: es) := ⟨tCons ha.1 hr.1, pa_cons ha.2 hr.2 hs⟩
abbrev de_tup {k1 : Nat} (h : DA X es) (w : ∀ t, PA X es t → PE X (.Tuple es k1 pos) (tTup t)) : DE X (.Tuple es k1 pos) := ⟨tTup h.1, w h.1 h.2⟩
abbrev de_lst (h : DA X es) (w : ∀ t, PA X es t → PE X (.List es pos) (tLst t)) : DE X (.List es pos) := ⟨tLst h.1, w h.1 h.2⟩
abbrev de_ix (hr : IxR X r) (ha : DE X a) (hb : DE X b) (hs : PlainIx b) : DE X (.Subscript a b pos) := ⟨tOp r ha.1 hb.1, pe_ix hr ha.2 hb.2 hs⟩
abbrev de_callB {id : String} {r : List V → Hp → VK → Prop} (hc : CallR X (.builtin id) r) (hg : Gl X x) (hm : X.mg x = none) (hv : bootBuiltins x = some (.builtin id)) (ha : DA X (e :: es)) (hn : x ≠ "__name__" := by decide) (hdb : (x == ("__debug__" : Str)) = false := by decide)
    (he : starEach (e :: es) X.env = (false, eval e X.env) :: starEach es X.env := by rfl) (hpl : (backTo pos (starEach es X.env)).any (·.1) = false := by rfl) : DE X (.Call (.Name x p) (e :: es) [] pos) := ⟨tCB r ha.1, pe_callB hc hg hm hv ha.2 hn hdb he hpl⟩
abbrev de_callT {T : String} {r : List V → Hp → VK → Prop} (hc : CallR X (.type T) r) (hg : Gl X x) (hm : X.mg x = none) (hv : bootBuiltins x = some (.type T)) (ha : DA X (e :: es)) (hn : x ≠ "__name__" := by decide) (hdb : (x == ("__debug__" : Str)) = false := by decide)
    (he : starEach (e :: es) X.env = (false, eval e X.env) :: starEach es X.env := by rfl) (hpl : (backTo pos (starEach es X.env)).any (·.1) = false := by rfl) : DE X (.Call (.Name x p) (e :: es) [] pos) := ⟨tCB r ha.1, pe_callTy hc hg hm hv ha.2 hn hdb he hpl⟩
abbrev de_fun {k : Nat} {sp : Sp} (c : Cal X.prog X.w X.K X.mg X.base k x sp) (hr : Room k X.A) (gq : Quiet X.A) (hg : Gl X x) (ha : DA X (e :: es)) (hdb : (x == ("__debug__" : Str)) = false := by decide)
    (he : starEach (e :: es) X.env = (false, eval e X.env) :: starEach es X.env := by rfl) (hpl : (backTo pos (starEach es X.env)).any (·.1) = false := by rfl) : DE X (.Call (.Name x p) (e :: es) [] pos) := ⟨tCall sp [] E0 ha.1, pc_call c hr gq hg ha.2 hdb he hpl⟩
abbrev dt_val (h : DE X e) (he : ∀ whole, isTrue e X.env whole = (do let v ← whole; standAt e.pos; holding [v] (truthy v)) := by intro _; rfl) : DT X e := ⟨tB h.1, pt_val h.2 he⟩
abbrev dt_cmp {op : CmpOp} (ho : OpR X (compareOp op) r) (ha : DE X a) (hb : DE X b) (hm : behindInMarks op b = false) : DT X (.Compare a [op] [b] pos) := ⟨tTest (tOp r ha.1 hb.1), pt_cmpR ho ha.2 hb.2 hm⟩
abbrev dt_not (h : DT X a) : DT X (.UnaryOp .Not a pos) := ⟨tNot h.1, pt_not h.2⟩
abbrev dt_w (h : DW X e) : DT X e := ⟨h.1, h.2.pt⟩
abbrev dw_and1 (h : DT X a) : DW X (.BoolOp .And [a] pos) := ⟨h.1, pw_and1 h.2⟩
abbrev dw_or1 (h : DT X a) : DW X (.BoolOp .Or [a] pos) := ⟨h.1, pw_or1 h.2⟩
abbrev dw_and (h : DT X a) (k : DW X (.BoolOp .And (b :: rest) pos)) : DW X (.BoolOp .And (a :: b :: rest) pos) := ⟨tAnd h.1 k.1, pw_and h.2 k.2⟩
abbrev dw_or (h : DT X a) (k : DW X (.BoolOp .Or (b :: rest) pos)) : DW X (.BoolOp .Or (a :: b :: rest) pos) := ⟨tOr h.1 k.1, pw_or h.2 k.2⟩
abbrev dg_name (i : Nat) (hN : X.N.Nodup) (hi : X.N[i]? = some x := by rfl) (hx : Loc X.env.scope x := by first | exact Or.inl rfl | exact Or.inr rfl) (hf : X.fn x = true ∨ X.env.scope.names.lookup x = some .local := by first | exact .inl rfl | exact .inr rfl) : DG X (.Name x pos) := ⟨gName i, pg_name hN hi hx hf⟩
abbrev dgs_nil : DGs X [] := ⟨gNil, pgs_nil⟩
abbrev dgs_cons (h : DG X e) (k : DGs X es) (hs : (assignEach (e :: es) X.env).map (·.2) = assign e X.env :: (assignEach es X.env).map (·.2) := by rfl) : DGs X (e :: es) := ⟨gCons h.1 k.1, pgs_cons h.2 k.2 hs⟩
abbrev dg_tup {k1 : Nat} (n : Nat) (hc : X.calm = true) (h : DGs X es) (hn : (assignEach es X.env).length = n := by rfl) (hst : (assignEach es X.env).findIdx? (·.1) = none := by rfl) : DG X (.Tuple es k1 pos) := ⟨gTup X.K n h.1, pg_tup hc h.2 hn hst⟩
abbrev dg_sub {t : TSet} (ho : DE X o) (hi : DE X a) (hs : PSet X t) (ha : ∀ v, assign (.Subscript o a pos) X.env v = (do
      let ov ← holding [v] (eval o X.env)
      let iv ← holding [v, ov] (eval a X.env)
      standAt pos
      holding [v, ov, iv] (setItem ov iv v)
      release [v, ov, iv] []) := by intro _; rfl) : DG X (.Subscript o a pos) := ⟨gSub ho.1 hi.1 t, pg_sub ho.2 hi.2 hs ha⟩
abbrev di_list (h : DE X e) : DI X tg e := ⟨iList X.K h.1, pi_list h.2⟩
abbrev di_tup (h : DE X e) : DI X tg e := ⟨iTup X.K h.1, pi_tup h.2⟩
abbrev di_range1 (hg : Gl X "range") (hm : X.mg "range" = none) (ha : DA X [a]) (hs : starEach [a] X.env = [(false, eval a X.env)] := by rfl) : DI X tg (.Call (.Name "range" p) [a] [] pos) := ⟨iRng1 ha.1, pi_range1 hg hm ha.2 hs⟩
abbrev di_enum {k1 : Nat} (hg : Gl X "enumerate") (hm : X.mg "enumerate" = none) (ha : DA X [e]) (hs : starEach [e] X.env = [(false, eval e X.env)] := by rfl) : DI X (.Tuple es k1 tpos) (.Call (.Name "enumerate" p) [e] [] pos) := ⟨iEnum X.K ha.1, pi_enum hg hm ha.2 hs⟩
end
section
variable {X : Cx} {a b c e o iter tg : Expr} {es rest : List Expr} {st : Stmt} {ss s1 s2 : List Stmt} {x : Str} {p pos apos cpos tpos pos' : Pos}
abbrev db_nil : DB X [] := ⟨tNext, pss_nil⟩
abbrev db_one (h : DS X st) : DB X [st] := ⟨h.1, pss_one h.2⟩
abbrev db_cons (h : DS X st) (k : DB X ss) : DB X (st :: ss) := ⟨tSeq h.1 k.1, pss_cons h.2 k.2⟩
abbrev ds_ret (h : DE X e) : DS X (.Return (some e) pos) := ⟨tRet h.1, ps_ret h.2⟩
abbrev ds_retN : DS X (.Return none pos) := ⟨tRetN, ps_retN⟩
abbrev ds_set (i : Nat) (hN : X.N.Nodup) (h : DE X e) (hi : X.N[i]? = some x := by rfl) (hx : Loc X.env.scope x := by first | exact Or.inl rfl | exact Or.inr rfl) (hs : swapsWith e (some (.Name x pos')) pos.line X.env = pure false := by rfl)
    (hf : X.fn x = true ∨ X.env.scope.names.lookup x = some .local := by first | exact .inl rfl | exact .inr rfl) : DS X (.Assign [.Name x pos'] e pos) := ⟨tAsg h.1 (gName i), ps_set hN hi hx h.2 hs hf⟩
abbrev ds_asg (h : DE X e) (g : DG X tg) (hs : swapsWithSole [tg] e pos.line X.env = pure false := by rfl) (hw : swappedStores [tg] e X.env = pure none := by rfl) (h1 : (assignEach [tg] X.env).map (·.2) = [assign tg X.env] := by rfl) : DS X (.Assign [tg] e pos) := ⟨tAsg h.1 g.1, ps_asg h.2 g.2 hs hw h1⟩
abbrev ds_if (hc : DT X c) (ha : DB X s1) (hb : DB X s2) : DS X (.If c s1 s2 pos) := ⟨tIfS hc.1 ha.1 hb.1, ps_if hc.2 ha.2 hb.2⟩
abbrev ds_expr (h : DE X e) (hs : swapsWith e none pos.line X.env = pure false := by rfl) : DS X (.Expr e pos) := ⟨tDrop h.1, ps_expr h.2 hs⟩
abbrev ds_for (hp : PassesOwn (model X.prog X.w) X.A X.env X.xe) (hc : X.calm = true) (hi : DI X tg iter) (hg : DG X tg) (hb : DB X ss) (hs : ∀ x, foldedSetIterable iter X.env x = pure x := by intro _; rfl) : DS X (.For tg iter ss [] pos) := ⟨tFor hi.1 hg.1 hb.1, ps_for hp hc hi.2 hg.2 hb.2 hs⟩
abbrev ds_while (hp : PassesOwn (model X.prog X.w) X.A X.env X.xe) (hc : DT X c) (hb : DB X ss) : DS X (.While c ss [] pos) := ⟨tWhile hc.1 hb.1, ps_while hp hc.2 hb.2⟩
abbrev ds_break : DS X (.Break pos) := ⟨tBreak, ps_break⟩
abbrev ds_continue : DS X (.Continue pos) := ⟨tCont, ps_continue⟩
abbrev ds_never : DS X st := ⟨tNever, ps_never⟩
/-- a method of a built-in type; w: the rule pe_bm with its row's facts -/
abbrev de_bm {T : String} {r : V → List V → Hp → VK → Prop} {name : Str} (ho : DE X o) (ha : DA X (e :: es)) (w : ∀ to t, PE X o to → PA X (e :: es) t → PE X (.Call (.Attribute o name apos) (e :: es) [] cpos) (tBM X.K T r to t)) : DE X (.Call (.Attribute o name apos) (e :: es) [] cpos) := ⟨tBM X.K T r ho.1 ha.1, w _ _ ho.2 ha.2⟩
abbrev de_errF {f : Str} (he : DE X e) (hb : attributeBase e f X.env (eval e X.env) = eval e X.env := by rfl) : DE X (.Attribute e f pos) := ⟨tErrF X.K f he.1, pe_errF he.2 hb⟩
end
/-! ### the built-ins by name -/
theorem bo_int : bootBuiltins ("int" : Str) = some (.type "int") := by decide +kernel
theorem bo_len : bootBuiltins ("len" : Str) = some (.builtin "len") := by decide +kernel
theorem bo_abs : bootBuiltins ("abs" : Str) = some (.builtin "abs") := by decide +kernel
theorem bo_all : bootBuiltins ("all" : Str) = some (.builtin "all") := by decide +kernel
theorem bo_any : bootBuiltins ("any" : Str) = some (.builtin "any") := by decide +kernel
theorem bo_min : bootBuiltins ("min" : Str) = some (.builtin "min") := by decide +kernel
theorem bo_max : bootBuiltins ("max" : Str) = some (.builtin "max") := by decide +kernel
theorem bo_repr : bootBuiltins ("repr" : Str) = some (.builtin "repr") := by decide +kernel
theorem bo_isi : bootBuiltins ("isinstance" : Str) = some (.builtin "isinstance") := by decide +kernel
theorem bo_VE : bootBuiltins ("ValueError" : Str) = some (.type "ValueError") := by decide +kernel
theorem nn_int : ("int" : Str) ≠ "__name__" := by decide
theorem nn_len : ("len" : Str) ≠ "__name__" := by decide
theorem nn_abs : ("abs" : Str) ≠ "__name__" := by decide
theorem nn_all : ("all" : Str) ≠ "__name__" := by decide
theorem nn_any : ("any" : Str) ≠ "__name__" := by decide
theorem nn_min : ("min" : Str) ≠ "__name__" := by decide
theorem nn_max : ("max" : Str) ≠ "__name__" := by decide
theorem nn_repr : ("repr" : Str) ≠ "__name__" := by decide
theorem nn_isi : ("isinstance" : Str) ≠ "__name__" := by decide
theorem nd_int : (("int" : Str) == ("__debug__" : Str)) = false := by decide
theorem nd_len : (("len" : Str) == ("__debug__" : Str)) = false := by decide
theorem nd_abs : (("abs" : Str) == ("__debug__" : Str)) = false := by decide
theorem nd_all : (("all" : Str) == ("__debug__" : Str)) = false := by decide
theorem nd_any : (("any" : Str) == ("__debug__" : Str)) = false := by decide
theorem nd_min : (("min" : Str) == ("__debug__" : Str)) = false := by decide
theorem nd_max : (("max" : Str) == ("__debug__" : Str)) = false := by decide
theorem nd_repr : (("repr" : Str) == ("__debug__" : Str)) = false := by decide
theorem nd_isi : (("isinstance" : Str) == ("__debug__" : Str)) = false := by decide
section
variable {X : Cx} {e : Expr} {es : List Expr} {p pos : Pos}
abbrev de_f_len (hm : X.mg ("len" : Str) = none) (hg : Gl X "len") (ha : DA X (e :: es)) (he : starEach (e :: es) X.env = (false, eval e X.env) :: starEach es X.env := by rfl) (hpl : (backTo pos (starEach es X.env)).any (·.1) = false := by rfl) : DE X (.Call (.Name "len" p) (e :: es) [] pos) := de_callB call_len hg hm bo_len ha nn_len nd_len he hpl
abbrev de_f_int (hm : X.mg ("int" : Str) = none) (hg : Gl X "int") (ha : DA X (e :: es)) (he : starEach (e :: es) X.env = (false, eval e X.env) :: starEach es X.env := by rfl) (hpl : (backTo pos (starEach es X.env)).any (·.1) = false := by rfl) : DE X (.Call (.Name "int" p) (e :: es) [] pos) := de_callT call_int1 hg hm bo_int ha nn_int nd_int he hpl
abbrev de_f_abs (hm : X.mg ("abs" : Str) = none) (hg : Gl X "abs") (ha : DA X (e :: es)) (he : starEach (e :: es) X.env = (false, eval e X.env) :: starEach es X.env := by rfl) (hpl : (backTo pos (starEach es X.env)).any (·.1) = false := by rfl) : DE X (.Call (.Name "abs" p) (e :: es) [] pos) := de_callB call_abs hg hm bo_abs ha nn_abs nd_abs he hpl
abbrev de_f_all (hc : X.calm = true) (hm : X.mg ("all" : Str) = none) (hg : Gl X "all") (ha : DA X (e :: es)) (he : starEach (e :: es) X.env = (false, eval e X.env) :: starEach es X.env := by rfl) (hpl : (backTo pos (starEach es X.env)).any (·.1) = false := by rfl) : DE X (.Call (.Name "all" p) (e :: es) [] pos) := de_callB (cr_all hc) hg hm bo_all ha nn_all nd_all he hpl
abbrev de_f_any (hc : X.calm = true) (hm : X.mg ("any" : Str) = none) (hg : Gl X "any") (ha : DA X (e :: es)) (he : starEach (e :: es) X.env = (false, eval e X.env) :: starEach es X.env := by rfl) (hpl : (backTo pos (starEach es X.env)).any (·.1) = false := by rfl) : DE X (.Call (.Name "any" p) (e :: es) [] pos) := de_callB (cr_any hc) hg hm bo_any ha nn_any nd_any he hpl
abbrev de_f_min (hc : X.calm = true) (hm : X.mg ("min" : Str) = none) (hg : Gl X "min") (ha : DA X (e :: es)) (he : starEach (e :: es) X.env = (false, eval e X.env) :: starEach es X.env := by rfl) (hpl : (backTo pos (starEach es X.env)).any (·.1) = false := by rfl) : DE X (.Call (.Name "min" p) (e :: es) [] pos) := de_callB (call_min2 hc) hg hm bo_min ha nn_min nd_min he hpl
abbrev de_f_max (hc : X.calm = true) (hm : X.mg ("max" : Str) = none) (hg : Gl X "max") (ha : DA X (e :: es)) (he : starEach (e :: es) X.env = (false, eval e X.env) :: starEach es X.env := by rfl) (hpl : (backTo pos (starEach es X.env)).any (·.1) = false := by rfl) : DE X (.Call (.Name "max" p) (e :: es) [] pos) := de_callB (call_max2 hc) hg hm bo_max ha nn_max nd_max he hpl
abbrev de_f_repr (hs : SysK X.K) (gq : Quiet X.A) (hu : X.A.units + 64 < cLine) (hm : X.mg ("repr" : Str) = none) (hg : Gl X "repr") (ha : DA X (e :: es)) (he : starEach (e :: es) X.env = (false, eval e X.env) :: starEach es X.env := by rfl) (hpl : (backTo pos (starEach es X.env)).any (·.1) = false := by rfl) : DE X (.Call (.Name "repr" p) (e :: es) [] pos) := de_callB (cr_repr hs gq hu) hg hm bo_repr ha nn_repr nd_repr he hpl
end
/-! ### with the sign in the type -/
section
variable {X : Cx} {a b c e : Expr} {p pos : Pos}
abbrev de_add (ha : DE X a) (hb : DE X b) : DE X (.BinOp a .Add b pos) := de_op op_add1 ha hb
abbrev de_sub (ha : DE X a) (hb : DE X b) : DE X (.BinOp a .Sub b pos) := de_op op_sub ha hb
abbrev de_mul (ha : DE X a) (hb : DE X b) : DE X (.BinOp a .Mult b pos) := de_op op_mul1 ha hb
abbrev de_mod (ha : DE X a) (hb : DE X b) : DE X (.BinOp a .Mod b pos) := de_op op_mod ha hb
abbrev de_fdiv (ha : DE X a) (hb : DE X b) : DE X (.BinOp a .FloorDiv b pos) := de_op op_fdiv1 ha hb
abbrev de_pow (ha : DE X a) (hb : DE X b) : DE X (.BinOp a .Pow b pos) := de_op op_powW ha hb
abbrev de_eq (hu : X.A.units + 64 < cLine) (ha : DE X a) (hb : DE X b) (hm : behindInMarks .Eq b = false := by rfl) : DE X (.Compare a [.Eq] [b] pos) := de_cmp (op_eq1 hu) ha hb hm
abbrev de_ne (hu : X.A.units + 64 < cLine) (ha : DE X a) (hb : DE X b) (hm : behindInMarks .NotEq b = false := by rfl) : DE X (.Compare a [.NotEq] [b] pos) := de_cmp (op_ne1 hu) ha hb hm
abbrev de_lt (ha : DE X a) (hb : DE X b) (hm : behindInMarks .Lt b = false := by rfl) : DE X (.Compare a [.Lt] [b] pos) := de_cmp op_lt ha hb hm
abbrev de_le (ha : DE X a) (hb : DE X b) (hm : behindInMarks .LtE b = false := by rfl) : DE X (.Compare a [.LtE] [b] pos) := de_cmp op_le ha hb hm
abbrev de_gt (ha : DE X a) (hb : DE X b) (hm : behindInMarks .Gt b = false := by rfl) : DE X (.Compare a [.Gt] [b] pos) := de_cmp op_gt ha hb hm
abbrev de_ge (ha : DE X a) (hb : DE X b) (hm : behindInMarks .GtE b = false := by rfl) : DE X (.Compare a [.GtE] [b] pos) := de_cmp op_ge ha hb hm
abbrev dt_eq (hu : X.A.units + 64 < cLine) (ha : DE X a) (hb : DE X b) (hm : behindInMarks .Eq b = false := by rfl) : DT X (.Compare a [.Eq] [b] pos) := dt_cmp (op_eq1 hu) ha hb hm
abbrev dt_ne (hu : X.A.units + 64 < cLine) (ha : DE X a) (hb : DE X b) (hm : behindInMarks .NotEq b = false := by rfl) : DT X (.Compare a [.NotEq] [b] pos) := dt_cmp (op_ne1 hu) ha hb hm
abbrev dt_lt (ha : DE X a) (hb : DE X b) (hm : behindInMarks .Lt b = false := by rfl) : DT X (.Compare a [.Lt] [b] pos) := dt_cmp op_lt ha hb hm
abbrev dt_le (ha : DE X a) (hb : DE X b) (hm : behindInMarks .LtE b = false := by rfl) : DT X (.Compare a [.LtE] [b] pos) := dt_cmp op_le ha hb hm
abbrev dt_gt (ha : DE X a) (hb : DE X b) (hm : behindInMarks .Gt b = false := by rfl) : DT X (.Compare a [.Gt] [b] pos) := dt_cmp op_gt ha hb hm
abbrev dt_ge (ha : DE X a) (hb : DE X b) (hm : behindInMarks .GtE b = false := by rfl) : DT X (.Compare a [.GtE] [b] pos) := dt_cmp op_ge ha hb hm
end
end Tp

/-! # The pot: its three numbers read and written -/
namespace Tp
open PySem PySem.Spec PyProof.Rows L2
section
variable {K : PySem.W.Frag} {P : Option Addr} {Z : Bas} {M0 G M H : Hp} {m k : Nat} {σ : L2.St} {ρ : List Sx} {j : Nat} {te : TE} {φ : D → Prop}
abbrev In0 (hi : Int) : D → Prop := fun d => ∃ a : Int, d = .int a ∧ 0 ≤ a ∧ a < hi
theorem in0_le {a b : Int} (h : a ≤ b) {d : D} (q : In0 a d) : In0 b d := by
  obtain ⟨i, h1, h2, h3⟩ := q
  exact ⟨i, h1, h2, by omega⟩
theorem ev_pot0 (e : ρ[j]? = some .pot) : Ev K P Z (tOp (rIx K) (tVar j) (tC (.int 0))) ρ 0 (In0 HUGE) := fun M0 σ G M H m Q a l q => by
  obtain ⟨p, ep, es⟩ := a.sl j _ e
  obtain ⟨x, y, z, h, h1, h2, h3, h4, h5, h6⟩ := a.pot p ep
  exact ⟨.ref p, es, .inl ⟨p, _, 0, .int x, rfl, rfl, sq_of' (a.sep.m p _ h), rfl, q _ (.int x) G M H (Step.refl a.sep) a ⟨x, rfl, h1, h2⟩ (.int x)⟩⟩
theorem ev_pot1 (e : ρ[j]? = some .pot) : Ev K P Z (tOp (rIx K) (tVar j) (tC (.int 1))) ρ 0 (In0 2305843009213693951) := fun M0 σ G M H m Q a l q => by
  obtain ⟨p, ep, es⟩ := a.sl j _ e
  obtain ⟨x, y, z, h, h1, h2, h3, h4, h5, h6⟩ := a.pot p ep
  exact ⟨.ref p, es, .inl ⟨p, _, 1, .int y, rfl, rfl, sq_of' (a.sep.m p _ h), rfl, q _ (.int y) G M H (Step.refl a.sep) a ⟨y, rfl, h3, h4⟩ (.int y)⟩⟩
theorem ev_pot2 (e : ρ[j]? = some .pot) : Ev K P Z (tOp (rIx K) (tVar j) (tC (.int 2))) ρ 0 (In0 1048577) := fun M0 σ G M H m Q a l q => by
  obtain ⟨p, ep, es⟩ := a.sl j _ e
  obtain ⟨x, y, z, h, h1, h2, h3, h4, h5, h6⟩ := a.pot p ep
  have l2 : m ≤ 1048576 := by omega
  exact ⟨.ref p, es, .inl ⟨p, _, 2, .int z, rfl, rfl, sq_of' (a.sep.m p _ h), rfl, q _ (.int z) G M H (Step.refl a.sep) a ⟨z, rfl, h5, by omega⟩ (.int z)⟩⟩
theorem At.putPot (a : At K P Z M0 m G M H σ ρ) {p : Addr} {u : HO} (ep : P = some p) (h : M p = some u) {n : Nat} {x y z : Int} (h1 : 0 ≤ x) (h2 : x < HUGE) (h3 : 0 ≤ y) (h4 : y < 2305843009213693951) (h5 : 0 ≤ z) (h6 : z ≤ n) :
    Step G M H G (upd M p (.lst [.int x, .int y, .int z])) (upd H p (.lst [.int x, .int y, .int z])) ∧ At K P Z M0 n G (upd M p (.lst [.int x, .int y, .int z])) (upd H p (.lst [.int x, .int y, .int z])) σ ρ := by
  have st := Step.put (o := .lst [.int x, .int y, .int z]) a.sep h
  refine ⟨st, a.go st (fun p' e' => ?_) fun b o hb hz => ?_⟩
  · rw [ep] at e'
    cases e'
    exact ⟨x, y, z, upd_same, h1, h2, h3, h4, h5, h6⟩
  · rw [upd_ne fun q => hb (by rw [ep, q])]
    exact hz
/-- pot[0] = e -/
theorem es_pot0 (e : ρ[j]? = some .pot) (h : Ev K P Z te ρ k (In0 HUGE)) : Es K P Z (tAsg te (gSub (tVar j) (tC (.int 0)) rSetL)) ρ k (· = ρ) NoR NoR NoD := fun M0 σ G M H m E a b q1 _ _ _ =>
  h M0 σ G M H m _ a b fun v d G1 M1 H1 s1 a1 p1 v1 => by
    obtain ⟨i, rfl, hi, hi2⟩ := p1
    cases v1
    obtain ⟨p, ep, es⟩ := a1.sl j _ e
    obtain ⟨x, y, z, hM, h1, h2, h3, h4, h5, h6⟩ := a1.pot p ep
    obtain ⟨st, a2⟩ := a1.putPot ep hM hi hi2 h3 h4 h5 h6
    exact ⟨.ref p, es, p, _, 0, 0, rfl, rfl, a1.sep.m p _ hM, rfl, q1 _ _ _ _ _ (s1.trans st) a2 rfl⟩
/-- pot[2] = pot[2] + 1 -/
theorem es_pot2 (e : ρ[j]? = some .pot) : Es K P Z (tAsg (tOp (rAdd1 K) (tOp (rIx K) (tVar j) (tC (.int 2))) (tC (.int 1))) (gSub (tVar j) (tC (.int 2)) rSetL)) ρ 1 (· = ρ) NoR NoR NoD := fun M0 σ G M H m E a b q1 _ _ _ => by
  obtain ⟨p, ep, es⟩ := a.sl j _ e
  obtain ⟨x, y, z, hM, h1, h2, h3, h4, h5, h6⟩ := a.pot p ep
  obtain ⟨st, a2⟩ := a.putPot (n := m + 1) (z := z + 1) ep hM h1 h2 h3 h4 (by omega) (by omega)
  exact ⟨.ref p, es, .inl ⟨p, _, 2, .int z, rfl, rfl, sq_of' (a.sep.m p _ hM), rfl, .inl ⟨z, 1, rfl, rfl, ⟨.ref p, es, p, _, 2, 2, rfl, rfl, a.sep.m p _ hM, rfl, q1 _ _ _ _ _ st a2 rfl⟩⟩⟩⟩
/-! ### arithmetic within bounds -/
variable {ta tb : TE} {ka kb : Nat} {A B : Int}
theorem ev_i {x : Int} : Ev K P Z (tC (.int x)) ρ 0 (· = .int x) := ev_int
theorem ev_addB (ha : Ev K P Z ta ρ ka (In0 A)) (hb : Ev K P Z tb ρ kb (In0 B)) : Ev K P Z (tOp (rAdd1 K) ta tb) ρ (ka + kb) (In0 (A + B)) := ev_op (φ := In0 A) (ψ := In0 B) ha hb fun a b p q => by
  obtain ⟨i, rfl, h1, h2⟩ := p
  obtain ⟨j, rfl, h3, h4⟩ := q
  exact fun x y G M H Q s ha hb f => od_add x y G M H Q s ha hb fun z d G2 H2 st e dv => f z d G2 H2 st ⟨i + j, e, by omega, by omega⟩ dv
theorem log_lt {i : Int} {n : Nat} (h0 : 0 ≤ i) (h : i < 2 ^ (n + 1)) : i.natAbs.log2 ≤ n := by
  by_cases z : i.natAbs = 0
  · rw [z]
    simp
  · have q : i.natAbs < 2 ^ (n + 1) := by
      have : ((i.natAbs : Nat) : Int) < ((2 ^ (n + 1) : Nat) : Int) := by rw [Int.natAbs_of_nonneg h0]; push_cast; exact h
      exact_mod_cast this
    exact Nat.le_of_lt_succ ((Nat.log2_lt z).mpr q)
theorem ev_mulB (ha : Ev K P Z ta ρ ka (In0 A)) (hb : Ev K P Z tb ρ kb (In0 B)) (hA : A ≤ 2 ^ 1200 := by decide) (hB : B ≤ 2 ^ 1200 := by decide) : Ev K P Z (tOp rMul1 ta tb) ρ (ka + kb) (In0 ((A - 1) * (B - 1) + 1)) := ev_op (φ := In0 A) (ψ := In0 B) ha hb fun a b p q => by
  obtain ⟨i, rfl, h1, h2⟩ := p
  obtain ⟨j, rfl, h3, h4⟩ := q
  have l1 : i.natAbs.log2 ≤ 1199 := log_lt h1 (Int.lt_of_lt_of_le h2 hA)
  have l2 : j.natAbs.log2 ≤ 1199 := log_lt h3 (Int.lt_of_lt_of_le h4 hB)
  have u : i * j ≤ (A - 1) * (B - 1) := Int.mul_le_mul (by omega) (by omega) h3 (by omega)
  exact fun x y G M H Q s ha hb f => od_mul (by unfold CMulW; omega) x y G M H Q s ha hb fun z d G2 H2 st e dv => f z d G2 H2 st ⟨i * j, e, Int.mul_nonneg h1 h3, by omega⟩ dv
theorem ev_modB {B : Int} (ha : Ev K P Z ta ρ ka (In0 A)) (hb : Ev K P Z tb ρ kb fun d => ∃ b : Int, d = .int b ∧ 0 < b ∧ b ≤ B) : Ev K P Z (tOp (rI (fun _ j => 0 < j) fun i j => .int (i % j)) ta tb) ρ (ka + kb) (In0 B) := ev_op (φ := In0 A) ha hb fun a b p q => by
  obtain ⟨i, rfl, h1, h2⟩ := p
  obtain ⟨j, rfl, h3, h4⟩ := q
  have m1 := Int.emod_nonneg i (b := j) (by omega)
  have m2 := Int.emod_lt_of_pos i h3
  exact fun x y G M H Q s ha hb f => od_mod h3 x y G M H Q s ha hb fun z d G2 H2 st e dv => f z d G2 H2 st ⟨i % j, e, m1, by omega⟩ dv
theorem ev_fdivB {B : Int} (ha : Ev K P Z ta ρ ka (In0 A)) (hb : Ev K P Z tb ρ kb fun d => ∃ b : Int, d = .int b ∧ 0 < b ∧ b ≤ B) (hB : B < 2 ^ 1200 := by decide) : Ev K P Z (tOp (rI CDivW fun i j => .int (i / j)) ta tb) ρ (ka + kb) (In0 A) := ev_op (φ := In0 A) ha hb fun a b p q => by
  obtain ⟨i, rfl, h1, h2⟩ := p
  obtain ⟨j, rfl, h3, h4⟩ := q
  have l2 : j.natAbs.log2 ≤ 1199 := log_lt (by omega) (Int.lt_of_le_of_lt h4 hB)
  have m1 : 0 ≤ i / j := Int.ediv_nonneg h1 (by omega)
  have m2 : i / j ≤ i := Int.ediv_le_self j h1
  exact fun x y G M H Q s ha hb f => od_fdiv (by unfold CDivW; omega) x y G M H Q s ha hb fun z d G2 H2 st e dv => f z d G2 H2 st ⟨i / j, e, m1, by omega⟩ dv
theorem ev_intB (h : EvA K P Z tr ρ k (fun ds => ∃ d, ds = [d] ∧ In0 A d)) : Ev K P Z (tCB rInt1 tr) ρ k (In0 A) := ev_call (χ := In0 A) h fun ds p => by
  obtain ⟨d, rfl, i, rfl, h1, h2⟩ := p
  exact fun vs G M H Q s hv f => cd_int vs G M H Q s hv fun z d G2 H2 st e dv => f z d G2 H2 st ⟨i, e, h1, h2⟩ dv
theorem ea_one (h : Ev K P Z te ρ k φ) : EvA K P Z (tCons te tNil) ρ k (fun ds => ∃ d, ds = [d] ∧ φ d) := (ea_cons h ea_nil).imp fun ds p => by
  obtain ⟨d, es, rfl, h1, rfl⟩ := p
  exact ⟨d, rfl, h1⟩
theorem in0_c {x : Int} (h0 : 0 ≤ x := by decide) : Ev K P Z (tC (.int x)) ρ 0 (In0 (x + 1)) := ev_int.imp fun d e => ⟨x, e, h0, by omega⟩
theorem pos_c {x : Int} (h0 : 0 < x := by decide) : Ev K P Z (tC (.int x)) ρ 0 (fun d => ∃ b : Int, d = .int b ∧ 0 < b ∧ b ≤ x) := ev_int.imp fun d e => ⟨x, e, h0, Int.le_refl _⟩
/-- a power of three -/
theorem ev_cubeB (ha : Ev K P Z ta ρ ka (In0 A)) (hA : A ≤ 2 ^ 1200 := by decide) : Ev K P Z (tOp (rI CPowW fun i j => .int (i ^ j.toNat)) ta (tC (.int 3))) ρ (ka + 0) (In0 ((A - 1) ^ 3 + 1)) := ev_op (φ := In0 A) (ψ := (· = .int 3)) ha ev_int fun a b p q => by
  obtain ⟨i, rfl, h1, h2⟩ := p
  subst q
  have l1 : i.natAbs.log2 ≤ 1199 := log_lt h1 (Int.lt_of_lt_of_le h2 hA)
  have cw : CPowW i 3 := by
    have b : Builtin.Int.intBits i ≤ i.natAbs.log2 + 1 := by
      unfold Builtin.Int.intBits
      split <;> omega
    exact ⟨by decide, by
      have : ((Builtin.Int.intBits i : Nat) : Int) ≤ 1200 := by exact_mod_cast (by omega : Builtin.Int.intBits i ≤ 1200)
      omega⟩
  have h4 : 0 ≤ i ^ 3 := Int.pow_nonneg h1
  have h5 : i ^ 3 ≤ (A - 1) ^ 3 := by
    have e : ∀ x : Int, x ^ 3 = x * x * x := fun x => by rw [Int.pow_succ, Int.pow_succ, Int.pow_succ, Int.pow_zero, Int.one_mul]
    rw [e, e]
    have i1 : i ≤ A - 1 := by omega
    have i2 : i * i ≤ (A - 1) * (A - 1) := Int.mul_le_mul i1 i1 h1 (by omega)
    exact Int.mul_le_mul i2 i1 h1 (Int.mul_nonneg (by omega) (by omega))
  exact fun x y G M H Q s ha hb f => opd_I (K := K) (g := fun i j => .int (i ^ j.toNat)) cw (fun _ => .int _) x y G M H Q s ha hb fun z d G2 H2 st e dv => f z d G2 H2 st ⟨i ^ 3, e, h4, by omega⟩ dv
/-- xs[i] of a list of data, i in bounds -/
theorem ev_ixL {χ : D → Prop} {n : Nat} (ha : Ev K P Z ta ρ ka fun d => ∃ ds, d = .lst ds ∧ ds.length = n ∧ ∀ d ∈ ds, χ d) (hb : Ev K P Z tb ρ kb (In0 n)) : Ev K P Z (tOp (rIx K) ta tb) ρ (ka + kb) χ := ev_op ha hb fun a b p q => by
  obtain ⟨ds, rfl, h1, h2⟩ := p
  obtain ⟨j, rfl, h3, h4⟩ := q
  have l : j.toNat < ds.length := by omega
  have e : L2.atI ds j = some ds[j.toNat] := by
    unfold L2.atI ixN
    rw [if_pos h3, if_pos (by omega)]
    exact List.getElem?_eq_getElem l
  exact fun x y G M H Q s ha hb f => od_ixL e x y G M H Q s ha hb fun z d G2 H2 st ed dv => f z d G2 H2 st (ed ▸ h2 _ (List.getElem_mem l)) dv
/-! ### bodies, one statement behind the other -/
section
variable {t u : TS} {N B C : List Sx → Prop} {R : D → Prop} {i k1 k2 : Nat} {tt : TT} {kc : Nat} {β : Bool → Prop}
theorem q_asg {φ : D → Prop} (h : Ev K P Z te ρ k1 φ) (h2 : ∀ d, φ d → Es K P Z u (ρ.set i (.d d)) k2 N B C R) (l : i < ρ.length := by exact Nat.le_of_ble_eq_true rfl) (lk : k1 + k2 ≤ k := by decide) : Es K P Z (tSeq (tAsg te (gName i)) u) ρ k N B C R :=
  Es.le (es_seq ((es_asg h l).imp (fun _ z => z) (fun _ z => z.elim) (fun _ z => z.elim) (fun _ z => z.elim)) fun ρ1 z => by
    obtain ⟨d, h1, rfl⟩ := z
    exact h2 d h1) lk
theorem q_keep (h : Es K P Z t ρ k1 (· = ρ) NoR NoR NoD) (h2 : Es K P Z u ρ k2 N B C R) (lk : k1 + k2 ≤ k := by decide) : Es K P Z (tSeq t u) ρ k N B C R :=
  Es.le (es_seq (h.imp (fun _ z => z) (fun _ z => z.elim) (fun _ z => z.elim) (fun _ z => z.elim)) fun ρ1 z => by
    subst z
    exact h2) lk
theorem q_ret {φ : D → Prop} (h : Ev K P Z te ρ k1 φ) (f : ∀ d, φ d → R d) (lk : k1 ≤ k := by decide) : Es K P Z (tRet te) ρ k N B C R :=
  Es.le ((es_ret h).imp (fun _ z => z.elim) (fun _ z => z.elim) (fun _ z => z.elim) f) lk
theorem q_next (h : N ρ) : Es K P Z tNext ρ k N B C R := Es.le (k1 := 0) (es_next.imp (fun _ z => z ▸ h) (fun _ z => z.elim) (fun _ z => z.elim) (fun _ z => z.elim)) (Nat.zero_le _)
/-- an if whose arms either leave or go on with the slots as they were -/
theorem q_if {v : TS} (hc : EvT K P Z tt ρ kc β) (h1 : β true → Es K P Z t ρ k1 (· = ρ) B C R) (h2 : β false → Es K P Z u ρ k1 (· = ρ) B C R) (h3 : Es K P Z v ρ k2 N B C R) (lk : kc + k1 + k2 ≤ k := by decide) : Es K P Z (tSeq (tIfS tt t u) v) ρ k N B C R :=
  Es.le (es_seq (es_if hc h1 h2) fun ρ1 z => by
    subst z
    exact h3) lk
theorem et_gt0 {A : Int} (h : Ev K P Z te ρ k (In0 A)) : EvT K P Z (tTest (tOp (rI0 fun i j => .bl (decide (j < i))) te (tC (.int 0)))) ρ (k + 0) (fun _ => True) := et_test (φ := fun d => ∃ b, d = .bl b) (ev_op (ψ := (· = .int 0)) h ev_int fun a b p q => by
  obtain ⟨i, rfl, h1, h2⟩ := p
  subst q
  exact fun x y G M H Q s ha hb f => od_gt x y G M H Q s ha hb fun z d G2 H2 st e dv => f z d G2 H2 st ⟨_, e⟩ dv) fun d z => by
    obtain ⟨b, rfl⟩ := z
    exact ⟨b, rfl, trivial⟩
end
end
/-! ### dicts as they are written; the very value -/
section
variable {K : PySem.W.Frag} {P : Option Addr} {Z : Bas} {M0 G M H : Hp} {m k k1 : Nat} {σ : L2.St} {ρ : List Sx} {i : Nat} {te ta tb : TE} {φ : D → Prop} {d : D} {t : TS} {N B C : List Sx → Prop} {R : D → Prop}
theorem At.ownBeside (a : At K P Z M0 m G M H σ ρ) {p : Addr} (n : H p = none) {o : HO} : Step G M H G (upd M p o) (upd H p o) ∧ At K P Z M0 m G (upd M p o) (upd H p o) σ ρ := by
  have st := Step.own (o := o) a.sep n
  refine ⟨st, a.go st (fun p' e => ?_) fun b o _ z => ?_⟩
  · rw [upd_ne fun q => a.offP n (by rw [← q]; exact e)]
    exact a.pot p' e
  · rw [upd_ne (some_ne z (a.sep.free n).2)]
    exact z
theorem ev_dic0 : Ev K P Z tDNewK ρ 0 (· = .dic []) := fun M0 σ G M H m Q a l q p n => by
  have st := Step.new (o := .dK []) a.sep n
  exact q (.ref p) (.dic []) _ _ _ st (a.pure st) rfl (.dic (.inl upd_same) .nil)
theorem ev_dic1 {z : Str} (h : Ev K P Z te ρ k φ) : Ev K P Z (tDisp [(tC (.str z), te)]) ρ k (fun d => ∃ x, d = .dic [(.inr z, x)] ∧ φ x) := fun M0 σ G M H m Q a l q p n => by
  have hp := a.offP n
  have ns := a.noSlot n
  have n0 := a.m0 n
  obtain ⟨st1, a1⟩ := a.ownBeside (o := .dK []) n
  refine h (upd M0 p (.dK [])) σ _ _ _ m _ (a1.frame hp ns upd_same) l fun v d G2 M2 H2 s2 a3 hd hv => ?_
  have e3 : M2 p = some (.dK []) := a3.fr p _ hp upd_same
  refine ⟨a3.sep.m _ _ e3, [(.inr z, v)], rfl, Nat.le_of_ble_eq_true rfl, ?_⟩
  have a4 := a3.unframe n0 a.bm
  have st4 := Step.put (o := .dK [(.inr z, v)]) a4.sep e3
  have a5 := a4.put (w := .dK [(.inr z, v)]) hp n0 ns e3
  have st6 := Step.share st4.s (show (upd M2 p (.dK [(.inr z, v)])) p = some (.dK [(.inr z, v)]) from upd_same)
  have a6 := a5.share hp n0 ns upd_same
  exact q (.ref p) (.dic [(.inr z, d)]) _ _ _ (((st1.trans s2).trans st4).trans st6) a6 ⟨d, rfl, hd⟩ (.dic (.inl upd_same) (.cons (hv.mono st6.gg) .nil))
theorem es_sam (i : Nat) (e : ρ[i]? = some (.d d)) (h : ∀ v, Es K P Z t (ρ.set i (.d (.sam v d))) k N B C R) : Es K P Z t ρ k N B C R := fun M0 σ G M H m E a l q1 q2 q3 q4 => by
  obtain ⟨v, e1, hv⟩ := a.slot e
  exact h v M0 σ G M H m E (a.know e1 (.sam hv)) l q1 q2 q3 q4
theorem od_eqSam {v : V} (p : d.plain = true) : OpD K (rEq1 K) (.sam v d) (.sam v d) (· = .bl true) := OpD.inr (OpD.inr fun x y G M H Q s ha hb q => by
  cases ha with
  | sam h1 =>
    cases hb with
    | sam h2 => exact ⟨rfl, ⟨_, (h1.mono s.g).dt p⟩, q _ _ G H (Step.refl s) rfl (.bl _)⟩)
end
end Tp

/-! # Errors of own classes over data -/
namespace Tp
open PySem PySem.Spec PyProof.Rows L2
structure CalE (P : Program) (w : World) (K : PySem.W.Frag) (mg : Str → Option Value) (base : Heap) (k : Nat) (x : Str) (C : Addr) : Prop where
  T : ErrC K C
  ex : ∃ (fI : Addr) (fd : FuncData) (ps : List Str), FnG P w K mg base CX0 k fI fd ps (spErr K) ∧ PySem.W.findIn K (.ref C) "__init__" = some (some (.ref fI)) ∧ PySem.W.typeIn K (.ref fI) = some (.type "function") ∧ Binds K fd ps []
  m : mg x = some (.ref C)
section
variable {X : Cx} {k : Nat} {x : Str} {p pos : Pos} {e : Expr} {es : List Expr} {t : TA} {C : Addr}
theorem pc_err (c : CalE X.prog X.w X.K X.mg X.base k x C) (hr : Room (k + 1) X.A) (gq : Quiet X.A) (hg : Gl X x) (ha : PA X (e :: es) t)
    (hdb : (x == ("__debug__" : Str)) = false := by decide)
    (he : starEach (e :: es) X.env = (false, eval e X.env) :: starEach es X.env := by rfl) (hpl : (backTo pos (starEach es X.env)).any (·.1) = false := by rfl) :
    PE X (.Call (.Name x p) (e :: es) [] pos) (tErrM C (spErr X.K) [] t) := by
  obtain ⟨fI, fd, ps, F, hi, ht, hb⟩ := c.ex
  exact pe_errM c.T.ox hi ht F hr gq hb .nil pass0 hg c.m ha hdb he hpl
abbrev de_err (c : CalE X.prog X.w X.K X.mg X.base k x C) (hr : Room (k + 1) X.A) (gq : Quiet X.A) (hg : Gl X x) (ha : DA X (e :: es))
    (hdb : (x == ("__debug__" : Str)) = false := by decide)
    (he : starEach (e :: es) X.env = (false, eval e X.env) :: starEach es X.env := by rfl) (hpl : (backTo pos (starEach es X.env)).any (·.1) = false := by rfl) :
    DE X (.Call (.Name x p) (e :: es) [] pos) := ⟨tErrM C (spErr X.K) [] ha.1, pc_err c hr gq hg ha.2 hdb he hpl⟩
abbrev de_gX (c : CalE X.prog X.w X.K X.mg X.base k x C) (hg : Gl X x) (hn : x ≠ "__name__" := by decide) (hdb : (x == ("__debug__" : Str)) = false := by decide) : DE X (.Name x pos) := ⟨tC (.ref C), pe_glob hg c.m rfl hdb⟩
abbrev de_VE (hg : Gl X "ValueError") (hm : X.mg ("ValueError" : Str) = none) : DE X (.Name "ValueError" pos) := ⟨tC (.ty "ValueError"), pe_bltn hg hm bo_VE rfl (by decide) (by decide)⟩
abbrev de_f_isi (hm : X.mg ("isinstance" : Str) = none) (hg : Gl X "isinstance") (ha : DA X (e :: es)) (he : starEach (e :: es) X.env = (false, eval e X.env) :: starEach es X.env := by rfl) (hpl : (backTo pos (starEach es X.env)).any (·.1) = false := by rfl) : DE X (.Call (.Name "isinstance" p) (e :: es) [] pos) := de_callB cr_isX hg hm bo_isi ha nn_isi nd_isi he hpl
end
section
variable {K : PySem.W.Frag} {P : Option Addr} {Z : Bas} {G M H H' : Hp} {k : Nat} {ρ : List Sx} {C e d : Addr} {ta : TA} {te : TE} {φ : D → Prop}
theorem Step.err {v : V} (s : Sep G M H) (n : H e = none) (nd : H d = none) (ne : d ≠ e) (sm : Same H H') (h : ErrAt0 H' e C d [("value", v)]) : Step G M H (upd (upd G d (exd d [("value", v)])) e (exo e C (some d))) M H' where
  s := ⟨fun a o z => by
      by_cases q : a = e
      · subst q
        rw [upd_same] at z
        rw [← z]
        exact h.1
      · rw [upd_ne q] at z
        by_cases q2 : a = d
        · subst q2
          rw [upd_same] at z
          rw [← z]
          exact h.2
        · rw [upd_ne q2] at z
          exact sm _ _ (s.g _ _ z), fun a o z => sm _ _ (s.m _ _ z), fun a o z => by
      rw [upd_ne (some_ne z (s.free n).2), upd_ne (some_ne z (s.free nd).2)]
      exact s.d a o z⟩
  gg := fun a o z => by
    rw [upd_ne (some_ne z (s.free n).1), upd_ne (some_ne z (s.free nd).1)]
    exact z
  keep := fun a o _ z => sm _ _ z
  out := fun a o _ g z => by
    rw [upd_ne (some_ne z n), upd_ne (some_ne z nd)]
    exact g
  old := fun a o z _ => z
theorem ev_errM (T : ErrC K C) (h : EvA K P Z ta ρ k (fun ds => ∃ d, ds = [d] ∧ φ d)) : Ev K P Z (tErrM C (spErr K) [] ta) ρ k (fun d => ∃ x, d = .err C x ∧ φ x) := fun M0 σ G M H m Q a l q =>
  h M0 σ G M H m _ a l fun vs ds G1 M1 H1 s1 a1 p1 v1 => by
    obtain ⟨x, rfl, hx⟩ := p1
    cases v1 with
    | @cons v _ _ _ h1 h2 =>
      cases h2
      refine ⟨Nat.le_of_ble_eq_true rfl, fun e n => ⟨e, C, v, rfl, T.ox, T.nv, upd_same, fun d H' nd sm at_ => ⟨rfl, ?_⟩⟩⟩
      have ne : d ≠ e := fun z => by
        rw [z, upd_same] at nd
        cases nd
      rw [upd_ne ne] at nd
      have st := Step.err (C := C) (v := v) a1.sep n nd ne (fun b o z => sm b o (by
        show (if b = e then none else upd H1 e (exo e C none) b) = some o
        rw [if_neg (some_ne z n), upd_ne (some_ne z n)]
        exact z)) at_
      refine q (.ref e) (.err C x) _ _ _ (s1.trans st) (a1.pure st) ⟨x, rfl, hx⟩ (.err (.inl ⟨upd_same, ?_⟩) (h1.mono st.gg))
      rw [upd_ne ne]
      exact upd_same
theorem ev_isX {c : V} {cv : Value} {β : Bool} (T : ErrC K C) (hc : ∀ u, RelV c u → u = cv) (hk : PySem.W.kitOne K (.ref C) cv = some β) (h : Ev K P Z te ρ k (fun d => ∃ x, d = .err C x)) : Ev K P Z (tCB (rIsX K) (tCons te (tCons (tC c) tNil))) ρ k (· = .bl β) := fun M0 σ G M H m Q a l q =>
  h M0 σ G M H m _ a l fun v d G1 M1 H1 s1 a1 p1 v1 => by
    obtain ⟨x, rfl⟩ := p1
    exact cd_isX (G0 := G1) T hc hk v G1 M1 H1 Q a1.sep v1 (q _ _ G1 M1 H1 s1 a1 rfl (.bl _))
end
/-! ### bodies -/
section
variable {K : PySem.W.Frag} {P : Option Addr} {Z : Bas} {k k1 : Nat} {ρ : List Sx} {C : Addr} {tr : TA} {te : TE} {t u : TS} {i j : Nat} {ds es : List D} {x : D} {N B Cc : List Sx → Prop} {R : D → Prop}
theorem ev_errC (T : ErrC K C) (e : ρ[j]? = some (.d x)) : Ev K P Z (tErrM C (spErr K) [] (tCons (tVar j) tNil)) ρ 0 (· = .err C x) := (ev_errM T (ea_one (ev_var e))).imp fun d p => by
  obtain ⟨x, rfl, rfl⟩ := p
  rfl
theorem ev_isC {c : V} {cv : Value} {β : Bool} (T : ErrC K C) (hc : ∀ u, RelV c u → u = cv) (hk : PySem.W.kitOne K (.ref C) cv = some β) (e : ρ[j]? = some (.d (.err C x))) : Ev K P Z (tCB (rIsX K) (tCons (tVar j) (tCons (tC c) tNil))) ρ 0 (· = .bl β) := ev_isX T hc hk ((ev_var e).imp fun d z => ⟨x, z⟩)
theorem ev_lstC' (h : EvA K P Z tr ρ 0 (· = ds)) (l : ds.length ≤ 1000000) : Ev K P Z (tLst tr) ρ 0 (· = .lst ds) := (ev_lst h fun _ e => e ▸ l).imp fun d p => by
  obtain ⟨ds, rfl, rfl⟩ := p
  rfl
theorem q_newL (h : EvA K P Z tr ρ 0 (· = ds)) (h2 : Es K P Z u (ρ.set i (.own (.lst ds))) k N B Cc R) (l : ds.length ≤ 1000000) (li : i < ρ.length) : Es K P Z (tSeq (tAsg (tLst tr) (gName i)) u) ρ k N B Cc R :=
  Es.le (es_seq ((es_newL h li fun _ e => e ▸ l).imp (fun _ z => z) (fun _ z => z.elim) (fun _ z => z.elim) (fun _ z => z.elim)) fun ρ1 z => by
    obtain ⟨d, z1, rfl⟩ := z
    rw [z1]
    exact h2) (by omega)
theorem q_ext (e : ρ[i]? = some (.own (.lst ds))) (h : EvA K P Z tr ρ 0 (· = es)) (h2 : Es K P Z u (ρ.set i (.own (.lst (ds ++ es)))) k N B Cc R) (l : es.length ≤ 1000000) (few : ds.length + es.length ≤ 1000000) : Es K P Z (tSeq (tDrop (tBM K "list" rExtend (tVar i) (tCons (tLst tr) tNil))) u) ρ k N B Cc R :=
  Es.le (es_seq ((es_ext e (ev_lstC' h l) fun d z => ⟨es, z, few⟩).imp (fun _ z => z) (fun _ z => z.elim) (fun _ z => z.elim) (fun _ z => z.elim)) fun ρ1 z => by
    obtain ⟨d, z1, rfl⟩ := z
    cases z1
    exact h2) (by omega)
theorem q_share (e : ρ[i]? = some (.own (.lst ds))) (h : R (.lst ds)) (li : i < ρ.length) : Es K P Z (tRet (tVar i)) ρ k N B Cc R := es_share e (q_ret (k1 := 0) (ev_var (x := .lst ds) (by rw [getset li, if_pos rfl])) (fun d z => z ▸ h) (Nat.zero_le _))
end
/-! ### comprehensions as data -/
section
variable {X : Cx} {elt tg iter : Expr} {scope : Scope} {pos spos py : Pos} {y : Str} {i : Nat}
abbrev de_lc (own : List (Str × Nat)) (s0 : Shared) (H0 : Hp) (hc : X.calm = true) (hN : X.N.Nodup) (hi : DI X tg iter) (ok : blkC X.N X.env.scope scope own = true)
    (hg : ∀ (s : Shared) (H : Hp) (C : Addr) (cl : List (Str × Addr)) (fp : List Addr), DG (X.blk s H scope (compEnvC scope cl C X.env) fp) tg)
    (he : ∀ (s : Shared) (H : Hp) (C : Addr) (cl : List (Str × Addr)) (fp : List Addr), DE (X.blk s H scope (compEnvC scope cl C X.env) fp) elt)
    (eg : ∀ (s : Shared) (H : Hp) (C : Addr) (cl : List (Str × Addr)) (fp : List Addr), (hg s H C cl fp).1 = (hg s0 H0 0 [] []).1)
    (ee : ∀ (s : Shared) (H : Hp) (C : Addr) (cl : List (Str × Addr)) (fp : List Addr), (he s H C cl fp).1 = (he s0 H0 0 [] []).1)
    (hs : ∀ x, foldedSetIterable iter X.env x = pure x := by intro _; rfl) : DE X (.ListComp elt [⟨tg, iter, [], 0⟩] scope pos) :=
  ⟨tLc hi.1 (hg s0 H0 0 [] []).1 tYes (he s0 H0 0 [] []).1 (own.map (·.2)), pe_lc hc hN hi.2 (blkOk_by ok) (fun s H C cl fp => eg s H C cl fp ▸ (hg s H C cl fp).2) (fun _ _ _ _ _ => pts_nil) (fun s H C cl fp => ee s H C cl fp ▸ (he s H C cl fp).2) hs⟩
abbrev ds_setLc (i : Nat) (own : List (Str × Nat)) (s0 : Shared) (H0 : Hp) (hc : X.calm = true) (hN : X.N.Nodup) (hi : DI X tg iter) (ok : blkC X.N X.env.scope scope own = true)
    (hg : ∀ (s : Shared) (H : Hp) (C : Addr) (cl : List (Str × Addr)) (fp : List Addr), DG (X.blk s H scope (compEnvC scope cl C X.env) fp) tg)
    (he : ∀ (s : Shared) (H : Hp) (C : Addr) (cl : List (Str × Addr)) (fp : List Addr), DE (X.blk s H scope (compEnvC scope cl C X.env) fp) elt)
    (eg : ∀ (s : Shared) (H : Hp) (C : Addr) (cl : List (Str × Addr)) (fp : List Addr), (hg s H C cl fp).1 = (hg s0 H0 0 [] []).1)
    (ee : ∀ (s : Shared) (H : Hp) (C : Addr) (cl : List (Str × Addr)) (fp : List Addr), (he s H C cl fp).1 = (he s0 H0 0 [] []).1)
    (hy : X.N[i]? = some y := by rfl) (hyl : X.env.scope.names.lookup y = some .local := by rfl) (hk : X.env.scope.kind = .function := by rfl) (hl : (py.line == pos.line) = true := by rfl)
    (ha : (scope.names.any fun (n, k) => n == y && (k == .local || k == .cell)) = false := by rfl)
    (hs : ∀ x, foldedSetIterable iter X.env x = pure x := by intro _; rfl) : DS X (.Assign [.Name y py] (.ListComp elt [⟨tg, iter, [], 0⟩] scope pos) spos) :=
  ⟨tAsg (tLc hi.1 (hg s0 H0 0 [] []).1 tYes (he s0 H0 0 [] []).1 (own.map (·.2))) (gName i), ps_setLc hc hN hy hyl (sw_true hk hyl hl ha) hi.2 (blkOk_by ok) (fun s H C cl fp => eg s H C cl fp ▸ (hg s H C cl fp).2) (fun _ _ _ _ _ => pts_nil) (fun s H C cl fp => ee s H C cl fp ▸ (he s H C cl fp).2) hs⟩
end
/-! ### what comprehensions make -/
section
variable {K : PySem.W.Frag} {P : Option Addr} {Z : Bas} {k k1 kc ki kb n : Nat} {ρ ρ' : List Sx} {t : TS} {tt : TT} {N B C : List Sx → Prop} {R : D → Prop} {te : TE} {tr : TA} {ti : TI} {g : TG} {vs js : List Nat} {ds es : List D} {F : Nat → D}
theorem each_eq {ds es : List D} (h : Each (fun i _ e => e = F i) ds es) : es = (List.range ds.length).map F := by
  apply List.ext_getElem?
  intro i
  by_cases l : i < ds.length
  · have l2 : i < es.length := by rw [h.1]; exact l
    rw [List.getElem?_eq_getElem l2, h.2 i ds[i] es[i] (List.getElem?_eq_getElem l) (List.getElem?_eq_getElem l2)]
    simp [l]
  · have l2 : ¬ i < es.length := by rw [h.1]; exact l
    rw [List.getElem?_eq_none (by omega), List.getElem?_eq_none (by simp; omega)]
/-- over known items, each item's answer told by its number -/
theorem ev_lcF (ds : List D) (F : Nat → D) (un : UnAt ρ vs) (hi : EvI K P Z ti ρ ki (· = ds)) (hj : ∀ j ∈ js, j ∈ vs) (f : Nat → D → List D) (n6 : ds.length ≤ 1000000) (hg : ∀ i d, ds[i]? = some d → EvG K g js d (f i d))
    (he : ∀ i d, ds[i]? = some d → Ev K P Z te (setR ρ js (f i d)) 0 (· = F i)) : Ev K P Z (tLc ti g tYes te vs) ρ ki (· = .lst ((List.range ds.length).map F)) := by
  have h := ev_lcAll (n := ds.length) (Φ := (· = ds)) un hi hj (fun _ i _ e => e = F i) (fun _ i d => f i d) (fun _ e => by rw [e]; exact Nat.le_refl _) n6 (fun ds' i d e h => hg i d (by rw [← e]; exact h)) (ke := 0) (fun ds' i d e h => he i d (by rw [← e]; exact h))
  exact Ev.le (h.imp fun d z => by
    obtain ⟨ds', es, rfl, e1, h2⟩ := z
    subst e1
    rw [each_eq h2]) (by omega)
/-- the slots forgotten at the end of a turn -/
theorem q_weak (h : N ρ') (l : ρ'.length = ρ.length) (f : ∀ i : Nat, ρ'[i]? = ρ[i]? ∨ ρ'[i]? = some .un) : Es K P Z tNext ρ k N B C R := es_weak (q_next h) l f
end
section
variable {K : PySem.W.Frag}
theorem cd_allT {n : Nat} : CallD K (rAll K) [.lst ((List.range n).map fun _ => .bl true)] (· = .bl true) := by
  have h := cd_all (K := K) (bs := (List.range n).map fun _ => true)
  rw [List.map_map] at h
  have e : ((List.range n).map fun _ => true).all id = true := by simp
  rw [e] at h
  exact h
end
section
variable {K : PySem.W.Frag} {P : Option Addr} {Z : Bas} {ρ : List Sx} {ti : TI} {k : Nat}
theorem ei_imp {Φ Ψ : List D → Prop} (h : EvI K P Z ti ρ k Φ) (f : ∀ ds, Φ ds → Ψ ds) : EvI K P Z ti ρ k Ψ := fun M0 σ G M H m R a l q => h M0 σ G M H m R a l fun J ds G2 M2 H2 s a2 p W => q J ds G2 M2 H2 s a2 (f ds p) W
end
end Tp

/-! # The head: own error classes, the Hook -/
namespace Tp
open PySem PySem.Spec PyProof.Rows L2
def oexP (C : Addr) (c : ClassData) : List (Option Value) → Bool
  | [_, _, _, _, some (.builtin n), _] => decide (n = "ValueError.__new__") && (!c.hasDel && (c.hasDict && (match c.mro with
    | .ref E :: tl => decide (E = C) && PySem.HandSPX.refsVE tl
    | _ => false)))
  | _ => false
def oexB (K : PySem.W.Frag) (C : Addr) : Bool := match K.lookup C with
  | some ⟨.type t, _, .cls c, s⟩ => decide (t = "type") && oexP C c s.toList
  | _ => false
theorem oexP_ok {C : Addr} {c : ClassData} {l : List (Option Value)} (h : oexP C c l = true) : ∃ a b d e f tl, l = [a, b, d, e, some (.builtin "ValueError.__new__"), f] ∧ c.hasDel = false ∧ c.hasDict = true ∧ c.mro = .ref C :: tl ∧ PySem.HandSPX.refsVE tl = true := by
  unfold oexP at h
  split at h
  · rename_i a b d e n f
    simp only [Bool.and_eq_true, decide_eq_true_eq, Bool.not_eq_true'] at h
    obtain ⟨rfl, h2, h3, h4⟩ := h
    split at h4
    · rename_i E tl hm
      simp only [Bool.and_eq_true, decide_eq_true_eq] at h4
      obtain ⟨rfl, h5⟩ := h4
      exact ⟨a, b, d, e, f, tl, rfl, h2, h3, hm, h5⟩
    · cases h4
  · cases h
theorem oexB_ok {K : PySem.W.Frag} {C : Addr} (h : oexB K C = true) : ∃ nm q N bs bm sn sub ab col dd k0 k1 k2 k3 k5, K.lookup C = some (excClassObj nm q C N bs bm true sn sub ab col dd k0 k1 k2 k3 k5 "ValueError.__new__") ∧ PySem.HandSPX.refsVE bm = true := by
  unfold oexB at h
  split at h
  · rename_i t dd c s ho
    simp only [Bool.and_eq_true, decide_eq_true_eq] at h
    obtain ⟨rfl, h⟩ := h
    obtain ⟨a, b, d, e, f, tl, hl, h2, h3, hm, h5⟩ := oexP_ok h
    obtain ⟨nm, bs, mro, ns, qn, hd, sn, sub, ab, col, del⟩ := c
    dsimp only at hm h2 h3
    subst hm h2 h3
    obtain ⟨l⟩ := s
    have hl' : l = [a, b, d, e, some (.builtin "ValueError.__new__"), f] := hl
    subst hl'
    exact ⟨nm, qn, ns, bs, tl, sn, sub, ab, col, dd, a, b, d, e, f, ho, h5⟩
  · cases h
def errB (K : PySem.W.Frag) (C : Addr) : Bool :=
  oexB K C && (He.eqO (PySem.W.findIn K (.ref C) "__setattr__") (some (some (.builtin "object.__setattr__"))) && (decide (PySem.W.subIn K (.ref C) (.type "BaseException") = some true) && (decide (PySem.W.typeIn K (.ref C) = some (.type "type")) && (PySem.W.keepIn K (.ref C) &&
  (He.eqO (PySem.W.findIn K (.ref C) "__getattribute__") (some (some (.builtin "BaseException.__getattribute__"))) && (He.eqO (PySem.W.findIn K (.ref C) "__getattr__") (some none) && (PySem.W.hasDictIn K C && (He.eqO (PySem.W.findIn K (.ref C) "__class__") (some (some (.builtin "object.__class__"))) &&
  (He.eqO (PySem.W.specialIn K (.builtin "object.__class__") "__get__") (some (some (.builtin "getset_descriptor.__get__"))) && (decide (PySem.W.takesIn K (.builtin "object.__class__") = some true) && (decide (PySem.W.mroIn K C (.type "object") = some true) && He.eqO (PySem.W.findIn K (.ref C) "value") (some none))))))))))))
theorem errB_ok {K : PySem.W.Frag} {C : Addr} (h : errB K C = true) : ErrC K C := by
  unfold errB at h
  simp only [Bool.and_eq_true] at h
  obtain ⟨h1, h2, h3, h4, h5, h6, h7, h8, h9, h10, h11, h12, h13⟩ := h
  exact ⟨⟨oexB_ok h1, He.eqO_ok h2, of_decide_eq_true h3, of_decide_eq_true h4, h5⟩, He.eqO_ok h6, He.eqO_ok h7, h8, He.eqO_ok h9, He.eqO_ok h10, of_decide_eq_true h11, of_decide_eq_true h12, He.eqO_ok h13⟩
/-! ### the Hook -/
abbrev AlK : Type := He.AlD × Bool
def frK (g : Addr → Option Obj) (n : Nat) : PySem.W.Frag := He.frG g (He.asD g n ++ [sysModules])
def obsK (n : Nat) (fa : List He.Fa) (fn : List He.DefD) (ex : PySem.W.Frag → Bool) (g : Addr → Option Obj) : AlK := (He.obsD fa fn (frK g n), ex (frK g n))
def hookK (n : Nat) (fa : List He.Fa) (fn : List He.DefD) (ex : PySem.W.Frag → Bool) : PySem.W.Hook where
  α := AlK
  obs := fun s => obsK n fa fn ex s.heap.get?
  val := fun _ => (He.valD fn, true)
  says := fun _ h => ∃ K : PySem.W.Frag, K.In h ∧ He.SaysD fa fn K ∧ ex K = true
  of := fun _ _ e => ⟨_, He.frG_in, congrArg (fun z : AlK => z.1) e, congrArg (fun z : AlK => z.2) e⟩
  keeps := fun _ _ _ ⟨K, hK, c⟩ k => ⟨K, PySem.W.Frag.In.keeps hK k, c⟩
theorem obsK_eq {n : Nat} {fa : List He.Fa} {fn : List He.DefD} {ex : PySem.W.Frag → Bool} {g : Addr → Option Obj} {s : Shared} (h : ∀ a, g a = s.heap.get? a) : obsK n fa fn ex g = (hookK n fa fn ex).obs s := by
  have e : g = s.heap.get? := funext h
  rw [e] <;> rfl
/-- a global def's datum -/
def dG (x : Str) (st : Stmt) : He.DefD := ⟨(x, none), x, x, defArgs st, defBody st, defScope st, [], []⟩
end Tp

/-! # Objects of own classes: made, their methods called, where no repr runs -/
namespace Tp
open PySem PySem.Spec PyProof.Rows L2
section
variable {X : Cx} {CX : CXT} {k : Nat} {f C : Addr} {fd : FuncData} {ps : List Str} {sp : Sp} {dvs : List V} {ds : List Value} {E : XK} {x m : Str} {p pos apos : Pos} {e o : Expr} {es : List Expr} {ta : TE} {t : TA} {pl : Sem Bool}
theorem pg_meth (he : PE X o ta) (c : Cls X.K C) (hm : Meth X.K C m f) (F : FnG X.prog X.w X.K X.mg X.base CX k f fd ps sp) (hr : Room k X.A) (gq : Quiet X.A)
    (hb : Binds X.K fd ps ds) (hd : Vals dvs ds) (hx : Passes CX X E) (ha : PA X (e :: es) t)
    (hst : starEach (e :: es) X.env = (false, eval e X.env) :: starEach es X.env := by rfl) (hpl : (backTo pos (starEach es X.env)).any (·.1) = false := by rfl)
    (ht : eval (.Call (.Attribute o m apos) (e :: es) [] pos) X.env = (do let ov ← eval o X.env; standAt apos.atName; let (f, first) ← holding [ov] (getMethod ov m pl); callWith pos f first (backTo pos (starEach (e :: es) X.env)) (backToKw pos (keywordEach [] X.env))) := by rfl) :
    PE X (.Call (.Attribute o m apos) (e :: es) [] pos) (tMeth C m sp dvs E ta t) :=
  ⟨fun pins s σ H Q I h => PySem.W.methodCall_KW (pl := pl) (thn (he.run pins s σ H _ I h) fun u s1 hu => by
    obtain ⟨x, H1, I1, rx, a, dx, fs, ex, ea, l, q⟩ := hu
    subst ex
    cases (show u = Value.ref a from rx)
    exact getmeth_ok I1 ea c hm l (PySem.W.callWith_K (first := [.ref a]) (h₀ := X.base) I.ok.mod.kin hm.kp (thn (ha.run pos pins s1 σ H1 _ I1 q) fun us s2 hv => by
      obtain ⟨vs, H2, I2, r, q2⟩ := hv
      exact ⟨I2.kIn, runG (us := .ref a :: us) (vs := .ref a :: vs) F hr gq hb hd hx I2 (.cons rfl r) q2⟩) hst hpl)) ht⟩
theorem pg_meth0 (he : PE X o ta) (c : Cls X.K C) (hm : Meth X.K C m f) (F : FnG X.prog X.w X.K X.mg X.base CX k f fd ps sp) (hr : Room k X.A) (gq : Quiet X.A)
    (hb : Binds X.K fd ps ds) (hd : Vals dvs ds) (hx : Passes CX X E)
    (ht : eval (.Call (.Attribute o m apos) [] [] pos) X.env = (do let ov ← eval o X.env; standAt apos.atName; let (f, first) ← holding [ov] (getMethod ov m pl); callWith pos f first (backTo pos (starEach [] X.env)) (backToKw pos (keywordEach [] X.env))) := by rfl) :
    PE X (.Call (.Attribute o m apos) [] [] pos) (tMeth C m sp dvs E ta tNil) :=
  ⟨fun pins s σ H Q I h => PySem.W.methodCall_KW (pl := pl) (thn (he.run pins s σ H _ I h) fun u s1 hu => by
    obtain ⟨x, H1, I1, rx, a, dx, fs, ex, ea, l, q⟩ := hu
    subst ex
    cases (show u = Value.ref a from rx)
    exact getmeth_ok I1 ea c hm l (PySem.W.callWith_K0 (first := [.ref a]) I1.kIn hm.kp (runG (us := [.ref a]) (vs := [.ref a]) F hr gq hb hd hx I1 (.cons rfl .nil) q))) ht⟩
theorem makeG {pins : List (Addr × Obj)} {σ : L2.St} {H : Hp} {s : Shared} {Q : VK} {us : List Value} {vs : List V} (M : Mk X.K C f) (F : FnG X.prog X.w X.K X.mg X.base CX k f fd ps sp) (hr : Room (k + 1) X.A) (gq : Quiet X.A)
    (hb : Binds X.K fd ps ds) (hd : Vals dvs ds) (hx : Passes CX X E) (I : Inv X pins σ H s) (r : Vals vs us)
    (h : ∀ x dx, H x = none → H dx = none → dx ≠ x → sp (.ref x :: (vs ++ dvs)) (upd (upd H dx (.own x)) x (.ins C dx [])) (fun v H2 => v = .non ∧ Q (.ref x) H2) E) :
    wpAny (model X.prog X.w) X.A (call (.ref C) us) (EP X pins σ Q) X.xe s := by
  let a : Addr := s.heap.objs.size + 1
  let b : Addr := s.heap.objs.size
  have promise := h a b (I.hok.fresh (Nat.le_succ _)) (I.hok.fresh (Nat.le_refl _)) (Nat.ne_of_lt (Nat.lt_succ_self _))
  have J := Inv.made (C := C) I
  have both : Vals (V.ref a :: (vs ++ dvs)) (Value.ref a :: (us ++ ds)) := .cons rfl (r.append hd)
  have len : (Value.ref a :: us ++ ds).length = ps.length := both.length.symm.trans (F.len _ _ _ _ promise)
  have body := F.run _ X.stack _ _ ⟨Value.ref a :: us, []⟩ (Value.ref a :: (us ++ ds)) _ _ E (hr.make C us []) (quiet_make gq) (J.env0.make C us []) (hb _ (Value.ref a :: us) J.kIn len) both promise
  refine wpAny_call (make_map (f := f) I.kIn M.makes M.init (beq_iff_eq.mp M.fn) (codeAny_mono body fun res s' out => ?_))
  rcases res with er | fl
  · exact hx pins σ _ _ er s' J out
  · cases fl
    case ret u =>
      obtain ⟨v, H', J2, rv, ev, q⟩ := J.after out
      subst ev
      exact ⟨rv, ⟨V.ref a, H', J2, rfl, q⟩⟩
    all_goals exact False.elim out
theorem pg_make (M : Mk X.K C f) (F : FnG X.prog X.w X.K X.mg X.base CX k f fd ps sp) (hr : Room (k + 1) X.A) (gq : Quiet X.A) (hg : Gl X x) (hm : X.mg x = some (.ref C))
    (hb : Binds X.K fd ps ds) (hd : Vals dvs ds) (hx : Passes CX X E) (ha : PA X (e :: es) t) (hdb : (x == ("__debug__" : Str)) = false := by decide)
    (he : starEach (e :: es) X.env = (false, eval e X.env) :: starEach es X.env := by rfl) (hpl : (backTo pos (starEach es X.env)).any (·.1) = false := by rfl) :
    PE X (.Call (.Name x p) (e :: es) [] pos) (tMake C sp dvs E t) :=
  ⟨fun pins s σ H Q I h => wpAny_Call_Name_kw (ld_glob I hg hm (PySem.W.callWith_K (h₀ := X.base) I.ok.mod.kin M.kp (thn (ha.run pos pins s σ H _ I h) fun us s1 hv => by
    obtain ⟨vs, H1, I1, r, q⟩ := hv
    exact ⟨I1.kIn, makeG M F hr gq hb hd hx I1 r q⟩) he hpl) hdb)⟩
end
end Tp

/-! # Objects of own classes over data: fields set, made, methods called -/
namespace Tp
open PySem PySem.Spec PyProof.Rows L2
def setF (f : Str) (v : D) : List (Str × D) → List (Str × D)
  | [] => [(f, v)]
  | (g, x) :: r => if g = f then (g, v) :: r else (g, x) :: setF f v r
section
variable {K : PySem.W.Frag} {G : Hp}
theorem DVf.set {f : Str} {v : V} {d : D} (hv : DV K G v d) : ∀ {vs : List (Str × V)} {ds : List (Str × D)}, DVf K G vs ds → DVf K G (putF f v vs) (setF f d ds)
  | _, _, .nil => .cons hv .nil
  | _, _, .cons (k := k) h t => by
    unfold putF setF
    by_cases q : k = f
    · rw [if_pos q, if_pos q]
      exact .cons hv t
    · rw [if_neg q, if_neg q]
      exact .cons h (DVf.set hv t)
theorem DVf.length : ∀ {vs : List (Str × V)} {ds : List (Str × D)}, DVf K G vs ds → vs.length = ds.length
  | _, _, .nil => rfl
  | _, _, .cons _ t => congrArg (· + 1) t.length
end
section
variable {K : PySem.W.Frag} {P : Option Addr} {Z : Bas} {ρ : List Sx} {te tv : TE} {ta : TA} {k k1 k2 : Nat} {φ : D → Prop} {i j : Nat} {x C : Addr} {fs : List (Str × D)} {f : Str} {t u : TS} {N B Cc : List Sx → Prop} {R : D → Prop}
/-- self.f = value -/
theorem es_fld (c : Cls K C) (nf : NoAttr K C f) (e : ρ[j]? = some (.own (.ins x C fs))) (h : Ev K P Z tv ρ k φ) (few : fs.length < 1000) :
    Es K P Z (sFld K (tVar j) tv f) ρ k (fun r => ∃ d, φ d ∧ r = ρ.set j (.own (.ins x C (setF f d fs)))) NoR NoR NoD := fun M0 σ G M H m E a b q1 _ _ _ =>
  h M0 σ G M H m _ a b fun v d G1 M1 H1 s1 a1 p1 v1 => by
    obtain ⟨l, u, e1, e2, e3, e4, ⟨dx, vs, rfl, rfl, hv⟩, ns⟩ := a1.own e
    refine ⟨.ref l, e1, l, C, dx, vs, rfl, a1.sep.m _ _ e4, c, nf, by rw [hv.length]; exact few, ?_⟩
    exact q1 _ _ _ _ _ (s1.trans (Step.put a1.sep e4)) (a1.ownPut (b2 := .ins _ C (setF f d fs)) e e1 e2 e3 e4 ns ⟨dx, _, rfl, rfl, hv.set v1⟩) ⟨d, p1, rfl⟩
theorem q_fld (c : Cls K C) (nf : NoAttr K C f) (e : ρ[j]? = some (.own (.ins x C fs))) (h : Ev K P Z tv ρ k1 φ) (h2 : ∀ d, φ d → Es K P Z u (ρ.set j (.own (.ins x C (setF f d fs)))) k2 N B Cc R) (few : fs.length < 1000) (lk : k1 + k2 ≤ k) :
    Es K P Z (tSeq (sFld K (tVar j) tv f) u) ρ k N B Cc R :=
  Es.le (es_seq ((es_fld c nf e h few).imp (fun _ z => z) (fun _ z => z.elim) (fun _ z => z.elim) (fun _ z => z.elim)) fun ρ1 z => by
    obtain ⟨d, h1, rfl⟩ := z
    exact h2 d h1) lk
/-- a field of the object while it is made -/
theorem ev_own (c : Cls K C) (nf : NoAttr K C f) (e : ρ[j]? = some (.own (.ins x C fs))) {d : D} (l : fs.lookup f = some d) : Ev K P Z (tFld K (tVar j) f) ρ 0 (· = d) := fun M0 σ G M H m Q a b q => by
  obtain ⟨p, u, e1, e2, e3, e4, ⟨dx, vs, rfl, rfl, hv⟩, ns⟩ := a.own e
  obtain ⟨w, lw, hw⟩ := hv.look l
  exact ⟨.ref p, e1, p, C, dx, vs, w, rfl, a.sep.m _ _ e4, c, nf, lw, q w d G M H (Step.refl a.sep) a rfl hw⟩
/-- what __init__ promises: fields for arguments -/
def spIni (K : PySem.W.Frag) (C : Addr) (pre : List D → Prop) (post : List D → List (Str × D) → Prop) : Sp := fun vs H Q _ => ∃ (x dx : Addr) (us : List V) (G M : Hp) (ds : List D), vs = .ref x :: us ∧ Sep G M H ∧ M x = some (.ins C dx []) ∧ DVs K G us ds ∧ pre ds ∧
  ∀ fs ws dy G2 M2 H2, Step G M H G2 M2 H2 → (∀ b, b ≠ x → M2 b = M b) → M2 x = some (.ins C dy ws) → DVf K G2 ws fs → post ds fs → Q .non H2
/-- C(e, ..): a new object -/
theorem ev_make {Φ : List D → Prop} {pre : List D → Prop} {post : List D → List (Str × D) → Prop} {E : XK} (h : EvA K P Z ta ρ k Φ) (g : ∀ ds, Φ ds → pre ds) :
    Ev K P Z (tMake C (spIni K C pre post) [] E ta) ρ k (fun d => ∃ ds fs, d = .ins C fs ∧ Φ ds ∧ post ds fs) := fun M0 σ G M H m Q a l q =>
  h M0 σ G M H m _ a l fun vs ds G1 M1 H1 s1 a1 p1 v1 => fun x dx n nd ne => by
    have st1 := Step.own (o := .own x) a1.sep nd
    have nx : (upd H1 dx (.own x)) x = none := by
      rw [upd_ne (Ne.symm ne)]
      exact n
    have st2 := Step.own (o := .ins C dx []) st1.s nx
    have hp := a1.offP n
    have n0 := a1.m0 n
    have ns := a1.noSlot n
    -- dx is let go, x stays owned
    have st3 : Step G1 M1 H1 G1 (upd M1 x (.ins C dx [])) (upd (upd H1 dx (.own x)) x (.ins C dx [])) := Step.drop (st1.trans st2) fun b o z => by
      by_cases q : b = x
      · subst q
        rw [upd_same] at z ⊢
        exact z
      · rw [upd_ne q] at z ⊢
        rw [upd_ne (some_ne z (a1.sep.free nd).2)]
        exact z
    refine ⟨x, dx, vs, G1, upd M1 x (.ins C dx []), ds, by rw [List.append_nil], st3.s, upd_same, v1, g ds p1, fun fs ws dy G2 M2 H2 st off hM hv hp2 => ⟨rfl, ?_⟩⟩
    have st5 := Step.share st.s hM
    -- everything but x as before
    have st6 : Step G1 M1 H1 (upd G2 x (.ins C dy ws)) M1 H2 := Step.drop ((st3.trans st).trans st5) fun b o z => by
      have q : b ≠ x := some_ne z (a1.sep.free n).2
      rw [dele_ne q, off b q, upd_ne q]
      exact z
    exact q (.ref x) (.ins C fs) _ _ _ (s1.trans st6) (a1.pure st6) ⟨ds, fs, rfl, p1, hp2⟩ (.ins upd_same (hv.mono st5.gg))
theorem DVf.none {G : Hp} {m : Str} : ∀ {vs : List (Str × V)} {ds : List (Str × D)}, DVf K G vs ds → ds.lookup m = none → vs.lookup m = none
  | _, _, .nil, _ => rfl
  | _, _, .cons (k := k) h t, e => by
    rw [lookup_putD] at e
    rw [lookup_put]
    by_cases q : m = k
    · rw [if_pos q] at e
      cases e
    · rw [if_neg q] at e ⊢
      exact DVf.none t e
/-- o.m(e, ..) of an object of the class C -/
theorem ev_meth {to : TE} {m : Str} {Φ : List D → Prop} {pre : List D → Prop} {post : List D → D → Prop} {E : XK} {ka kb kf : Nat} (h : Ev K P Z to ρ ka φ) (h2 : EvA K P Z ta ρ kb Φ) (hφ : ∀ d, φ d → ∃ fs, d = .ins C fs ∧ fs.lookup m = none)
    (g : ∀ d ds, φ d → Φ ds → pre (d :: ds)) : Ev K P Z (tMeth C m (spD K kf pre post) [] E to ta) ρ (ka + kb) (fun r => ∃ d ds, φ d ∧ Φ ds ∧ post (d :: ds) r) := fun M0 σ G M H n Q a l q => by
  refine h M0 σ G M H n _ a (add3 l).1 fun x d G1 M1 H1 s1 a1 p1 v1 => ?_
  obtain ⟨fs, rfl, lm⟩ := hφ d p1
  have v0 := v1
  cases v1 with
  | @ins o _ dx vs _ h1 hf =>
    refine ⟨o, dx, vs, rfl, s1.s.g _ _ h1, hf.none lm, ?_⟩
    refine h2 M0 σ G1 M1 H1 (n + ka) _ a1 (add3 l).2 fun us ds G2 M2 H2 s2 a2 p2 v2 => ?_
    refine ⟨G2, M2, .ins C fs :: ds, a2.sep, by rw [List.append_nil]; exact .cons (v0.mono s2.gg) v2, g _ ds p1 p2, fun v d G3 H3 s3 p3 v3 => ?_⟩
    exact q v d G3 M2 H3 ((s1.trans s2).trans s3) ((a2.pure s3).more (by omega)) ⟨_, ds, p1, p2, p3⟩ v3
end
/-! ### from the body of __init__ to its promise -/
section
variable {K : PySem.W.Frag} {C : Addr} {pre : List D → Prop} {post : List D → List (Str × D) → Prop}
theorem body_I {t : TS} {n : Str} {N : List Str} (l : ∀ ds, pre ds → ds.length ≤ N.length)
    (h : ∀ x ds, pre ds → Es K none Z0 t (.own (.ins x C []) :: (ds.map Sx.d ++ List.replicate (N.length - ds.length) .un)) 0 (fun r => ∃ fs, r[0]? = some (.own (.ins x C fs)) ∧ post ds fs) NoR NoR NoD) {vs : List V} {H : Hp} {Q : VK} {E : XK} (z : spIni K C pre post vs H Q E) :
    t { nx := fun _ H' => Q .non H', rt := Q } (L2.start (n :: N) vs) H := by
  obtain ⟨x, dx, us, G, M, ds, rfl, s, hM, hv, hp, q⟩ := z
  have a := at_start (K := K) (Z := Z0) (N := N) (m := 0) s PotM.no hv (l ds hp) trivial trivial
  have e1 : L2.start (n :: N) (.ref x :: us) = some (.ref x) :: L2.start N us := by
    unfold L2.start
    rw [List.map_cons, List.length_cons, List.length_cons, Nat.add_sub_add_right]
    rfl
  have none0 : ∀ (i : Nat) (b : Ob), (ds.map Sx.d ++ List.replicate (N.length - ds.length) .un)[i]? ≠ some (.own b) := fun i b e => by
    obtain ⟨l, u, _, h1, _, h2, _⟩ := a.sl i _ e
    rw [h1] at h2
    cases h2
  have a0 : At K none Z0 (dele M x) 0 G M H (L2.start (n :: N) (.ref x :: us)) (.own (.ins x C []) :: (ds.map Sx.d ++ List.replicate (N.length - ds.length) .un)) := by
    rw [e1]
    refine { sep := s, pot := PotM.no, bm := trivial, bs := trivial, fr := fun b o _ z => ?_, len := by rw [List.length_cons, List.length_cons, a.len], sl := fun i y e => ?_, nd := fun i j b b' k1 k2 ne => ?_ }
    · by_cases q : b = x
      · rw [q, dele_same] at z
        cases z
      · rw [dele_ne q] at z
        exact z
    · cases i with
      | zero =>
        cases e
        exact ⟨x, _, rfl, dele_same, fun z => (nomatch z), hM, dx, [], rfl, rfl, .nil⟩
      | succ i =>
        have r := a.sl i y e
        cases y with
        | own b => exact absurd e (none0 i b)
        | _ => exact r
    · cases i with
      | zero =>
        cases j with
        | zero => exact absurd rfl ne
        | succ j => exact absurd k2 (none0 j b')
      | succ i => exact absurd k1 (none0 i b)
  refine h x ds hp (dele M x) _ G M H 0 _ a0 (by decide) (fun σ' ρ' G2 M2 H2 st a z => ?_) (fun _ _ _ _ _ _ _ z => z.elim) (fun _ _ _ _ _ _ _ z => z.elim) (fun _ _ _ _ _ _ _ _ _ z => z.elim)
  obtain ⟨fs, e0, hpost⟩ := z
  obtain ⟨l, u, _, _, _, e4, ⟨dy, ws, rfl, rfl, hw⟩⟩ := a.sl 0 _ e0
  let M3 : Hp := fun b => if b = l then M2 b else M b
  have e3 : M3 l = M2 l := if_pos rfl
  have n3 : ∀ b, b ≠ l → M3 b = M b := fun b h => if_neg h
  have sm : Same M3 M2 := fun b o hb => by
    by_cases q : b = l
    · rw [q] at hb ⊢
      rw [← e3]
      exact hb
    · rw [n3 b q] at hb
      exact a.fr b o (fun z => (nomatch z)) (by rw [dele_ne q]; exact hb)
  exact q fs ws dy G2 M3 H2 (st.drop sm) n3 (by rw [e3]; exact e4) hw hpost
end
end Tp

/-! # Errors that leave a def -/
namespace Tp
open PySem PySem.Spec PyProof.Rows L2
section
variable {P : Program} {w : World} {K : PySem.W.Frag} {mg : Str → Option Value} {base : Heap}
theorem takesG {N : List Str} {qual : Str} {scope : Scope} {f : Addr} {cdv : Value} {A : Around} {outer : List Env} {s : Shared} {H : Hp} {E : XK} :
    Takes (cxOf (L2.CX P w) P w K mg base N qual scope f cdv A outer s H E) (fun cls d _ H' => E cls d H') := takes_of rfl rfl rfl rfl
end
section
variable {X : Cx} {CX : CXT} {k : Nat} {f C : Addr} {fd : FuncData} {ps : List Str} {sp : Sp} {dvs : List V} {ds : List Value} {E : L2.St → XK} {x m : Str} {p pos apos : Pos} {e o : Expr} {es : List Expr} {ta : TE} {t : TA}
theorem runGS {pins : List (Addr × Obj)} {σ : L2.St} {H : Hp} {s : Shared} {Q : VK} {us : List Value} {vs : List V}
    (F : FnG X.prog X.w X.K X.mg X.base CX k f fd ps sp) (hr : Room k X.A) (gq : Quiet X.A) (hb : Binds X.K fd ps []) (hx : PassesAt CX X σ (E σ))
    (I : Inv X pins σ H s) (r : Vals vs us) (h : sp vs H Q (E σ)) : wpAny (model X.prog X.w) X.A (call (.ref f) us) (EP X pins σ Q) X.xe s := by
  have len : us.length = ps.length := r.length.symm.trans (F.len _ _ _ _ h)
  have bd := hb s us I.kIn (by rw [List.append_nil]; exact len)
  rw [List.append_nil] at bd
  refine wpAny_call (codeAny_mono (F.run X.A X.stack s H ⟨us, []⟩ us vs Q (E σ) hr gq I.env0 bd r h) fun res s' out => ?_)
  rcases res with er | fl
  · exact hx pins H s er s' I out
  · cases fl
    case ret u => exact I.after out
    all_goals exact False.elim out
theorem pg_callS (F : FnG X.prog X.w X.K X.mg X.base CX k f fd ps sp) (hr : Room k X.A) (gq : Quiet X.A) (hg : Gl X x) (hm : X.mg x = some (.ref f))
    (hk : PySem.W.keepIn X.K (.ref f) = true) (hb : Binds X.K fd ps []) (hx : ∀ σ, PassesAt CX X σ (E σ))
    (ha : PA X (e :: es) t) (hdb : (x == ("__debug__" : Str)) = false := by decide)
    (he : starEach (e :: es) X.env = (false, eval e X.env) :: starEach es X.env := by rfl) (hpl : (backTo pos (starEach es X.env)).any (·.1) = false := by rfl) :
    PE X (.Call (.Name x p) (e :: es) [] pos) (tCallS sp E t) :=
  ⟨fun pins s σ H Q I h => wpAny_Call_Name_kw (ld_glob I hg hm (PySem.W.callWith_K (h₀ := X.base) I.ok.mod.kin hk
    (thn (ha.run pos pins s σ H _ I h) fun us s1 hv => by
      obtain ⟨vs, H1, I1, r, q⟩ := hv
      exact ⟨I1.kIn, runGS F hr gq hb (hx σ) I1 r q⟩) he hpl) hdb)⟩
/-- C(a, ..) to be raised -/
theorem pmg_err {fI : Addr} (T : OexC X.K C) (iC : PySem.W.findIn X.K (.ref C) "__init__" = some (some (.ref fI))) (tI : PySem.W.typeIn X.K (.ref fI) = some (.type "function"))
    (F : FnG X.prog X.w X.K X.mg X.base CX k fI fd ps sp) (hr : Room (k + 1) X.A) (gq : Quiet X.A) (hb : Binds X.K fd ps ds) (hd : Vals dvs ds) (hx : Passes CX X (fun _ _ _ => False))
    (hg : Gl X x) (hm : X.mg x = some (.ref C)) (ha : PA X (e :: es) t) (hdb : (x == ("__debug__" : Str)) = false := by decide)
    (he : starEach (e :: es) X.env = (false, eval e X.env) :: starEach es X.env := by rfl) (hpl : (backTo pos (starEach es X.env)).any (·.1) = false := by rfl) :
    PMk X (.Call (.Name x p) (e :: es) [] pos) (tMkO C sp dvs t) := by
  intro pins s σ H Q I h
  obtain ⟨nm, q, N, bs, bm, sn, sub, ab, col, dd, k0, k1, k2, k3, k5, hC, hbm⟩ := T.cls
  refine wpAny_Call_Name_kw (ld_glob I hg hm ?_ hdb)
  refine PySem.W.callWith_K (h₀ := X.base) I.ok.mod.kin T.kC (thn (ha.run pos pins s σ H _ I h) fun us s1 hv => ?_) he hpl
  obtain ⟨vs, H1, I1, r1, few, q1⟩ := hv
  refine ⟨I1.kIn, ?_⟩
  show wpAny _ _ (call (.ref C) us) _ _ _
  obtain ⟨hp, g, dr, tk, os⟩ := s1
  let a : Addr := hp.objs.size + 1
  have big : hp.objs.size ≤ a := Nat.le_succ _
  have promise := q1 a (I1.hok.fresh big)
  let h2 : Heap := (hp.push (PySem.W.kdv_tup us)).push (PySem.HandSPX.excO C hp.objs.size)
  have old : ∀ b o, hp.get? b = some o → h2.get? b = some o := fun b o z => Heap.get?_push_of_some _ (Heap.get?_push_of_some _ z)
  have at_ : h2.get? a = some (PySem.HandSPX.excO C hp.objs.size) := by
    show ((hp.push (PySem.W.kdv_tup us)).push (PySem.HandSPX.excO C hp.objs.size)).get? (hp.objs.size + 1) = _
    heap_get
  have I2 : Inv X pins σ (upd H1 a (exo a C none)) ⟨h2, g, dr, tk, os⟩ := I1.laid (t' := tk) (a := a) (o := exo a C none) (h' := h2) old big (exo_ok at_)
  have r2 : Vals (V.ref a :: (vs ++ dvs)) (Value.ref a :: (us ++ ds)) := .cons rfl (r1.append hd)
  have hl : (Value.ref a :: us ++ ds).length = ps.length := r2.length.symm.trans (F.len _ _ _ _ promise)
  have short : us.length ≤ sizeLine := by
    rw [← Paired.length r1, sizeLine_eq]
    omega
  have body := F.run _ X.stack _ _ ⟨Value.ref a :: us, []⟩ (Value.ref a :: (us ++ ds)) _ _ (fun _ _ _ => False) (hr.make C us []) (quiet_make gq) (I2.env0.make C us []) (hb _ (Value.ref a :: us) I2.kIn hl) r2 promise
  refine wpAny_call (PySem.HandSPX.call_own PySem.F.excBase_ValueError (fun Y => PySem.HandSPX.refsVE_contains Y bm hbm) (I1.kIn _ _ hC) (PySem.W.looks_findIn I1.kIn iC) (fun self => PySem.W.bind_fn I1.kIn self tI) short
    (codeAny_mono body fun res s' out => ?_))
  rcases res with er | fl
  · exact hx pins σ _ _ er s' I2 out
  · cases fl
    case ret u =>
      obtain ⟨v, H2, os2, bare2, un2, hok2, rv, ev, d, fs, ea, ed, hd1, q2⟩ := out
      subst ev
      obtain ⟨h3, g3, d3, t3, os3⟩ := s'
      exact ⟨rv, mk_end (raises_own T.exC T.tyC) I1 big old un2 hok2 os2 bare2 ea ed hd1 q2⟩
    all_goals exact False.elim out
end
end Tp

/-! # Errors that leave, over data -/
namespace Tp
open PySem PySem.Spec PyProof.Rows L2
/-- the base of a def's body: its entry -/
def ZF (G M H : Hp) : Bas := ⟨fun M0 => Same M M0, fun G2 M2 H2 => Step G M H G2 M2 H2, fun s z => z.trans s, fun {M0 a u} z h b o e => by
  by_cases q : b = a
  · rw [q] at e ⊢
    rw [upd_same, h o (z _ _ e)]
  · rw [upd_ne q]
    exact z _ _ e⟩
/-- what is known where an error leaves -/
def Out (K : PySem.W.Frag) (P : Option Addr) (Z : Bas) (W : WX) (Xp : Addr → D → Prop) : Prop := ∀ (M0 : Hp) (σ : L2.St) (ρ : List Sx) (G M H : Hp) (m : Nat) (C d : Addr) (v : V) (x : D),
  At K P Z M0 m G M H σ ρ → m ≤ BIG → G d = some (.xd [("value", v)]) → DV K G v x → Xp C x → W (.ref C) (some d) σ H
section
variable {K : PySem.W.Frag} {P : Option Addr} {Z : Bas} {G M H H' : Hp} {k k1 : Nat} {ρ : List Sx} {C e d : Addr} {ta : TA} {te : TE} {φ : D → Prop} {W : WX} {Xp : Addr → D → Prop} {N B Cc : List Sx → Prop} {R : D → Prop}
theorem Step.gone {v : V} (s : Sep G M H) (n : H e = none) (nd : H d = none) (ne : d ≠ e) (sm : Same H H') : Step G M H (upd G d (.xd [("value", v)])) M (upd (del H' e) d (.xd [("value", v)])) := by
  have keep : ∀ a o, H a = some o → (upd (del H' e) d (.xd [("value", v)])) a = some o := fun a o z => by
    rw [upd_ne (some_ne z nd), del_ne (some_ne z n)]
    exact sm _ _ z
  exact {
    s := ⟨fun a o z => by
        by_cases q : a = d
        · subst q
          rw [upd_same] at z ⊢
          exact z
        · rw [upd_ne q] at z
          exact keep _ _ (s.g _ _ z), fun a o z => keep _ _ (s.m _ _ z), fun a o z => by
        rw [upd_ne (some_ne z (s.free nd).2)]
        exact s.d a o z⟩
    gg := fun a o z => by
      rw [upd_ne (some_ne z (s.free nd).1)]
      exact z
    keep := fun a o _ z => keep _ _ z
    out := fun a o _ g z => by
      rw [upd_ne (some_ne z nd)]
      exact g
    old := fun a o z _ => z }
/-- raise C(e) -/
theorem es_raise (T : ErrC K C) (o : Out K P Z W Xp) (h : EvA K P Z ta ρ k (fun ds => ∃ d, ds = [d] ∧ φ d)) (f : ∀ d, φ d → Xp C d) :
    Es K P Z (fun _ σ H => tMkO C (spErr K) [] ta σ H fun cls d H' => W cls d σ H') ρ k N B Cc R := fun M0 σ G M H m E a l _ _ _ _ =>
  h M0 σ G M H m _ a l fun vs ds G1 M1 H1 s1 a1 p1 v1 => by
    obtain ⟨x, rfl, hx⟩ := p1
    cases v1 with
    | @cons v _ _ _ h1 h2 =>
      cases h2
      refine ⟨Nat.le_of_ble_eq_true rfl, fun e n => ⟨e, C, v, rfl, T.ox, T.nv, upd_same, fun d H' nd sm at_ => ⟨rfl, d, _, at_.1, at_.2, ?_, ?_⟩⟩⟩
      · have ne : d ≠ e := fun z => by
          rw [z, upd_same] at nd
          cases nd
        rw [upd_ne ne] at nd
        exact nd
      · have ne : d ≠ e := fun z => by
          rw [z, upd_same] at nd
          cases nd
        rw [upd_ne ne] at nd
        have st := Step.gone (v := v) a1.sep n nd ne (H' := H') fun b o z => sm b o (by
          show (if b = e then none else upd H1 e (exo e C none) b) = some o
          rw [if_neg (some_ne z n), upd_ne (some_ne z n)]
          exact z)
        exact o M0 σ ρ _ _ _ _ C d v x (a1.pure st) l upd_same (h1.mono st.gg) (f x hx)
/-- what a def promises that may raise -/
def spX (K : PySem.W.Frag) (pre : List D → Prop) (post : List D → D → Prop) (xp : List D → Addr → D → Prop) : Sp := fun vs H Q E => ∃ (G M : Hp) (ds : List D), Sep G M H ∧ DVs K G vs ds ∧ pre ds ∧
  (∀ v d G2 H2, Step G M H G2 M H2 → post ds d → DV K G2 v d → Q v H2) ∧
  ∀ C dx v x G2 H2, Step G M H G2 M H2 → G2 dx = some (.xd [("value", v)]) → DV K G2 v x → xp ds C x → E (.ref C) (some dx) H2
variable {pre : List D → Prop} {post : List D → D → Prop} {xp : List D → Addr → D → Prop} {Φ : List D → Prop}
theorem ev_funX (o : Out K P Z W Xp) (h : EvA K P Z ta ρ k Φ) (f : ∀ ds, Φ ds → pre ds) (g : ∀ ds C x, Φ ds → xp ds C x → Xp C x) :
    Ev K P Z (tCallS (spX K pre post xp) (WE W) ta) ρ k (fun d => ∃ ds, Φ ds ∧ post ds d) := fun M0 σ G M H m Q a l q =>
  h M0 σ G M H m _ a l fun vs ds G1 M1 H1 s1 a1 p1 v1 => ⟨G1, M1, ds, a1.sep, v1, f ds p1, fun v d G2 H2 st hd hv => q v d G2 M1 H2 (s1.trans st) (a1.pure st) ⟨ds, p1, hd⟩ hv,
    fun C dx v x G2 H2 st hd hv hx => o M0 σ ρ G2 M1 H2 _ C dx v x (a1.pure st) l hd hv (g ds C x p1 hx)⟩
/-- a body over data that may raise keeps the promise -/
theorem body_X {t : TS} {N : List Str} (l : ∀ ds, pre ds → ds.length ≤ N.length) {vs : List V} {H : Hp} {Q : VK} {E : XK}
    (h : ∀ (Z : Bas) (ds : List D), pre ds → Out K none Z (fun cls d _ H' => E cls d H') (xp ds) → Es K none Z t (ds.map Sx.d ++ List.replicate (N.length - ds.length) .un) 0 (fun _ => post ds .non) NoR NoR (post ds)) (z : spX K pre post xp vs H Q E) :
    t { nx := fun _ H' => Q .non H', rt := Q } (L2.start N vs) H := by
  obtain ⟨G, M, ds, s, hv, hp, q, qx⟩ := z
  have fin : ∀ {M0 : Hp} {σ' : L2.St} {ρ' : List Sx} {m : Nat} {G2 M2 H2 : Hp}, At K none (ZF G M H) M0 m G2 M2 H2 σ' ρ' → Step G M H G2 M H2 := fun a =>
    Step.drop (show Step G M H _ _ _ from a.bs) fun b o e => a.fr b o (fun z => (nomatch z)) ((show Same M _ from a.bm) b o e)
  refine h (ZF G M H) ds hp (fun M0 σ ρ G2 M2 H2 m C d v x a _ hd hx hp => qx C d v x G2 H2 (fin a) hd hx hp) M _ G M H 0 _ (at_start s PotM.no hv (l ds hp) (Same.refl _) (Step.refl s)) (by decide)
    (fun σ' ρ' G2 M2 H2 st a z => ?_) (fun _ _ _ _ _ _ _ z => z.elim) (fun _ _ _ _ _ _ _ z => z.elim) (fun v d σ' ρ' G2 M2 H2 st a z hv => ?_)
  · exact q .non .non G2 H2 (fin a) z .non
  · exact q v d G2 H2 (fin a) z hv
end
end Tp

/-! # Defs that may raise: their bodies, calls of them, raise -/
namespace Tp
open PySem PySem.Spec PyProof.Rows L2
section
variable {P : Program} {w : World} {K : PySem.W.Frag} {mg : Str → Option Value} {base : Heap}
theorem okGX {x qual : Str} {st : Stmt} {f : Addr} {fd : FuncData} {N ps : List Str} {k : Nat} {sp : Sp} (F : Fun K x qual st f fd) (S : FnScope N ps (defScope st))
    (len : ∀ vs H Q E, sp vs H Q E → vs.length = ps.length)
    (body : ∀ (cdv : Value) (A : Around) (outer : List Env) (s : Shared) (H : Hp) (vs : List V) (Q : VK) (E : XK),
      Room k (A.deeper (envOfC qual (defScope st) s.heap.objs.size f cdv)) → Quiet A → sp vs H Q E →
      Takes (cxOf (L2.CX P w) P w K mg base N qual (defScope st) f cdv A outer s H E) (fun cls d _ H' => E cls d H') →
      ∃ t, PSs (cxOf (L2.CX P w) P w K mg base N qual (defScope st) f cdv A outer s H E) (defBody st) t ∧ t { nx := fun _ H' => Q .non H', rt := Q } (L2.start N vs) H) :
    FnG P w K mg base (L2.CX P w) (k + 1) f fd ps sp := okG F S len fun cdv A outer s H vs Q E hr gq hsp => body cdv A outer s H vs Q E hr gq hsp takesG
/-- the module's name x stands for a def that keeps sp, and may raise -/
structure CalX (P : Program) (w : World) (K : PySem.W.Frag) (mg : Str → Option Value) (base : Heap) (k : Nat) (x : Str) (sp : Sp) : Prop where
  ex : ∃ (f : Addr) (fd : FuncData) (ps : List Str), FnG P w K mg base (L2.CX P w) k f fd ps sp ∧ mg x = some (.ref f) ∧ PySem.W.keepIn K (.ref f) = true ∧ Binds K fd ps []
end
section
variable {X : Cx} {k : Nat} {x : Str} {sp : Sp} {p pos : Pos} {e : Expr} {es : List Expr} {t : TA} {W : WX} {C : Addr}
theorem pc_callX (c : CalX X.prog X.w X.K X.mg X.base k x sp) (tk : Takes X W) (hr : Room k X.A) (gq : Quiet X.A) (hg : Gl X x) (ha : PA X (e :: es) t)
    (hdb : (x == ("__debug__" : Str)) = false := by decide)
    (he : starEach (e :: es) X.env = (false, eval e X.env) :: starEach es X.env := by rfl) (hpl : (backTo pos (starEach es X.env)).any (·.1) = false := by rfl) :
    PE X (.Call (.Name x p) (e :: es) [] pos) (tCallS sp (WE W) t) := by
  obtain ⟨f, fd, ps, F, hm, hk, hb⟩ := c.ex
  exact pg_callS F hr gq hg hm hk hb (passAt tk) ha hdb he hpl
theorem pc_raise (c : CalE X.prog X.w X.K X.mg X.base k x C) (tk : Takes X W) (hc : X.calm = true) (hr : Room (k + 1) X.A) (gq : Quiet X.A) (hg : Gl X x) (ha : PA X (e :: es) t) {rp : Pos}
    (hdb : (x == ("__debug__" : Str)) = false := by decide)
    (he : starEach (e :: es) X.env = (false, eval e X.env) :: starEach es X.env := by rfl) (hpl : (backTo pos (starEach es X.env)).any (·.1) = false := by rfl) :
    PS X (.Raise (some (.Call (.Name x p) (e :: es) [] pos)) none rp) (fun _ σ H => tMkO C (spErr X.K) [] t σ H fun cls d H' => W cls d σ H') := by
  obtain ⟨fI, fd, ps, F, hi, ht, hb⟩ := c.ex
  exact ps_raise hc tk (pmg_err c.T.ox hi ht F hr gq hb .nil pass0 hg c.m ha hdb he hpl)
abbrev de_funX (W : WX) (c : CalX X.prog X.w X.K X.mg X.base k x sp) (tk : Takes X W) (hr : Room k X.A) (gq : Quiet X.A) (hg : Gl X x) (ha : DA X (e :: es)) (hdb : (x == ("__debug__" : Str)) = false := by decide)
    (he : starEach (e :: es) X.env = (false, eval e X.env) :: starEach es X.env := by rfl) (hpl : (backTo pos (starEach es X.env)).any (·.1) = false := by rfl) : DE X (.Call (.Name x p) (e :: es) [] pos) :=
  ⟨tCallS sp (WE W) ha.1, pc_callX c tk hr gq hg ha.2 hdb he hpl⟩
abbrev ds_raise (W : WX) (c : CalE X.prog X.w X.K X.mg X.base k x C) (tk : Takes X W) (hc : X.calm = true) (hr : Room (k + 1) X.A) (gq : Quiet X.A) (hg : Gl X x) (ha : DA X (e :: es)) {rp : Pos} (hdb : (x == ("__debug__" : Str)) = false := by decide)
    (he : starEach (e :: es) X.env = (false, eval e X.env) :: starEach es X.env := by rfl) (hpl : (backTo pos (starEach es X.env)).any (·.1) = false := by rfl) : DS X (.Raise (some (.Call (.Name x p) (e :: es) [] pos)) none rp) :=
  ⟨fun _ σ H => tMkO C (spErr X.K) [] ha.1 σ H fun cls d H' => W cls d σ H', pc_raise c tk hc hr gq hg ha.2 hdb he hpl⟩
end
end Tp

/-! # Steps over data: a reading's goal, with what follows it as a function of the data -/
namespace Tp
open PySem PySem.Spec PyProof.Rows L2
section
variable (K : PySem.W.Frag) (P : Option Addr) (Z : Bas)
def EvM (te : TE) (ρ : List Sx) (m : Nat) (φ : D → List Sx → Nat → Prop) : Prop := ∀ (M0 : Hp) (σ : L2.St) (G M H : Hp) (Q : VK), At K P Z M0 m G M H σ ρ → m ≤ BIG →
  (∀ v d ρ2 m2 G2 M2 H2, Step G M H G2 M2 H2 → At K P Z M0 m2 G2 M2 H2 σ ρ2 → m2 ≤ BIG → φ d ρ2 m2 → DV K G2 v d → Q v H2) → te σ H Q
def EtM (tt : TT) (ρ : List Sx) (m : Nat) (φ : Bool → List Sx → Nat → Prop) : Prop := ∀ (M0 : Hp) (σ : L2.St) (G M H : Hp) (Q : Bool → Hp → Prop), At K P Z M0 m G M H σ ρ → m ≤ BIG →
  (∀ b ρ2 m2 G2 M2 H2, Step G M H G2 M2 H2 → At K P Z M0 m2 G2 M2 H2 σ ρ2 → m2 ≤ BIG → φ b ρ2 m2 → Q b H2) → tt σ H Q
def EaM (ta : TA) (ρ : List Sx) (m : Nat) (φ : List D → List Sx → Nat → Prop) : Prop := ∀ (M0 : Hp) (σ : L2.St) (G M H : Hp) (Q : List V → Hp → Prop), At K P Z M0 m G M H σ ρ → m ≤ BIG →
  (∀ vs ds ρ2 m2 G2 M2 H2, Step G M H G2 M2 H2 → At K P Z M0 m2 G2 M2 H2 σ ρ2 → m2 ≤ BIG → φ ds ρ2 m2 → DVs K G2 vs ds → Q vs H2) → ta σ H Q
def EiM (ti : TI) (ρ : List Sx) (m : Nat) (φ : List D → List Sx → Nat → Prop) : Prop := ∀ (M0 : Hp) (σ : L2.St) (G M H : Hp) (R : It → Hp → Prop), At K P Z M0 m G M H σ ρ → m ≤ BIG →
  (∀ J ds ρ2 m2 G2 M2 H2, Step G M H G2 M2 H2 → At K P Z M0 m2 G2 M2 H2 σ ρ2 → m2 ≤ BIG → φ ds ρ2 m2 → WalkD K J ds G2 → R J H2) → ti σ H R
def EsM (ts : TS) (ρ : List Sx) (m : Nat) (nx bk ct : List Sx → Nat → Prop) (rt : D → Nat → Prop) : Prop := ∀ (M0 : Hp) (σ : L2.St) (G M H : Hp) (E : Ends), At K P Z M0 m G M H σ ρ → m ≤ BIG →
  (∀ σ' ρ' m' G2 M2 H2, Step G M H G2 M2 H2 → At K P Z M0 m' G2 M2 H2 σ' ρ' → m' ≤ BIG → nx ρ' m' → E.nx σ' H2) →
  (∀ σ' ρ' m' G2 M2 H2, Step G M H G2 M2 H2 → At K P Z M0 m' G2 M2 H2 σ' ρ' → m' ≤ BIG → bk ρ' m' → E.bk σ' H2) →
  (∀ σ' ρ' m' G2 M2 H2, Step G M H G2 M2 H2 → At K P Z M0 m' G2 M2 H2 σ' ρ' → m' ≤ BIG → ct ρ' m' → E.ct σ' H2) →
  (∀ v d σ' ρ' m' G2 M2 H2, Step G M H G2 M2 H2 → At K P Z M0 m' G2 M2 H2 σ' ρ' → m' ≤ BIG → rt d m' → DV K G2 v d → E.rt v H2) → ts E σ H
/-- what an operation makes of data -/
def OpW (r : R2) (a b : D) (ψ : D → Prop) : Prop := ∃ χ, OpD K r a b χ ∧ ∀ d, χ d → ψ d
def CaW (r : List V → Hp → VK → Prop) (as : List D) (ψ : D → Prop) : Prop := ∃ χ, CallD K r as χ ∧ ∀ d, χ d → ψ d
def MeW (r : V → List V → Hp → VK → Prop) (a : D) (as : List D) (ψ : D → Prop) : Prop := ∃ χ, MethD K r a as χ ∧ ∀ d, χ d → ψ d
def TyD (T : String) (a : D) : Prop := ∀ G H v, Same G H → DV K G v a → tyV K T v H
end
section
variable {K : PySem.W.Frag} {P : Option Addr} {Z : Bas} {ρ : List Sx} {ta tb te to : TE} {tt tu : TT} {tr : TA} {ti : TI} {m k : Nat} {φ φ' : D → List Sx → Nat → Prop} {β : Bool → List Sx → Nat → Prop} {α : List D → List Sx → Nat → Prop} {ψ χ : D → Prop} {x : D} {i : Nat} {ds : List D}
theorem evm_of (h : Ev K P Z te ρ k ψ) (l : m + k ≤ BIG) (f : ∀ d, ψ d → φ d ρ (m + k)) : EvM K P Z te ρ m φ := fun M0 σ G M H Q a b q => h M0 σ G M H m Q a l fun v d G2 M2 H2 s a2 p dv => q v d ρ _ G2 M2 H2 s a2 l (f d p) dv
theorem evm_of0 (h : Ev K P Z te ρ 0 ψ) (f : ∀ d, ψ d → φ d ρ m) : EvM K P Z te ρ m φ := fun M0 σ G M H Q a b q => h M0 σ G M H m Q a b fun v d G2 M2 H2 s a2 p dv => q v d ρ _ G2 M2 H2 s a2 b (f d p) dv
theorem etm_of0 {B : Bool → Prop} (h : EvT K P Z tt ρ 0 B) (f : ∀ d, B d → β d ρ m) : EtM K P Z tt ρ m β := fun M0 σ G M H Q a b q => h M0 σ G M H m Q a b fun d G2 M2 H2 s a2 p => q d ρ _ G2 M2 H2 s a2 b (f d p)
theorem eim_of0 {Φ : List D → Prop} (h : EvI K P Z ti ρ 0 Φ) (f : ∀ d, Φ d → α d ρ m) : EiM K P Z ti ρ m α := fun M0 σ G M H Q a b q => h M0 σ G M H m Q a b fun J ds G2 M2 H2 s a2 p dv => q J ds ρ _ G2 M2 H2 s a2 b (f ds p) dv
theorem EvM.imp (h : EvM K P Z te ρ m φ) (f : ∀ d r n, φ d r n → φ' d r n) : EvM K P Z te ρ m φ' := fun M0 σ G M H Q a b q => h M0 σ G M H Q a b fun v d r n G2 M2 H2 s a2 b2 p dv => q v d r n G2 M2 H2 s a2 b2 (f d r n p) dv
theorem evm_c {v : V} (h : ∀ G, DV K G v x) (q : φ x ρ m) : EvM K P Z (tC v) ρ m φ := fun M0 σ G M H Q a b f => f v x ρ m G M H (Step.refl a.sep) a b q (h G)
theorem evm_int {j : Int} (q : φ (.int j) ρ m) : EvM K P Z (tC (.int j)) ρ m φ := evm_c (fun _ => .int j) q
theorem evm_str {j : Str} (q : φ (.str j) ρ m) : EvM K P Z (tC (.str j)) ρ m φ := evm_c (fun _ => .str j) q
theorem evm_bl {j : Bool} (q : φ (.bl j) ρ m) : EvM K P Z (tC (.bl j)) ρ m φ := evm_c (fun _ => .bl j) q
theorem evm_non (q : φ .non ρ m) : EvM K P Z (tC .non) ρ m φ := evm_c (fun _ => .non) q
theorem evm_var (e : ρ[i]? = some (.d x)) (q : φ x ρ m) : EvM K P Z (tVar i) ρ m φ := evm_of0 (ev_var e) fun d z => z ▸ q
theorem evm_share {t : TE} (e : ρ[i]? = some (.own (.lst ds))) (q : EvM K P Z t (ρ.set i (.d (.lst ds))) m φ) : EvM K P Z t ρ m φ := fun M0 σ G M H Q a b f => by
  obtain ⟨G2, M2, st, a2⟩ := a.shareSlot e
  exact q M0 σ G2 M2 H Q a2 b fun v d r n G3 M3 H3 s a3 b3 p dv => f v d r n G3 M3 H3 (st.trans s) a3 b3 p dv
theorem evm_shareD {t : TE} {kvs : List (L2.Key × D)} (e : ρ[i]? = some (.own (.dic kvs))) (q : EvM K P Z t (ρ.set i (.d (.dic kvs))) m φ) : EvM K P Z t ρ m φ := fun M0 σ G M H Q a b f => by
  obtain ⟨G2, M2, st, a2⟩ := a.shareDic e
  exact q M0 σ G2 M2 H Q a2 b fun v d r n G3 M3 H3 s a3 b3 p dv => f v d r n G3 M3 H3 (st.trans s) a3 b3 p dv
theorem evm_own (e : ρ[i]? = some (.own (.lst ds))) (q : φ (.lst ds) (ρ.set i (.d (.lst ds))) m) : EvM K P Z (tVar i) ρ m φ :=
  evm_share e (evm_var (by rw [getset (own_lt e), if_pos rfl]) q)
theorem evm_ownD {kvs : List (L2.Key × D)} (e : ρ[i]? = some (.own (.dic kvs))) (q : φ (.dic kvs) (ρ.set i (.d (.dic kvs))) m) : EvM K P Z (tVar i) ρ m φ :=
  evm_shareD e (evm_var (by rw [getset (own_lt e), if_pos rfl]) q)
theorem evm_op {r : R2} (h : EvM K P Z ta ρ m fun a r1 m1 => EvM K P Z tb r1 m1 fun b r2 m2 => OpW K r a b fun d => φ d r2 m2) : EvM K P Z (tOp r ta tb) ρ m φ := fun M0 σ G M H Q a l q => by
  refine h M0 σ G M H _ a l fun x d1 r1 m1 G1 M1 H1 s1 a1 l1 p1 v1 => ?_
  refine p1 M0 σ G1 M1 H1 _ a1 l1 fun y d2 r2 m2 G2 M2 H2 s2 a2 l2 p2 v2 => ?_
  obtain ⟨χ, h1, h2⟩ := p2
  refine h1 x y G2 M2 H2 Q a2.sep (v1.mono s2.gg) v2 fun z d3 G3 H3 s3 p3 v3 => ?_
  exact q z d3 r2 m2 G3 M2 H3 ((s1.trans s2).trans s3) (a2.pure s3) l2 (h2 d3 p3) v3
theorem evm_if (h : EtM K P Z tt ρ m fun b r1 m1 => (b = true → EvM K P Z ta r1 m1 φ) ∧ (b = false → EvM K P Z tb r1 m1 φ)) : EvM K P Z (tIf tt ta tb) ρ m φ := fun M0 σ G M H Q a l q => by
  refine h M0 σ G M H _ a l fun b r1 m1 G1 M1 H1 s1 a1 l1 p1 => ?_
  cases b with
  | true => exact p1.1 rfl M0 σ G1 M1 H1 Q a1 l1 fun v d r n G2 M2 H2 s2 a2 l2 p2 v2 => q v d r n G2 M2 H2 (s1.trans s2) a2 l2 p2 v2
  | false => exact p1.2 rfl M0 σ G1 M1 H1 Q a1 l1 fun v d r n G2 M2 H2 s2 a2 l2 p2 v2 => q v d r n G2 M2 H2 (s1.trans s2) a2 l2 p2 v2
theorem etm_test (h : EvM K P Z te ρ m fun d r1 m1 => ∃ b, d = .bl b ∧ β b r1 m1) : EtM K P Z (tTest te) ρ m β := fun M0 σ G M H Q a l q =>
  h M0 σ G M H _ a l fun v d r1 m1 G2 M2 H2 s2 a2 l2 p2 v2 => by
    obtain ⟨b, rfl, hb⟩ := p2
    cases v2
    exact ⟨b, rfl, q b r1 m1 G2 M2 H2 s2 a2 l2 hb⟩
theorem etm_B (h : EvM K P Z te ρ m fun d r1 m1 => ∃ b, d = .bl b ∧ β b r1 m1) : EtM K P Z (tB te) ρ m β := etm_test h
theorem etm_yes (h : β true ρ m) : EtM K P Z tYes ρ m β := etm_of0 et_yes fun d z => z ▸ h
theorem etm_not (h : EtM K P Z tt ρ m fun b r1 m1 => β (!b) r1 m1) : EtM K P Z (tNot tt) ρ m β := fun M0 σ G M H Q a l q =>
  h M0 σ G M H _ a l fun b r1 m1 G2 M2 H2 s2 a2 l2 p2 => q (!b) r1 m1 G2 M2 H2 s2 a2 l2 p2
theorem etm_and (h : EtM K P Z tt ρ m fun b r1 m1 => (b = true → EtM K P Z tu r1 m1 β) ∧ (b = false → β false r1 m1)) : EtM K P Z (tAnd tt tu) ρ m β := fun M0 σ G M H Q a l q => by
  refine h M0 σ G M H _ a l fun b r1 m1 G1 M1 H1 s1 a1 l1 p1 => ?_
  cases b with
  | true => exact p1.1 rfl M0 σ G1 M1 H1 Q a1 l1 fun b r n G2 M2 H2 s2 a2 l2 p2 => q b r n G2 M2 H2 (s1.trans s2) a2 l2 p2
  | false => exact q false r1 m1 G1 M1 H1 s1 a1 l1 (p1.2 rfl)
theorem etm_or (h : EtM K P Z tt ρ m fun b r1 m1 => (b = false → EtM K P Z tu r1 m1 β) ∧ (b = true → β true r1 m1)) : EtM K P Z (tOr tt tu) ρ m β := fun M0 σ G M H Q a l q => by
  refine h M0 σ G M H _ a l fun b r1 m1 G1 M1 H1 s1 a1 l1 p1 => ?_
  cases b with
  | false => exact p1.1 rfl M0 σ G1 M1 H1 Q a1 l1 fun b r n G2 M2 H2 s2 a2 l2 p2 => q b r n G2 M2 H2 (s1.trans s2) a2 l2 p2
  | true => exact q true r1 m1 G1 M1 H1 s1 a1 l1 (p1.2 rfl)
theorem evm_andV (h : EvM K P Z ta ρ m fun d r1 m1 => ∃ b, d = .bl b ∧ (b = true → EvM K P Z tb r1 m1 φ) ∧ (b = false → φ (.bl false) r1 m1)) : EvM K P Z (tAndV ta tb) ρ m φ := fun M0 σ G M H Q a l q => by
  refine h M0 σ G M H _ a l fun v d r1 m1 G1 M1 H1 s1 a1 l1 p1 v1 => ?_
  obtain ⟨b, rfl, h1, h2⟩ := p1
  cases v1
  refine ⟨b, rfl, ?_⟩
  cases b with
  | true => exact h1 rfl M0 σ G1 M1 H1 Q a1 l1 fun v d r n G2 M2 H2 s2 a2 l2 p2 v2 => q v d r n G2 M2 H2 (s1.trans s2) a2 l2 p2 v2
  | false => exact q _ _ r1 m1 G1 M1 H1 s1 a1 l1 (h2 rfl) (.bl false)
theorem evm_orV (h : EvM K P Z ta ρ m fun d r1 m1 => ∃ b, d = .bl b ∧ (b = false → EvM K P Z tb r1 m1 φ) ∧ (b = true → φ (.bl true) r1 m1)) : EvM K P Z (tOrV ta tb) ρ m φ := fun M0 σ G M H Q a l q => by
  refine h M0 σ G M H _ a l fun v d r1 m1 G1 M1 H1 s1 a1 l1 p1 v1 => ?_
  obtain ⟨b, rfl, h1, h2⟩ := p1
  cases v1
  refine ⟨b, rfl, ?_⟩
  cases b with
  | false => exact h1 rfl M0 σ G1 M1 H1 Q a1 l1 fun v d r n G2 M2 H2 s2 a2 l2 p2 v2 => q v d r n G2 M2 H2 (s1.trans s2) a2 l2 p2 v2
  | true => exact q _ _ r1 m1 G1 M1 H1 s1 a1 l1 (h2 rfl) (.bl true)
theorem evm_notV (h : EvM K P Z ta ρ m fun d r1 m1 => ∃ b, d = .bl b ∧ φ (.bl (!b)) r1 m1) : EvM K P Z (tNotV ta) ρ m φ := fun M0 σ G M H Q a l q =>
  h M0 σ G M H _ a l fun v d r1 m1 G2 M2 H2 s2 a2 l2 p2 v2 => by
    obtain ⟨b, rfl, hb⟩ := p2
    cases v2
    exact ⟨b, rfl, q _ _ r1 m1 G2 M2 H2 s2 a2 l2 hb (.bl _)⟩
theorem eam_nil (q : α [] ρ m) : EaM K P Z tNil ρ m α := fun M0 σ G M H Q a l f => f [] [] ρ m G M H (Step.refl a.sep) a l q .nil
theorem eam_cons (h : EvM K P Z te ρ m fun d r1 m1 => EaM K P Z tr r1 m1 fun ds r2 m2 => α (d :: ds) r2 m2) : EaM K P Z (tCons te tr) ρ m α := fun M0 σ G M H Q a l q => by
  refine h M0 σ G M H _ a l fun x d1 r1 m1 G1 M1 H1 s1 a1 l1 p1 v1 => ?_
  refine p1 M0 σ G1 M1 H1 _ a1 l1 fun vs ds r2 m2 G2 M2 H2 s2 a2 l2 p2 v2 => ?_
  exact q _ _ r2 m2 G2 M2 H2 (s1.trans s2) a2 l2 p2 (.cons (v1.mono s2.gg) v2)
theorem evm_tup (h : EaM K P Z tr ρ m fun ds r1 m1 => ds.length ≤ 1000000 ∧ φ (.tup ds) r1 m1) : EvM K P Z (tTup tr) ρ m φ := fun M0 σ G M H Q a l q =>
  h M0 σ G M H _ a l fun vs ds r1 m1 G1 M1 H1 s1 a1 l1 p1 v1 => ⟨szOk (by rw [v1.length]; exact p1.1), fun p n =>
    q _ _ r1 m1 _ _ _ (s1.trans (Step.new a1.sep n)) (a1.pure (Step.new a1.sep n)) l1 p1.2 (new_tup a1.sep n v1)⟩
theorem evm_lst (h : EaM K P Z tr ρ m fun ds r1 m1 => ds.length ≤ 1000000 ∧ φ (.lst ds) r1 m1) : EvM K P Z (tLst tr) ρ m φ := fun M0 σ G M H Q a l q =>
  h M0 σ G M H _ a l fun vs ds r1 m1 G1 M1 H1 s1 a1 l1 p1 v1 => ⟨szOk (by rw [v1.length]; exact p1.1), fun p n =>
    q _ _ r1 m1 _ _ _ (s1.trans (Step.new a1.sep n)) (a1.pure (Step.new a1.sep n)) l1 p1.2 (new_lst a1.sep n v1)⟩
theorem evm_call {r : List V → Hp → VK → Prop} (h : EaM K P Z tr ρ m fun ds r1 m1 => CaW K r ds fun d => φ d r1 m1) : EvM K P Z (tCB r tr) ρ m φ := fun M0 σ G M H Q a l q =>
  h M0 σ G M H _ a l fun vs ds r1 m1 G1 M1 H1 s1 a1 l1 p1 v1 => by
    obtain ⟨χ, h1, h2⟩ := p1
    exact h1 vs G1 M1 H1 Q a1.sep v1 fun z d G2 H2 s2 p2 v2 => q z d r1 m1 G2 M1 H2 (s1.trans s2) (a1.pure s2) l1 (h2 d p2) v2
theorem evm_fld {C : Addr} {f : Str} (c : Cls K C) (nf : NoAttr K C f) (h : EvM K P Z to ρ m fun d r1 m1 => ∃ fs x, d = .ins C fs ∧ fs.lookup f = some x ∧ φ x r1 m1) : EvM K P Z (tFld K to f) ρ m φ := fun M0 σ G M H Q a l q =>
  h M0 σ G M H _ a l fun v d r1 m1 G1 M1 H1 s1 a1 l1 p1 v1 => by
    obtain ⟨fs, x, rfl, lk, hx⟩ := p1
    cases v1 with
    | ins h1 h2 =>
      obtain ⟨w, lw, hw⟩ := h2.look lk
      exact ⟨_, C, _, _, w, rfl, s1.s.g _ _ h1, c, nf, lw, q w x r1 m1 G1 M1 H1 s1 a1 l1 hx hw⟩
/-- a field of the object while it is made -/
theorem evm_fldI {C xx : Addr} {f : Str} {fs : List (Str × D)} (c : Cls K C) (nf : NoAttr K C f) (e : ρ[i]? = some (.own (.ins xx C fs))) (lk : fs.lookup f = some x) (q : φ x ρ m) : EvM K P Z (tFld K (tVar i) f) ρ m φ :=
  evm_of0 (ev_own c nf e lk) fun d z => z ▸ q
theorem evm_bm {T : String} {r : V → List V → Hp → VK → Prop} (h : EvM K P Z to ρ m fun a r1 m1 => TyD K T a ∧ EaM K P Z tr r1 m1 fun ds r2 m2 => MeW K r a ds fun d => φ d r2 m2) : EvM K P Z (tBM K T r to tr) ρ m φ := fun M0 σ G M H Q a l q => by
  refine h M0 σ G M H _ a l fun x d1 r1 m1 G1 M1 H1 s1 a1 l1 p1 v1 => ⟨p1.1 _ _ _ s1.s.g v1, ?_⟩
  refine p1.2 M0 σ G1 M1 H1 _ a1 l1 fun vs ds r2 m2 G2 M2 H2 s2 a2 l2 p2 v2 => ?_
  obtain ⟨χ, h1, h2⟩ := p2
  refine h1 x vs G2 M2 H2 Q a2.sep (v1.mono s2.gg) v2 fun z d3 G3 H3 s3 p3 v3 => ?_
  exact q z d3 r2 m2 G3 M2 H3 ((s1.trans s2).trans s3) (a2.pure s3) l2 (h2 d3 p3) v3
theorem evm_bm0 {T : String} {r : V → List V → Hp → VK → Prop} (h : EvM K P Z to ρ m fun a r1 m1 => TyD K T a ∧ MeW K r a [] fun d => φ d r1 m1) : EvM K P Z (tBM0 K T r to) ρ m φ := fun M0 σ G M H Q a l q =>
  h M0 σ G M H _ a l fun x d1 r1 m1 G1 M1 H1 s1 a1 l1 p1 v1 => by
    obtain ⟨ty, χ, h1, h2⟩ := p1
    exact ⟨ty _ _ _ s1.s.g v1, h1 x [] G1 M1 H1 Q a1.sep v1 .nil fun z d3 G3 H3 s3 p3 v3 => q z d3 r1 m1 G3 M1 H3 (s1.trans s3) (a1.pure s3) l1 (h2 d3 p3) v3⟩
/-! ### calls of own functions -/
variable {kf : Nat} {pre : List D → Prop} {post : List D → D → Prop} {E : XK}
theorem evm_fun (h : EaM K P Z tr ρ m fun ds r1 m1 => pre ds ∧ ∀ d, post ds d → φ d r1 m1) : EvM K P Z (tCall (spD K kf pre post) [] E tr) ρ m φ := fun M0 σ G M H Q a l q =>
  h M0 σ G M H _ a l fun vs ds r1 m1 G1 M1 H1 s1 a1 l1 p1 v1 => ⟨G1, M1, ds, a1.sep, by rw [List.append_nil]; exact v1, p1.1, fun v d G2 H2 s2 p2 v2 => q v d r1 m1 G2 M1 H2 (s1.trans s2) (a1.pure s2) l1 (p1.2 d p2) v2⟩
theorem evm_funP (e : ρ[i]? = some .pot) (h : EaM K P Z tr ρ m fun ds r1 m1 => pre ds ∧ m1 + kf ≤ BIG ∧ ∀ d, post ds d → φ d r1 (m1 + kf)) : EvM K P Z (tCall (spP K kf pre post) [] E (tCons (tVar i) tr)) ρ m φ := fun M0 σ G M H Q a l q => by
  obtain ⟨p, ep, es⟩ := a.sl i _ e
  subst ep
  refine ⟨.ref p, es, h M0 σ G M H _ a l fun vs ds r1 m1 G1 M1 H1 s1 a1 l1 p1 v1 => ?_⟩
  obtain ⟨c1, c2, c3, hc, _⟩ := a1.pot p rfl
  refine ⟨p, vs, G1, M1, m1, ds, by rw [List.append_nil], a1.sep, a1.pot, ⟨_, hc⟩, p1.2.1, v1, p1.1, fun v d G2 M2 H2 s2 pm off p2 v2 => ?_⟩
  refine q v d r1 _ G2 M2 H2 (s1.trans s2) (a1.go s2 pm fun c o hc z => ?_) p1.2.1 (p1.2.2 d p2) v2
  rw [off c fun z => hc (congrArg some z.symm)]
  exact z
theorem evm_make {C : Addr} {postI : List D → List (Str × D) → Prop} (h : EaM K P Z tr ρ m fun ds r1 m1 => pre ds ∧ ∀ fs, postI ds fs → φ (.ins C fs) r1 m1) : EvM K P Z (tMake C (spIni K C pre postI) [] E tr) ρ m φ := fun M0 σ G M H Q a l q =>
  h M0 σ G M H _ a l fun vs ds r1 m1 G1 M1 H1 s1 a1 l1 p1 v1 => fun x dx n nd ne => by
    have st1 := Step.own (o := .own x) a1.sep nd
    have nx : (upd H1 dx (.own x)) x = none := by
      rw [upd_ne (Ne.symm ne)]
      exact n
    have st2 := Step.own (o := .ins C dx []) st1.s nx
    have hp := a1.offP n
    have n0 := a1.m0 n
    have ns := a1.noSlot n
    have st3 : Step G1 M1 H1 G1 (upd M1 x (.ins C dx [])) (upd (upd H1 dx (.own x)) x (.ins C dx [])) := Step.drop (st1.trans st2) fun b o z => by
      by_cases q : b = x
      · subst q
        rw [upd_same] at z ⊢
        exact z
      · rw [upd_ne q] at z ⊢
        rw [upd_ne (some_ne z (a1.sep.free nd).2)]
        exact z
    refine ⟨x, dx, vs, G1, upd M1 x (.ins C dx []), ds, by rw [List.append_nil], st3.s, upd_same, v1, p1.1, fun fs ws dy G2 M2 H2 st off hM hv hp2 => ⟨rfl, ?_⟩⟩
    have st5 := Step.share st.s hM
    have st6 : Step G1 M1 H1 (upd G2 x (.ins C dy ws)) M1 H2 := Step.drop ((st3.trans st).trans st5) fun b o z => by
      have q : b ≠ x := some_ne z (a1.sep.free n).2
      rw [dele_ne q, off b q, upd_ne q]
      exact z
    exact q (.ref x) (.ins C fs) r1 m1 _ _ _ (s1.trans st6) (a1.pure st6) l1 (p1.2 fs hp2) (.ins upd_same (hv.mono st5.gg))
end
end Tp

/-! # Statements, loops, comprehensions by steps -/
namespace Tp
open PySem PySem.Spec PyProof.Rows L2
section
variable {K : PySem.W.Frag} {P : Option Addr} {Z : Bas} {ρ : List Sx} {ta tb te to : TE} {tt : TT} {tr : TA} {ti : TI} {g : TG} {t u : TS} {m k : Nat} {φ : D → List Sx → Nat → Prop} {nx bk ct nx' bk' ct' : List Sx → Nat → Prop} {rt rt' : D → Nat → Prop} {x : D} {i j : Nat} {ds : List D} {js : List Nat}
theorem EsM.imp (h : EsM K P Z t ρ m nx bk ct rt) (h1 : ∀ r n, nx r n → nx' r n) (h2 : ∀ r n, bk r n → bk' r n) (h3 : ∀ r n, ct r n → ct' r n) (h4 : ∀ d n, rt d n → rt' d n) : EsM K P Z t ρ m nx' bk' ct' rt' :=
  fun M0 σ G M H E a l q1 q2 q3 q4 => h M0 σ G M H E a l (fun σ' ρ' n G2 M2 H2 s a l z => q1 σ' ρ' n G2 M2 H2 s a l (h1 _ _ z)) (fun σ' ρ' n G2 M2 H2 s a l z => q2 σ' ρ' n G2 M2 H2 s a l (h2 _ _ z))
    (fun σ' ρ' n G2 M2 H2 s a l z => q3 σ' ρ' n G2 M2 H2 s a l (h3 _ _ z)) (fun v d σ' ρ' n G2 M2 H2 s a l z => q4 v d σ' ρ' n G2 M2 H2 s a l (h4 _ _ z))
theorem esm_share {kvs : List D} (e : ρ[i]? = some (.own (.lst kvs))) (q : EsM K P Z t (ρ.set i (.d (.lst kvs))) m nx bk ct rt) : EsM K P Z t ρ m nx bk ct rt := fun M0 σ G M H E a b q1 q2 q3 q4 => by
  obtain ⟨G2, M2, st, a2⟩ := a.shareSlot e
  exact q M0 σ G2 M2 H E a2 b (fun σ' ρ' n G3 M3 H3 s a l z => q1 σ' ρ' n G3 M3 H3 (st.trans s) a l z) (fun σ' ρ' n G3 M3 H3 s a l z => q2 σ' ρ' n G3 M3 H3 (st.trans s) a l z)
    (fun σ' ρ' n G3 M3 H3 s a l z => q3 σ' ρ' n G3 M3 H3 (st.trans s) a l z) (fun v d σ' ρ' n G3 M3 H3 s a l z => q4 v d σ' ρ' n G3 M3 H3 (st.trans s) a l z)
theorem esm_shareD {kvs : List (L2.Key × D)} (e : ρ[i]? = some (.own (.dic kvs))) (q : EsM K P Z t (ρ.set i (.d (.dic kvs))) m nx bk ct rt) : EsM K P Z t ρ m nx bk ct rt := fun M0 σ G M H E a b q1 q2 q3 q4 => by
  obtain ⟨G2, M2, st, a2⟩ := a.shareDic e
  exact q M0 σ G2 M2 H E a2 b (fun σ' ρ' n G3 M3 H3 s a l z => q1 σ' ρ' n G3 M3 H3 (st.trans s) a l z) (fun σ' ρ' n G3 M3 H3 s a l z => q2 σ' ρ' n G3 M3 H3 (st.trans s) a l z)
    (fun σ' ρ' n G3 M3 H3 s a l z => q3 σ' ρ' n G3 M3 H3 (st.trans s) a l z) (fun v d σ' ρ' n G3 M3 H3 s a l z => q4 v d σ' ρ' n G3 M3 H3 (st.trans s) a l z)
theorem esm_seq (h : EsM K P Z t ρ m (fun r1 m1 => EsM K P Z u r1 m1 nx bk ct rt) bk ct rt) : EsM K P Z (tSeq t u) ρ m nx bk ct rt := fun M0 σ G M H E a l q1 q2 q3 q4 =>
  h M0 σ G M H { E with nx := u E } a l (fun σ1 r1 m1 G1 M1 H1 s1 a1 l1 z1 => z1 M0 σ1 G1 M1 H1 E a1 l1 (fun σ' ρ' n G2 M2 H2 s a l z => q1 σ' ρ' n G2 M2 H2 (s1.trans s) a l z) (fun σ' ρ' n G2 M2 H2 s a l z => q2 σ' ρ' n G2 M2 H2 (s1.trans s) a l z)
    (fun σ' ρ' n G2 M2 H2 s a l z => q3 σ' ρ' n G2 M2 H2 (s1.trans s) a l z) (fun v d σ' ρ' n G2 M2 H2 s a l z => q4 v d σ' ρ' n G2 M2 H2 (s1.trans s) a l z)) q2 q3 q4
theorem esm_next (q : nx ρ m) : EsM K P Z tNext ρ m nx bk ct rt := fun M0 σ G M H E a l q1 _ _ _ => q1 σ ρ m G M H (Step.refl a.sep) a l q
theorem esm_brk (q : bk ρ m) : EsM K P Z tBreak ρ m nx bk ct rt := fun M0 σ G M H E a l _ q1 _ _ => q1 σ ρ m G M H (Step.refl a.sep) a l q
theorem esm_cont (q : ct ρ m) : EsM K P Z tCont ρ m nx bk ct rt := fun M0 σ G M H E a l _ _ q1 _ => q1 σ ρ m G M H (Step.refl a.sep) a l q
theorem esm_asg (h : EvM K P Z te ρ m fun d r1 m1 => i < r1.length ∧ nx (r1.set i (.d d)) m1) : EsM K P Z (tAsg te (gName i)) ρ m nx bk ct rt := fun M0 σ G M H E a l q1 _ _ _ =>
  h M0 σ G M H _ a l fun v d r1 m1 G1 M1 H1 s1 a1 l1 p1 v1 => q1 _ _ m1 G1 M1 H1 s1 (a1.set p1.1 v1) l1 p1.2
theorem esm_asgG (js : List Nat) (h : EvM K P Z te ρ m fun d r1 m1 => ∃ es, EvG K g js d es ∧ (∀ j ∈ js, j < r1.length) ∧ nx (setR r1 js es) m1) : EsM K P Z (tAsg te g) ρ m nx bk ct rt := fun M0 σ G M H E a l q1 _ _ _ =>
  h M0 σ G M H _ a l fun v d r1 m1 G1 M1 H1 s1 a1 l1 p1 v1 => by
    obtain ⟨es, hg, lj, z⟩ := p1
    exact hg v σ G1 H1 _ a1.sep.g v1 fun vs _ hs => q1 _ _ m1 G1 M1 H1 s1 (a1.setL lj hs) l1 z
theorem esm_ret (h : EvM K P Z te ρ m fun d _ m1 => rt d m1) : EsM K P Z (tRet te) ρ m nx bk ct rt := fun M0 σ G M H E a l _ _ _ q4 =>
  h M0 σ G M H _ a l fun v d r1 m1 G1 M1 H1 s1 a1 l1 p1 v1 => q4 v d σ r1 m1 G1 M1 H1 s1 a1 l1 p1 v1
theorem esm_retN (q : rt .non m) : EsM K P Z tRetN ρ m nx bk ct rt := fun M0 σ G M H E a l _ _ _ q4 => q4 .non .non σ ρ m G M H (Step.refl a.sep) a l q .non
theorem esm_drop (h : EvM K P Z te ρ m fun _ r1 m1 => nx r1 m1) : EsM K P Z (tDrop te) ρ m nx bk ct rt := fun M0 σ G M H E a l q1 _ _ _ =>
  h M0 σ G M H _ a l fun v d r1 m1 G1 M1 H1 s1 a1 l1 p1 v1 => q1 σ r1 m1 G1 M1 H1 s1 a1 l1 p1
theorem esm_if (h : EtM K P Z tt ρ m fun b r1 m1 => (b = true → EsM K P Z t r1 m1 nx bk ct rt) ∧ (b = false → EsM K P Z u r1 m1 nx bk ct rt)) : EsM K P Z (tIfS tt t u) ρ m nx bk ct rt := fun M0 σ G M H E a l q1 q2 q3 q4 => by
  refine h M0 σ G M H _ a l fun b r1 m1 G1 M1 H1 s1 a1 l1 p1 => ?_
  cases b with
  | true =>
    exact p1.1 rfl M0 σ G1 M1 H1 E a1 l1 (fun σ' ρ' n G2 M2 H2 s a l z => q1 σ' ρ' n G2 M2 H2 (s1.trans s) a l z) (fun σ' ρ' n G2 M2 H2 s a l z => q2 σ' ρ' n G2 M2 H2 (s1.trans s) a l z)
      (fun σ' ρ' n G2 M2 H2 s a l z => q3 σ' ρ' n G2 M2 H2 (s1.trans s) a l z) (fun v d σ' ρ' n G2 M2 H2 s a l z => q4 v d σ' ρ' n G2 M2 H2 (s1.trans s) a l z)
  | false =>
    exact p1.2 rfl M0 σ G1 M1 H1 E a1 l1 (fun σ' ρ' n G2 M2 H2 s a l z => q1 σ' ρ' n G2 M2 H2 (s1.trans s) a l z) (fun σ' ρ' n G2 M2 H2 s a l z => q2 σ' ρ' n G2 M2 H2 (s1.trans s) a l z)
      (fun σ' ρ' n G2 M2 H2 s a l z => q3 σ' ρ' n G2 M2 H2 (s1.trans s) a l z) (fun v d σ' ρ' n G2 M2 H2 s a l z => q4 v d σ' ρ' n G2 M2 H2 (s1.trans s) a l z)
/-- found = [..], to be changed later -/
theorem esm_newL (h : EaM K P Z tr ρ m fun ds r1 m1 => ds.length ≤ 1000000 ∧ i < r1.length ∧ nx (r1.set i (.own (.lst ds))) m1) : EsM K P Z (tAsg (tLst tr) (gName i)) ρ m nx bk ct rt := fun M0 σ G M H E a l q1 _ _ _ =>
  h M0 σ G M H _ a l fun vs ds r1 m1 G1 M1 H1 s1 a1 l1 p1 v1 => ⟨szOk (by rw [v1.length]; exact p1.1), fun p n =>
    q1 _ _ m1 _ _ _ (s1.trans (Step.own a1.sep n)) (a1.ownNew (b := .lst ds) p1.2.1 n ⟨vs, rfl, v1⟩) l1 p1.2.2⟩
theorem esm_newD (l : i < ρ.length) (q : nx (ρ.set i (.own (.dic []))) m) : EsM K P Z (tAsg tDNewK (gName i)) ρ m nx bk ct rt := fun M0 σ G M H E a b q1 _ _ _ => fun p n =>
    q1 _ _ m _ _ _ (Step.own a.sep n) (a.ownNew (b := .dic []) l n ⟨[], rfl, .nil⟩) b q
/-- found.append(e) -/
theorem esm_app {es : List D} (e0 : ρ[i]? = some (.own (.lst es))) (h : EvM K P Z te ρ m fun d r1 m1 => ∃ ds, r1[i]? = some (.own (.lst ds)) ∧ ds.length < 1000000 ∧ nx (r1.set i (.own (.lst (ds ++ [d])))) m1) : EsM K P Z (tDrop (tBM K "list" rAppend (tVar i) (tCons te tNil))) ρ m nx bk ct rt := fun M0 σ G M H E a b q1 _ _ _ => by
  obtain ⟨l, u, e1, _, _, e4, ⟨vs, rfl, _⟩, _⟩ := a.own e0
  refine ⟨.ref l, e1, .inl ⟨rfl, _, sq_of' (a.sep.m _ _ e4)⟩, h M0 σ G M H _ a b fun v d r1 m1 G1 M1 H1 s1 a1 l1 p1 v1 => ?_⟩
  obtain ⟨ds, e, few, z⟩ := p1
  obtain ⟨l', u', f1, f2, f3, f4, ⟨ws, rfl, hw⟩, ns⟩ := a1.own e
  rw [e1] at f1
  cases f1
  refine ⟨l, ws, v, rfl, rfl, a1.sep.m _ _ f4, by rw [hw.length]; exact small_lt few, ?_⟩
  exact q1 _ _ m1 _ _ _ (s1.trans (Step.put a1.sep f4)) (a1.ownPut (w := .lst (ws ++ [v])) (b2 := .lst (ds ++ [d])) e e1 f2 f3 f4 ns ⟨_, rfl, hw.snoc v1⟩) l1 z
/-- found.extend(e) -/
theorem esm_ext {es : List D} (e0 : ρ[i]? = some (.own (.lst es))) (h : EvM K P Z te ρ m fun d r1 m1 => ∃ ds fs, r1[i]? = some (.own (.lst ds)) ∧ d = .lst fs ∧ ds.length + fs.length ≤ 1000000 ∧ nx (r1.set i (.own (.lst (ds ++ fs)))) m1) : EsM K P Z (tDrop (tBM K "list" rExtend (tVar i) (tCons te tNil))) ρ m nx bk ct rt := fun M0 σ G M H E a b q1 _ _ _ => by
  obtain ⟨l, u, e1, _, _, e4, ⟨vs, rfl, _⟩, _⟩ := a.own e0
  refine ⟨.ref l, e1, .inl ⟨rfl, _, sq_of' (a.sep.m _ _ e4)⟩, h M0 σ G M H _ a b fun v d r1 m1 G1 M1 H1 s1 a1 l1 p1 v1 => ?_⟩
  obtain ⟨ds, fs, e, rfl, few, z⟩ := p1
  obtain ⟨l', u', f1, f2, f3, f4, ⟨ws, rfl, hw⟩, ns⟩ := a1.own e
  rw [e1] at f1
  cases f1
  cases v1 with
  | @lst p xs _ g1 g2 =>
    refine ⟨l, p, ws, xs, rfl, rfl, a1.sep.m _ _ f4, a1.sep.g _ _ g1, by rw [hw.length, g2.length]; exact szOk few, ?_⟩
    exact q1 _ _ m1 _ _ _ (s1.trans (Step.put a1.sep f4)) (a1.ownPut (w := .lst (ws ++ xs)) (b2 := .lst (ds ++ fs)) e e1 f2 f3 f4 ns ⟨_, rfl, hw.append g2⟩) l1 z
/-- self.f = value -/
theorem esm_fld {C xx : Addr} {f : Str} (c : Cls K C) (nf : NoAttr K C f) (h : EvM K P Z te ρ m fun d r1 m1 => ∃ fs, r1[j]? = some (.own (.ins xx C fs)) ∧ fs.length < 1000 ∧ nx (r1.set j (.own (.ins xx C (setF f d fs)))) m1) :
    EsM K P Z (sFld K (tVar j) te f) ρ m nx bk ct rt := fun M0 σ G M H E a b q1 _ _ _ =>
  h M0 σ G M H _ a b fun v d r1 m1 G1 M1 H1 s1 a1 lb p1 v1 => by
    obtain ⟨fs, e, few, z⟩ := p1
    obtain ⟨l, u, e1, e2, e3, e4, ⟨dx, vs, rfl, rfl, hv⟩, ns⟩ := a1.own e
    refine ⟨.ref l, e1, l, C, dx, vs, rfl, a1.sep.m _ _ e4, c, nf, by rw [hv.length]; exact few, ?_⟩
    exact q1 _ _ m1 _ _ _ (s1.trans (Step.put a1.sep e4)) (a1.ownPut (b2 := .ins _ C (setF f d fs)) e e1 e2 e3 e4 ns ⟨dx, _, rfl, rfl, hv.set v1⟩) lb z
/-- a loop's turns, item by item -/
def LoopM (step : D → List Sx → Nat → (List Sx → Nat → Prop) → Prop) (nx : List Sx → Nat → Prop) : List D → List Sx → Nat → Prop
  | [], ρ, m => nx ρ m
  | d :: ds, ρ, m => step d ρ m (LoopM step nx ds)
theorem esm_for (js : List Nat) (h : EiM K P Z ti ρ m fun ds r1 m1 => LoopM (fun d r2 m2 κ => ∃ es, EvG K g js d es ∧ (∀ j ∈ js, j < r2.length) ∧ EsM K P Z t (setR r2 js es) m2 κ nx κ rt) nx ds r1 m1) : EsM K P Z (tFor ti g t) ρ m nx bk ct rt := fun M0 σ G M H E a l q1 _ _ q4 => by
  refine h M0 σ G M H _ a l fun J ds r1 m1 G1 M1 H1 s1 a1 l1 p1 W => ?_
  obtain ⟨GG, YY, w, hG, hY⟩ := W.ex
  refine for_it w (fun i σ' H' => ∃ ρ' m' G' M', Step G M H G' M' H' ∧ Same G1 G' ∧ At K P Z M0 m' G' M' H' σ' ρ' ∧ m' ≤ BIG ∧ LoopM (fun d r2 m2 κ => ∃ es, EvG K g js d es ∧ (∀ j ∈ js, j < r2.length) ∧ EsM K P Z t (setR r2 js es) m2 κ nx κ rt) nx (ds.drop i) ρ' m') ?_ ?_ ?_ ?_
  · exact ⟨r1, m1, G1, M1, s1, Same.refl _, a1, l1, p1⟩
  · rintro i σ' H' _ ⟨ρ', m', G', M', s', sg, a', _⟩
    exact hG H' (sg.trans a'.sep.g)
  · rintro i x σ' H' H'' hlt ⟨ρ', m', G', M', s', sg, a', l', iv⟩ y
    obtain ⟨d, G'', e, st, dv⟩ := hY i G' M' H' x H'' hlt sg a'.sep y
    have e5 : ds.drop i = d :: ds.drop (i + 1) := by
      rw [List.drop_eq_getElem_cons hlt]
      congr 1
      exact (List.getElem?_eq_some_iff.mp e).2
    rw [e5] at iv
    obtain ⟨es, hg, hl, hs⟩ := iv
    refine hg x σ' G'' H'' _ st.s.g dv fun vs _ hvs => ?_
    refine hs M0 _ G'' M' H'' _ ((a'.pure st).setL hl hvs) l' (fun σ2 ρ2 m2 G2 M2 H2 s2 a2 l2 z => ?_) (fun σ2 ρ2 m2 G2 M2 H2 s2 a2 l2 z => ?_) (fun σ2 ρ2 m2 G2 M2 H2 s2 a2 l2 z => ?_) (fun v d σ2 ρ2 m2 G2 M2 H2 s2 a2 l2 z hv => ?_)
    · exact ⟨ρ2, m2, G2, M2, (s'.trans st).trans s2, (sg.trans st.gg).trans s2.gg, a2, l2, z⟩
    · exact q1 σ2 ρ2 m2 G2 M2 H2 ((s'.trans st).trans s2) a2 l2 z
    · exact ⟨ρ2, m2, G2, M2, (s'.trans st).trans s2, (sg.trans st.gg).trans s2.gg, a2, l2, z⟩
    · exact q4 v d σ2 ρ2 m2 G2 M2 H2 ((s'.trans st).trans s2) a2 l2 z hv
  · rintro σ' H' ⟨ρ', m', G', M', s', sg, a', l', iv⟩
    rw [List.drop_length] at iv
    exact q1 σ' ρ' m' G' M' H' s' a' l' iv
/-- a while, by an invariant with a measure -/
theorem esm_while (Iv : Nat → List Sx → Nat → Prop) (n : Nat) (h0 : Iv n ρ m) (hc : ∀ i r m, Iv i r m → EtM K P Z tt r m fun b r1 m1 => (b = true → ∃ i', i' < i ∧ EsM K P Z t r1 m1 (Iv i') nx (Iv i') rt) ∧ (b = false → nx r1 m1)) : EsM K P Z (tWhile tt t) ρ m nx bk ct rt := fun M0 σ G M H E a l q1 _ _ q4 => by
  refine ⟨fun i σ' H' => ∃ ρ' m' G' M', Step G M H G' M' H' ∧ At K P Z M0 m' G' M' H' σ' ρ' ∧ m' ≤ BIG ∧ Iv i ρ' m', ⟨n, ρ, m, G, M, Step.refl a.sep, a, l, h0⟩, ?_⟩
  rintro i σ' H' ⟨ρ', m', G', M', s', a', l', iv⟩
  refine hc i ρ' m' iv M0 σ' G' M' H' _ a' l' fun b r1 m1 G1 M1 H1 s1 a1 l1 p1 => ?_
  cases b with
  | true =>
    obtain ⟨i', hi, hb⟩ := p1.1 rfl
    rw [if_pos rfl]
    refine ⟨fun σ2 H2 => ∃ ρ' m' G' M', Step G M H G' M' H2 ∧ At K P Z M0 m' G' M' H2 σ2 ρ' ∧ m' ≤ BIG ∧ Iv i' ρ' m', fun σ2 H2 z => ⟨i', hi, z⟩, ?_⟩
    refine hb M0 σ' G1 M1 H1 _ a1 l1 (fun σ2 ρ2 m2 G2 M2 H2 s2 a2 l2 z => ?_) (fun σ2 ρ2 m2 G2 M2 H2 s2 a2 l2 z => ?_) (fun σ2 ρ2 m2 G2 M2 H2 s2 a2 l2 z => ?_) (fun v d σ2 ρ2 m2 G2 M2 H2 s2 a2 l2 z hv => ?_)
    · exact ⟨ρ2, m2, G2, M2, (s'.trans s1).trans s2, a2, l2, z⟩
    · exact q1 σ2 ρ2 m2 G2 M2 H2 ((s'.trans s1).trans s2) a2 l2 z
    · exact ⟨ρ2, m2, G2, M2, (s'.trans s1).trans s2, a2, l2, z⟩
    · exact q4 v d σ2 ρ2 m2 G2 M2 H2 ((s'.trans s1).trans s2) a2 l2 z hv
  | false =>
    rw [if_neg Bool.false_ne_true]
    exact q1 σ' r1 m1 G1 M1 H1 (s'.trans s1) a1 l1 (p1.2 rfl)
end
end Tp

/-! # Comprehensions by steps -/
namespace Tp
open PySem PySem.Spec PyProof.Rows L2
inductive All2 {α β : Type} (R : α → β → Prop) : List α → List β → Prop
  | nil : All2 R [] []
  | cons {a : α} {b : β} {as : List α} {bs : List β} : R a b → All2 R as bs → All2 R (a :: as) (b :: bs)
/-- a comprehension's turns, item by item -/
def LcM (step : D → Nat → (Option D → Nat → Prop) → Prop) (ψ : List D → Nat → Prop) : List D → List D → Nat → Prop
  | [], acc, m => ψ acc m
  | d :: ds, acc, m => step d m fun o m' => LcM step ψ ds (acc ++ o.toList) m'
section
variable {K : PySem.W.Frag} {P : Option Addr} {Z : Bas} {M0 G M H : Hp} {m : Nat} {σ : L2.St} {ρ : List Sx} {a : Addr} {u : HO} {i : Nat}
/-- an object owned beside the slots comes into a slot -/
theorem At.adopt (z : At K P Z M0 m G M H σ ρ) (l : i < ρ.length) (n0 : M0 a = none) (hp : P ≠ some a) (ns : NoSlot σ ρ a) (hM : M a = some u) {b : Ob} (o : OwnO K G a u b) : At K P Z M0 m G M H (σ.set i (some (.ref a))) (ρ.set i (.own b)) where
  bm := z.bm
  bs := z.bs
  sep := z.sep
  pot := z.pot
  fr := z.fr
  len := by rw [List.length_set, List.length_set, z.len]
  sl := fun j y e => by
    rw [getset l] at e
    rw [getset (by rw [z.len]; exact l)]
    by_cases q : i = j
    · rw [if_pos q] at e ⊢
      cases e
      exact ⟨a, u, rfl, n0, hp, hM, o⟩
    · rw [if_neg q] at e ⊢
      exact z.sl j y e
  nd := fun j k b b' e1 e2 ne => by
    rw [getset l] at e1 e2
    rw [getset (by rw [z.len]; exact l), getset (by rw [z.len]; exact l)]
    by_cases q : i = j
    · by_cases q' : i = k
      · exact absurd (q.symm.trans q') ne
      · rw [if_neg q'] at e2
        rw [if_pos q, if_neg q']
        exact fun h => ns k b' e2 h.symm
    · rw [if_neg q] at e1
      by_cases q' : i = k
      · rw [if_neg q, if_pos q']
        exact fun h => ns j b e1 h
      · rw [if_neg q'] at e2
        rw [if_neg q, if_neg q']
        exact z.nd j k b b' e1 e2 ne
end
section
variable {K : PySem.W.Frag} {P : Option Addr} {Z : Bas} {ρ : List Sx} {te : TE} {tt : TT} {ti : TI} {g : TG} {m i : Nat} {vs : List Nat} {φ : D → List Sx → Nat → Prop} {nx bk ct : List Sx → Nat → Prop} {rt : D → Nat → Prop}
/-- what a turn of a comprehension asks -/
def LcS (K : PySem.W.Frag) (P : Option Addr) (Z : Bas) (g : TG) (tt : TT) (te : TE) (js : List Nat) (r1 : List Sx) : D → Nat → (Option D → Nat → Prop) → Prop := fun d m2 κ =>
  ∃ es, EvG K g js d es ∧ EtM K P Z tt (setR r1 js es) m2 fun b r2 m3 => r2 = setR r1 js es ∧ (b = true → EvM K P Z te r2 m3 fun y r3 m4 => r3 = setR r1 js es ∧ κ (some y) m4) ∧ (b = false → κ none m3)
theorem lc_run (js : List Nat) (hj : ∀ j ∈ js, j ∈ vs) {ψ : List Sx → List D → Nat → Prop} (h : EiM K P Z ti ρ m fun ds r1 m1 => UnAt r1 vs ∧ ds.length ≤ 1000000 ∧ LcM (LcS K P Z g tt te js r1) (ψ r1) ds [] m1)
    {M0 G M H : Hp} {σ : L2.St} {Q : VK} (a : At K P Z M0 m G M H σ ρ) (l : m ≤ BIG)
    (q : ∀ D r1 m1 G1 M1 H1 va acc, Step G M H G1 M1 H1 → At K P Z M0 m1 G1 M1 H1 σ r1 → m1 ≤ BIG → M1 D = some (.lst va) → DVs K G1 va acc → M0 D = none → P ≠ some D → NoSlot σ r1 D → ψ r1 acc m1 → Q (.ref D) H1) :
    tLc ti g tt te vs σ H Q := by
  refine h M0 σ G M H _ a l fun J ds r1 m1 G1 M1 H1 s1 a1 l1 p1 W D hD => ?_
  obtain ⟨un, few, lc⟩ := p1
  obtain ⟨GG, YY, w, hG, hY⟩ := W.ex
  have hp := a1.offP hD
  have n0 := a1.m0 hD
  have ns0 := a1.noSlot hD
  have ns := ns0.wipe un
  have eR := wipeR_un un
  have aw := a1.wipe vs
  rw [eR] at aw
  refine lc_it w (fun i H' => ∃ (m' : Nat) (G' M' : Hp) (va : List V) (acc : List Tp.D), Step G1 M1 H1 G' M' H' ∧ At K P Z M0 m' G' M' H' (L2.wipe σ vs) r1 ∧ m' ≤ BIG ∧ M' D = some (.lst va) ∧ DVs K G' va acc ∧ acc.length ≤ i ∧ LcM (LcS K P Z g tt te js r1) (ψ r1) (ds.drop i) acc m') ?_ ?_ ?_ ?_
  · refine ⟨m1, G1, upd M1 D (.lst []), [], [], Step.own aw.sep hD, ?_, l1, upd_same, .nil, Nat.le_refl _, lc⟩
    refine aw.go (Step.own aw.sep hD) (fun p e => ?_) fun b o _ z => ?_
    · rw [upd_ne fun q => hp (by rw [← q]; exact e)]
      exact aw.pot p e
    · rw [upd_ne (some_ne z (aw.sep.free hD).2)]
      exact z
  · rintro i H' _ ⟨m', G', M', va, acc, s', a', _⟩
    exact hG H' (s'.gg.trans a'.sep.g)
  · rintro i x H' H'' hlt ⟨m', G', M', va, acc, s', a', l', hM, hv, la, iv⟩ y
    obtain ⟨d, G'', e, st, dv⟩ := hY i G' M' H' x H'' hlt s'.gg a'.sep y
    have e5 : ds.drop i = d :: ds.drop (i + 1) := by
      rw [List.drop_eq_getElem_cons hlt]
      congr 1
      exact (List.getElem?_eq_some_iff.mp e).2
    rw [e5] at iv
    obtain ⟨es, hg, ht⟩ := iv
    refine hg x _ G'' H'' _ st.s.g dv fun ws _ hws => ⟨wipe_setL js ws _ hj |>.trans (wipe_wipe σ fun v hv => hv) |>.trans rfl, ?_⟩
    have a2 := ((a'.frame hp ns hM).pure st).setL (js := js) (fun j h => (List.getElem?_eq_some_iff.mp (un j (hj j h))).1) hws
    refine ht (upd M0 D (.lst va)) _ G'' M' H'' _ a2 l' fun b r2 m3 G3 M3 H3 s3 a3 l3 p3 => ?_
    obtain ⟨er, p3⟩ := p3
    subst er
    have out : ∀ {c : Nat} {Gx Mx Hx : Hp}, Step G'' M' H'' Gx Mx Hx → At K P Z (upd M0 D (.lst va)) c Gx Mx Hx (setL (L2.wipe σ vs) js ws) (setR r1 js es) → Step G1 M1 H1 Gx Mx Hx ∧ At K P Z M0 c Gx Mx Hx (L2.wipe σ vs) r1 ∧ Mx D = some (.lst va) := fun sx ax =>
      ⟨(s'.trans st).trans sx, (ax.back un hj).unframe n0 a.bm, ax.fr D _ hp upd_same⟩
    cases b with
    | false =>
      rw [if_neg Bool.false_ne_true]
      obtain ⟨x1, x2, x3⟩ := out s3 a3
      have z := p3.2 rfl
      refine ⟨m3, G3, M3, va, acc, x1, x2, l3, x3, hv.mono (st.gg.trans s3.gg), Nat.le_succ_of_le la, ?_⟩
      have z' : LcM (LcS K P Z g tt te js r1) (ψ r1) (ds.drop (i + 1)) (acc ++ []) m3 := z
      rw [List.append_nil] at z'
      exact z'
    | true =>
      rw [if_pos rfl]
      refine p3.1 rfl (upd M0 D (.lst va)) _ G3 M3 H3 _ a3 l3 fun v de r3 m4 G4 M4 H4 s4 a4 l4 p4 v4 => ?_
      obtain ⟨er, p4⟩ := p4
      subst er
      obtain ⟨x1, x2, x3⟩ := out (s3.trans s4) a4
      refine ⟨va, x2.sep.m _ _ x3, ?_, m4, G4, upd M4 D (.lst (va ++ [v])), va ++ [v], acc ++ [de], x1.trans (Step.put x2.sep x3), ?_, l4, upd_same, ?_, ?_, p4⟩
      · rw [hv.length]
        exact Nat.lt_of_le_of_lt (Nat.le_trans la (Nat.le_trans (Nat.le_of_lt hlt) few)) (by decide)
      · exact x2.put hp n0 ns x3
      · exact (hv.mono ((st.gg.trans s3.gg).trans s4.gg)).snoc v4
      · rw [List.length_append]
        exact Nat.succ_le_succ la
  · rintro H' ⟨m', G', M', va, acc, s', a', l', hM, hv, la, iv⟩
    rw [List.drop_length] at iv
    have ns2 : NoSlot σ r1 D := ns0
    exact q D r1 m' G' M' H' va acc (s1.trans s') (a'.unwipe un) l' hM hv n0 hp ns2 iv
theorem evm_lc (js : List Nat) (hj : ∀ j ∈ js, j ∈ vs) (h : EiM K P Z ti ρ m fun ds r1 m1 => UnAt r1 vs ∧ ds.length ≤ 1000000 ∧ LcM (LcS K P Z g tt te js r1) (fun acc m2 => φ (.lst acc) r1 m2) ds [] m1) : EvM K P Z (tLc ti g tt te vs) ρ m φ := fun M0 σ G M H Q a l q =>
  lc_run (ψ := fun r1 acc m2 => φ (.lst acc) r1 m2) js hj h a l fun D r1 m1 G1 M1 H1 va acc s1 a1 l1 hM hv n0 hp ns z =>
    q _ (.lst acc) r1 m1 _ _ _ (s1.trans (Step.share a1.sep hM)) (a1.share hp n0 ns hM) l1 z (.lst upd_same (hv.mono (Step.share a1.sep hM).gg))
/-- found = [.. for ..], to be changed later -/
theorem esm_lcO (js : List Nat) (hj : ∀ j ∈ js, j ∈ vs) (h : EiM K P Z ti ρ m fun ds r1 m1 => UnAt r1 vs ∧ ds.length ≤ 1000000 ∧ LcM (LcS K P Z g tt te js r1) (fun acc m2 => i < r1.length ∧ nx (r1.set i (.own (.lst acc))) m2) ds [] m1) : EsM K P Z (tAsg (tLc ti g tt te vs) (gName i)) ρ m nx bk ct rt := fun M0 σ G M H E a l q1 _ _ _ =>
  lc_run (ψ := fun r1 acc m2 => i < r1.length ∧ nx (r1.set i (.own (.lst acc))) m2) js hj h a l fun D r1 m1 G1 M1 H1 va acc s1 a1 l1 hM hv n0 hp ns z =>
    q1 _ _ m1 _ _ _ s1 (a1.adopt (b := .lst acc) z.1 n0 hp ns hM ⟨va, rfl, hv⟩) l1 z.2
/-- the turns told by a function: each item kept, as F says -/
theorem lcm_map {step : D → Nat → (Option D → Nat → Prop) → Prop} {ψ : List D → Nat → Prop} (F : D → D) : ∀ {ds : List D} {acc : List D} {m : Nat}, (∀ d ∈ ds, ∀ κ : Option D → Nat → Prop, κ (some (F d)) m → step d m κ) → ψ (acc ++ ds.map F) m → LcM step ψ ds acc m
  | [], acc, m, _, q => by
    rw [List.map_nil, List.append_nil] at q
    exact q
  | d :: ds, acc, m, h, q => h d (.head _) _ (by
    refine lcm_map F (fun d' hd => h d' (.tail _ hd)) ?_
    rw [List.map_cons] at q
    show ψ (acc ++ [F d] ++ _) m
    rw [List.append_assoc]
    exact q)
/-- .. by a function that may leave items out -/
theorem lcm_filter {step : D → Nat → (Option D → Nat → Prop) → Prop} {ψ : List D → Nat → Prop} (F : D → Option D) : ∀ {ds : List D} {acc : List D} {m : Nat}, (∀ d ∈ ds, ∀ κ : Option D → Nat → Prop, κ (F d) m → step d m κ) → ψ (acc ++ ds.filterMap F) m → LcM step ψ ds acc m
  | [], acc, m, _, q => by
    rw [List.filterMap_nil, List.append_nil] at q
    exact q
  | d :: ds, acc, m, h, q => h d (.head _) _ (by
    refine lcm_filter F (fun d' hd => h d' (.tail _ hd)) ?_
    rw [List.append_assoc]
    cases e : F d with
    | none =>
      rw [List.filterMap_cons_none e] at q
      exact q
    | some y =>
      rw [List.filterMap_cons_some e] at q
      exact q)
/-- .. with draws: at most k in each turn, what is made related to the item -/
theorem lcm_rel {step : D → Nat → (Option D → Nat → Prop) → Prop} {ψ : List D → Nat → Prop} (k : Nat) (R : D → D → Prop) : ∀ {ds : List D} {acc : List D} {m : Nat}, m + ds.length * k ≤ BIG → (∀ d ∈ ds, ∀ n, n + k ≤ BIG → ∀ κ : Option D → Nat → Prop, (∀ e, R d e → κ (some e) (n + k)) → step d n κ) →
    (∀ es, All2 R ds es → ψ (acc ++ es) (m + ds.length * k)) → LcM step ψ ds acc m
  | [], acc, m, _, _, q => by
    have z := q [] .nil
    rw [List.length_nil, Nat.zero_mul, Nat.add_zero, List.append_nil] at z
    exact z
  | d :: ds, acc, m, l, h, q => by
    have e1 : (d :: ds).length * k = k + ds.length * k := by rw [List.length_cons, Nat.add_mul, Nat.one_mul, Nat.add_comm]
    refine h d (.head _) m (by omega) _ fun e he => ?_
    refine lcm_rel k R (by omega) (fun d' hd => h d' (.tail _ hd)) fun es z => ?_
    have w := q (e :: es) (.cons he z)
    rw [e1, ← Nat.add_assoc] at w
    show ψ (acc ++ [e] ++ es) _
    rw [List.append_assoc]
    exact w
end
end Tp

/-! # Operations by steps -/
namespace Tp
open PySem PySem.Spec PyProof.Rows L2
abbrev rLtS : R2 := fun x y H Q => ∃ i j, x = V.str i ∧ y = V.str j ∧ Q (V.bl (decide (i.cps.toList < j.cps.toList))) H
abbrev rLeS : R2 := fun x y H Q => ∃ i j, x = V.str i ∧ y = V.str j ∧ Q (V.bl !decide (j.cps.toList < i.cps.toList)) H
abbrev rLt2 : R2 := orR (rI0 fun i j => .bl (decide (i < j))) rLtS
abbrev rLe2 : R2 := orR (rI0 fun i j => .bl (decide (i ≤ j))) rLeS
section
variable {X : Cx} {a b c e : Expr} {p pos : Pos} {r r' : R2} {es rest : List Expr}
theorem op_lt2 : OpR X (compareOp .Lt) rLt2 := op_lt.or op_lt_str
theorem op_le2 : OpR X (compareOp .LtE) rLe2 := op_le.or op_le_str
abbrev de_lt2 (ha : DE X a) (hb : DE X b) (hm : behindInMarks .Lt b = false := by rfl) : DE X (.Compare a [.Lt] [b] pos) := de_cmp op_lt2 ha hb hm
abbrev de_le2 (ha : DE X a) (hb : DE X b) (hm : behindInMarks .LtE b = false := by rfl) : DE X (.Compare a [.LtE] [b] pos) := de_cmp op_le2 ha hb hm
abbrev dt_lt2 (ha : DE X a) (hb : DE X b) (hm : behindInMarks .Lt b = false := by rfl) : DT X (.Compare a [.Lt] [b] pos) := dt_cmp op_lt2 ha hb hm
abbrev dt_le2 (ha : DE X a) (hb : DE X b) (hm : behindInMarks .LtE b = false := by rfl) : DT X (.Compare a [.LtE] [b] pos) := dt_cmp op_le2 ha hb hm
abbrev de_ch {op op' : CmpOp} (h1 : OpR X (compareOp op) r) (h2 : OpR X (compareOp op') r') (ha : DE X a) (hb : DE X b) (hc : DE X c) (hm : lastMarks [op, op'] [b, c] = false := by rfl) : DE X (.Compare a [op, op'] [b, c] pos) := ⟨tChain r r' ha.1 hb.1 hc.1, pe_chain h1 h2 ha.2 hb.2 hc.2 hm⟩
abbrev dt_ch {op op' : CmpOp} (h1 : OpR X (compareOp op) r) (h2 : OpR X (compareOp op') r') (ha : DE X a) (hb : DE X b) (hc : DE X c) (hm : lastMarks [op, op'] [b, c] = false := by rfl) : DT X (.Compare a [op, op'] [b, c] pos) := ⟨tTest (tChain r r' ha.1 hb.1 hc.1), pt_chain h1 h2 ha.2 hb.2 hc.2 hm⟩
abbrev de_chll (ha : DE X a) (hb : DE X b) (hc : DE X c) (hm : lastMarks [.LtE, .LtE] [b, c] = false := by rfl) : DE X (.Compare a [.LtE, .LtE] [b, c] pos) := de_ch op_le2 op_le2 ha hb hc hm
abbrev dt_chll (ha : DE X a) (hb : DE X b) (hc : DE X c) (hm : lastMarks [.LtE, .LtE] [b, c] = false := by rfl) : DT X (.Compare a [.LtE, .LtE] [b, c] pos) := dt_ch op_le2 op_le2 ha hb hc hm
/-- either reading -/
theorem pe_or2 {t u : TE} (h : PE X a t) (k : PE X a u) : PE X a (fun σ H Q => t σ H Q ∨ u σ H Q) := ⟨fun pins s σ H Q I z => z.elim (h.run pins s σ H Q I) (k.run pins s σ H Q I)⟩
def tOr2 (t u : TE) : TE := fun σ H Q => t σ H Q ∨ u σ H Q
abbrev tInQ (K : PySem.W.Frag) (neg : Bool) (ta tb : TE) : TE := tOp (rIn K neg) ta tb
abbrev de_in (hu : X.A.units + 1 < cLine) (ha : DE X a) (hb : DE X b) (hm : behindInMarks .In b = false := by rfl) : DE X (.Compare a [.In] [b] pos) := ⟨tOr2 (tOp (rIn X.K false) ha.1 hb.1) (tDIn ha.1 hb.1), pe_or2 (pe_cmpR op_in_seq ha.2 hb.2 hm) (pe_cmp (pc_din hu ha.2 hb.2) hm)⟩
abbrev de_nin (hu : X.A.units + 1 < cLine) (ha : DE X a) (hb : DE X b) (hm : behindInMarks .NotIn b = false := by rfl) : DE X (.Compare a [.NotIn] [b] pos) := ⟨tOr2 (tOp (rIn X.K true) ha.1 hb.1) (tDNotIn ha.1 hb.1), pe_or2 (pe_cmpR op_notIn_seq ha.2 hb.2 hm) (pe_cmp (pc_dnotin hu ha.2 hb.2) hm)⟩
theorem pt_or2 {t u : TT} (h : PT X a t) (k : PT X a u) : PT X a (fun σ H Q => t σ H Q ∨ u σ H Q) := ⟨fun pins s σ H Q I z => z.elim (h.run pins s σ H Q I) (k.run pins s σ H Q I)⟩
def tOr2T (t u : TT) : TT := fun σ H Q => t σ H Q ∨ u σ H Q
abbrev dt_in (hu : X.A.units + 1 < cLine) (ha : DE X a) (hb : DE X b) (hm : behindInMarks .In b = false := by rfl) : DT X (.Compare a [.In] [b] pos) := ⟨tOr2T (tTest (tOp (rIn X.K false) ha.1 hb.1)) (tTest (tDIn ha.1 hb.1)), pt_or2 (pt_cmpR op_in_seq ha.2 hb.2 hm) (pt_cmp (pc_din hu ha.2 hb.2) hm)⟩
abbrev dt_nin (hu : X.A.units + 1 < cLine) (ha : DE X a) (hb : DE X b) (hm : behindInMarks .NotIn b = false := by rfl) : DT X (.Compare a [.NotIn] [b] pos) := ⟨tOr2T (tTest (tOp (rIn X.K true) ha.1 hb.1)) (tTest (tDNotIn ha.1 hb.1)), pt_or2 (pt_cmpR op_notIn_seq ha.2 hb.2 hm) (pt_cmp (pc_dnotin hu ha.2 hb.2) hm)⟩
/-- a global name with a value of the written part -/
structure GlV (mg : Str → Option Value) (x : Str) (v : V) : Prop where
  ex : ∃ u, mg x = some u ∧ RelV v u
theorem pe_gl {x : Str} {v : V} (h : GlV X.mg x v) (hg : Gl X x) (hd : (x == ("__debug__" : Str)) = false := by decide) : PE X (.Name x pos) (tC v) := by
  obtain ⟨u, e, r⟩ := h.ex
  exact pe_glob hg e r hd
abbrev de_gl {x : Str} {v : V} (h : GlV X.mg x v) (hg : Gl X x) (hd : (x == ("__debug__" : Str)) = false := by decide) : DE X (.Name x pos) := ⟨tC v, pe_gl h hg hd⟩
theorem bo_str : bootBuiltins ("str" : Str) = some (.type "str") := by decide +kernel
theorem bo_tuple : bootBuiltins ("tuple" : Str) = some (.type "tuple") := by decide +kernel
theorem bo_list : bootBuiltins ("list" : Str) = some (.type "list") := by decide +kernel
theorem bo_sum : bootBuiltins ("sum" : Str) = some (.builtin "sum") := by decide +kernel
theorem bo_sorted : bootBuiltins ("sorted" : Str) = some (.builtin "sorted") := by decide +kernel
abbrev de_strT (hg : Gl X "str") (hm : X.mg ("str" : Str) = none) : DE X (.Name "str" pos) := ⟨tC (.ty "str"), pe_bltn hg hm bo_str rfl (by decide) (by decide)⟩
/-- isinstance of data, of an error or of a value -/
abbrev de_isi2 (hm : X.mg ("isinstance" : Str) = none) (hg : Gl X "isinstance") (ha : DA X (e :: es)) (he : starEach (e :: es) X.env = (false, eval e X.env) :: starEach es X.env := by rfl) (hpl : (backTo pos (starEach es X.env)).any (·.1) = false := by rfl) : DE X (.Call (.Name "isinstance" p) (e :: es) [] pos) := de_callB call_isi hg hm bo_isi ha nn_isi nd_isi he hpl
abbrev de_f_tuple (hm : X.mg ("tuple" : Str) = none) (hg : Gl X "tuple") (ha : DA X (e :: es)) (he : starEach (e :: es) X.env = (false, eval e X.env) :: starEach es X.env := by rfl) (hpl : (backTo pos (starEach es X.env)).any (·.1) = false := by rfl) : DE X (.Call (.Name "tuple" p) (e :: es) [] pos) := de_callT call_tuple_of hg hm bo_tuple ha (by decide) (by decide) he hpl
abbrev de_f_list (hm : X.mg ("list" : Str) = none) (hg : Gl X "list") (ha : DA X (e :: es)) (he : starEach (e :: es) X.env = (false, eval e X.env) :: starEach es X.env := by rfl) (hpl : (backTo pos (starEach es X.env)).any (·.1) = false := by rfl) : DE X (.Call (.Name "list" p) (e :: es) [] pos) := de_callT call_list_of hg hm bo_list ha (by decide) (by decide) he hpl
abbrev de_f_sum (hc : X.calm = true) (hm : X.mg ("sum" : Str) = none) (hg : Gl X "sum") (ha : DA X (e :: es)) (he : starEach (e :: es) X.env = (false, eval e X.env) :: starEach es X.env := by rfl) (hpl : (backTo pos (starEach es X.env)).any (·.1) = false := by rfl) : DE X (.Call (.Name "sum" p) (e :: es) [] pos) := de_callB (cr_sum hc) hg hm bo_sum ha (by decide) (by decide) he hpl
abbrev de_f_sorted (hm : X.mg ("sorted" : Str) = none) (hg : Gl X "sorted") (ha : DA X (e :: es)) (he : starEach (e :: es) X.env = (false, eval e X.env) :: starEach es X.env := by rfl) (hpl : (backTo pos (starEach es X.env)).any (·.1) = false := by rfl) : DE X (.Call (.Name "sorted" p) (e :: es) [] pos) := de_callB cr_sortedS hg hm bo_sorted ha (by decide) (by decide) he hpl
abbrev di_str {tg : Expr} (h : DE X e) : DI X tg e := ⟨iStr h.1, pi_str h.2⟩
/-- what is walked: a list, a tuple or a text -/
def iSeq (K : PySem.W.Frag) (te : TE) : TI := fun σ H R => iList K te σ H R ∨ iTup K te σ H R ∨ iStr te σ H R
theorem pi_seq {tg : Expr} {t : TE} (h : PE X e t) : PI X tg e (iSeq X.K t) := ⟨fun pins s σ H R I z => by
  rcases z with z | z | z
  · exact (pi_list h).run pins s σ H R I z
  · exact (pi_tup h).run pins s σ H R I z
  · exact (pi_str h).run pins s σ H R I z⟩
abbrev di_seq {tg : Expr} (h : DE X e) : DI X tg e := ⟨iSeq X.K h.1, pi_seq h.2⟩
end
end Tp

/-! # What operations make of data, by steps -/
namespace Tp
open PySem PySem.Spec PyProof.Rows L2
section
variable {K : PySem.W.Frag} {P : Option Addr} {Z : Bas} {r r' : R2} {a b c d : D} {ψ : D → Prop} {i j : Int} {x y : Str} {xs ys : List D} {ss : List Str}
theorem ow (h : OpD K r a b (· = c)) (q : ψ c) : OpW K r a b ψ := ⟨_, h, fun d e => e ▸ q⟩
theorem cw {rr : List V → Hp → VK → Prop} {as : List D} (h : CallD K rr as (· = c)) (q : ψ c) : CaW K rr as ψ := ⟨_, h, fun d e => e ▸ q⟩
theorem mw {rr : V → List V → Hp → VK → Prop} {as : List D} (h : MethD K rr a as (· = c)) (q : ψ c) : MeW K rr a as ψ := ⟨_, h, fun d e => e ▸ q⟩
theorem ow_addI (q : ψ (.int (i + j))) : OpW K (rAdd1 K) (.int i) (.int j) ψ := ow od_add q
theorem ow_addS (l : x.length + y.length ≤ 1000000) (q : ψ (.str (x ++ y))) : OpW K (rAdd1 K) (.str x) (.str y) ψ := ow (od_addS l) q
theorem ow_addL (l : xs.length + ys.length ≤ 1000000) (q : ψ (.lst (xs ++ ys))) : OpW K (rAdd1 K) (.lst xs) (.lst ys) ψ := ow (od_addL l) q
theorem ow_addT (l : xs.length + ys.length ≤ 1000000) (q : ψ (.tup (xs ++ ys))) : OpW K (rAdd1 K) (.tup xs) (.tup ys) ψ := ow (od_addT l) q
theorem ow_subI (q : ψ (.int (i - j))) : OpW K (rI0 fun i j => .int (i - j)) (.int i) (.int j) ψ := ow od_sub q
theorem ow_mulI (h : CMulW i j) (q : ψ (.int (i * j))) : OpW K rMul1 (.int i) (.int j) ψ := ow (od_mul h) q
theorem ow_modI (h : 0 < j) (q : ψ (.int (i % j))) : OpW K (rI (fun _ j => 0 < j) fun i j => .int (i % j)) (.int i) (.int j) ψ := ow (od_mod h) q
theorem ow_fdivI (h : CDivW i j) (q : ψ (.int (i / j))) : OpW K (rI CDivW fun i j => .int (i / j)) (.int i) (.int j) ψ := ow (od_fdiv h) q
theorem ow_ltI (q : ψ (.bl (decide (i < j)))) : OpW K rLt2 (.int i) (.int j) ψ := ow (OpD.inl od_lt) q
theorem ow_leI (q : ψ (.bl (decide (i ≤ j)))) : OpW K rLe2 (.int i) (.int j) ψ := ow (OpD.inl od_le) q
theorem ow_lt0I (q : ψ (.bl (decide (i < j)))) : OpW K (rI0 fun i j => .bl (decide (i < j))) (.int i) (.int j) ψ := ow od_lt q
theorem ow_gtI (q : ψ (.bl (decide (j < i)))) : OpW K (rI0 fun i j => .bl (decide (j < i))) (.int i) (.int j) ψ := ow od_gt q
theorem ow_geI (q : ψ (.bl (decide (j ≤ i)))) : OpW K (rI0 fun i j => .bl (decide (j ≤ i))) (.int i) (.int j) ψ := ow od_ge q
theorem od_leS : OpD K rLeS (.str x) (.str y) (· = .bl !decide (y.cps.toList < x.cps.toList)) := fun u v G M H Q s ha hb q => by
  cases ha
  cases hb
  exact ⟨x, y, rfl, rfl, q _ _ G H (Step.refl s) rfl (.bl _)⟩
theorem ow_leS (q : ψ (.bl !decide (y.cps.toList < x.cps.toList))) : OpW K rLe2 (.str x) (.str y) ψ := ow (OpD.inr od_leS) q
theorem ow_eqI (q : ψ (.bl (decide (i = j)))) : OpW K (rEq1 K) (.int i) (.int j) ψ := ow od_eqI q
theorem ow_eqS (q : ψ (.bl (decide (x = y)))) : OpW K (rEq1 K) (.str x) (.str y) ψ := ow od_eqS q
theorem ow_eqB {x y : Bool} (q : ψ (.bl (decide (x = y)))) : OpW K (rEq1 K) (.bl x) (.bl y) ψ := ow od_eqB q
theorem ow_neI (q : ψ (.bl (!decide (i = j)))) : OpW K (rNe1 K) (.int i) (.int j) ψ := ow od_neI q
theorem ow_neS (q : ψ (.bl (!decide (x = y)))) : OpW K (rNe1 K) (.str x) (.str y) ψ := ow od_neS q
theorem ow_ixL (h : L2.atI xs i = some d) (q : ψ d) : OpW K (rIx K) (.lst xs) (.int i) ψ := ow (od_ixL h) q
theorem ow_ixT (h : L2.atI xs i = some d) (q : ψ d) : OpW K (rIx K) (.tup xs) (.int i) ψ := ow (od_ixT h) q
theorem inV_strs {w : Str} : ∀ {ss : List Str}, inV (.str w) (ss.map V.str) = ss.contains w
  | [] => rfl
  | s :: ss => by
    have ih := inV_strs (w := w) (ss := ss)
    unfold inV at ih ⊢
    rw [List.map_cons, List.any_cons, ih, List.contains_cons]
    congr 1
    show (s == w) = (w == s)
    exact Bool.beq_comm
theorem flat_strs : ∀ {ss : List Str}, (ss.map V.str).all flatV = true
  | [] => rfl
  | s :: ss => by
    rw [List.map_cons, List.all_cons, flat_strs]
    rfl
theorem od_inT {neg : Bool} : OpD K (rIn K neg) (.str x) (.tup (ss.map D.str)) (· = .bl (if neg then !ss.contains x else ss.contains x)) := fun u v G M H Q s ha hb q => by
  cases ha
  cases hb with
  | tup h1 k1 =>
    have e := k1.strs
    subst e
    refine ⟨_, _, rfl, .inr (s.g.sqTd h1), rfl, flat_strs, ?_⟩
    rw [inV_strs]
    exact q _ _ G H (Step.refl s) rfl (.bl _)
theorem od_inL {neg : Bool} : OpD K (rIn K neg) (.str x) (.lst (ss.map D.str)) (· = .bl (if neg then !ss.contains x else ss.contains x)) := fun u v G M H Q s ha hb q => by
  cases ha
  cases hb with
  | lst h1 k1 =>
    have e := k1.strs
    subst e
    refine ⟨_, _, rfl, .inl (sq_of' (s.g _ _ h1)), rfl, flat_strs, ?_⟩
    rw [inV_strs]
    exact q _ _ G H (Step.refl s) rfl (.bl _)
theorem ow_inT (q : ψ (.bl (ss.contains x))) : OpW K (rIn K false) (.str x) (.tup (ss.map D.str)) ψ := ow od_inT q
theorem ow_ninT (q : ψ (.bl (!ss.contains x))) : OpW K (rIn K true) (.str x) (.tup (ss.map D.str)) ψ := ow od_inT q
theorem ow_inL (q : ψ (.bl (ss.contains x))) : OpW K (rIn K false) (.str x) (.lst (ss.map D.str)) ψ := ow od_inL q
theorem ow_ninL (q : ψ (.bl (!ss.contains x))) : OpW K (rIn K true) (.str x) (.lst (ss.map D.str)) ψ := ow od_inL q
/-! ### calls of built-ins -/
theorem cw_lenL (q : ψ (.int (xs.length : Nat))) : CaW K (rLen1 K) [.lst xs] ψ := cw cd_lenL q
theorem cw_lenT (q : ψ (.int (xs.length : Nat))) : CaW K (rLen1 K) [.tup xs] ψ := cw cd_lenT q
theorem cw_lenS (l : x.length ≤ 1000000) (q : ψ (.int (x.length : Nat))) : CaW K (rLen1 K) [.str x] ψ := cw (cd_lenS l) q
theorem cw_int (q : ψ (.int i)) : CaW K rInt1 [.int i] ψ := cw cd_int q
theorem cw_all {bs : List Bool} (q : ψ (.bl (bs.all id))) : CaW K (rAll K) [.lst (bs.map .bl)] ψ := cw cd_all q
theorem cw_any {bs : List Bool} (q : ψ (.bl (bs.any id))) : CaW K (rAny K) [.lst (bs.map .bl)] ψ := cw cd_any q
abbrev rTupOf (K : PySem.W.Frag) : List V → Hp → VK → Prop := fun xs H Q => ∃ p ys, xs = [V.ref p] ∧ ((SqL K H p ys ∧ ∀ (l : Addr), H l = none → Q (V.ref l) (upd H l (HO.tup ys))) ∨ SqT K H p ys ∧ Q (V.ref p) H)
abbrev rLstOf (K : PySem.W.Frag) : List V → Hp → VK → Prop := fun xs H Q => ∃ p ys, xs = [V.ref p] ∧ (SqL K H p ys ∨ SqT K H p ys) ∧ ∀ (l : Addr), H l = none → Q (V.ref l) (upd H l (HO.lst ys))
theorem cw_tupL (q : ψ (.tup xs)) : CaW K (rTupOf K) [.lst xs] ψ := cw (c := .tup xs) (fun vs G M H Q s h f => by
  cases h with
  | cons h k =>
    cases k
    cases h with
    | lst h1 k1 => exact ⟨_, _, rfl, .inl ⟨sq_of' (s.g _ _ h1), fun l n => f _ _ _ _ (Step.new s n) rfl (new_tup s n k1)⟩⟩) q
theorem cw_lstL (q : ψ (.lst xs)) : CaW K (rLstOf K) [.lst xs] ψ := cw (c := .lst xs) (fun vs G M H Q s h f => by
  cases h with
  | cons h k =>
    cases k
    cases h with
    | lst h1 k1 => exact ⟨_, _, rfl, .inl (sq_of' (s.g _ _ h1)), fun l n => f _ _ _ _ (Step.new s n) rfl (new_lst s n k1)⟩) q
theorem cw_lstT (q : ψ (.lst xs)) : CaW K (rLstOf K) [.tup xs] ψ := cw (c := .lst xs) (fun vs G M H Q s h f => by
  cases h with
  | cons h k =>
    cases k
    cases h with
    | tup h1 k1 => exact ⟨_, _, rfl, .inr (s.g.sqTd h1), fun l n => f _ _ _ _ (Step.new s n) rfl (new_lst s n k1)⟩) q
end
section
variable {K : PySem.W.Frag} {P : Option Addr} {Z : Bas} {ρ : List Sx} {ta tb tc te : TE} {tt tu : TT} {tr : TA} {ti : TI} {m : Nat} {φ : D → List Sx → Nat → Prop} {β : Bool → List Sx → Nat → Prop} {α : List D → List Sx → Nat → Prop} {r r' : R2} {ds : List D} {x : Str}
theorem evm_chain (h : EvM K P Z ta ρ m fun a r1 m1 => EvM K P Z tb r1 m1 fun b r2 m2 => OpW K r a b fun z => ∃ k, z = .bl k ∧ (k = true → EvM K P Z tc r2 m2 fun c r3 m3 => OpW K r' b c fun d => φ d r3 m3) ∧ (k = false → φ (.bl false) r2 m2)) : EvM K P Z (tChain r r' ta tb tc) ρ m φ := fun M0 σ G M H Q a l q => by
  refine h M0 σ G M H _ a l fun x d1 r1 m1 G1 M1 H1 s1 a1 l1 p1 v1 => ?_
  refine p1 M0 σ G1 M1 H1 _ a1 l1 fun y d2 r2 m2 G2 M2 H2 s2 a2 l2 p2 v2 => ?_
  obtain ⟨χ, h1, h2⟩ := p2
  refine h1 x y G2 M2 H2 _ a2.sep (v1.mono s2.gg) v2 fun z d3 G3 H3 s3 p3 v3 => ?_
  obtain ⟨k, rfl, k1, k2⟩ := h2 d3 p3
  cases v3
  refine ⟨k, rfl, ?_⟩
  cases k with
  | true =>
    rw [if_pos rfl]
    refine k1 rfl M0 σ G3 M2 H3 _ (a2.pure s3) l2 fun w d4 r4 m4 G4 M4 H4 s4 a4 l4 p4 v4 => ?_
    obtain ⟨χ', h3, h4⟩ := p4
    exact h3 y w G4 M4 H4 Q a4.sep ((v2.mono s3.gg).mono s4.gg) v4 fun z d5 G5 H5 s5 p5 v5 => q z d5 r4 m4 G5 M4 H5 ((((s1.trans s2).trans s3).trans s4).trans s5) (a4.pure s5) l4 (h4 d5 p5) v5
  | false =>
    rw [if_neg Bool.false_ne_true]
    exact q _ _ r2 m2 G3 M2 H3 ((s1.trans s2).trans s3) (a2.pure s3) l2 (k2 rfl) (.bl false)
theorem evm_inl (h : EvM K P Z ta ρ m φ) : EvM K P Z (tOr2 ta tb) ρ m φ := fun M0 σ G M H Q a l q => .inl (h M0 σ G M H Q a l q)
theorem evm_inr (h : EvM K P Z tb ρ m φ) : EvM K P Z (tOr2 ta tb) ρ m φ := fun M0 σ G M H Q a l q => .inr (h M0 σ G M H Q a l q)
theorem etm_inl (h : EtM K P Z tt ρ m β) : EtM K P Z (tOr2T tt tu) ρ m β := fun M0 σ G M H Q a l q => .inl (h M0 σ G M H Q a l q)
theorem etm_inr (h : EtM K P Z tu ρ m β) : EtM K P Z (tOr2T tt tu) ρ m β := fun M0 σ G M H Q a l q => .inr (h M0 σ G M H Q a l q)
def isStrD : D → Option Bool
  | .str _ => some true
  | .tup _ => some false
  | .lst _ => some false
  | _ => none
theorem evm_isStr (h : EvM K P Z te ρ m fun d r1 m1 => ∃ b, isStrD d = some b ∧ φ (.bl b) r1 m1) : EvM K P Z (tCB (rIsi K) (tCons te (tCons (tC (.ty "str")) tNil))) ρ m φ := fun M0 σ G M H Q a l q =>
  h M0 σ G M H _ a l fun v d r1 m1 G1 M1 H1 s1 a1 l1 p1 v1 => by
    obtain ⟨b, e, z⟩ := p1
    have fin := q (.bl b) (.bl b) r1 m1 G1 M1 H1 s1 a1 l1 z (.bl b)
    cases v1 with
    | str y =>
      cases e
      exact ⟨_, _, _, _, true, rfl, .ty _, .base (.str _), kit_ty (by decide +kernel), fin⟩
    | lst h1 h2 =>
      cases e
      exact ⟨_, _, _, _, false, rfl, .ty _, .base (.lst (s1.s.g _ _ h1)), kit_ty (by decide +kernel), fin⟩
    | tup h1 h2 =>
      cases e
      rcases s1.s.g.sqTd h1 with (h1 | ⟨o, h1⟩) | ⟨o, _, _, h3, h4, _⟩
      · exact ⟨_, _, _, _, false, rfl, .ty _, .base (.tup h1), kit_ty (by decide +kernel), fin⟩
      · exact ⟨_, _, _, _, false, rfl, .ty _, .fTuple h1, kit_ty (by decide +kernel), fin⟩
      · exact ⟨_, _, _, _, false, rfl, .ty _, .kTuple h3 h4, kit_ty (by decide +kernel), fin⟩
    | _ => cases e
/-! ### what is walked -/
theorem eim_list (h : EvM K P Z te ρ m fun d r1 m1 => ∃ ds, d = .lst ds ∧ α ds r1 m1) : EiM K P Z (iList K te) ρ m α := fun M0 σ G M H R a l q =>
  h M0 σ G M H _ a l fun v d r1 m1 G1 M1 H1 s1 a1 l1 p1 v1 => by
    obtain ⟨ds, rfl, hd⟩ := p1
    cases v1 with
    | @lst b xs _ h1 h2 =>
      refine ⟨b, rfl, ⟨_, sq_of' (s1.s.g _ _ h1)⟩, q _ ds r1 m1 G1 M1 H1 s1 a1 l1 hd ⟨_, _, by rw [← h2.length]; exact walk_list, fun H s => sq_of' (s _ _ h1), fun i G' M' H' x H'' hi s' sp y => ?_⟩⟩
      obtain ⟨rfl, e⟩ := y
      obtain ⟨d, e', hv⟩ := h2.at e
      exact ⟨d, G', e', Step.refl sp, hv.mono s'⟩
theorem eim_tup (h : EvM K P Z te ρ m fun d r1 m1 => ∃ ds, d = .tup ds ∧ α ds r1 m1) : EiM K P Z (iTup K te) ρ m α := fun M0 σ G M H R a l q =>
  h M0 σ G M H _ a l fun v d r1 m1 G1 M1 H1 s1 a1 l1 p1 v1 => by
    obtain ⟨ds, rfl, hd⟩ := p1
    cases v1 with
    | @tup b xs _ h1 h2 =>
      refine ⟨b, rfl, ⟨_, s1.s.g.sqTd h1⟩, q _ ds r1 m1 G1 M1 H1 s1 a1 l1 hd ⟨_, _, by rw [← h2.length]; exact walk_tup, fun H s => s.sqTd h1, fun i G' M' H' x H'' hi s' sp y => ?_⟩⟩
      obtain ⟨rfl, e⟩ := y
      obtain ⟨d, e', hv⟩ := h2.at e
      exact ⟨d, G', e', Step.refl sp, hv.mono s'⟩
theorem eim_str (h : EvM K P Z te ρ m fun d r1 m1 => ∃ z, d = .str z ∧ α (signsD z) r1 m1) : EiM K P Z (iStr te) ρ m α := fun M0 σ G M H R a l q =>
  h M0 σ G M H _ a l fun v d r1 m1 G1 M1 H1 s1 a1 l1 p1 v1 => by
    obtain ⟨z, rfl, hd⟩ := p1
    cases v1
    refine ⟨z, rfl, q _ (signsD z) r1 m1 G1 M1 H1 s1 a1 l1 hd ⟨fun _ => True, _, by rw [show (signsD z).length = z.cps.size by simp [signsD]]; exact walk_str, fun _ _ => trivial, fun i G' M' H' x H'' hi s' sp y => ?_⟩⟩
    obtain ⟨rfl, c, e, rfl⟩ := y
    exact ⟨.str ⟨#[c]⟩, G', by simp [signsD, e], Step.refl sp, .str _⟩
theorem eim_seqL (h : EvM K P Z te ρ m fun d r1 m1 => ∃ ds, d = .lst ds ∧ α ds r1 m1) : EiM K P Z (iSeq K te) ρ m α := fun M0 σ G M H R a l q => .inl (eim_list h M0 σ G M H R a l q)
theorem eim_seqT (h : EvM K P Z te ρ m fun d r1 m1 => ∃ ds, d = .tup ds ∧ α ds r1 m1) : EiM K P Z (iSeq K te) ρ m α := fun M0 σ G M H R a l q => .inr (.inl (eim_tup h M0 σ G M H R a l q))
theorem eim_seqS (h : EvM K P Z te ρ m fun d r1 m1 => ∃ z, d = .str z ∧ α (signsD z) r1 m1) : EiM K P Z (iSeq K te) ρ m α := fun M0 σ G M H R a l q => .inr (.inr (eim_str h M0 σ G M H R a l q))
theorem eim_range1 (h : EaM K P Z tr ρ m fun ds r1 m1 => ∃ n : Int, ds = [.int n] ∧ n ≤ 1000000 ∧ -1000000 ≤ n ∧ α (rangeD n.toNat) r1 m1) : EiM K P Z (iRng1 tr) ρ m α := fun M0 σ G M H R a l q =>
  h M0 σ G M H _ a l fun vs ds r1 m1 G1 M1 H1 s1 a1 l1 p1 v1 => by
    obtain ⟨n, rfl, h1, h2, h3⟩ := p1
    cases v1 with
    | cons hv hn =>
      cases hn
      cases hv
      refine ⟨n, rfl, by omega, by omega, q _ (rangeD n.toNat) r1 m1 G1 M1 H1 s1 a1 l1 h3 ⟨fun _ => True, _, by rw [rangeD_len]; exact walk_range, fun _ _ => trivial, fun i G' M' H' x H'' hi s' sp y => ?_⟩⟩
      obtain ⟨rfl, rfl⟩ := y
      rw [rangeD_len] at hi
      exact ⟨_, G', rangeD_at hi, Step.refl sp, by show DV K G' (.int (0 + (i : Int))) _; rw [Int.zero_add]; exact .int _⟩
end
end Tp

/-! # From a body, by steps, to the def's promise -/
namespace Tp
open PySem PySem.Spec PyProof.Rows L2
abbrev NoS : List Sx → Nat → Prop := fun _ _ => False
abbrev slots (N : List Str) (ds : List D) : List Sx := ds.map Sx.d ++ List.replicate (N.length - ds.length) .un
abbrev slotsP (N : List Str) (ds : List D) : List Sx := .pot :: (ds.map Sx.d ++ List.replicate (N.length - (ds.length + 1)) .un)
section
variable {K : PySem.W.Frag} {k : Nat} {pre : List D → Prop} {post : List D → D → Prop}
theorem bodyM_D {t : TS} {N : List Str} (l : ∀ ds, pre ds → ds.length ≤ N.length)
    (h : ∀ ds, pre ds → EsM K none Z0 t (slots N ds) 0 (fun _ _ => post ds .non) NoS NoS (fun d _ => post ds d)) {vs : List V} {H : Hp} {Q : VK} {E : XK} (z : spD K k pre post vs H Q E) :
    t { nx := fun _ H' => Q .non H', rt := Q } (L2.start N vs) H := by
  obtain ⟨G, M, ds, s, hv, hp, q⟩ := z
  refine h ds hp M _ G M H _ (at_start s PotM.no hv (l ds hp) trivial trivial) (by decide) (fun σ' ρ' m' G2 M2 H2 st a _ z => ?_) (fun _ _ _ _ _ _ _ _ _ z => z.elim) (fun _ _ _ _ _ _ _ _ _ z => z.elim) (fun v d σ' ρ' m' G2 M2 H2 st a _ z hv => ?_)
  · exact q .non .non G2 H2 (st.drop fun b o hb => a.fr b o (fun e => nomatch e) hb) z .non
  · exact q v d G2 H2 (st.drop fun b o hb => a.fr b o (fun e => nomatch e) hb) z hv
theorem bodyM_P {t : TS} {N : List Str} (l : ∀ ds, pre ds → ds.length + 1 ≤ N.length)
    (h : ∀ p ds m, pre ds → m + k ≤ BIG → EsM K (some p) Z0 t (slotsP N ds) m (fun _ n => n ≤ m + k ∧ post ds .non) NoS NoS (fun d n => n ≤ m + k ∧ post ds d)) {vs : List V} {H : Hp} {Q : VK} {E : XK} (z : spP K k pre post vs H Q E) :
    t { nx := fun _ H' => Q .non H', rt := Q } (L2.start N vs) H := by
  obtain ⟨p, us, G, M, m, ds, rfl, s, pm, ⟨o, ho⟩, lm, hv, hp, q⟩ := z
  have fin : ∀ {v : V} {d : D} {σ' : L2.St} {ρ' : List Sx} {n : Nat} {G2 M2 H2 : Hp}, Step G M H G2 M2 H2 → At K (some p) Z0 M n G2 M2 H2 σ' ρ' → n ≤ m + k → post ds d → DV K G2 v d → Q v H2 := fun {v d σ' ρ' n G2 M2 H2} st a ln z hv => by
    let M3 : Hp := fun b => if b = p then M2 b else M b
    have e3 : M3 p = M2 p := if_pos rfl
    have n3 : ∀ b, b ≠ p → M3 b = M b := fun b h => if_neg h
    have sm : Same M3 M2 := fun b o hb => by
      by_cases q : b = p
      · rw [q] at hb ⊢
        rw [← e3]
        exact hb
      · rw [n3 b q] at hb
        exact a.fr b o (fun e => q (Option.some.inj e).symm) hb
    refine q v d G2 M3 H2 (st.drop sm) (fun p' e => ?_) n3 z hv
    cases e
    rw [e3]
    exact (a.pot.mono ln) p rfl
  refine h p ds m hp lm M _ G M H _ (at_startP s pm hv (l ds hp) trivial trivial) (by omega) (fun σ' ρ' m' G2 M2 H2 st a _ z => fin st a z.1 z.2 .non) (fun _ _ _ _ _ _ _ _ _ z => z.elim) (fun _ _ _ _ _ _ _ _ _ z => z.elim) (fun v d σ' ρ' m' G2 M2 H2 st a _ z hv => fin st a z.1 z.2 hv)
theorem At.anyM {Z : Bas} {M0 G M H : Hp} {m n : Nat} {σ : L2.St} {ρ : List Sx} (a : At K none Z M0 m G M H σ ρ) : At K none Z M0 n G M H σ ρ := a.go (Step.refl a.sep) PotM.no fun _ _ _ z => z
variable {C : Addr} {postI : List D → List (Str × D) → Prop}
theorem bodyM_I {t : TS} {n : Str} {N : List Str} (l : ∀ ds, pre ds → ds.length ≤ N.length)
    (h : ∀ x ds, pre ds → EsM K none Z0 t (.own (.ins x C []) :: slots N ds) 0 (fun r _ => ∃ fs, r[0]? = some (.own (.ins x C fs)) ∧ postI ds fs) NoS NoS (fun _ _ => False)) {vs : List V} {H : Hp} {Q : VK} {E : XK} (z : spIni K C pre postI vs H Q E) :
    t { nx := fun _ H' => Q .non H', rt := Q } (L2.start (n :: N) vs) H :=
  body_I (pre := pre) (post := postI) l (fun x ds hp M0 σ G M H m E a l q1 q2 q3 q4 => h x ds hp M0 σ G M H E a.anyM (by decide) (fun σ' ρ' m' G2 M2 H2 s a _ z => q1 σ' ρ' G2 M2 H2 s a.anyM z) (fun _ _ _ _ _ _ _ _ _ z => False.elim z) (fun _ _ _ _ _ _ _ _ _ z => False.elim z) (fun _ _ _ _ _ _ _ _ _ _ _ z => False.elim z)) z
end
/-! ### a def's promise -/
section
variable {P : Program} {w : World} {K : PySem.W.Frag} {mg : Str → Option Value} {base : Heap} {x qual : Str} {st : Stmt} {f : Addr} {fd : FuncData} {N ps : List Str} {k kd : Nat} {pre : List D → Prop} {post : List D → D → Prop}
/-- the surroundings of a def's body -/
abbrev Xof (P : Program) (w : World) (K : PySem.W.Frag) (mg : Str → Option Value) (base : Heap) (N : List Str) (qual : Str) (st : Stmt) (f : Addr) (cdv : Value) (A : Around) (outer : List Env) (s : Shared) (H : Hp) (E : XK) : Cx :=
  (cxOf CX0 P w K mg base N qual (defScope st) f cdv A outer s H E).nox
theorem okMD (F : Fun K x qual st f fd) (S : FnScope N ps (defScope st)) (hl : ∀ ds, pre ds → ds.length = ps.length) (hn : ps.length ≤ N.length)
    (body : ∀ (cdv : Value) (A : Around) (outer : List Env) (s : Shared) (H : Hp) (E : XK), Room k (A.deeper (envOfC qual (defScope st) s.heap.objs.size f cdv)) → Quiet A → (A.deeper (envOfC qual (defScope st) s.heap.objs.size f cdv)).units + 64 < cLine → (A.deeper (envOfC qual (defScope st) s.heap.objs.size f cdv)).units + 1 < cLine →
      ∃ t, PSs (Xof P w K mg base N qual st f cdv A outer s H E) (defBody st) t ∧ ∀ ds, pre ds → EsM K none Z0 t (slots N ds) 0 (fun _ _ => post ds .non) NoS NoS (fun d _ => post ds d)) :
    FnG P w K mg base CX0 (k + 1) f fd ps (spD K kd pre post) := by
  refine okG0 F S (fun vs H Q E h => ?_) fun cdv A outer s H vs Q E hr gq h => ?_
  · obtain ⟨G, M, ds, _, hv, hp, _⟩ := h
    rw [hv.length, hl ds hp]
  · obtain ⟨t, ht, hb⟩ := body cdv A outer s H E hr gq hr.units (hu_of hr)
    exact ⟨t, ht, bodyM_D (fun ds hp => by rw [hl ds hp]; exact hn) hb h⟩
theorem okMP (F : Fun K x qual st f fd) (S : FnScope N ps (defScope st)) (hl : ∀ ds, pre ds → ds.length + 1 = ps.length) (hn : ps.length ≤ N.length)
    (body : ∀ (cdv : Value) (A : Around) (outer : List Env) (s : Shared) (H : Hp) (E : XK), Room k (A.deeper (envOfC qual (defScope st) s.heap.objs.size f cdv)) → Quiet A → (A.deeper (envOfC qual (defScope st) s.heap.objs.size f cdv)).units + 64 < cLine → (A.deeper (envOfC qual (defScope st) s.heap.objs.size f cdv)).units + 1 < cLine →
      ∃ t, PSs (Xof P w K mg base N qual st f cdv A outer s H E) (defBody st) t ∧ ∀ p ds m, pre ds → m + kd ≤ BIG → EsM K (some p) Z0 t (slotsP N ds) m (fun _ n => n ≤ m + kd ∧ post ds .non) NoS NoS (fun d n => n ≤ m + kd ∧ post ds d)) :
    FnG P w K mg base CX0 (k + 1) f fd ps (spP K kd pre post) := by
  refine okG0 F S (fun vs H Q E h => ?_) fun cdv A outer s H vs Q E hr gq h => ?_
  · obtain ⟨p, us, G, M, m, ds, rfl, _, _, _, _, hv, hp, _⟩ := h
    rw [List.length_cons, hv.length, hl ds hp]
  · obtain ⟨t, ht, hb⟩ := body cdv A outer s H E hr gq hr.units (hu_of hr)
    exact ⟨t, ht, bodyM_P (fun ds hp => by rw [hl ds hp]; exact hn) hb h⟩
theorem okMI {C : Addr} {n : Str} {postI : List D → List (Str × D) → Prop} (F : Fun K x qual st f fd) (S : FnScope (n :: N) ps (defScope st)) (hl : ∀ ds, pre ds → ds.length + 1 = ps.length) (hn : ps.length ≤ N.length + 1)
    (body : ∀ (cdv : Value) (A : Around) (outer : List Env) (s : Shared) (H : Hp) (E : XK), Room k (A.deeper (envOfC qual (defScope st) s.heap.objs.size f cdv)) → Quiet A → (A.deeper (envOfC qual (defScope st) s.heap.objs.size f cdv)).units + 64 < cLine → (A.deeper (envOfC qual (defScope st) s.heap.objs.size f cdv)).units + 1 < cLine →
      ∃ t, PSs (Xof P w K mg base (n :: N) qual st f cdv A outer s H E) (defBody st) t ∧ ∀ x ds, pre ds → EsM K none Z0 t (.own (.ins x C []) :: slots N ds) 0 (fun r _ => ∃ fs, r[0]? = some (.own (.ins x C fs)) ∧ postI ds fs) NoS NoS (fun _ _ => False)) :
    FnG P w K mg base CX0 (k + 1) f fd ps (spIni K C pre postI) := by
  refine okG0 F S (fun vs H Q E h => ?_) fun cdv A outer s H vs Q E hr gq h => ?_
  · obtain ⟨x, dx, us, G, M, ds, rfl, _, _, hv, hp, _⟩ := h
    rw [List.length_cons, hv.length, hl ds hp]
  · obtain ⟨t, ht, hb⟩ := body cdv A outer s H E hr gq hr.units (hu_of hr)
    exact ⟨t, ht, bodyM_I (fun ds hp => by have z := hl ds hp; omega) hb h⟩
end
end Tp

/-! # Steps: known tests, comprehensions over typed items -/
namespace Tp
open PySem PySem.Spec PyProof.Rows L2
theorem br_t {b : Bool} {A B : Prop} (e : b = true) (h : A) : (b = true → A) ∧ (b = false → B) := ⟨fun _ => h, fun z => absurd (e.symm.trans z) (by decide)⟩
theorem br_f {b : Bool} {A B : Prop} (e : b = false) (h : B) : (b = true → A) ∧ (b = false → B) := ⟨fun z => absurd (e.symm.trans z) (by decide), fun _ => h⟩
theorem rb_f {b : Bool} {A B : Prop} (e : b = false) (h : A) : (b = false → A) ∧ (b = true → B) := ⟨fun _ => h, fun z => absurd (e.symm.trans z) (by decide)⟩
theorem rb_t {b : Bool} {A B : Prop} (e : b = true) (h : B) : (b = false → A) ∧ (b = true → B) := ⟨fun z => absurd (e.symm.trans z) (by decide), fun _ => h⟩
theorem bnt {b : Bool} (e : b = false) : (!b) = true := by rw [e]; rfl
theorem bnf {b : Bool} (e : b = true) : (!b) = false := by rw [e]; rfl
section
variable {K : PySem.W.Frag} {ψ : D → Prop} {i j : Int} {x y : Str} {ss : List Str}
theorem oc_ltI (q : ∀ b, decide (i < j) = b → ψ (.bl b)) : OpW K rLt2 (.int i) (.int j) ψ := ow_ltI (q _ rfl)
theorem oc_leI (q : ∀ b, decide (i ≤ j) = b → ψ (.bl b)) : OpW K rLe2 (.int i) (.int j) ψ := ow_leI (q _ rfl)
theorem oc_gtI (q : ∀ b, decide (j < i) = b → ψ (.bl b)) : OpW K (rI0 fun i j => .bl (decide (j < i))) (.int i) (.int j) ψ := ow_gtI (q _ rfl)
theorem oc_geI (q : ∀ b, decide (j ≤ i) = b → ψ (.bl b)) : OpW K (rI0 fun i j => .bl (decide (j ≤ i))) (.int i) (.int j) ψ := ow_geI (q _ rfl)
theorem oc_leS (q : ∀ b, (!decide (y.cps.toList < x.cps.toList)) = b → ψ (.bl b)) : OpW K rLe2 (.str x) (.str y) ψ := ow_leS (q _ rfl)
theorem oc_eqI (q : ∀ b, decide (i = j) = b → ψ (.bl b)) : OpW K (rEq1 K) (.int i) (.int j) ψ := ow_eqI (q _ rfl)
theorem oc_eqS (q : ∀ b, decide (x = y) = b → ψ (.bl b)) : OpW K (rEq1 K) (.str x) (.str y) ψ := ow_eqS (q _ rfl)
theorem oc_neI (q : ∀ b, (!decide (i = j)) = b → ψ (.bl b)) : OpW K (rNe1 K) (.int i) (.int j) ψ := ow_neI (q _ rfl)
theorem oc_neS (q : ∀ b, (!decide (x = y)) = b → ψ (.bl b)) : OpW K (rNe1 K) (.str x) (.str y) ψ := ow_neS (q _ rfl)
end
section
variable {K : PySem.W.Frag} {P : Option Addr} {Z : Bas} {ρ : List Sx} {te : TE} {tt : TT} {ti : TI} {t : TS} {m i j : Nat} {φ : D → List Sx → Nat → Prop} {nx bk ct : List Sx → Nat → Prop} {rt : D → Nat → Prop} {α : List D → List Sx → Nat → Prop} {ds : List D} {z : Str}
theorem eim_varL (e : ρ[i]? = some (.d (.lst ds))) (q : α ds ρ m) : EiM K P Z (iSeq K (tVar i)) ρ m α := eim_seqL (evm_var e ⟨_, rfl, q⟩)
theorem eim_varT (e : ρ[i]? = some (.d (.tup ds))) (q : α ds ρ m) : EiM K P Z (iSeq K (tVar i)) ρ m α := eim_seqT (evm_var e ⟨_, rfl, q⟩)
theorem eim_varS (e : ρ[i]? = some (.d (.str z))) (q : α (signsD z) ρ m) : EiM K P Z (iSeq K (tVar i)) ρ m α := eim_seqS (evm_var e ⟨_, rfl, q⟩)
theorem eim_ownL (e : ρ[i]? = some (.own (.lst ds))) (q : α ds (ρ.set i (.d (.lst ds))) m) : EiM K P Z (iSeq K (tVar i)) ρ m α := eim_seqL (evm_own e ⟨_, rfl, q⟩)
/-! ### one name, no test -/
def LcY (K : PySem.W.Frag) (P : Option Addr) (Z : Bas) (te : TE) (j : Nat) (r1 : List Sx) : D → Nat → (Option D → Nat → Prop) → Prop := fun d m2 κ => EvM K P Z te (r1.set j (.d d)) m2 fun y r3 m4 => r3 = r1.set j (.d d) ∧ κ (some y) m4
def LcT (K : PySem.W.Frag) (P : Option Addr) (Z : Bas) (tt : TT) (te : TE) (j : Nat) (r1 : List Sx) : D → Nat → (Option D → Nat → Prop) → Prop := fun d m2 κ =>
  EtM K P Z tt (r1.set j (.d d)) m2 fun b r2 m3 => r2 = r1.set j (.d d) ∧ (b = true → EvM K P Z te r2 m3 fun y r3 m4 => r3 = r1.set j (.d d) ∧ κ (some y) m4) ∧ (b = false → κ none m3)
theorem lcy {r1 : List Sx} {d : D} {κ : Option D → Nat → Prop} (h : EvM K P Z te (r1.set j (.d d)) m fun y r3 m4 => r3 = r1.set j (.d d) ∧ κ (some y) m4) : LcY K P Z te j r1 d m κ := h
theorem lct {r1 : List Sx} {d : D} {κ : Option D → Nat → Prop} (h : EtM K P Z tt (r1.set j (.d d)) m fun b r2 m3 => r2 = r1.set j (.d d) ∧ (b = true → EvM K P Z te r2 m3 fun y r3 m4 => r3 = r1.set j (.d d) ∧ κ (some y) m4) ∧ (b = false → κ none m3)) : LcT K P Z tt te j r1 d m κ := h
theorem LcM.imp {s1 s2 : D → Nat → (Option D → Nat → Prop) → Prop} {ψ : List D → Nat → Prop} (h : ∀ d m κ, s1 d m κ → s2 d m κ) (mono : ∀ d m (κ κ' : Option D → Nat → Prop), (∀ o n, κ o n → κ' o n) → s1 d m κ → s1 d m κ') : ∀ {ds acc : List D} {m : Nat}, LcM s1 ψ ds acc m → LcM s2 ψ ds acc m
  | [], _, _, q => q
  | d :: ds, acc, m, q => h d m _ (mono d m _ _ (fun o n z => LcM.imp h mono z) q)
theorem LcY.mono {r1 : List Sx} {d : D} {κ κ' : Option D → Nat → Prop} (f : ∀ o n, κ o n → κ' o n) (h : LcY K P Z te j r1 d m κ) : LcY K P Z te j r1 d m κ' := EvM.imp h fun _ _ _ z => ⟨z.1, f _ _ z.2⟩
theorem EtM.imp {β β' : Bool → List Sx → Nat → Prop} (h : EtM K P Z tt ρ m β) (f : ∀ d r n, β d r n → β' d r n) : EtM K P Z tt ρ m β' := fun M0 σ G M H Q a b q => h M0 σ G M H Q a b fun v r n G2 M2 H2 s a2 b2 p => q v r n G2 M2 H2 s a2 b2 (f v r n p)
theorem EiM.imp {α α' : List D → List Sx → Nat → Prop} (h : EiM K P Z ti ρ m α) (f : ∀ d r n, α d r n → α' d r n) : EiM K P Z ti ρ m α' := fun M0 σ G M H Q a b q => h M0 σ G M H Q a b fun J v r n G2 M2 H2 s a2 b2 p => q J v r n G2 M2 H2 s a2 b2 (f v r n p)
theorem LcT.mono {r1 : List Sx} {d : D} {κ κ' : Option D → Nat → Prop} (f : ∀ o n, κ o n → κ' o n) (h : LcT K P Z tt te j r1 d m κ) : LcT K P Z tt te j r1 d m κ' := EtM.imp h fun _ _ _ z => ⟨z.1, fun e => EvM.imp (z.2.1 e) fun _ _ _ y => ⟨y.1, f _ _ y.2⟩, fun e => f _ _ (z.2.2 e)⟩
theorem un1 {r1 : List Sx} (e : r1[j]? = some .un) : UnAt r1 [j] := fun v hv => by
  rw [List.mem_singleton] at hv
  rw [hv]
  exact e
theorem evm_lcY (h : EiM K P Z ti ρ m fun ds r1 m1 => r1[j]? = some .un ∧ ds.length ≤ 1000000 ∧ LcM (LcY K P Z te j r1) (fun acc m2 => φ (.lst acc) r1 m2) ds [] m1) : EvM K P Z (tLc ti (gName j) tYes te [j]) ρ m φ :=
  evm_lc [j] (fun _ h => h) (EiM.imp h fun ds r1 m1 z => ⟨un1 z.1, z.2.1, LcM.imp (s1 := LcY K P Z te j r1) (fun d m κ q => ⟨[d], eg_name, etm_yes ⟨rfl, fun _ => q, fun e => nomatch e⟩⟩) (fun d m κ κ' f q => LcY.mono f q) z.2.2⟩)
theorem evm_lcT (h : EiM K P Z ti ρ m fun ds r1 m1 => r1[j]? = some .un ∧ ds.length ≤ 1000000 ∧ LcM (LcT K P Z tt te j r1) (fun acc m2 => φ (.lst acc) r1 m2) ds [] m1) : EvM K P Z (tLc ti (gName j) tt te [j]) ρ m φ :=
  evm_lc [j] (fun _ h => h) (EiM.imp h fun ds r1 m1 z => ⟨un1 z.1, z.2.1, LcM.imp (s1 := LcT K P Z tt te j r1) (fun d m κ q => ⟨[d], eg_name, q⟩) (fun d m κ κ' f q => LcT.mono f q) z.2.2⟩)
theorem esm_lcY (h : EiM K P Z ti ρ m fun ds r1 m1 => r1[j]? = some .un ∧ ds.length ≤ 1000000 ∧ LcM (LcY K P Z te j r1) (fun acc m2 => i < r1.length ∧ nx (r1.set i (.own (.lst acc))) m2) ds [] m1) : EsM K P Z (tAsg (tLc ti (gName j) tYes te [j]) (gName i)) ρ m nx bk ct rt :=
  esm_lcO [j] (fun _ h => h) (EiM.imp h fun ds r1 m1 z => ⟨un1 z.1, z.2.1, LcM.imp (s1 := LcY K P Z te j r1) (fun d m κ q => ⟨[d], eg_name, etm_yes ⟨rfl, fun _ => q, fun e => nomatch e⟩⟩) (fun d m κ κ' f q => LcY.mono f q) z.2.2⟩)
/-! ### two names -/
def LcY2 (K : PySem.W.Frag) (P : Option Addr) (Z : Bas) (te : TE) (j j' : Nat) (r1 : List Sx) : D → Nat → (Option D → Nat → Prop) → Prop := fun d m2 κ => ∃ a b, d = .tup [a, b] ∧ EvM K P Z te ((r1.set j (.d a)).set j' (.d b)) m2 fun y r3 m4 => r3 = (r1.set j (.d a)).set j' (.d b) ∧ κ (some y) m4
def LcT2 (K : PySem.W.Frag) (P : Option Addr) (Z : Bas) (tt : TT) (te : TE) (j j' : Nat) (r1 : List Sx) : D → Nat → (Option D → Nat → Prop) → Prop := fun d m2 κ => ∃ a b, d = .tup [a, b] ∧
  EtM K P Z tt ((r1.set j (.d a)).set j' (.d b)) m2 fun b' r2 m3 => r2 = (r1.set j (.d a)).set j' (.d b) ∧ (b' = true → EvM K P Z te r2 m3 fun y r3 m4 => r3 = (r1.set j (.d a)).set j' (.d b) ∧ κ (some y) m4) ∧ (b' = false → κ none m3)
theorem un2 {r1 : List Sx} {j' : Nat} (e : r1[j]? = some .un) (e' : r1[j']? = some .un) : UnAt r1 [j, j'] := fun v hv => by
  simp only [List.mem_cons, List.not_mem_nil, or_false] at hv
  rcases hv with rfl | rfl
  · exact e
  · exact e'
theorem evm_lcY2 {j' : Nat} (h : EiM K P Z ti ρ m fun ds r1 m1 => r1[j]? = some .un ∧ r1[j']? = some .un ∧ ds.length ≤ 1000000 ∧ LcM (LcY2 K P Z te j j' r1) (fun acc m2 => φ (.lst acc) r1 m2) ds [] m1) :
    EvM K P Z (tLc ti (gTup K 2 (gCons (gName j) (gCons (gName j') gNil))) tYes te [j, j']) ρ m φ :=
  evm_lc [j, j'] (fun _ h => h) (EiM.imp h fun ds r1 m1 z => ⟨un2 z.1 z.2.1, z.2.2.1, LcM.imp (s1 := LcY2 K P Z te j j' r1) (fun d m κ q => by
      obtain ⟨a, b, rfl, q⟩ := q
      exact ⟨[a, b], eg_pair, etm_yes ⟨rfl, fun _ => q, fun e => nomatch e⟩⟩) (fun d m κ κ' f q => by
      obtain ⟨a, b, rfl, q⟩ := q
      exact ⟨a, b, rfl, EvM.imp q fun _ _ _ z => ⟨z.1, f _ _ z.2⟩⟩) z.2.2.2⟩)
theorem lcy2 {j' : Nat} {r1 : List Sx} {a b : D} {κ : Option D → Nat → Prop} (h : EvM K P Z te ((r1.set j (.d a)).set j' (.d b)) m fun y r3 m4 => r3 = (r1.set j (.d a)).set j' (.d b) ∧ κ (some y) m4) : LcY2 K P Z te j j' r1 (.tup [a, b]) m κ := ⟨a, b, rfl, h⟩
/-! ### items of one kind -/
section
variable {τ : Type} {step : D → Nat → (Option D → Nat → Prop) → Prop} {ψ : List D → Nat → Prop}
/-- turns over xs.map g, each making F of its item -/
theorem lcm_on (g F : τ → D) : ∀ {xs : List τ} {acc : List D}, (∀ a ∈ xs, ∀ κ : Option D → Nat → Prop, κ (some (F a)) m → step (g a) m κ) → ψ (acc ++ xs.map F) m → LcM step ψ (xs.map g) acc m
  | [], acc, _, q => by
    rw [List.map_nil, List.append_nil] at q
    exact q
  | x :: xs, acc, h, q => h x (.head _) _ (by
    refine lcm_on g F (fun a ha => h a (.tail _ ha)) ?_
    show ψ (acc ++ [F x] ++ _) m
    rw [List.append_assoc]
    exact q)
theorem lcm_on0 (g F : τ → D) {xs : List τ} (h : ∀ a ∈ xs, ∀ κ : Option D → Nat → Prop, κ (some (F a)) m → step (g a) m κ) (q : ψ (xs.map F) m) : LcM step ψ (xs.map g) [] m := lcm_on g F h (by rw [List.nil_append]; exact q)
theorem lcm_onF (g : τ → D) (F : τ → Option D) : ∀ {xs : List τ} {acc : List D}, (∀ a ∈ xs, ∀ κ : Option D → Nat → Prop, κ (F a) m → step (g a) m κ) → ψ (acc ++ xs.filterMap F) m → LcM step ψ (xs.map g) acc m
  | [], acc, _, q => by
    rw [List.filterMap_nil, List.append_nil] at q
    exact q
  | x :: xs, acc, h, q => h x (.head _) _ (by
    refine lcm_onF g F (fun a ha => h a (.tail _ ha)) ?_
    rw [List.append_assoc]
    cases e : F x with
    | none =>
      rw [List.filterMap_cons_none e] at q
      exact q
    | some y =>
      rw [List.filterMap_cons_some e] at q
      exact q)
end
end
end Tp
/-! ### loops over one name, two names -/
namespace Tp
open PySem PySem.Spec PyProof.Rows L2
section
variable {K : PySem.W.Frag} {P : Option Addr} {Z : Bas} {ρ : List Sx} {ti : TI} {t : TS} {m i j j' : Nat} {nx bk ct : List Sx → Nat → Prop} {rt : D → Nat → Prop}
/-- the ways of a statement join -/
theorem esm_join {u : TS} (J : List Sx → Nat → Prop) (h : EsM K P Z t ρ m J bk ct rt) (h2 : ∀ r n, J r n → EsM K P Z u r n nx bk ct rt) : EsM K P Z (tSeq t u) ρ m nx bk ct rt := esm_seq (EsM.imp h h2 (fun _ _ z => z) (fun _ _ z => z) (fun _ _ z => z))
def LoopN (K : PySem.W.Frag) (P : Option Addr) (Z : Bas) (t : TS) (j : Nat) (nx : List Sx → Nat → Prop) (rt : D → Nat → Prop) : List D → List Sx → Nat → Prop
  | [], ρ, m => nx ρ m
  | d :: ds, ρ, m => j < ρ.length ∧ EsM K P Z t (ρ.set j (.d d)) m (LoopN K P Z t j nx rt ds) nx (LoopN K P Z t j nx rt ds) rt
theorem LoopN.to : ∀ {ds : List D} {ρ : List Sx} {m : Nat}, LoopN K P Z t j nx rt ds ρ m → LoopM (fun d r2 m2 κ => ∃ es, EvG K (gName j) [j] d es ∧ (∀ i ∈ [j], i < r2.length) ∧ EsM K P Z t (setR r2 [j] es) m2 κ nx κ rt) nx ds ρ m
  | [], _, _, h => h
  | d :: ds, ρ, m, h => ⟨[d], eg_name, fun i hi => by
      rw [List.mem_singleton] at hi
      rw [hi]
      exact h.1, EsM.imp h.2 (fun _ _ z => LoopN.to z) (fun _ _ z => z) (fun _ _ z => LoopN.to z) (fun _ _ z => z)⟩
theorem esm_forN (h : EiM K P Z ti ρ m fun ds r1 m1 => LoopN K P Z t j nx rt ds r1 m1) : EsM K P Z (tFor ti (gName j) t) ρ m nx bk ct rt := esm_for [j] (EiM.imp h fun _ _ _ z => LoopN.to z)
def LoopN2 (K : PySem.W.Frag) (P : Option Addr) (Z : Bas) (t : TS) (j j' : Nat) (nx : List Sx → Nat → Prop) (rt : D → Nat → Prop) : List D → List Sx → Nat → Prop
  | [], ρ, m => nx ρ m
  | d :: ds, ρ, m => ∃ a b, d = .tup [a, b] ∧ j < ρ.length ∧ j' < ρ.length ∧ EsM K P Z t ((ρ.set j (.d a)).set j' (.d b)) m (LoopN2 K P Z t j j' nx rt ds) nx (LoopN2 K P Z t j j' nx rt ds) rt
theorem LoopN2.to : ∀ {ds : List D} {ρ : List Sx} {m : Nat}, LoopN2 K P Z t j j' nx rt ds ρ m → LoopM (fun d r2 m2 κ => ∃ es, EvG K (gTup K 2 (gCons (gName j) (gCons (gName j') gNil))) [j, j'] d es ∧ (∀ i ∈ [j, j'], i < r2.length) ∧ EsM K P Z t (setR r2 [j, j'] es) m2 κ nx κ rt) nx ds ρ m
  | [], _, _, h => h
  | d :: ds, ρ, m, h => by
    obtain ⟨a, b, rfl, h1, h2, h3⟩ := h
    refine ⟨[a, b], eg_pair, fun i hi => ?_, EsM.imp h3 (fun _ _ z => LoopN2.to z) (fun _ _ z => z) (fun _ _ z => LoopN2.to z) (fun _ _ z => z)⟩
    simp only [List.mem_cons, List.not_mem_nil, or_false] at hi
    rcases hi with rfl | rfl
    · exact h1
    · exact h2
theorem esm_forN2 (h : EiM K P Z ti ρ m fun ds r1 m1 => LoopN2 K P Z t j j' nx rt ds r1 m1) : EsM K P Z (tFor ti (gTup K 2 (gCons (gName j) (gCons (gName j') gNil))) t) ρ m nx bk ct rt := esm_for [j, j'] (EiM.imp h fun _ _ _ z => LoopN2.to z)
/-- a, b = e -/
theorem esm_asg2 {te : TE} (h : EvM K P Z te ρ m fun d r1 m1 => ∃ a b, d = .tup [a, b] ∧ j < r1.length ∧ j' < r1.length ∧ nx ((r1.set j (.d a)).set j' (.d b)) m1) : EsM K P Z (tAsg te (gTup K 2 (gCons (gName j) (gCons (gName j') gNil)))) ρ m nx bk ct rt :=
  esm_asgG [j, j'] (EvM.imp h fun d r n z => by
    obtain ⟨a, b, rfl, h1, h2, h3⟩ := z
    refine ⟨[a, b], eg_pair, fun i hi => ?_, h3⟩
    simp only [List.mem_cons, List.not_mem_nil, or_false] at hi
    rcases hi with rfl | rfl
    · exact h1
    · exact h2)
end
end Tp

/-! # Objects of own classes by name: made, their fields read and set -/
namespace Tp
open PySem PySem.Spec PyProof.Rows L2
/-- the module's name x stands for an own class whose __init__ keeps the promise -/
structure CalM (P : Program) (w : World) (K : PySem.W.Frag) (mg : Str → Option Value) (base : Heap) (k : Nat) (x : Str) (C : Addr) (pre : List D → Prop) (postI : List D → List (Str × D) → Prop) : Prop where
  ex : ∃ (fI : Addr) (fd : FuncData) (ps : List Str), Mk K C fI ∧ FnG P w K mg base CX0 k fI fd ps (spIni K C pre postI) ∧ Binds K fd ps []
  m : mg x = some (.ref C)
  cls : Cls K C
section
variable {X : Cx} {k : Nat} {x f : Str} {p pos pos' : Pos} {e o : Expr} {es : List Expr} {t : TA} {C : Addr} {pre : List D → Prop} {postI : List D → List (Str × D) → Prop}
theorem pc_mk (c : CalM X.prog X.w X.K X.mg X.base k x C pre postI) (hr : Room (k + 1) X.A) (gq : Quiet X.A) (hg : Gl X x) (ha : PA X (e :: es) t) (hdb : (x == ("__debug__" : Str)) = false := by decide)
    (he : starEach (e :: es) X.env = (false, eval e X.env) :: starEach es X.env := by rfl) (hpl : (backTo pos (starEach es X.env)).any (·.1) = false := by rfl) :
    PE X (.Call (.Name x p) (e :: es) [] pos) (tMake C (spIni X.K C pre postI) [] (fun _ _ _ => False) t) := by
  obtain ⟨fI, fd, ps, M, F, b⟩ := c.ex
  exact pg_make M F hr gq hg c.m b .nil pass0 ha hdb he hpl
abbrev de_mk (c : CalM X.prog X.w X.K X.mg X.base k x C pre postI) (hr : Room (k + 1) X.A) (gq : Quiet X.A) (hg : Gl X x) (ha : DA X (e :: es)) (hdb : (x == ("__debug__" : Str)) = false := by decide)
    (he : starEach (e :: es) X.env = (false, eval e X.env) :: starEach es X.env := by rfl) (hpl : (backTo pos (starEach es X.env)).any (·.1) = false := by rfl) : DE X (.Call (.Name x p) (e :: es) [] pos) :=
  ⟨tMake C (spIni X.K C pre postI) [] (fun _ _ _ => False) ha.1, pc_mk c hr gq hg ha.2 hdb he hpl⟩
abbrev de_fld (h : DE X e) (hb : attributeBase e f X.env (eval e X.env) = eval e X.env := by rfl) : DE X (.Attribute e f pos) := ⟨tFld X.K h.1 f, pe_fld h.2 hb⟩
abbrev ds_fld (ho : DE X o) (hv : DE X e) (hs : swapsWith e (some (.Attribute o f pos')) pos.line X.env = pure false := by rfl) : DS X (.Assign [.Attribute o f pos'] e pos) := ⟨sFld X.K ho.1 hv.1 f, ps_fld ho.2 hv.2 hs⟩
end
section
variable {K : PySem.W.Frag} {P : Option Addr} {Z : Bas} {ρ : List Sx} {to : TE} {m i : Nat} {φ : D → List Sx → Nat → Prop} {C : Addr} {f : Str} {x : D} {fs : List (Str × D)}
/-- what is known of a class's fields -/
structure Flds (K : PySem.W.Frag) (C : Addr) (ns : List Str) : Prop where
  cls : Cls K C
  no : ∀ f ∈ ns, NoAttr K C f
theorem evm_fldV {ns : List Str} (c : Flds K C ns) (e : ρ[i]? = some (.d (.ins C fs))) (hf : f ∈ ns) (lk : fs.lookup f = some x) (q : φ x ρ m) : EvM K P Z (tFld K (tVar i) f) ρ m φ := evm_fld c.cls (c.no f hf) (evm_var e ⟨fs, x, rfl, lk, q⟩)
theorem evm_fldO {ns : List Str} {xx : Addr} (c : Flds K C ns) (e : ρ[i]? = some (.own (.ins xx C fs))) (hf : f ∈ ns) (lk : fs.lookup f = some x) (q : φ x ρ m) : EvM K P Z (tFld K (tVar i) f) ρ m φ := evm_fldI c.cls (c.no f hf) e lk q
theorem esm_fldN {te : TE} {j : Nat} {nx bk ct : List Sx → Nat → Prop} {rt : D → Nat → Prop} {ns : List Str} (c : Flds K C ns) (hf : f ∈ ns) (h : EvM K P Z te ρ m fun d r1 m1 => ∃ xx fs, r1[j]? = some (.own (.ins xx C fs)) ∧ fs.length < 1000 ∧ nx (r1.set j (.own (.ins xx C (setF f d fs)))) m1) :
    EsM K P Z (sFld K (tVar j) te f) ρ m nx bk ct rt := fun M0 σ G M H E a b q1 _ _ _ =>
  h M0 σ G M H _ a b fun v d r1 m1 G1 M1 H1 s1 a1 lb p1 v1 => by
    obtain ⟨xx, fs, e, few, z⟩ := p1
    obtain ⟨l, u, e1, e2, e3, e4, ⟨dx, vs, rfl, rfl, hv⟩, ns⟩ := a1.own e
    refine ⟨.ref l, e1, l, C, dx, vs, rfl, a1.sep.m _ _ e4, c.cls, c.no f hf, by rw [hv.length]; exact few, ?_⟩
    exact q1 _ _ m1 _ _ _ (s1.trans (Step.put a1.sep e4)) (a1.ownPut (b2 := .ins _ C (setF f d fs)) e e1 e2 e3 e4 ns ⟨dx, _, rfl, rfl, hv.set v1⟩) lb z
end
end Tp

/-! # A written dict of the module: get with a default, in -/
namespace Tp
open PySem PySem.Spec PyProof.Rows L2
def tKGet (es : Array DictEntry) (d : Addr) (to te tf : TE) : TE := fun σ H Q => to σ H fun x H1 => x = .ref d ∧ te σ H1 fun y H2 => tf σ H2 fun v H3 => ∃ z, y = .str z ∧ ∃ v0, (match findBy Value.isStrOf es z with | some u0 => RelV v0 u0 | none => v0 = v) ∧ Q v0 H3
section
variable {X : Cx} {o e f : Expr} {to te tf : TE} {d : Addr} {es : Array DictEntry} {n : Nat} {apos cpos : Pos}
theorem pe_kget (D : KDict X.K X.w d es n) (ho : PE X o to) (he : PE X e te) (hf : PE X f tf) (m : M2 X o "get" apos e f cpos) : PE X (.Call (.Attribute o "get" apos) [e, f] [] cpos) (tKGet es d to te tf) := by
  refine ⟨fun pins s σ H Q I h => wpAny_Call_method m.base m.few m.line PySem.F.plainAttrs_dict PySem.F.slot_dict_get PySem.F.type_dict_get (thn (ho.run pins s σ H _ I h) fun ov s1 hu => ?_)⟩
  obtain ⟨x, H1, I1, rx, rfl, q⟩ := hu
  cases (show ov = Value.ref d from rx)
  have at1 := I1.kIn _ _ D.at_
  refine ⟨?_, fun a ea => ?_, ?_⟩
  · exact ⟨_, at1, rfl⟩
  · cases ea
    exact ⟨_, at1, rfl⟩
  · rw [m.trees]
    refine wpAny_dict_get2 (knd := strKind X.prog X.w) D.low (thn (he.run pins s1 σ H1 _ I1 q) fun key s2 hk => ?_)
    obtain ⟨y, H2, I2, ry, q2⟩ := hk
    refine thn (hf.run pins s2 σ H2 _ I2 q2) fun dflt s3 h3 => ?_
    obtain ⟨v, H3, I3, rv, z, rfl, v0, hv, q3⟩ := h3
    obtain ⟨t, rfl⟩ := ry
    refine ⟨z, _, strKind_is _ _ _ _, PySem.W.mapOf_K I3.kIn D.at_ D.lit, ?_⟩
    refine ⟨v0, H3, I3.kept (t' := s3.toks + 1) fun _ _ z => z, ?_, q3⟩
    cases ef : findBy Value.isStrOf es z with
    | none =>
      rw [ef] at hv
      rw [hv]
      exact rv
    | some u0 =>
      rw [ef] at hv
      exact hv
abbrev de_kget (D : KDict X.K X.w d es n) (ho : DE X o) (he : DE X e) (hf : DE X f) (m : M2 X o "get" apos e f cpos := by exact ⟨rfl, rfl, rfl, rfl⟩) : DE X (.Call (.Attribute o "get" apos) [e, f] [] cpos) := ⟨tKGet es d ho.1 he.1 hf.1, pe_kget D ho.2 he.2 hf.2 m⟩
abbrev rKIn (K : PySem.W.Frag) (d : Addr) : R2 := fun x y H Q => ∃ z r, x = V.str z ∧ y = V.ref d ∧ PySem.W.nsIn K d z = some r ∧ Q (V.bl r.isSome) H
abbrev de_kin (D : KDict X.K X.w d es n) (ha : DE X e) (hb : DE X f) (hm : behindInMarks .In f = false := by rfl) : DE X (.Compare e [.In] [f] cpos) := ⟨tOp (rKIn X.K d) ha.1 hb.1, pe_cmpR (op_in_kd D) ha.2 hb.2 hm⟩
end
section
variable {K : PySem.W.Frag} {P : Option Addr} {Z : Bas} {ρ : List Sx} {to te tf : TE} {m : Nat} {φ : D → List Sx → Nat → Prop} {d : Addr} {es : Array DictEntry} {dd : V}
/-- COPIES.get(mark, 1) with what it makes of the mark -/
theorem evm_kget {g : Str → Option Int} (hg : ∀ z, match findBy Value.isStrOf es z with | some u0 => ∃ i t, g z = some i ∧ u0 = Value.int i t | none => g z = none) (h : EvM K P Z te ρ m fun y r1 m1 => EvM K P Z tf r1 m1 fun v r2 m2 => ∃ z i, y = .str z ∧ v = .int i ∧ φ (.int ((g z).getD i)) r2 m2) :
    EvM K P Z (tKGet es d (tC (.ref d)) te tf) ρ m φ := fun M0 σ G M H Q a l q => by
  refine ⟨rfl, h M0 σ G M H _ a l fun x d1 r1 m1 G1 M1 H1 s1 a1 l1 p1 v1 => ?_⟩
  refine p1 M0 σ G1 M1 H1 _ a1 l1 fun y d2 r2 m2 G2 M2 H2 s2 a2 l2 p2 v2 => ?_
  obtain ⟨z, i, rfl, rfl, p⟩ := p2
  cases v1
  cases v2
  have gz := hg z
  refine ⟨z, rfl, .int ((g z).getD i), ?_, q _ _ r2 m2 G2 M2 H2 (s1.trans s2) a2 l2 p (.int _)⟩
  cases ef : findBy Value.isStrOf es z with
  | none =>
    rw [ef] at gz
    show V.int ((g z).getD i) = V.int i
    rw [show g z = none from gz]
    rfl
  | some u0 =>
    rw [ef] at gz
    obtain ⟨j, t, e1, rfl⟩ := gz
    show RelV (V.int ((g z).getD i)) _
    rw [e1]
    exact ⟨t, rfl⟩
end
end Tp

/-! # Promises of functions whose caller says what the arguments stand for -/
namespace Tp
open PySem PySem.Spec PyProof.Rows L2
/-- for each t that is good: of the arguments args t the answer is one with R t -/
def spT (K : PySem.W.Frag) {τ : Type} (args : τ → List D) (good : τ → Prop) (R : τ → D → Prop) : Sp := fun vs H Q _ => ∃ (t : τ) (G M : Hp), Sep G M H ∧ DVs K G vs (args t) ∧ good t ∧
  ∀ v d G2 H2, Step G M H G2 M H2 → R t d → DV K G2 v d → Q v H2
section
variable {K : PySem.W.Frag} {P : Option Addr} {Z : Bas} {ρ : List Sx} {tr : TA} {m : Nat} {φ : D → List Sx → Nat → Prop} {τ : Type} {args : τ → List D} {good : τ → Prop} {R : τ → D → Prop} {E : XK}
theorem evm_funT (h : EaM K P Z tr ρ m fun ds r1 m1 => ∃ t, ds = args t ∧ good t ∧ ∀ d, R t d → φ d r1 m1) : EvM K P Z (tCall (spT K args good R) [] E tr) ρ m φ := fun M0 σ G M H Q a l q =>
  h M0 σ G M H _ a l fun vs ds r1 m1 G1 M1 H1 s1 a1 l1 p1 v1 => by
    obtain ⟨t, rfl, g, f⟩ := p1
    exact ⟨t, G1, M1, a1.sep, by rw [List.append_nil]; exact v1, g, fun v d G2 H2 s2 p2 v2 => q v d r1 m1 G2 M1 H2 (s1.trans s2) (a1.pure s2) l1 (f d p2) v2⟩
end
section
variable {P : Program} {w : World} {K : PySem.W.Frag} {mg : Str → Option Value} {base : Heap} {x qual : Str} {st : Stmt} {f : Addr} {fd : FuncData} {N ps : List Str} {k : Nat} {τ : Type} {args : τ → List D} {good : τ → Prop} {R : τ → D → Prop}
theorem okMT (F : Fun K x qual st f fd) (S : FnScope N ps (defScope st)) (hl : ∀ t, (args t).length = ps.length) (hn : ps.length ≤ N.length)
    (body : ∀ (cdv : Value) (A : Around) (outer : List Env) (s : Shared) (H : Hp) (E : XK), Room k (A.deeper (envOfC qual (defScope st) s.heap.objs.size f cdv)) → Quiet A → (A.deeper (envOfC qual (defScope st) s.heap.objs.size f cdv)).units + 64 < cLine → (A.deeper (envOfC qual (defScope st) s.heap.objs.size f cdv)).units + 1 < cLine →
      ∃ t, PSs (Xof P w K mg base N qual st f cdv A outer s H E) (defBody st) t ∧ ∀ y, good y → EsM K none Z0 t (slots N (args y)) 0 (fun _ _ => R y .non) NoS NoS (fun d _ => R y d)) :
    FnG P w K mg base CX0 (k + 1) f fd ps (spT K args good R) := by
  refine okG0 F S (fun vs H Q E h => ?_) fun cdv A outer s H vs Q E hr gq h => ?_
  · obtain ⟨t, G, M, _, hv, _⟩ := h
    rw [hv.length, hl t]
  · obtain ⟨t, ht, hb⟩ := body cdv A outer s H E hr gq hr.units (hu_of hr)
    obtain ⟨y, G, M, s0, hv, gd, q⟩ := h
    exact ⟨t, ht, bodyM_D (K := K) (E := E) (k := 0) (pre := (· = args y)) (post := fun _ d => R y d) (fun ds e => by rw [e, hl]; exact hn) (fun ds e => by rw [e]; exact hb y gd) ⟨G, M, _, s0, hv, rfl, fun v d G2 H2 st p dv => q v d G2 H2 st p dv⟩⟩
end
end Tp

/-! # Comprehensions with two for -/
namespace Tp
open PySem PySem.Spec PyProof.Rows L2
/-- a walk with any body, by an invariant -/
theorem it_gen {J : It} {n : Nat} {G : Hp → Prop} {Y : Nat → Hp → V → Hp → Prop} (w : Walk J n G Y) {body : V → Hp → (Hp → Prop) → Prop} {H0 : Hp} {Qd : Hp → Prop} (Pv : Nat → Hp → Prop) (h0 : Pv 0 H0) (hG : ∀ i H, i ≤ n → Pv i H → G H)
    (hs : ∀ i x H H', i < n → Pv i H → Y i H x H' → body x H' (Pv (i + 1))) (hd : ∀ H, Pv n H → Qd H) :
    ∃ W : Nat → Nat → Hp → Prop, (∃ m, W 0 m H0) ∧ ∀ (i m : Nat) (H : Hp), W i m H → J.stop i H ∧ Qd H ∨ J.go i H ∧ ∃ Nx : Hp → Prop, (∀ H', Nx H' → ∃ m', m' < m ∧ W (i + 1) m' H') ∧ ∀ (x : V) (H' : Hp), J.yld i H x H' → body x H' Nx := by
  refine ⟨fun i m H => i + m = n ∧ Pv i H, ⟨n, Nat.zero_add n, h0⟩, ?_⟩
  rintro i m H ⟨e, hp⟩
  by_cases h : i < n
  · right
    have g := hG i H (Nat.le_of_lt h) hp
    refine ⟨w.goes i H h g, Pv (i + 1), fun H' z => ⟨m - 1, by omega, by omega, z⟩, fun x H' y => hs i x H H' h hp (w.yields i H x H' h g y)⟩
  · left
    have e2 : i = n := by omega
    subst e2
    exact ⟨w.stops H (hG _ H (Nat.le_refl _) hp), hd H hp⟩
section
variable {K : PySem.W.Frag} {P : Option Addr} {Z : Bas} {ρ : List Sx} {te : TE} {tt tt1 : TT} {ti ti1 : TI} {g g1 : TG} {m : Nat} {vs vs1 : List Nat} {φ : D → List Sx → Nat → Prop}
/-- the outer turns -/
def Lc2M (K : PySem.W.Frag) (P : Option Addr) (Z : Bas) (g : TG) (ti1 : TI) (g1 : TG) (tt1 : TT) (te : TE) (js js1 vs1 : List Nat) (r1 : List Sx) (ψ : List D → Nat → Prop) : List D → List D → Nat → Prop
  | [], acc, m => ψ acc m
  | d :: ds, acc, m => ∃ es, EvG K g js d es ∧ EiM K P Z ti1 (setR r1 js es) m fun ds1 r2 m2 => r2 = setR r1 js es ∧ UnAt r2 vs1 ∧ acc.length + ds1.length ≤ 1000000 ∧
      LcM (LcS K P Z g1 tt1 te js1 r2) (fun acc' m3 => Lc2M K P Z g ti1 g1 tt1 te js js1 vs1 r1 ψ ds acc' m3) ds1 acc m2
theorem evm_lc2 (js js1 : List Nat) (hj : ∀ j ∈ js, j ∈ vs) (hj1 : ∀ j ∈ js1, j ∈ vs1) (h : EiM K P Z ti ρ m fun ds r1 m1 => UnAt r1 vs ∧ Lc2M K P Z g ti1 g1 tt1 te js js1 vs1 r1 (fun acc m2 => φ (.lst acc) r1 m2) ds [] m1) :
    EvM K P Z (tLc2 ti g tYes ti1 g1 tt1 te vs vs1) ρ m φ := fun M0 σ G M H Q a l q => by
  refine h M0 σ G M H _ a l fun J ds r1 m1 G1 M1 H1 s1 a1 l1 p1 W D hD => ?_
  obtain ⟨un, lc⟩ := p1
  obtain ⟨GG, YY, w, hG, hY⟩ := W.ex
  have hp := a1.offP hD
  have n0 := a1.m0 hD
  have ns0 := a1.noSlot hD
  have ns := ns0.wipe un
  have eR := wipeR_un un
  have aw := a1.wipe vs
  rw [eR] at aw
  refine it_gen w (fun i H' => ∃ (m' : Nat) (G' M' : Hp) (va : List V) (acc : List Tp.D), Step G1 M1 H1 G' M' H' ∧ At K P Z M0 m' G' M' H' (L2.wipe σ vs) r1 ∧ m' ≤ BIG ∧ M' D = some (.lst va) ∧ DVs K G' va acc ∧ Lc2M K P Z g ti1 g1 tt1 te js js1 vs1 r1 (fun acc m2 => φ (.lst acc) r1 m2) (ds.drop i) acc m') ?_ ?_ ?_ ?_
  · refine ⟨m1, G1, upd M1 D (.lst []), [], [], Step.own aw.sep hD, ?_, l1, upd_same, .nil, lc⟩
    refine aw.go (Step.own aw.sep hD) (fun p e => ?_) fun b o _ z => ?_
    · rw [upd_ne fun q => hp (by rw [← q]; exact e)]
      exact aw.pot p e
    · rw [upd_ne (some_ne z (aw.sep.free hD).2)]
      exact z
  · rintro i H' _ ⟨m', G', M', va, acc, s', a', _⟩
    exact hG H' (s'.gg.trans a'.sep.g)
  · rintro i x H' H'' hlt ⟨m', G', M', va, acc, s', a', l', hM, hv, iv⟩ y
    obtain ⟨d, G'', e, st, dv⟩ := hY i G' M' H' x H'' hlt s'.gg a'.sep y
    have e5 : ds.drop i = d :: ds.drop (i + 1) := by
      rw [List.drop_eq_getElem_cons hlt]
      congr 1
      exact (List.getElem?_eq_some_iff.mp e).2
    rw [e5] at iv
    obtain ⟨es, hg, hi⟩ := iv
    refine hg x _ G'' H'' _ st.s.g dv fun ws _ hws => ⟨wipe_setL js ws _ hj |>.trans (wipe_wipe σ fun v hv => hv) |>.trans rfl, ?_⟩
    have a2 := ((a'.frame hp ns hM).pure st).setL (js := js) (fun j h => (List.getElem?_eq_some_iff.mp (un j (hj j h))).1) hws
    refine hi (upd M0 D (.lst va)) _ G'' M' H'' _ a2 l' fun J1 ds1 r2 m2 G2 M2 H2 s2 a2' l2 p2 W1 => ?_
    obtain ⟨er, un1, few, lc1⟩ := p2
    subst er
    obtain ⟨GG1, YY1, w1, hG1, hY1⟩ := W1.ex
    have eR1 := wipeR_un un1
    have hM2 : M2 D = some (.lst va) := a2'.fr D _ hp upd_same
    -- beside the base of the law: D is kept by its own content, which grows
    have a3 := (a2'.back un hj).unframe n0 a.bm
    have aw1 := a2'.wipe vs1
    rw [eR1] at aw1
    have nsR : NoSlot (L2.wipe (setL (L2.wipe σ vs) js ws) vs1) (setR r1 js es) D := by
      have z0 : NoSlot (setL (L2.wipe σ vs) js ws) (setR r1 js es) D := fun i b e => by
        have h1 := setR_own e
        rw [setL_get (own_notin un hj h1)]
        exact ns i b h1
      exact z0.wipe un1
    refine it_gen w1 (fun j H3 => ∃ (m3 : Nat) (G3 M3 : Hp) (va : List V) (acc : List Tp.D), Step G2 M2 H2 G3 M3 H3 ∧ At K P Z M0 m3 G3 M3 H3 (L2.wipe (setL (L2.wipe σ vs) js ws) vs1) (setR r1 js es) ∧ m3 ≤ BIG ∧ M3 D = some (.lst va) ∧ DVs K G3 va acc ∧ acc.length + (ds1.length - j) ≤ 1000000 ∧
      LcM (LcS K P Z g1 tt1 te js1 (setR r1 js es)) (fun acc' m3 => Lc2M K P Z g ti1 g1 tt1 te js js1 vs1 r1 (fun acc m2 => φ (.lst acc) r1 m2) (ds.drop (i + 1)) acc' m3) (ds1.drop j) acc m3) ?_ ?_ ?_ ?_
    · exact ⟨m2, G2, M2, va, acc, Step.refl a2'.sep, aw1.unframe n0 a.bm, l2, hM2, hv.mono (st.gg.trans s2.gg), by rw [Nat.sub_zero]; exact few, lc1⟩
    · rintro j H3 _ ⟨m3, G3, M3, va, acc, s3, a3, _⟩
      exact hG1 H3 (s3.gg.trans a3.sep.g)
    · rintro j x1 H3 H3' hlt1 ⟨m3, G3, M3, va, acc, s3, a3, l3, hM3, hv3, la, iv1⟩ y1
      obtain ⟨d1, G3', f1, st1, dv1⟩ := hY1 j G3 M3 H3 x1 H3' hlt1 s3.gg a3.sep y1
      have f5 : ds1.drop j = d1 :: ds1.drop (j + 1) := by
        rw [List.drop_eq_getElem_cons hlt1]
        congr 1
        exact (List.getElem?_eq_some_iff.mp f1).2
      rw [f5] at iv1
      obtain ⟨es1, hg1, ht1⟩ := iv1
      refine hg1 x1 _ G3' H3' _ st1.s.g dv1 fun ws1 _ hws1 => ⟨wipe_setL js1 ws1 _ hj1 |>.trans (wipe_wipe _ fun v hv => hv) |>.trans rfl, ?_⟩
      have a4 := ((a3.frame hp nsR hM3).pure st1).setL (js := js1) (fun j h => (List.getElem?_eq_some_iff.mp (un1 j (hj1 j h))).1) hws1
      refine ht1 (upd M0 D (.lst va)) _ G3' M3 H3' _ a4 l3 fun b r4 m4 G4 M4 H4 s4 a4' l4 p4 => ?_
      obtain ⟨er, p4⟩ := p4
      subst er
      have out : ∀ {c : Nat} {Gx Mx Hx : Hp}, Step G3' M3 H3' Gx Mx Hx → At K P Z (upd M0 D (.lst va)) c Gx Mx Hx (setL (L2.wipe (setL (L2.wipe σ vs) js ws) vs1) js1 ws1) (setR (setR r1 js es) js1 es1) → Step G2 M2 H2 Gx Mx Hx ∧ At K P Z M0 c Gx Mx Hx (L2.wipe (setL (L2.wipe σ vs) js ws) vs1) (setR r1 js es) ∧ Mx D = some (.lst va) := fun sx ax =>
        ⟨(s3.trans st1).trans sx, (ax.back un1 hj1).unframe n0 a.bm, ax.fr D _ hp upd_same⟩
      cases b with
      | false =>
        rw [if_neg Bool.false_ne_true]
        obtain ⟨x1, x2, x3⟩ := out s4 a4'
        have z := p4.2 rfl
        refine ⟨m4, G4, M4, va, acc, x1, x2, l4, x3, hv3.mono (st1.gg.trans s4.gg), by omega, ?_⟩
        have z' : LcM (LcS K P Z g1 tt1 te js1 (setR r1 js es)) _ (ds1.drop (j + 1)) (acc ++ []) m4 := z
        rw [List.append_nil] at z'
        exact z'
      | true =>
        rw [if_pos rfl]
        refine p4.1 rfl (upd M0 D (.lst va)) _ G4 M4 H4 _ a4' l4 fun v de r5 m5 G5 M5 H5 s5 a5 l5 p5 v5 => ?_
        obtain ⟨er, p5⟩ := p5
        subst er
        obtain ⟨x1, x2, x3⟩ := out (s4.trans s5) a5
        refine ⟨va, x2.sep.m _ _ x3, ?_, m5, G5, upd M5 D (.lst (va ++ [v])), va ++ [v], acc ++ [de], x1.trans (Step.put x2.sep x3), ?_, l5, upd_same, ?_, ?_, p5⟩
        · rw [hv3.length]
          exact Nat.lt_of_le_of_lt (show acc.length ≤ 1000000 by omega) (by decide)
        · exact x2.put hp n0 nsR x3
        · exact (hv3.mono ((st1.gg.trans s4.gg).trans s5.gg)).snoc v5
        · rw [List.length_append, List.length_singleton]
          omega
    · rintro H3 ⟨m3, G3, M3, va, acc, s3, a3, l3, hM3, hv3, la, iv1⟩
      rw [List.drop_length] at iv1
      refine ⟨m3, G3, M3, va, acc, ((s'.trans st).trans s2).trans s3, ?_, l3, hM3, hv3, iv1⟩
      have z := a3.unwipe un1
      exact z.back un hj
  · rintro H' ⟨m', G', M', va, acc, s', a', l', hM, hv, iv⟩
    rw [List.drop_length] at iv
    have a2 := (a'.share hp n0 ns hM).unwipe un
    exact q _ (.lst acc) r1 m' _ _ _ ((s1.trans s').trans (Step.share a'.sep hM)) a2 l' iv (.lst upd_same (hv.mono (Step.share a'.sep hM).gg))
end
end Tp

/-! # Derivations of comprehensions: two for; one test -/
namespace Tp
open PySem PySem.Spec PyProof.Rows L2
section
variable {X : Cx} {elt tg iter tg1 iter1 c : Expr} {scope : Scope} {pos : Pos}
abbrev de_lc2 (own : List (Str × Nat)) (vs1 : List Nat) (s0 : Shared) (H0 : Hp) (hc : X.calm = true) (hN : X.N.Nodup) (hi : DI X tg iter) (ok : blkC X.N X.env.scope scope own = true) (hv : ∀ i ∈ vs1, i ∈ own.map (·.2))
    (hg : ∀ (s : Shared) (H : Hp) (C : Addr) (cl : List (Str × Addr)) (fp : List Addr), DG (X.blk s H scope (compEnvC scope cl C X.env) fp) tg)
    (hi1 : ∀ (s : Shared) (H : Hp) (C : Addr) (cl : List (Str × Addr)) (fp : List Addr), DI (X.blk s H scope (compEnvC scope cl C X.env) fp) tg1 iter1)
    (hg1 : ∀ (s : Shared) (H : Hp) (C : Addr) (cl : List (Str × Addr)) (fp : List Addr), DG (X.blk s H scope (compEnvC scope cl C X.env) fp) tg1)
    (he : ∀ (s : Shared) (H : Hp) (C : Addr) (cl : List (Str × Addr)) (fp : List Addr), DE (X.blk s H scope (compEnvC scope cl C X.env) fp) elt)
    (eg : ∀ (s : Shared) (H : Hp) (C : Addr) (cl : List (Str × Addr)) (fp : List Addr), (hg s H C cl fp).1 = (hg s0 H0 0 [] []).1)
    (ei1 : ∀ (s : Shared) (H : Hp) (C : Addr) (cl : List (Str × Addr)) (fp : List Addr), (hi1 s H C cl fp).1 = (hi1 s0 H0 0 [] []).1)
    (eg1 : ∀ (s : Shared) (H : Hp) (C : Addr) (cl : List (Str × Addr)) (fp : List Addr), (hg1 s H C cl fp).1 = (hg1 s0 H0 0 [] []).1)
    (ee : ∀ (s : Shared) (H : Hp) (C : Addr) (cl : List (Str × Addr)) (fp : List Addr), (he s H C cl fp).1 = (he s0 H0 0 [] []).1)
    (hs : ∀ x, foldedSetIterable iter X.env x = pure x := by intro _; rfl) (hs1 : ∀ env x, foldedSetIterable iter1 env x = pure x := by intro _ _; rfl) : DE X (.ListComp elt [⟨tg, iter, [], 0⟩, ⟨tg1, iter1, [], 0⟩] scope pos) :=
  ⟨tLc2 hi.1 (hg s0 H0 0 [] []).1 tYes (hi1 s0 H0 0 [] []).1 (hg1 s0 H0 0 [] []).1 tYes (he s0 H0 0 [] []).1 (own.map (·.2)) vs1, pe_lc2 hc hN hi.2 (blkOk_by ok) hv (fun s H C cl fp => eg s H C cl fp ▸ (hg s H C cl fp).2) (fun _ _ _ _ _ => pts_nil) (fun s H C cl fp => ei1 s H C cl fp ▸ (hi1 s H C cl fp).2)
    (fun s H C cl fp => eg1 s H C cl fp ▸ (hg1 s H C cl fp).2) (fun _ _ _ _ _ => pts_nil) (fun s H C cl fp => ee s H C cl fp ▸ (he s H C cl fp).2) hs hs1⟩
abbrev de_lcI (own : List (Str × Nat)) (s0 : Shared) (H0 : Hp) (hc : X.calm = true) (hN : X.N.Nodup) (hi : DI X tg iter) (ok : blkC X.N X.env.scope scope own = true)
    (hg : ∀ (s : Shared) (H : Hp) (C : Addr) (cl : List (Str × Addr)) (fp : List Addr), DG (X.blk s H scope (compEnvC scope cl C X.env) fp) tg)
    (ht : ∀ (s : Shared) (H : Hp) (C : Addr) (cl : List (Str × Addr)) (fp : List Addr), DT (X.blk s H scope (compEnvC scope cl C X.env) fp) c)
    (he : ∀ (s : Shared) (H : Hp) (C : Addr) (cl : List (Str × Addr)) (fp : List Addr), DE (X.blk s H scope (compEnvC scope cl C X.env) fp) elt)
    (eg : ∀ (s : Shared) (H : Hp) (C : Addr) (cl : List (Str × Addr)) (fp : List Addr), (hg s H C cl fp).1 = (hg s0 H0 0 [] []).1)
    (et : ∀ (s : Shared) (H : Hp) (C : Addr) (cl : List (Str × Addr)) (fp : List Addr), (ht s H C cl fp).1 = (ht s0 H0 0 [] []).1)
    (ee : ∀ (s : Shared) (H : Hp) (C : Addr) (cl : List (Str × Addr)) (fp : List Addr), (he s H C cl fp).1 = (he s0 H0 0 [] []).1)
    (hs : ∀ x, foldedSetIterable iter X.env x = pure x := by intro _; rfl) : DE X (.ListComp elt [⟨tg, iter, [c], 0⟩] scope pos) :=
  ⟨tLc hi.1 (hg s0 H0 0 [] []).1 (ht s0 H0 0 [] []).1 (he s0 H0 0 [] []).1 (own.map (·.2)), pe_lc hc hN hi.2 (blkOk_by ok) (fun s H C cl fp => eg s H C cl fp ▸ (hg s H C cl fp).2) (fun s H C cl fp => pts_one (et s H C cl fp ▸ (ht s H C cl fp).2)) (fun s H C cl fp => ee s H C cl fp ▸ (he s H C cl fp).2) hs⟩
end
section
variable {K : PySem.W.Frag} {P : Option Addr} {Z : Bas} {ρ : List Sx} {te : TE} {ti ti1 : TI} {m i j : Nat} {φ : D → List Sx → Nat → Prop} {τ υ : Type}
/-- over xs.map g, then ys.map g1, both names; each pair makes F of both -/
theorem lc2_names {g : τ → D} {g1 : υ → D} {F : τ → υ → D} {r1 : List Sx} {ψ : List D → Nat → Prop} {ys : List υ} (hi : i < r1.length) (hij : i ≠ j) (uj : r1[j]? = some .un) (lys : ys.length ≤ 1000)
    (hin : ∀ x, ∀ α, α (ys.map g1) (r1.set i (.d (g x))) m → EiM K P Z ti1 (r1.set i (.d (g x))) m α) (he : ∀ x y, ∀ κ : D → List Sx → Nat → Prop, κ (F x y) ((r1.set i (.d (g x))).set j (.d (g1 y))) m → EvM K P Z te ((r1.set i (.d (g x))).set j (.d (g1 y))) m κ) :
    ∀ (xs : List τ) (acc : List D), acc.length + xs.length * ys.length ≤ 1000000 → ψ (acc ++ xs.flatMap fun x => ys.map (F x)) m → Lc2M K P Z (gName i) ti1 (gName j) tYes te [i] [j] [j] r1 ψ (xs.map g) acc m
  | [], acc, _, q => by
    rw [List.flatMap_nil, List.append_nil] at q
    exact q
  | x :: xs, acc, l, q => by
    have l2 : (x :: xs).length * ys.length = xs.length * ys.length + ys.length := by rw [List.length_cons, Nat.add_mul, Nat.one_mul]
    refine ⟨[g x], eg_name, hin x _ ⟨rfl, un1 ?_, by rw [List.length_map]; omega, ?_⟩⟩
    · rw [getset hi, if_neg hij]
      exact uj
    · refine lcm_on g1 (F x) (fun y _ κ q => ⟨[g1 y], eg_name, etm_yes ⟨rfl, fun _ => he x y _ ⟨rfl, q⟩, fun e => nomatch e⟩⟩) ?_
      refine lc2_names hi hij uj lys hin he xs _ (by rw [List.length_append, List.length_map]; omega) ?_
      rw [List.append_assoc]
      rw [List.flatMap_cons] at q
      exact q
end
end Tp

/-! # while, turn by turn -/
namespace Tp
open PySem PySem.Spec PyProof.Rows L2
section
variable {K : PySem.W.Frag} {P : Option Addr} {Z : Bas} {tt : TT} {t : TS} {nx bk ct : List Sx → Nat → Prop} {rt : D → Nat → Prop} {ρ : List Sx} {m : Nat}
/-- so many turns at most -/
def WhB (K : PySem.W.Frag) (P : Option Addr) (Z : Bas) (tt : TT) (t : TS) (nx : List Sx → Nat → Prop) (rt : D → Nat → Prop) : Nat → List Sx → Nat → Prop
  | 0, _, _ => False
  | k + 1, ρ, m => EtM K P Z tt ρ m fun b r n => (b = true → EsM K P Z t r n (WhB K P Z tt t nx rt k) nx (WhB K P Z tt t nx rt k) rt) ∧ (b = false → nx r n)
theorem esm_whB (h : ∃ k, WhB K P Z tt t nx rt k ρ m) : EsM K P Z (tWhile tt t) ρ m nx bk ct rt := by
  obtain ⟨k, hk⟩ := h
  refine esm_while (fun k r n => WhB K P Z tt t nx rt k r n) k hk fun i r n h => ?_
  cases i with
  | zero => exact h.elim
  | succ i => exact EtM.imp h fun b r n z => ⟨fun e => ⟨i, Nat.lt_succ_self _, z.1 e⟩, z.2⟩
end
theorem atI_mid {pre post : List Str} {w : Str} : L2.atI ((pre ++ w :: post).map D.str) ((pre.length : Nat) : Int) = some (.str w) := by
  unfold L2.atI ixN
  have l : pre.length < ((pre ++ w :: post).map D.str).length := by
    rw [List.length_map, List.length_append, List.length_cons]
    omega
  rw [if_pos (by omega), if_pos (by omega)]
  show ((pre ++ w :: post).map D.str)[((pre.length : Nat) : Int).toNat]? = _
  rw [Int.toNat_natCast, List.getElem?_map, List.getElem?_append_right (Nat.le_refl _), Nat.sub_self]
  rfl
end Tp

/-! # Texts: split, join, partition -/
namespace Tp
open PySem PySem.Spec PyProof.Rows L2
abbrev rSplit : V → List V → Hp → VK → Prop := fun x xs H Q => ∃ a b, x = V.str a ∧ xs = [V.str b] ∧ (b.length == 0) = false ∧ a.length + 2 ≤ sizeLine ∧ rNewStrs (Txt.split a b) H Q
abbrev rJoin (K : PySem.W.Frag) : V → List V → Hp → VK → Prop := fun x xs H Q => ∃ a p ys, x = V.str a ∧ xs = [V.ref p] ∧ (SqL K H p (List.map V.str ys) ∨ SqT K H p (List.map V.str ys)) ∧ (List.map (fun x => x.length) ys).sum + ys.length * a.length ≤ 16777216 ∧ Q (V.str (Txt.join a ys)) H
abbrev rPart : V → List V → Hp → VK → Prop := fun x xs H Q => ∃ a b, x = V.str a ∧ xs = [V.str b] ∧ (b.length == 0) = false ∧ a.length ≤ sizeLine ∧ ∀ (p : Addr), H p = none → Q (V.ref p) (upd H p (HO.tup [V.str (Txt.partition a b).fst, V.str (Txt.partition a b).snd.fst, V.str (Txt.partition a b).snd.snd]))
section
variable {X : Cx} {o e : Expr} {apos pos : Pos}
abbrev de_split (ho : DE X o) (he : DE X e) (h1 : starEach [e] X.env = [(false, eval e X.env)] := by rfl) (h2 : attributeBase o "split" X.env (eval o X.env) = eval o X.env := by rfl) (h3 : (apos.endLine == pos.line) = true := by rfl) : DE X (.Call (.Attribute o "split" apos) [e] [] pos) := ⟨tM1 rSplit ho.1 he.1, pe_split ho.2 he.2 h1 h2 h3⟩
abbrev de_join (ho : DE X o) (he : DE X e) (h1 : starEach [e] X.env = [(false, eval e X.env)] := by rfl) (h2 : attributeBase o "join" X.env (eval o X.env) = eval o X.env := by rfl) (h3 : (apos.endLine == pos.line) = true := by rfl) : DE X (.Call (.Attribute o "join" apos) [e] [] pos) := ⟨tM1 (rJoin X.K) ho.1 he.1, pe_join ho.2 he.2 h1 h2 h3⟩
abbrev de_part (ho : DE X o) (he : DE X e) (h1 : starEach [e] X.env = [(false, eval e X.env)] := by rfl) (h2 : attributeBase o "partition" X.env (eval o X.env) = eval o X.env := by rfl) (h3 : (apos.endLine == pos.line) = true := by rfl) : DE X (.Call (.Attribute o "partition" apos) [e] [] pos) := ⟨tM1 rPart ho.1 he.1, pe_partition ho.2 he.2 h1 h2 h3⟩
end
section
variable {K : PySem.W.Frag} {P : Option Addr} {Z : Bas} {ρ : List Sx} {to te : TE} {m : Nat} {φ : D → List Sx → Nat → Prop}
theorem evm_split (h : EvM K P Z to ρ m fun x r1 m1 => ∃ a, x = .str a ∧ EvM K P Z te r1 m1 fun y r2 m2 => ∃ b, y = .str b ∧ (b.length == 0) = false ∧ a.length ≤ 1000000 ∧ φ (.lst ((Txt.split a b).map .str)) r2 m2) : EvM K P Z (tM1 rSplit to te) ρ m φ := fun M0 σ G M H Q a l q => by
  refine h M0 σ G M H _ a l fun x d1 r1 m1 G1 M1 H1 s1 a1 l1 p1 v1 => ?_
  obtain ⟨a, rfl, p1⟩ := p1
  cases v1
  refine ⟨⟨a, rfl⟩, p1 M0 σ G1 M1 H1 _ a1 l1 fun y d2 r2 m2 G2 M2 H2 s2 a2 l2 p2 v2 => ?_⟩
  obtain ⟨b, rfl, hb, ha, z⟩ := p2
  cases v2
  refine ⟨a, b, rfl, rfl, hb, Nat.le_trans (Nat.add_le_add_right ha 2) (by decide), fun p n => ?_⟩
  exact q _ _ r2 m2 _ _ _ ((s1.trans s2).trans (Step.new a2.sep n)) (a2.pure (Step.new a2.sep n)) l2 z (new_lst a2.sep n DVs.of_strs)
theorem evm_join (h : EvM K P Z to ρ m fun x r1 m1 => ∃ a, x = .str a ∧ EvM K P Z te r1 m1 fun y r2 m2 => ∃ ys : List Str, (y = .lst (ys.map .str) ∨ y = .tup (ys.map .str)) ∧ (ys.map (fun x => x.length)).sum + ys.length * a.length ≤ 16777216 ∧ φ (.str (Txt.join a ys)) r2 m2) : EvM K P Z (tM1 (rJoin K) to te) ρ m φ := fun M0 σ G M H Q a l q => by
  refine h M0 σ G M H _ a l fun x d1 r1 m1 G1 M1 H1 s1 a1 l1 p1 v1 => ?_
  obtain ⟨a, rfl, p1⟩ := p1
  cases v1
  refine ⟨⟨a, rfl⟩, p1 M0 σ G1 M1 H1 _ a1 l1 fun y d2 r2 m2 G2 M2 H2 s2 a2 l2 p2 v2 => ?_⟩
  obtain ⟨ys, ey, sz, z⟩ := p2
  have fin := q _ _ r2 m2 _ _ _ (s1.trans s2) a2 l2 z (.str _)
  rcases ey with rfl | rfl
  · cases v2 with
    | lst h1 h2 =>
      have e := h2.strs
      subst e
      exact ⟨a, _, ys, rfl, rfl, .inl (sq_of' (a2.sep.g _ _ h1)), sz, fin⟩
  · cases v2 with
    | tup h1 h2 =>
      have e := h2.strs
      subst e
      exact ⟨a, _, ys, rfl, rfl, .inr (a2.sep.g.sqTd h1), sz, fin⟩
theorem evm_part (h : EvM K P Z to ρ m fun x r1 m1 => ∃ a, x = .str a ∧ EvM K P Z te r1 m1 fun y r2 m2 => ∃ b, y = .str b ∧ (b.length == 0) = false ∧ a.length ≤ 1000000 ∧ φ (.tup [.str (Txt.partition a b).1, .str (Txt.partition a b).2.1, .str (Txt.partition a b).2.2]) r2 m2) : EvM K P Z (tM1 rPart to te) ρ m φ := fun M0 σ G M H Q a l q => by
  refine h M0 σ G M H _ a l fun x d1 r1 m1 G1 M1 H1 s1 a1 l1 p1 v1 => ?_
  obtain ⟨a, rfl, p1⟩ := p1
  cases v1
  refine ⟨⟨a, rfl⟩, p1 M0 σ G1 M1 H1 _ a1 l1 fun y d2 r2 m2 G2 M2 H2 s2 a2 l2 p2 v2 => ?_⟩
  obtain ⟨b, rfl, hb, ha, z⟩ := p2
  cases v2
  refine ⟨a, b, rfl, rfl, hb, szOk ha, fun p n => ?_⟩
  exact q _ _ r2 m2 _ _ _ ((s1.trans s2).trans (Step.new a2.sep n)) (a2.pure (Step.new a2.sep n)) l2 z (new_tup a2.sep n (.cons (.str _) (.cons (.str _) (.cons (.str _) .nil))))
end
/-- words without the sign, put together, split again -/
theorem split_words {c : Nat} {ws : List Str} (hc : c < 256) (h : ws ≠ []) (hw : ∀ w ∈ ws, c ∉ w.cps.toList) : Txt.split (Txt.join ⟨#[c]⟩ ws) ⟨#[c]⟩ = ws :=
  TL.split_join (s := c) (S := []) rfl (by simp [hc]) h hw
end Tp

/-! # Texts within texts, numbers told by texts -/
namespace Tp
open PySem PySem.Spec PyProof.Rows L2
abbrev rInS : R2 := fun x y H Q => ∃ i j, x = V.str i ∧ y = V.str j ∧ Q (V.bl !(PySem.Builtin.Str.occurrences j i 0 j.length 1).isEmpty) H
abbrev rIntS : List V → Hp → VK → Prop := fun xs H Q => ∃ a n, xs = [V.str a] ∧ intText? a = some n ∧ a.length ≤ 640 ∧ Q (V.int n) H
abbrev rInt2 : List V → Hp → VK → Prop := fun xs H Q => rInt1 xs H Q ∨ rIntS xs H Q
section
variable {X : Cx} {a e : Expr} {p pos : Pos} {es : List Expr}
abbrev dt_inS {z : Str} {kk : Nat} (ha : DE X a) (hm : behindInMarks .In (.Constant (.str z) kk p) = false := by rfl) : DT X (.Compare a [.In] [.Constant (.str z) kk p] pos) := dt_cmp op_in_str ha de_str hm
theorem call_int2 : CallR X (.type "int") rInt2 := call_int1.or call_int_str
abbrev de_f_int2 (hm : X.mg ("int" : Str) = none) (hg : Gl X "int") (ha : DA X (e :: es)) (he : starEach (e :: es) X.env = (false, eval e X.env) :: starEach es X.env := by rfl) (hpl : (backTo pos (starEach es X.env)).any (·.1) = false := by rfl) : DE X (.Call (.Name "int" p) (e :: es) [] pos) := de_callT call_int2 hg hm bo_int ha nn_int nd_int he hpl
end
section
variable {K : PySem.W.Frag} {ψ : D → Prop}
theorem ow_inS {i j : Str} {b : Bool} (h : (!(PySem.Builtin.Str.occurrences j i 0 j.length 1).isEmpty) = b) (q : ψ (.bl b)) : OpW K rInS (.str i) (.str j) ψ := ow (fun u v G M H Q s ha hb q => by
  cases ha
  cases hb
  exact ⟨i, j, rfl, rfl, q _ _ G H (Step.refl s) rfl (.bl _)⟩) (h ▸ q)
theorem cw_int2 {i : Int} (q : ψ (.int i)) : CaW K rInt2 [.int i] ψ := cw (fun vs G M H Q s h q => .inl (cd_int vs G M H Q s h q)) q
theorem cw_intS {x : Str} {n : Int} (h : intText? x = some n) (l : x.length ≤ 640) (q : ψ (.int n)) : CaW K rInt2 [.str x] ψ := cw (fun vs G M H Q s hv q => by
  cases hv with
  | cons h1 h2 =>
    cases h2
    cases h1
    exact .inr ⟨x, n, rfl, h, l, q _ _ G H (Step.refl s) rfl (.int _)⟩) q
end
end Tp

/-! # Two new lists at once; an item taken out -/
namespace Tp
open PySem PySem.Spec PyProof.Rows L2
section
variable {X : Cx} {e : Expr} {te : TE} {elts : List Expr} {x y : Str} {i j kk : Nat} {tpos pos : Pos}
abbrev tSwp (K : PySem.W.Frag) (te : TE) (i j : Nat) : TS := fun D σ H => te σ H fun x H1 => ∃ a v w, x = V.ref a ∧ SqT K H1 a [v, w] ∧ D.nx ((σ.set j (some w)).set i (some v)) H1
theorem pg_bind {pins : List (Addr × Obj)} {s : Shared} {σ : L2.St} {H : Hp} {v : V} {u : Value} {Q : L2.St → Hp → Prop} (g : ∀ pos, PG X (.Name x pos) (gName i)) (I : Inv X pins σ H s) (r : RelV v u) (q : Q (σ.set i (some v)) H) :
    wpAny (model X.prog X.w) X.A (bindName X.env x u) (fun _ s' => ∃ σ' H', Inv X pins σ' H' s' ∧ Q σ' H') X.xe s := by
  intro Γ p hΓ
  have h := (g p).run pins s σ H v u Q I r q Γ p hΓ
  unfold PySem.assign at h
  rw [show (do standAt p; bindName X.env x u : Sem Unit) = Sem.bind (standAt p) fun _ => bindName X.env x u from rfl, Sem.wp_bind, Sem.wp_cmd_standAt] at h
  exact h
theorem unpack2 {A : Around} {P : Program} {w : World} {E : Value → Shared → Prop} {s : Shared} {a : Addr} {u1 u2 : Value} {Q : List Value → Shared → Prop} (hA : A.handled = none) (it : IsTup s.heap a #[u1, u2]) (h : ∀ h', Heap.ExtBut s.heap.objs.size s.heap h' → Q [u1, u2] { heap := h', gens := s.gens, drawn := s.drawn, toks := s.toks, os := s.os }) :
    wpAny (model P w) A (unpackItems (.ref a) 2 none) Q E s := unpackItems_tuple (items := #[u1, u2]) hA it h
theorem bind2 {pins : List (Addr × Obj)} {s : Shared} {σ : L2.St} {H : Hp} {v1 w1 : V} {u1 u2 : Value} {D : L2.Ends} (g1 : ∀ p, PG X (.Name x p) (gName i)) (g2 : ∀ p, PG X (.Name y p) (gName j)) (I : Inv X pins σ H s) (r1 : RelV v1 u1) (r2 : RelV w1 u2) (q : D.nx ((σ.set j (some w1)).set i (some v1)) H) :
    wpAny (model X.prog X.w) X.A (assignInOrder [bindName X.env y, bindName X.env x] [u2, u1]) (fun _ s' => ∃ σ' H', Inv X pins σ' H' s' ∧ D.nx σ' H') X.xe s :=
  assignInOrder_cons (thn (pg_bind (Q := fun σ' H' => D.nx (σ'.set i (some v1)) H') g2 I r2 q) fun _ s3 h3 => by
    obtain ⟨σ', H', I3, q3⟩ := h3
    exact assignInOrder_cons (thn (pg_bind g1 I3 r1 q3) fun _ s4 h4 => assignInOrder_nil h4))
theorem ext_all {h h' : Heap} (e : Heap.ExtBut h.objs.size h h') (b : Addr) (o : Obj) (g : h.get? b = some o) : h'.get? b = some o := e b o (fun z => by
  rw [z] at g
  unfold Heap.get? at g
  rw [Array.getElem?_eq_none (Nat.le_refl _)] at g
  exact nomatch g) g
/-- two names set without a tuple between -/
theorem ps_swap (hc : X.calm = true) (he : PE X e te) (g1 : ∀ p, PG X (.Name x p) (gName i)) (g2 : ∀ p, PG X (.Name y p) (gName j)) (h1 : swapsWithSole [.Tuple elts kk tpos] e pos.line X.env = pure false) (h2 : swappedStores [.Tuple elts kk tpos] e X.env = pure (some [x, y])) :
    PS X (.Assign [.Tuple elts kk tpos] e pos) (tSwp X.K te i j) := by
  refine ⟨fun pins s σ H D I h => Assign_Tuple_swapped (thn (he.run pins s σ H _ I h) fun u s1 hu => ?_) h1 h2⟩
  obtain ⟨v, H1, I1, r, a, v1, w1, rfl, sq, q⟩ := hu
  cases (show u = Value.ref a from r)
  obtain ⟨its, hv, it, _⟩ := I1.tuple sq
  obtain ⟨u1, u2, rfl, r1, r2⟩ : ∃ u1 u2, its = [u1, u2] ∧ RelV v1 u1 ∧ RelV w1 u2 := by
    cases hv with
    | cons r1 hv =>
      cases hv with
      | cons r2 hv =>
        cases hv
        exact ⟨_, _, rfl, r1, r2⟩
  exact unpack2 (I1.ok.hd hc) it fun h' ex => bind2 g1 g2 (I1.kept (t' := s1.toks) (h' := h') (ext_all ex)) r1 r2 q
abbrev ds_swap (i j : Nat) (hc : X.calm = true) (hN : X.N.Nodup) (he : DE X e) (e1 : X.N[i]? = some x := by rfl) (e2 : X.N[j]? = some y := by rfl) (l1 : Loc X.env.scope x := by first | exact Or.inl rfl | exact Or.inr rfl) (l2 : Loc X.env.scope y := by first | exact Or.inl rfl | exact Or.inr rfl)
    (n1 : X.fn x = true ∨ List.lookup x X.env.scope.names = some .local := by first | exact Or.inl rfl | exact Or.inr rfl) (n2 : X.fn y = true ∨ List.lookup y X.env.scope.names = some .local := by first | exact Or.inl rfl | exact Or.inr rfl)
    (h1 : swapsWithSole [.Tuple elts kk tpos] e pos.line X.env = pure false := by rfl) (h2 : swappedStores [.Tuple elts kk tpos] e X.env = pure (some [x, y]) := by rfl) : DS X (.Assign [.Tuple elts kk tpos] e pos) :=
  ⟨tSwp X.K he.1 i j, ps_swap hc he.2 (fun _ => pg_name hN e1 l1 n1) (fun _ => pg_name hN e2 l2 n2) h1 h2⟩
end
section
variable {K : PySem.W.Frag} {P : Option Addr} {Z : Bas} {ρ : List Sx} {m i j : Nat} {te : TE} {φ : D → List Sx → Nat → Prop} {nx bk ct : List Sx → Nat → Prop} {rt : D → Nat → Prop}
theorem DVs.erase {G : Hp} : ∀ {vs : List V} {ds : List D} (i : Nat), DVs K G vs ds → DVs K G (vs.eraseIdx i) (ds.eraseIdx i)
  | _, _, _, .nil => .nil
  | _, _, 0, .cons _ h => h
  | _, _, i + 1, .cons h k => .cons h (k.erase i)
theorem seqIx {i n : Nat} (h : i < n) : seqIndex? (i : Int) n = some i := by
  unfold seqIndex?
  have e : ¬ ((i : Int) < 0) := by omega
  simp only [e, if_false]
  rw [if_pos]
  · rfl
  · rw [decide_eq_true (by omega), decide_eq_true (by omega)]
    rfl
/-- left.pop(e) -/
theorem evm_popAt {es : List D} (e0 : ρ[j]? = some (.own (.lst es))) (h : EvM K P Z te ρ m fun d r1 m1 => ∃ (i : Nat) (ds : List D) (x : D), d = .int (i : Nat) ∧ r1[j]? = some (.own (.lst ds)) ∧ i < 1000000 ∧ ds[i]? = some x ∧ φ x (r1.set j (.own (.lst (ds.eraseIdx i)))) m1) :
    EvM K P Z (tBM K "list" rPopAt (tVar j) (tCons te tNil)) ρ m φ := fun M0 σ G M H Q a b q => by
  obtain ⟨l, u, e1, _, _, e4, ⟨vs, rfl, _⟩, _⟩ := a.own e0
  refine ⟨.ref l, e1, .inl ⟨rfl, _, sq_of' (a.sep.m _ _ e4)⟩, h M0 σ G M H _ a b fun v d r1 m1 G1 M1 H1 s1 a1 l1 p1 v1 => ?_⟩
  obtain ⟨i, ds, x, rfl, e, few, ex, z⟩ := p1
  obtain ⟨l', u', f1, f2, f3, f4, ⟨ws, rfl, hw⟩, ns⟩ := a1.own e
  rw [e1] at f1
  cases f1
  cases v1
  obtain ⟨y, ey, dy⟩ := DVs.back hw ex
  have li : i < ws.length := by
    rcases Nat.lt_or_ge i ws.length with h | h
    · exact h
    · rw [List.getElem?_eq_none h] at ey
      cases ey
  refine ⟨l, ws, (i : Nat), i, y, rfl, rfl, a1.sep.m _ _ f4, by omega, by omega, seqIx li, ey, ?_⟩
  exact q y x _ m1 _ _ _ (s1.trans (Step.put a1.sep f4)) (a1.ownPut (w := .lst (ws.eraseIdx i)) (b2 := .lst (ds.eraseIdx i)) e e1 f2 f3 f4 ns ⟨_, rfl, hw.erase i⟩) l1 z dy
/-- left, found = list(..), [] -/
theorem esm_asgLN (ne : i ≠ j) (h : EvM K P Z te ρ m fun d r1 m1 => ∃ ds, (d = .lst ds ∨ d = .tup ds) ∧ i < r1.length ∧ j < r1.length ∧ nx ((r1.set i (.own (.lst ds))).set j (.own (.lst []))) m1) :
    EsM K P Z (tSwp K (tTup (tCons (tCB (rLstOf K) (tCons te tNil)) (tCons (tLst tNil) tNil))) i j) ρ m nx bk ct rt := fun M0 σ G M H E a b q1 _ _ _ => by
  refine h M0 σ G M H _ a b fun v d r1 m1 G1 M1 H1 s1 a1 l1 p1 v1 => ?_
  obtain ⟨ds, hd, li, lj, z⟩ := p1
  have fin : ∀ {p : Addr} {ys : List V}, (SqL K H1 p ys ∨ SqT K H1 p ys) → DVs K G1 ys ds → rLstOf K [.ref p] H1 fun x H2 => (tLst tNil) σ H2 fun y H3 => [x, y].length ≤ sizeLine ∧ ∀ (r : Addr), H3 r = none → ∃ a v w, V.ref r = V.ref a ∧ SqT K (upd H3 r (.tup [x, y])) a [v, w] ∧ E.nx ((σ.set j (some w)).set i (some v)) (upd H3 r (.tup [x, y])) := fun {p ys} sq dy => by
    refine ⟨p, ys, rfl, sq, fun l n => ⟨by decide, fun r n2 => ⟨by exact Nat.le_of_ble_eq_true rfl, fun t n3 => ?_⟩⟩⟩
    have a2 := a1.ownNew (b := .lst ds) li n ⟨ys, rfl, dy⟩
    have a3 := a2.ownNew (b := .lst []) (by rw [List.length_set]; exact lj) n2 ⟨[], rfl, .nil⟩
    have st := Step.own (o := .tup [.ref l, .ref r]) a3.sep n3
    have a4 := a3.go (n := m1) st (fun p e => by
      obtain ⟨x, y, c, e2, w⟩ := a3.pot p e
      refine ⟨x, y, c, ?_, w⟩
      rw [upd_ne fun q => ?_]
      · exact e2
      · rw [q] at e2
        exact absurd (a3.sep.m _ _ e2) (by rw [n3]; exact fun h => nomatch h)) fun b o _ e => by
      rw [upd_ne (some_ne e ?_)]
      · exact e
      · cases hb : upd (upd M1 l (.lst ys)) r (.lst []) t with
        | none => rfl
        | some o => exact absurd (a3.sep.m _ _ hb) (by rw [n3]; exact fun h => nomatch h)
    refine ⟨t, _, _, rfl, .inl (.inl upd_same), ?_⟩
    rw [List.set_comm _ _ (fun h => ne h.symm)]
    exact q1 _ _ m1 _ _ _ (((s1.trans (Step.own a1.sep n)).trans (Step.own a2.sep n2)).trans st) a4 l1 z
  rcases hd with rfl | rfl
  · cases v1 with
    | @lst p xs _ g1 g2 => exact fin (.inl (sq_of' (a1.sep.g _ _ g1))) g2
  · cases v1 with
    | @tup p xs _ g1 g2 => exact fin (.inr (a1.sep.g.sqTd g1)) g2
/-- len(left), left owned -/
theorem evm_lenO {ds : List D} (e : ρ[j]? = some (.own (.lst ds))) (q : φ (.int (ds.length : Nat)) ρ m) : EvM K P Z (tCB (rLen1 K) (tCons (tVar j) tNil)) ρ m φ := fun M0 σ G M H Q a b f => by
  obtain ⟨l, u, e1, _, _, e4, ⟨vs, rfl, hv⟩, _⟩ := a.own e
  exact ⟨.ref l, e1, _, vs.length, rfl, .inl ⟨_, sq_of' (a.sep.m _ _ e4), rfl⟩, f _ _ ρ m G M H (Step.refl a.sep) a b (by rw [hv.length]; exact q) (.int _)⟩
theorem cw_min2 {i j : Int} {ψ : D → Prop} (q : ψ (.int (if j < i then j else i))) : CaW K (fun xs H Q => ∃ i j, xs = [V.int i, V.int j] ∧ Q (V.int (if j < i then j else i)) H) [.int i, .int j] ψ := cw (fun vs G M H Q s hv q => by
  cases hv with
  | cons h1 h2 =>
    cases h2 with
    | cons h2 h3 =>
      cases h3
      cases h1
      cases h2
      exact ⟨i, j, rfl, q _ _ G H (Step.refl s) rfl (.int _)⟩) q
end
end Tp

/-! # Slices of texts and lists; two names set from any pair -/
namespace Tp
open PySem PySem.Spec PyProof.Rows L2
abbrev rSl (K : PySem.W.Frag) : V → Option Int → Option Int → Hp → VK → Prop := fun x lo hi H Q => rSlS x lo hi H Q ∨ rSlL K x lo hi H Q
abbrev DO (X : Cx) (e : Option Expr) := { t : TO // PO X e t }
section
variable {X : Cx} {e : Expr} {lo hi : Option Expr} {p2 pos : Pos}
abbrev do_none : DO X none := ⟨tNoPart, po_none⟩
abbrev do_some (h : DE X e) : DO X (some e) := ⟨tPart h.1, po_some h.2⟩
theorem sl_sl : SlR X (rSl X.K) := sl_str.or sl_list
abbrev de_slice (he : DE X e) (hl : DO X lo) (hh : DO X hi) : DE X (.Subscript e (.Slice lo hi none p2) pos) := ⟨tSl (rSl X.K) he.1 hl.1 hh.1, pe_slice sl_sl he.2 hl.2 hh.2⟩
end
section
variable (K : PySem.W.Frag) (P : Option Addr) (Z : Bas)
def EoM (t : TO) (ρ : List Sx) (m : Nat) (φ : Option Int → List Sx → Nat → Prop) : Prop := ∀ (M0 : Hp) (σ : L2.St) (G M H : Hp) (Q : Option Int → Hp → Prop), At K P Z M0 m G M H σ ρ → m ≤ BIG →
  (∀ o ρ2 m2 G2 M2 H2, Step G M H G2 M2 H2 → At K P Z M0 m2 G2 M2 H2 σ ρ2 → m2 ≤ BIG → φ o ρ2 m2 → Q o H2) → t σ H Q
end
def cutD (ds : List D) (lo hi : Option Int) : List D := List.take (HT.sIx ds.length ds.length hi - HT.sIx ds.length 0 lo) (List.drop (HT.sIx ds.length 0 lo) ds)
def SlW (d : D) (lo hi : Option Int) (ψ : D → Prop) : Prop := (∃ z : Str, d = .str z ∧ z.length ≤ 1000000 ∧ ψ (.str (cutS z lo hi))) ∨ ∃ ds, d = .lst ds ∧ ψ (.lst (cutD ds lo hi))
section
variable {K : PySem.W.Frag} {P : Option Addr} {Z : Bas} {ρ : List Sx} {m i j : Nat} {te : TE} {tl th : TO} {φ : D → List Sx → Nat → Prop} {ψ : Option Int → List Sx → Nat → Prop} {nx bk ct : List Sx → Nat → Prop} {rt : D → Nat → Prop}
theorem eom_none (q : ψ none ρ m) : EoM K P Z tNoPart ρ m ψ := fun M0 σ G M H Q a l f => f none ρ m G M H (Step.refl a.sep) a l q
theorem eom_some (h : EvM K P Z te ρ m fun d r1 m1 => ∃ i, d = .int i ∧ ψ (some i) r1 m1) : EoM K P Z (tPart te) ρ m ψ := fun M0 σ G M H Q a l f =>
  h M0 σ G M H _ a l fun v d r1 m1 G1 M1 H1 s1 a1 l1 p1 v1 => by
    obtain ⟨i, rfl, q⟩ := p1
    cases v1
    exact ⟨i, rfl, f (some i) r1 m1 G1 M1 H1 s1 a1 l1 q⟩
theorem slw_str {z : Str} {lo hi : Option Int} {ψ : D → Prop} (l : z.length ≤ 1000000) (q : ψ (.str (cutS z lo hi))) : SlW (.str z) lo hi ψ := .inl ⟨z, rfl, l, q⟩
theorem slw_lst {ds : List D} {lo hi : Option Int} {ψ : D → Prop} (q : ψ (.lst (cutD ds lo hi))) : SlW (.lst ds) lo hi ψ := .inr ⟨ds, rfl, q⟩
theorem cut_dvs {G : Hp} {vs : List V} {ds : List D} {lo hi : Option Int} (h : DVs K G vs ds) : DVs K G (cutV vs lo hi) (cutD ds lo hi) := by
  unfold cutV cutD
  rw [h.length]
  exact (h.drop _).take _
theorem evm_slice (h : EvM K P Z te ρ m fun d r1 m1 => EoM K P Z tl r1 m1 fun lo r2 m2 => EoM K P Z th r2 m2 fun hi r3 m3 => SlW d lo hi fun y => φ y r3 m3) : EvM K P Z (tSl (rSl K) te tl th) ρ m φ := fun M0 σ G M H Q a l q => by
  refine h M0 σ G M H _ a l fun x d r1 m1 G1 M1 H1 s1 a1 l1 p1 v1 => ?_
  refine p1 M0 σ G1 M1 H1 _ a1 l1 fun lo r2 m2 G2 M2 H2 s2 a2 l2 p2 => ?_
  refine p2 M0 σ G2 M2 H2 _ a2 l2 fun hi r3 m3 G3 M3 H3 s3 a3 l3 p3 => ?_
  have v3 := (v1.mono s2.gg).mono s3.gg
  have st := (s1.trans s2).trans s3
  rcases p3 with ⟨z, rfl, lz, w⟩ | ⟨ds, rfl, w⟩
  · cases v3
    exact .inl ⟨z, rfl, szOk lz, q _ _ r3 m3 G3 M3 H3 st a3 l3 w (.str _)⟩
  · cases v3 with
    | @lst p vs _ g1 g2 =>
      refine .inr ⟨p, vs, rfl, sq_of' (a3.sep.g _ _ g1), fun p' n => ?_⟩
      exact q _ _ r3 m3 _ _ _ (st.trans (Step.new a3.sep n)) (a3.pure (Step.new a3.sep n)) l3 w (new_lst a3.sep n (cut_dvs g2))
/-- a, b = e, e of two data -/
theorem esm_swp (h : EvM K P Z te ρ m fun d r1 m1 => ∃ a b, d = .tup [a, b] ∧ j < r1.length ∧ i < r1.length ∧ nx ((r1.set j (.d b)).set i (.d a)) m1) : EsM K P Z (tSwp K te i j) ρ m nx bk ct rt := fun M0 σ G M H E a b q1 _ _ _ => by
  refine h M0 σ G M H _ a b fun v d r1 m1 G1 M1 H1 s1 a1 l1 p1 v1 => ?_
  obtain ⟨x, y, rfl, lj, li, z⟩ := p1
  cases v1 with
  | @tup p vs _ g1 g2 =>
    cases g2 with
    | cons x1 g2 =>
      cases g2 with
      | cons x2 g2 =>
        cases g2
        refine ⟨p, _, _, rfl, a1.sep.g.sqTd g1, ?_⟩
        exact q1 _ _ m1 _ _ _ s1 ((a1.set lj x2).set (by rw [List.length_set]; exact li) x1) l1 z
end
end Tp

/-! # Errors raised, caught, kept: by steps -/
namespace Tp
open PySem PySem.Spec PyProof.Rows L2
/-- what 'except x as n' wishes: in the suite the error is an object like others -/
def wKept (K : PySem.W.Frag) (c : Value) (i : Nat) (ts : TS) (Wo : WX) (D : L2.Ends) : WX := fun cl d σ H => ∃ b, PySem.W.exmOne K cl c = some b ∧
  (b = true → ∃ C dd, cl = .ref C ∧ d = some dd ∧ ∀ a, H a = none → ts { nx := fun σ' H' => D.nx (σ'.set i none) H', rt := D.rt, bk := fun σ' H' => D.bk (σ'.set i none) H', ct := fun σ' H' => D.ct (σ'.set i none) H' } (σ.set i (some (.ref a))) (upd H a (exq a C (some dd)))) ∧ (b = false → Wo cl d σ H)
section
variable {X : Cx} {pins : List (Addr × Obj)} {σ : L2.St} {H : Hp} {s : Shared}
theorem adoptX {a C : Addr} {d : Option Addr} {oe : Obj} {vs : Array Value} (I : Inv X pins σ H s) (e : s.heap.get? a = some oe) (ec : oe.cls = .ref C) (ed : oe.dict = d) (ef : oe.data = .fields vs) (na : H a = none) (n0 : X.s_0.heap.get? a = none) (nL : X.env.locals ≠ a)
    (nP : ∀ p ∈ X.pn ++ pins, p.1 ≠ a) : Inv X pins σ (upd H a (exq a C d)) s := by
  have ne0 : ∀ {b o}, X.s_0.heap.get? b = some o → b ≠ a := fun {b o} z q => by rw [q, n0] at z; cases z
  have neH : ∀ {b o}, H b = some o → b ≠ a := fun {b o} z q => by rw [q, na] at z; cases z
  refine ⟨I.ok, I.os, I.bare, ⟨I.base.keep, I.base.slot, fun b o z n x => (upd_ne (ne0 z)).trans (I.base.free b o z n x), I.base.there, fun b xs z => ?_, fun b o u z => ?_, fun b ps z => ?_⟩, I.loc, I.cell, (upd_ne nL).trans I.free, fun x c z => ?_, fun p hp => ?_, I.hok.laidN (fun _ _ z => z) na ?_, I.len⟩
  · have q := I.base.tups b xs z
    exact (upd_ne (neH q)).trans q
  · have q := I.base.frzs b o u z
    exact (upd_ne (neH q)).trans q
  · obtain ⟨m, q⟩ := I.base.tbls b ps z
    exact ⟨m, (upd_ne (neH q)).trans q⟩
  · obtain ⟨v, o, ho, hd⟩ := I.cell x c z
    refine (upd_ne fun q => ?_).trans (I.freeC x c z)
    rw [q, e] at ho
    cases ho
    rw [ef] at hd
    cases hd
  · obtain ⟨p1, p2, p3⟩ := I.pin p hp
    exact ⟨p1, (upd_ne (nP p hp)).trans p2, p3⟩
  · exact ⟨⟨oe, vs, e, ec, ed, ef⟩, ⟨_, e⟩, fun h1 h2 z k => z.elim fun o q => q.elim fun vs q => ⟨o, vs, k _ q.1, q.2⟩⟩
theorem toSuite {a : Addr} (I : Inv X pins σ H s) : Inv (X.suite a (X.pn ++ pins)) [] σ H s :=
  ⟨I.ok.suite _ _, I.os, I.bare, I.base, I.loc, I.cell, I.free, I.freeC, fun p hp => I.pin p (by simpa using hp), I.hok, I.len⟩
theorem ofSuite {a : Addr} {pn' : List (Addr × Obj)} (I : Inv (X.suite a (X.pn ++ pins)) pn' σ H s) (ok : X.Ok) : Inv X pins σ H s :=
  ⟨ok, I.os, I.bare, I.base, I.loc, I.cell, I.free, I.freeC, fun p hp => I.pin p (List.mem_append_left _ hp), I.hok, I.len⟩
end
section
variable {X : Cx} {x n : Str} {c : Value} {i : Nat} {body rest : List Stmt} {b1 : Stmt} {np q1 q2 : Pos} {tb : WX → TS} {ts : TS} {Wo : WX}
theorem ps_tryK (hs : X.stack = X.env :: X.outer) (hf : X.env.frame = some X.env.locals) (hx : X.ex = []) (hN : X.N.Nodup) (hi : X.N[i]? = some n) (hl : X.env.kindOf n = some .local) (hc : Names X x c) (tk : Takes X Wo)
    (hb : ∀ (W : WX) (pn : List (Addr × Obj)) (xe : Value → Shared → Prop), Takes (X.tr pn xe) W → PassesOwn (model X.prog X.w) X.A X.env xe → PSs (X.tr pn xe) body (tb W))
    (hu : ∀ (a : Addr) (pn : List (Addr × Obj)), PSs (X.suite a pn) (b1 :: rest) ts) :
    PS X (.Try body [.ExceptHandler (some (.Name x np)) (some n) (b1 :: rest) q1] [] [] q2) (fun D σ H => tb (wKept X.K c i ts Wo D) D σ H) := by
  refine ⟨fun pins s σ H D I h => ?_⟩
  have ok := I.ok
  have fr : X.A.frames = some (X.env :: X.outer) := ok.frames.trans (congrArg some hs)
  refine wpAny_Try_except (wpAny_mono ((hb (wKept X.K c i ts Wo D) (X.pn ++ pins) (fun e t1 => wpAny (model X.prog X.w) X.A (noteFrame e X.env) (fun _ t2 => wpAny (model X.prog X.w) X.A (setFlight e none) (fun _ t3 =>
    wpAny (model X.prog X.w) X.A (handleBy e X.env [.ExceptHandler (some (.Name x np)) (some n) (b1 :: rest) q1]) (SP X pins D) X.xe t3) X.xe t2) X.xe t1) (fun u s' xx => ?_) PassesOwn.looking).run [] s σ H D (I.toTry _) h) (fun f s1 z => ?_) (fun _ _ z => z))
  · obtain ⟨a, B, sI, pns, σ1, H1, cl, d, rfl, J', nb, up, sky, na, os, ag, b, hb1, yes, no⟩ := xx
    have J : Inv X pins σ1 H1 sI := J'.ofTry ok
    show wpAny (model X.prog X.w) X.A (noteFrame (.ref a) X.env) _ _ _
    refine Sky.land Zc.steady fr hf (hs ▸ sky) fun h3 fl3 up3 => ?_
    have J3 : Inv X pins σ1 H1 { s' with heap := h3 } := J.landed nb fl3.1 (up.trans up3) os ag
    obtain ⟨o3, v3, e3, z3, d3⟩ := fl3.there
    have nf : ∀ {h : Heap} {o : Obj} {vs : Array Value}, h.FunFrames B (X.env :: X.outer) → h.get? a = some o → o.data = .fields vs → a ∉ frs (X.env :: X.outer) := fun {h o vs} ff e dd hm => by
      obtain ⟨_, o', e', w⟩ := ff.mem hm
      rw [e] at e'
      cases e'
      exact w _ dd
    have nfr := nf fl3.2.2.1 e3 d3
    have nL : a ≠ X.env.locals := fun z => nfr (List.mem_filterMap.mpr ⟨X.env, .head _, by rw [hf, z]⟩)
    have nF : a ∉ X.fs := fun hm => (List.mem_filterMap.mp hm).elim fun e w => nfr (List.mem_filterMap.mpr ⟨e, .tail _ w.1, w.2⟩)
    -- it stood not in the heap before it was made
    have nI : sI.heap.get? a = none := by
      cases q : sI.heap.get? a with
      | none => rfl
      | some o => exact absurd (nb a o q (by rw [hs]; exact nfr)) (by rw [fl3.2.1]; exact fun z => nomatch z)
    have n0 : X.s_0.heap.get? a = none := by
      cases q : X.s_0.heap.get? a with
      | none => rfl
      | some o =>
        obtain ⟨o', e'⟩ := J.base.there a o q (by rw [hx]; exact List.not_mem_nil)
        rw [nI] at e'
        cases e'
    have nP : ∀ p ∈ X.pn ++ pins, p.1 ≠ a := fun p hp q => by
      have w := (J.pin p hp).1
      rw [q, nI] at w
      cases w
    have S3 := J3.suite e3 d3 na nL nF
    refine wpAny_handleBy_cons (codeAny_handlers_test ?_) (by intro q; cases q)
    have LT : PySem.W.Looks (model X.prog X.w) h3 (typeOf (.ref a)) cl := fun A Q E s k q => wpAny_typeOf_ref (k _ _ e3) (by rw [z3.1]; exact q)
    have LM := PySem.W.exm_one (M := model X.prog X.w) (J3.kIn) LT hb1
    have test : ∀ {Q : Value → Shared → Prop} {E : Value → Shared → Prop}, Q c { s' with heap := h3 } → wpAny (model X.prog X.w) (X.A.mark (some (.ref a))) (eval (.Name x np) X.env) Q E { s' with heap := h3 } := fun {Q E} q => by
      obtain ⟨hg, hdb, hm | ⟨hm, hv, hn⟩⟩ := hc
      · exact ld_glob (X := X.suite a ((a, o3) :: (X.pn ++ pins))) S3 hg hm q hdb
      · exact ld_blt (X := X.suite a ((a, o3) :: (X.pn ++ pins))) S3 hg hm hv q hn hdb
    refine test (LM.here ?_)
    cases b with
    | true =>
      obtain ⟨C, dd, rfl, rfl, go⟩ := yes rfl
      refine codeAny_handlers_suite_as (HandSPX.lands_againZ fl3 fun h4 fl4 up4 => ?_)
      have J4 : Inv X pins σ1 H1 { s' with heap := h4 } := J.landed nb fl4.1 ((up.trans up3).trans up4) os ag
      obtain ⟨o4, v4, e4, z4, d4⟩ := fl4.there
      have S4 := toSuite (a := a) (adoptX J4 e4 z4.1 z4.2 d4 na n0 (Ne.symm nL) nP)
      refine store_ok (X := X.suite a (X.pn ++ pins)) (v := .ref a) S4 hN hi (.inl hl) rfl (fun s5 S5 => ?_) (.inr hl)
      refine wpAny_mono ((hu a (X.pn ++ pins)).run [] s5 _ _ _ S5 (go a na)) (fun f s6 z => ?_) (fun _ _ z => False.elim z)
      have fin : ∀ {σ6 : L2.St} {H6 : Hp} {Q : Shared → Prop}, Inv (X.suite a (X.pn ++ pins)) [] σ6 H6 s6 → (∀ s7, Inv X pins (σ6.set i none) H6 s7 → Q s7) →
          wpAny (model X.prog X.w) X.A (do bindName X.env n .none; unbindBehindTheSuite X.env n q1) (fun _ s7 => Q s7) X.xe s6 := fun {σ6 H6 Q} S6 w => gone_ok (ofSuite S6 ok) hN hi hl w
      cases f with
      | ret u =>
        obtain ⟨v6, σ6, H6, S6, r6, q6⟩ := z
        exact fin S6 fun s7 J7 => ⟨_, _, _, J7, r6, q6⟩
      | _ =>
        obtain ⟨σ6, H6, S6, q6⟩ := z
        exact fin S6 fun s7 J7 => ⟨_, _, J7, q6⟩
    | false =>
      show wpAny _ X.A (handleBy (.ref a) X.env []) _ _ _
      refine wpAny_handleBy_nil ?_
      obtain ⟨k1, k2, k3, oe, vs, T, oT, ts', he, hz, hd, h1, hr⟩ := id fl3
      unfold PySem.passOn
      refine wpAny_bind (wpAny_field he hd h1 ?_)
      rw [if_neg (show ¬ ((Value.ref T == Value.none) = true) by simp)]
      have fin : wpAny (model X.prog X.w) X.A (setFlight (.ref a) X.env.frame) (fun _ t4 => wpAny (model X.prog X.w) X.A (throw (.ref a) : Sem Flow) (SP X pins D) X.xe t4) X.xe { s' with heap := h3 } := by
        rw [hf]
        refine HandSPX.setFlight_upZ fl3 fun h4 hh4 up4 => wpAny_throw (tk _ _ ⟨a, B, sI, pins, σ1, H1, cl, d, rfl, J, nb, (up.trans up3).trans up4, .inr (.inr (by rw [hs]; exact hh4)), na, os, ag, no rfl⟩)
      first
        | exact wpAny_bind (wpAny_pure (wpAny_bind fin))
        | exact wpAny_bind fin
  · cases f with
    | ret u =>
      obtain ⟨v, σ', H', J', r, q⟩ := z
      exact ⟨v, σ', H', J'.ofTry ok, r, q⟩
    | next =>
      obtain ⟨σ', H', J', q⟩ := z
      exact wpAny_execs_nil ⟨σ', H', J'.ofTry ok, q⟩
    | _ =>
      obtain ⟨σ', H', J', q⟩ := z
      exact ⟨σ', H', J'.ofTry ok, q⟩
end
/-! ### over data -/
/-- what is known where an error leaves: of its class, its value, the slots, the draws -/
def OutM (K : PySem.W.Frag) (P : Option Addr) (Z : Bas) (W : WX) (Xp : Addr → D → List Sx → Nat → Prop) : Prop := ∀ (M0 : Hp) (σ : L2.St) (ρ : List Sx) (G M H : Hp) (m : Nat) (C d : Addr) (v : V) (x : D),
  At K P Z M0 m G M H σ ρ → m ≤ BIG → G d = some (.xd [("value", v)]) → DV K G v x → Xp C x ρ m → W (.ref C) (some d) σ H
/-- none leaves -/
theorem out0 {K : PySem.W.Frag} {P : Option Addr} {Z : Bas} {W : WX} : OutM K P Z W (fun _ _ _ _ => False) := fun _ _ _ _ _ _ _ _ _ _ _ _ _ _ _ z => z.elim
/-- a promise of a def that may raise, by what the caller says the arguments stand for -/
def spTX (K : PySem.W.Frag) {τ : Type} (args : τ → List D) (good : τ → Prop) (R : τ → D → Prop) (XR : τ → Addr → D → Prop) : Sp := fun vs H Q E => ∃ (t : τ) (G M : Hp), Sep G M H ∧ DVs K G vs (args t) ∧ good t ∧
  (∀ v d G2 H2, Step G M H G2 M H2 → R t d → DV K G2 v d → Q v H2) ∧ ∀ C dx v x G2 H2, Step G M H G2 M H2 → G2 dx = some (.xd [("value", v)]) → DV K G2 v x → XR t C x → E (.ref C) (some dx) H2
/-- the state kept behind a try's body -/
def ZT (M0 G M H : Hp) : Bas := ⟨fun M1 => Same M0 M1, fun G2 M2 H2 => Step G M H G2 M2 H2, fun s z => z.trans s, fun {M1 a u} z h b o e => by
  by_cases q : b = a
  · rw [q] at e ⊢
    rw [upd_same, h o (z _ _ e)]
  · rw [upd_ne q]
    exact z _ _ e⟩
section
variable {K : PySem.W.Frag} {P : Option Addr} {Z : Bas} {G M H H' : Hp} {m i : Nat} {ρ : List Sx} {C : Addr} {ta : TA} {te : TE} {φ : D → List Sx → Nat → Prop} {W Wo : WX} {Xp Yp : Addr → D → List Sx → Nat → Prop} {nx bk ct : List Sx → Nat → Prop} {rt : D → Nat → Prop} {τ : Type} {args : τ → List D} {good : τ → Prop} {R : τ → D → Prop} {XR : τ → Addr → D → Prop}
theorem at_body {M0 : Hp} {σ : L2.St} (a : At K P Z M0 m G M H σ ρ) : At K P (ZT M0 G M H) M0 m G M H σ ρ := ⟨a.sep, a.pot, a.fr, a.len, Same.refl _, Step.refl a.sep, a.sl, a.nd⟩
theorem at_back {M0 M1 G2 M2 H2 : Hp} {σ σ2 : L2.St} {r2 : List Sx} {n : Nat} (a : At K P Z M0 m G M H σ ρ) (z : At K P (ZT M0 G M H) M1 n G2 M2 H2 σ2 r2) : Step G M H G2 M2 H2 ∧ At K P Z M0 n G2 M2 H2 σ2 r2 := by
  have st : Step G M H G2 M2 H2 := z.bs
  have sm : Same M0 M1 := z.bm
  refine ⟨st, z.sep, z.pot, fun b o h e => z.fr b o h (sm b o e), z.len, a.bm, Z.step st a.bs, fun j x e => ?_, z.nd⟩
  have q := z.sl j x e
  cases x with
  | own b =>
    obtain ⟨l, u, e1, e2, e3, e4, e5⟩ := q
    exact ⟨l, u, e1, sm.free e2, e3, e4, e5⟩
  | _ => exact q
/-- raise C(e) -/
theorem esm_raise (T : ErrC K C) (o : OutM K P Z W Xp) (h : EaM K P Z ta ρ m fun ds r1 m1 => ∃ d, ds = [d] ∧ Xp C d r1 m1) : EsM K P Z (fun _ σ H => tMkO C (spErr K) [] ta σ H fun cls d H' => W cls d σ H') ρ m nx bk ct rt := fun M0 σ G M H E a l _ _ _ _ =>
  h M0 σ G M H _ a l fun vs ds r1 m1 G1 M1 H1 s1 a1 l1 p1 v1 => by
    obtain ⟨x, rfl, hx⟩ := p1
    cases v1 with
    | @cons v _ _ _ h1 h2 =>
      cases h2
      refine ⟨Nat.le_of_ble_eq_true rfl, fun e n => ⟨e, C, v, rfl, T.ox, T.nv, upd_same, fun d H' nd sm at_ => ⟨rfl, d, _, at_.1, at_.2, ?_, ?_⟩⟩⟩
      · have ne : d ≠ e := fun z => by
          rw [z, upd_same] at nd
          cases nd
        rw [upd_ne ne] at nd
        exact nd
      · have ne : d ≠ e := fun z => by
          rw [z, upd_same] at nd
          cases nd
        rw [upd_ne ne] at nd
        have st := Step.gone (v := v) a1.sep n nd ne (H' := H') fun b o z => sm b o (by
          show (if b = e then none else upd H1 e (exo e C none) b) = some o
          rw [if_neg (some_ne z n), upd_ne (some_ne z n)]
          exact z)
        exact o M0 σ r1 _ _ _ _ C d v x (a1.pure st) l1 upd_same (h1.mono st.gg) hx
/-- a call of a def that may raise -/
theorem evm_funTX (o : OutM K P Z W Xp) (h : EaM K P Z ta ρ m fun ds r1 m1 => ∃ t, ds = args t ∧ good t ∧ (∀ d, R t d → φ d r1 m1) ∧ ∀ C x, XR t C x → Xp C x r1 m1) : EvM K P Z (tCallS (spTX K args good R XR) (WE W) ta) ρ m φ := fun M0 σ G M H Q a l q =>
  h M0 σ G M H _ a l fun vs ds r1 m1 G1 M1 H1 s1 a1 l1 p1 v1 => by
    obtain ⟨t, rfl, g, f, fx⟩ := p1
    exact ⟨t, G1, M1, a1.sep, v1, g, fun v d G2 H2 s2 p2 v2 => q v d r1 m1 G2 M1 H2 (s1.trans s2) (a1.pure s2) l1 (f d p2) v2, fun C dx v x G2 H2 st hd hv hx => o M0 σ r1 G2 M1 H2 _ C dx v x (a1.pure st) l1 hd hv (fx C x hx)⟩
/-- .. where it raises nothing -/
theorem evm_funT0 (h : EaM K P Z ta ρ m fun ds r1 m1 => ∃ t, ds = args t ∧ good t ∧ (∀ d, R t d → φ d r1 m1) ∧ ∀ C x, ¬ XR t C x) : EvM K P Z (tCall (spTX K args good R XR) [] (fun _ _ _ => False) ta) ρ m φ := fun M0 σ G M H Q a l q =>
  h M0 σ G M H _ a l fun vs ds r1 m1 G1 M1 H1 s1 a1 l1 p1 v1 => by
    obtain ⟨t, rfl, g, f, fx⟩ := p1
    exact ⟨t, G1, M1, a1.sep, by rw [List.append_nil]; exact v1, g, fun v d G2 H2 s2 p2 v2 => q v d r1 m1 G2 M1 H2 (s1.trans s2) (a1.pure s2) l1 (f d p2) v2, fun C dx v x G2 H2 st hd hv hx => (fx C x hx).elim⟩
/-- e.value of an error -/
theorem evm_errF {to : TE} (h : EvM K P Z to ρ m fun d r1 m1 => ∃ C x, d = .err C x ∧ ErrC K C ∧ φ x r1 m1) : EvM K P Z (tErrF K "value" to) ρ m φ := fun M0 σ G M H Q a l q =>
  h M0 σ G M H _ a l fun v d r1 m1 G1 M1 H1 s1 a1 l1 p1 v1 => by
    obtain ⟨C, x, rfl, T, hx⟩ := p1
    cases v1 with
    | err h1 h2 => exact ⟨_, C, _, _, _, rfl, T, T.nv, h1.mono s1.s.g, by rw [lookup_put, if_pos rfl], q _ x r1 m1 G1 M1 H1 s1 a1 l1 hx h2⟩
/-- try: .. except x as n: .. -/
def tTryK (K : PySem.W.Frag) (c : Value) (i : Nat) (tb : WX → TS) (ts : TS) (Wo : WX) : TS := fun D σ H => tb (wKept K c i ts Wo D) D σ H
theorem esm_tryK {c : Value} {tb : WX → TS} {ts : TS} (Xp : Addr → D → List Sx → Nat → Prop) (oY : OutM K P Z Wo Yp) (hb : ∀ Z' W, OutM K P Z' W Xp → EsM K P Z' (tb W) ρ m nx bk ct rt)
    (hs : ∀ C x r n, Xp C x r n → (PySem.W.exmOne K (.ref C) c = some true ∧ i < r.length ∧ EsM K P Z ts (r.set i (.d (.err C x))) n (fun r n => nx (r.set i .un) n) (fun r n => bk (r.set i .un) n) (fun r n => ct (r.set i .un) n) rt) ∨ (PySem.W.exmOne K (.ref C) c = some false ∧ Yp C x r n)) :
    EsM K P Z (tTryK K c i tb ts Wo) ρ m nx bk ct rt := fun M0 σ G M H E a l q1 q2 q3 q4 => by
  refine hb (ZT M0 G M H) (wKept K c i ts Wo E) (fun M1 σ2 r2 G2 M2 H2 n C d v x a2 l2 hd hv hx => ?_) M0 σ G M H E (at_body a) l (fun σ' ρ' m' G2 M2 H2 s a2 l2 z => q1 _ _ _ _ _ _ s (at_back a a2).2 l2 z) (fun σ' ρ' m' G2 M2 H2 s a2 l2 z => q2 _ _ _ _ _ _ s (at_back a a2).2 l2 z)
    (fun σ' ρ' m' G2 M2 H2 s a2 l2 z => q3 _ _ _ _ _ _ s (at_back a a2).2 l2 z) (fun v d σ' ρ' m' G2 M2 H2 s a2 l2 z hv => q4 _ _ _ _ _ _ _ _ s (at_back a a2).2 l2 z hv)
  obtain ⟨st, a3⟩ := at_back a a2
  rcases hs C x r2 n hx with ⟨e1, li, su⟩ | ⟨e1, y⟩
  · refine ⟨true, e1, fun _ => ⟨C, d, rfl, rfl, fun e ne => ?_⟩, fun z => nomatch z⟩
    have s3 := Step.new (o := exq e C (some d)) a3.sep ne
    have nde : d ≠ e := some_ne (a3.sep.g _ _ hd) ne
    have dv : DV K (upd G2 e (exq e C (some d))) (.ref e) (.err C x) := .err (.inr ⟨upd_same, by rw [upd_ne nde]; exact hd⟩) (hv.mono s3.gg)
    have a5 := (a3.pure s3).set li dv
    exact su M0 _ _ _ _ { nx := fun σ' H' => E.nx (σ'.set i none) H', rt := E.rt, bk := fun σ' H' => E.bk (σ'.set i none) H', ct := fun σ' H' => E.ct (σ'.set i none) H' } a5 l2 (fun σ' r' n' G5 M5 H5 s5 a6 l6 z => q1 _ _ _ _ _ _ ((st.trans s3).trans s5) (a6.setNone i) l6 z) (fun σ' r' n' G5 M5 H5 s5 a6 l6 z => q2 _ _ _ _ _ _ ((st.trans s3).trans s5) (a6.setNone i) l6 z)
      (fun σ' r' n' G5 M5 H5 s5 a6 l6 z => q3 _ _ _ _ _ _ ((st.trans s3).trans s5) (a6.setNone i) l6 z) (fun v d σ' r' n' G5 M5 H5 s5 a6 l6 z hv => q4 _ _ _ _ _ _ _ _ ((st.trans s3).trans s5) a6 l6 z hv)
  · exact ⟨false, e1, (fun z => nomatch z), fun _ => oY M0 σ2 r2 G2 M2 H2 n C d v x a3 l2 hd hv y⟩
end
/-! ### defs -/
section
variable {P : Program} {w : World} {K : PySem.W.Frag} {mg : Str → Option Value} {base : Heap} {x qual : Str} {st : Stmt} {f : Addr} {fd : FuncData} {N ps : List Str} {k : Nat} {τ : Type} {args : τ → List D} {good : τ → Prop} {R : τ → D → Prop} {XR : τ → Addr → D → Prop}
/-- the surroundings of a body that may raise -/
abbrev XofX (P : Program) (w : World) (K : PySem.W.Frag) (mg : Str → Option Value) (base : Heap) (N : List Str) (qual : Str) (st : Stmt) (f : Addr) (cdv : Value) (A : Around) (outer : List Env) (s : Shared) (H : Hp) (E : XK) : Cx :=
  cxOf (L2.CX P w) P w K mg base N qual (defScope st) f cdv A outer s H E
theorem okMTX (F : Fun K x qual st f fd) (S : FnScope N ps (defScope st)) (hl : ∀ t, (args t).length = ps.length) (hn : ps.length ≤ N.length)
    (body : ∀ (cdv : Value) (A : Around) (outer : List Env) (s : Shared) (H : Hp) (E : XK) (W : WX), Room k (A.deeper (envOfC qual (defScope st) s.heap.objs.size f cdv)) → Quiet A → (A.deeper (envOfC qual (defScope st) s.heap.objs.size f cdv)).units + 64 < cLine → (A.deeper (envOfC qual (defScope st) s.heap.objs.size f cdv)).units + 1 < cLine →
      Takes (XofX P w K mg base N qual st f cdv A outer s H E) W → PassesOwn (model P w) (XofX P w K mg base N qual st f cdv A outer s H E).A (XofX P w K mg base N qual st f cdv A outer s H E).env (XofX P w K mg base N qual st f cdv A outer s H E).xe →
      ∃ t, PSs (XofX P w K mg base N qual st f cdv A outer s H E) (defBody st) t ∧ ∀ y Z, good y → OutM K none Z W (fun C x _ _ => XR y C x) → EsM K none Z t (slots N (args y)) 0 (fun _ _ => R y .non) NoS NoS (fun d _ => R y d)) :
    FnG P w K mg base (L2.CX P w) (k + 1) f fd ps (spTX K args good R XR) := by
  refine okGX F S (fun vs H Q E h => ?_) fun cdv A outer s H vs Q E hr gq h tk => ?_
  · obtain ⟨t, G, M, _, hv, _⟩ := h
    rw [hv.length, hl t]
  · obtain ⟨t, ht, hb⟩ := body cdv A outer s H E _ hr gq hr.units (hu_of hr) tk (passes_of rfl)
    obtain ⟨y, G, M, s0, hv, gd, q, qx⟩ := h
    refine ⟨t, ht, ?_⟩
    have fin : ∀ {M0 : Hp} {σ' : L2.St} {ρ' : List Sx} {m : Nat} {G2 M2 H2 : Hp}, At K none (ZF G M H) M0 m G2 M2 H2 σ' ρ' → Step G M H G2 M H2 := fun a =>
      Step.drop (show Step G M H _ _ _ from a.bs) fun b o e => a.fr b o (fun z => (nomatch z)) ((show Same M _ from a.bm) b o e)
    refine hb y (ZF G M H) gd (fun M0 σ ρ G2 M2 H2 m C d v x a _ hd hx hp => qx C d v x G2 H2 (fin a) hd hx hp) M _ G M H _ (at_start s0 PotM.no hv (by rw [hl]; exact hn) (Same.refl _) (Step.refl s0)) (by decide)
      (fun σ' ρ' m' G2 M2 H2 st a _ z => ?_) (fun _ _ _ _ _ _ _ _ _ z => z.elim) (fun _ _ _ _ _ _ _ _ _ z => z.elim) (fun v d σ' ρ' m' G2 M2 H2 st a _ z hv => ?_)
    · exact q .non .non G2 H2 (fin a) z .non
    · exact q v d G2 H2 (fin a) z hv
end
/-! ### derivations -/
section
variable {X : Cx} {k i : Nat} {x n : Str} {sp : Sp} {p pos np q1 q2 : Pos} {e : Expr} {es : List Expr} {body rest : List Stmt} {b1 : Stmt} {c : Value} {tb : WX → TS} {Wo : WX}
theorem passN : Passes (L2.CX X.prog X.w) X (fun _ _ _ => False) := fun _ _ _ _ _ _ _ z => by
  obtain ⟨_, _, _, _, _, _, _, _, _, _, _, _, h⟩ := z
  exact h.elim
theorem pc_callX0 (c : CalX X.prog X.w X.K X.mg X.base k x sp) (hr : Room k X.A) (gq : Quiet X.A) (hg : Gl X x) {t : TA} (ha : PA X (e :: es) t)
    (hdb : (x == ("__debug__" : Str)) = false := by decide)
    (he : starEach (e :: es) X.env = (false, eval e X.env) :: starEach es X.env := by rfl) (hpl : (backTo pos (starEach es X.env)).any (·.1) = false := by rfl) :
    PE X (.Call (.Name x p) (e :: es) [] pos) (tCall sp [] (fun _ _ _ => False) t) := by
  obtain ⟨f, fd, ps, F, hm, hk, hb⟩ := c.ex
  exact pg_call F hr gq hg hm hk hb .nil passN ha hdb he hpl
abbrev de_funX0 (c : CalX X.prog X.w X.K X.mg X.base k x sp) (hr : Room k X.A) (gq : Quiet X.A) (hg : Gl X x) (ha : DA X (e :: es)) (hdb : (x == ("__debug__" : Str)) = false := by decide)
    (he : starEach (e :: es) X.env = (false, eval e X.env) :: starEach es X.env := by rfl) (hpl : (backTo pos (starEach es X.env)).any (·.1) = false := by rfl) : DE X (.Call (.Name x p) (e :: es) [] pos) :=
  ⟨tCall sp [] (fun _ _ _ => False) ha.1, pc_callX0 c hr gq hg ha.2 hdb he hpl⟩
abbrev ds_tryK (i : Nat) (tb : WX → TS) (Wo : WX) (tk : Takes X Wo) (hN : X.N.Nodup) (hc : Names X x c)
    (hb : ∀ (W : WX) (pn : List (Addr × Obj)) (xe : Value → Shared → Prop), Takes (X.tr pn xe) W → PassesOwn (model X.prog X.w) X.A X.env xe → DB (X.tr pn xe) body)
    (eb : ∀ (W : WX) (pn : List (Addr × Obj)) (xe : Value → Shared → Prop) (t : Takes (X.tr pn xe) W) (o : PassesOwn (model X.prog X.w) X.A X.env xe), (hb W pn xe t o).1 = tb W)
    (hu : ∀ (a : Addr) (pn : List (Addr × Obj)), DB (X.suite a pn) (b1 :: rest)) (eu : ∀ (a : Addr) (pn : List (Addr × Obj)), (hu a pn).1 = (hu 0 []).1)
    (hs : X.stack = X.env :: X.outer := by rfl) (hf : X.env.frame = some X.env.locals := by rfl) (hx : X.ex = [] := by rfl) (hi : X.N[i]? = some n := by rfl) (hl : X.env.kindOf n = some .local := by rfl) : DS X (.Try body [.ExceptHandler (some (.Name x np)) (some n) (b1 :: rest) q1] [] [] q2) :=
  ⟨tTryK X.K c i tb (hu 0 []).1 Wo, ps_tryK hs hf hx hN hi hl hc tk (fun W pn xe t o => eb W pn xe t o ▸ (hb W pn xe t o).2) (fun a pn => eu a pn ▸ (hu a pn).2)⟩
end
end Tp

/-! # Sets of ints and texts whose members can be gone through -/
namespace Tp
open PySem PySem.Spec PyProof.Rows L2 PpSet
def keyV : Value → L2.Key
  | .int i _ => .inl i
  | .str x _ => .inr x
  | _ => .inl 0
theorem keyV_is {k : L2.Key} {v : Value} (h : keyIs k v = true) : keyV v = k ∧ v.scannable = true := by
  rcases keyIs_shape h with ⟨i, t, rfl, rfl⟩ | ⟨x, t, rfl, rfl⟩ <;> exact ⟨rfl, rfl⟩
def GoodK (w : World) (e : Int × Value) : Prop := keyIs (keyV e.2) e.2 = true ∧ e.1 = keyH w (keyV e.2)
abbrev Kys (es : Array (Int × Value)) : List L2.Key := es.toList.map fun e => keyV e.2
/-- at a the set with the members S, n of them -/
def SetS (w : World) (h : Heap) (a : Addr) (S : L2.Key → Bool) (n : Nat) : Prop := ∃ o es ep t, h.get? a = some o ∧ o.ExactSet ∧ o.data = .set es ep t ∧ (∀ e ∈ es.toList, GoodK w e) ∧ (Kys es).Nodup ∧ (∀ k, S k = true ↔ k ∈ Kys es) ∧
  es.size < scanBound ∧ t.fits es.size = true ∧ es.size = n ∧ Ris t.place.toList ∧ (w.params.followText "set-order" = true ∨ t.led = true)
section
variable {P : Program} {w : World} {h h' : Heap} {a : Addr} {S : L2.Key → Bool} {n : Nat} {A : Around} {E : Value → Shared → Prop} {s : Shared}
theorem SetS.keep (R : SetS w h a S n) (k : ∀ o, h.get? a = some o → h'.get? a = some o) : SetS w h' a S n := R.elim fun o z => z.elim fun es z => z.elim fun ep z => z.elim fun t z => ⟨o, es, ep, t, k o z.1, z.2⟩
theorem goodK_el {l : List (Int × Value)} (g : ∀ e ∈ l, GoodK w e) : ElemsOf (mixKind P w) l := fun e he => ⟨⟨keyV e.2, (g e he).1, (g e he).2⟩, (keyV_is (g e he).1).2⟩
theorem goodK_mem {l : List (Int × Value)} (g : ∀ e ∈ l, GoodK w e) (k : L2.Key) : k ∈ l.map (fun e => keyV e.2) ↔ ∃ e ∈ l, (mixKind P w).is k e.2 = true := by
  rw [List.mem_map]
  refine ⟨fun z => z.elim fun e z => ⟨e, z.1, ?_⟩, fun z => z.elim fun e z => ⟨e, z.1, (keyV_is z.2).1⟩⟩
  rw [← z.2]
  exact (g e z.1).1
theorem SetS.of (R : SetS w h a S n) : h.SetOf (mixKind P w) a S n := by
  obtain ⟨o, es, ep, t, ho, hx, hd, g, nd, hm, hb, hf, hn, _⟩ := R
  exact ⟨o, es, ep, t, ho, hx, hd, goodK_el g, fun k => (hm k).trans (goodK_mem g k), hb, hf, hn⟩
theorem setS_tail {g : Bool → Sem Unit} (hg : ∀ (b : Bool) (s1 : Shared) (Q1 : Unit → Shared → Prop), Q1 () s1 → wpAny (model P w) A (g b) Q1 E s1)
    {o : Obj} {es : Array (Int × Value)} {ep : Nat} {t : SetTable} (ho : s.heap.get? a = some o) (hex : o.ExactSet) (hd : o.data = .set es ep t)
    {es1 : Array (Int × Value)} {t2 : SetTable} {S1 : L2.Key → Bool} (g1 : ∀ e ∈ es1.toList, GoodK w e) (nd1 : (Kys es1).Nodup) (m1 : ∀ k, S1 k = true ↔ k ∈ Kys es1)
    (hb1 : es1.size < scanBound) (hf2 : t2.fits es1.size = true) (hr : Ris t2.place.toList) (hl : w.params.followText "set-order" = true ∨ t2.led = true) {wd : Bool} {R : Option Bool → Shared → Prop}
    (hR : ∀ h', Heap.SameBut a s.heap h' → SetS w h' a S1 es1.size → R (some true) { s with heap := h' }) :
    wpAny (model P w) A (do
      storeSet a es1 t2
      if (!wd && t2.tooFull) = true then do
          g (relayAll t2 es1 (SetTable.grown es1.size)).2.2
          storeSet a (relayAll t2 es1 (SetTable.grown es1.size)).1 (relayAll t2 es1 (SetTable.grown es1.size)).2.1
          pure (some true)
        else pure (some true)) R E s := by
  refine wpAny_bind (wpAny_storeSet_of ho hd ?_ (fits_of_scanBound hb1))
  have o1 := storeB_at (es' := es1) (t' := t2) ho hd
  have b1 := Heap.SameBut.update s.heap a (Obj.putSet es1 t2)
  split
  · have pm := relayAll_perm t2 es1 (SetTable.grown es1.size)
    have f3 := relayAll_fits t2 es1 (SetTable.grown es1.size)
    have r3 := relayAll_ris t2 es1 (SetTable.grown es1.size)
    have l3 := relayAll_led t2 es1 (SetTable.grown es1.size)
    generalize relayAll t2 es1 (SetTable.grown es1.size) = Y at pm f3 r3 l3 ⊢
    obtain ⟨es2, t3, gv⟩ := Y
    dsimp only at pm f3 r3 l3 ⊢
    have sz : es2.size = es1.size := by rw [← Array.length_toList, pm.length_eq, Array.length_toList]
    have hb2 : es2.size < scanBound := sz ▸ hb1
    refine wpAny_bind (hg _ _ _ (wpAny_bind (wpAny_storeSet_of o1 rfl ?_ (fits_of_scanBound hb2))))
    have o2 := storeB_at (es' := es2) (t' := t3) o1 rfl
    have pk : (Kys es2).Perm (Kys es1) := pm.map _
    exact wpAny_pure (hR _ (b1.trans (Heap.SameBut.update _ a _)) ⟨_, es2, _, t3, o2, hex, rfl, fun e he => g1 e (pm.mem_iff.mp he), pk.nodup_iff.mpr nd1, fun k => (m1 k).trans pk.mem_iff.symm, hb2, f3, sz, r3, hl.imp id fun z => l3.trans z⟩)
  · exact wpAny_pure (hR _ b1 ⟨_, es1, _, t2, o1, hex, rfl, g1, nd1, m1, hb1, hf2, rfl, hr, hl⟩)
theorem setS_hashed {k : L2.Key} {x : Value} {Q : Bool → Shared → Prop} (hk : keyIs k x = true) (R : SetS w s.heap a S n) (room : n + 1 < scanBound)
    (hQ : ∀ h', Heap.SameBut a s.heap h' → SetS w h' a (fun j => S j || decide (j = k)) (if S k = true then n else n + 1) → Q (!S k) { s with heap := h' }) :
    wpAny (model P w) A (setAddHashed a x (keyH w k)) Q E s := by
  obtain ⟨o, es, ep, t, ho, hex, hd, g, nd, hm, hb, hf, hn, hr, hl⟩ := R
  have hsc : x.scannable = true := (keyV_is hk).2
  have el : ElemsOf (mixKind P w) es.toList := goodK_el g
  unfold setAddHashed setAddHashedIn
  refine wpAny_holding (wpAny_bind (wpAny_setState_of ho hd hf ?_))
  dsimp only
  rw [byScan_of hsc hb el]
  simp only [↓reduceIte]
  unfold setAddByScan
  refine wpAny_bind (wpAny_bind (wpAny_rule (wpAny_bind (wpAny_setScan_of (knd := mixKind P w) (k := k) hk ho hd hf el ?_))))
  cases hfi : List.findIdx? (fun e => (mixKind P w).is k e.2) es.toList with
  | some j =>
    dsimp only
    obtain ⟨hj, pj, _⟩ := List.findIdx?_eq_some_iff_getElem.mp hfi
    have hS : S k = true := (hm k).2 ((goodK_mem (P := P) g k).2 ⟨es.toList[j], List.getElem_mem hj, pj⟩)
    refine wpAny_pure (wpAny_pure ?_)
    have q := hQ s.heap (Heap.SameBut.refl a s.heap) ⟨o, es, ep, t, ho, hex, hd, g, nd, fun i => by
      rw [Bool.or_eq_true, decide_eq_true_eq, ← hm i]
      exact ⟨fun z => z.elim id fun e => e ▸ hS, .inl⟩, hb, hf, by rw [if_pos hS]; exact hn, hr, hl⟩
    rwa [hS] at q
  | none =>
    dsimp only
    have nk : k ∉ Kys es := fun z => by
      obtain ⟨e, he, q⟩ := (goodK_mem (P := P) g k).1 z
      have c := List.findIdx?_eq_none_iff.mp hfi e he
      rw [q] at c
      cases c
    have hS : S k = false := by
      cases q : S k with
      | false => rfl
      | true => exact absurd ((hm k).1 q) nk
    have gw : ∀ (b : Bool) {s1 : Shared} {Q1 : Unit → Shared → Prop}, Q1 () s1 → wpAny (model P w) A (match b with | true => rule "set.scan.the-table-gave-way" | false => pure ()) Q1 E s1 :=
      fun b s1 Q1 q => by cases b <;> first | exact wpAny_pure q | exact wpAny_rule q
    have pm := layNew_perm t es (keyH w k) x
    have f1 := layNew_fits t es (keyH w k) x
    have r1 := layNew_ris t es (keyH w k) x hr
    have l1 := layNew_led t es (keyH w k) x
    change wpAny _ _ _ _ _ _
    have eh : (mixKind P w).hash k = keyH w k := rfl
    generalize layNew t es (keyH w k) x = Y at pm f1 r1 l1 ⊢
    obtain ⟨es1, t1, wd, gv⟩ := Y
    dsimp only at pm f1 r1 l1 ⊢
    rw [Array.toList_push] at pm
    have pc : es1.toList.Perm ((keyH w k, x) :: es.toList) := pm.trans (List.perm_append_singleton _ _)
    have pk : (Kys es1).Perm (k :: Kys es) := by
      have q := pc.map fun e => keyV e.2
      rw [List.map_cons, (keyV_is hk).1] at q
      exact q
    have g1 : ∀ e ∈ es1.toList, GoodK w e := fun e he => by
      rcases List.mem_cons.mp (pc.mem_iff.mp he) with z | z
      · rw [z]
        unfold GoodK
        rw [(keyV_is hk).1]
        exact ⟨hk, rfl⟩
      · exact g e z
    have nd1 : (Kys es1).Nodup := pk.nodup_iff.mpr (List.nodup_cons.mpr ⟨nk, nd⟩)
    have m1 : ∀ i, (S i || decide (i = k)) = true ↔ i ∈ Kys es1 := fun i => by
      rw [Bool.or_eq_true, decide_eq_true_eq, hm i, pk.mem_iff, List.mem_cons]
      exact Or.comm
    have sz : es1.size = n + 1 := by rw [← Array.length_toList, pc.length_eq, List.length_cons, Array.length_toList, hn]
    have hb1 : es1.size < scanBound := sz ▸ room
    have led : w.params.followText "set-order" = true ∨ t1.led = true := hl.imp id fun z => l1.trans z
    have fin : ∀ h', Heap.SameBut a s.heap h' → SetS w h' a (fun j => S j || decide (j = k)) es1.size → Q true { s with heap := h' } := fun h' sb r => by
      have q := hQ h' sb
      rw [hS] at q
      rw [sz] at r
      exact q r
    refine wpAny_bind (gw _ ?_)
    split
    · refine wpAny_bind ?_
      rw [hashByValue_scannable 8 hsc]
      refine wpAny_pure ?_
      refine setS_tail ?_ ho hex hd g1 nd1 m1 hb1 ?_ ?_ ?_ ?_
      · intro b s1 Q1 q; cases b <;> first | exact wpAny_pure q | exact wpAny_rule q
      · first | (split <;> first | exact f1 | exact SetTable.fits_plain_off f1) | exact f1
      · first | (split <;> exact r1) | exact r1
      · first | (split <;> exact led) | exact led
      · intro h' sb r; dsimp only; exact wpAny_pure (fin h' sb r)
    · refine wpAny_bind (wpAny_pure ?_)
      simp only [↓reduceIte]
      refine setS_tail ?_ ho hex hd g1 nd1 m1 hb1 f1 r1 led ?_
      · intro b s1 Q1 q; cases b <;> first | exact wpAny_pure q | exact wpAny_rule q
      · intro h' sb r; dsimp only; exact wpAny_pure (fin h' sb r)
end
end Tp

/-! # Such sets over the abstract heap: made by a comprehension, their length -/
namespace Tp
open PySem PySem.Spec PyProof.Rows L2 PpSet
def SetKO (w : World) (a : Addr) (S : L2.Key → Bool) (n : Nat) : HO := .ext fun h => SetS w h a S n
theorem setKO_ok {w : World} {P : Program} {H : Hp} {h : Heap} {a : Addr} {S : L2.Key → Bool} {n : Nat} (R : SetS w h a S n) : ObjOk P w H h a (SetKO w a S n) := ⟨R, R.elim fun o z => z.elim fun _ z => z.elim fun _ z => z.elim fun _ z => ⟨o, z.1⟩, fun _ _ p k => SetS.keep p k⟩
theorem setS_fresh {h : Heap} (w : World) : SetS w (h.push { cls := .type "set", dict := none, data := .set #[] 0 (.fresh 0 0 (!w.params.followText "set-order")) }) h.objs.size (fun _ => false) 0 :=
  ⟨_, #[], 0, _, Heap.get?_push_size _ rfl, ⟨rfl, rfl, rfl⟩, rfl, (fun e he => by simp at he), (by simp [Kys]), (fun k => by simp [Kys]), (by decide), (by rfl), rfl, List.Pairwise.nil, by
    cases w.params.followText "set-order"
    · exact .inr rfl
    · exact .inl rfl⟩
section
variable {X : Cx} {pns : List (Addr × Obj)} {σ : L2.St} {H : Hp} {s : Shared} {E : Value → Shared → Prop}
theorem setKO_at {a : Addr} {S : L2.Key → Bool} {n : Nat} (I : Inv X pns σ H s) (e : H a = some (SetKO X.w a S n)) : SetS X.w s.heap a S n := (I.hok a _ e).1
theorem setKO_add {D : Addr} {S : L2.Key → Bool} {n : Nat} {k : L2.Key} {y : Value} {Q : Value → Shared → Prop} (I : Inv X pns σ H s) (hD : H D = some (SetKO X.w D S n)) (hy : keyIs k y = true) (room : n + 1 < scanBound)
    (q : ∀ s', Inv X pns σ (upd H D (SetKO X.w D (fun j => S j || decide (j = k)) (if S k = true then n else n + 1))) s' → Q .none s') : wpAny (model X.prog X.w) X.A (call (.builtin "set.add") [.ref D, y]) Q E s := by
  have R := setKO_at I hD
  have hS : s.heap.SetOf (mixKind X.prog X.w) D S n := R.of
  refine wpAny_call_entry PySem.F.slot_set_add hS.typeIs PySem.F.entry_set_add ?_ (PySem.F.args_set_add_2 _ _)
  unfold Builtin.«set.add» Builtin.Frozenset.oneOther
  simp only [List.isEmpty_nil, bind_assoc]
  unfold Builtin.Frozenset.addrOf setAdd
  refine wpAny_bind (wpAny_pure ?_)
  try dsimp only
  refine wpAny_bind (wpAny_pure ?_)
  try dsimp only
  refine wpAny_bind (wpAny_holding (wpAny_bind ((mixKind X.prog X.w).pyHash hy ?_)))
  refine setS_hashed (s := { s with toks := s.toks + 1 }) hy R room fun h' sb r => ?_
  have he : ∃ u, h'.get? D = some u := r.elim fun o z => z.elim fun _ z => z.elim fun _ z => z.elim fun _ z => ⟨o, z.1⟩
  show wpAny _ _ (ret Value.none) _ _ _
  exact wpAny_pure ⟨_, rfl, q _ (I.write (e := D) (t' := s.toks + 1) (by rw [hD]; trivial) (.inl rfl) (fun b u hb hu => (sb.2 b hb).trans hu) he (setKO_ok r))⟩
/-- {elt for target in iter if ..}: D the new set -/
def tSk (w : World) (wi : TI) (g : TG) (tt : TT) (te : TE) (vs : List Nat) : TE := fun σ H Q => wi σ H fun J H1 => ∀ D, H1 D = none → ∃ W : Nat → Nat → Hp → Prop, (∃ m, W 0 m (upd H1 D (SetKO w D (fun _ => false) 0))) ∧ ∀ i m H, W i m H →
  (J.stop i H ∧ Q (.ref D) H) ∨ (J.go i H ∧ ∃ Nx : Hp → Prop, (∀ H', Nx H' → ∃ m', m' < m ∧ W (i + 1) m' H') ∧ ∀ x H', J.yld i H x H' → g x (wipe σ vs) H' fun σ2 H2 => wipe σ2 vs = wipe σ vs ∧ tt σ2 H2 fun b H3 =>
    if b = true then te σ2 H3 fun y H4 => ∃ (k : L2.Key) (S : L2.Key → Bool) (n : Nat), y = kV k ∧ H4 D = some (SetKO w D S n) ∧ n + 1 < scanBound ∧ Nx (upd H4 D (SetKO w D (fun j => S j || decide (j = k)) (if S k = true then n else n + 1))) else Nx H3)
theorem pe_sk {elt tg iter : Expr} {ifs : List Expr} {scope : Scope} {own : List (PySem.Str × Nat)} {pos : Pos} {wi : TI} {g : TG} {tt : TT} {te : TE} (hc : X.calm = true) (hN : X.N.Nodup) (hi : PI X tg iter wi) (ok : BlkOk X.N X.env.scope scope own)
    (hg : ∀ (s : Shared) (H : Hp) (C : Addr) (cl : List (PySem.Str × Addr)) (fq : List Addr), PG (X.blk s H scope (compEnvC scope cl C X.env) fq) tg g)
    (ht : ∀ (s : Shared) (H : Hp) (C : Addr) (cl : List (PySem.Str × Addr)) (fq : List Addr), PTs (X.blk s H scope (compEnvC scope cl C X.env) fq) ifs tt)
    (he : ∀ (s : Shared) (H : Hp) (C : Addr) (cl : List (PySem.Str × Addr)) (fq : List Addr), PE (X.blk s H scope (compEnvC scope cl C X.env) fq) elt te) (hs : ∀ x, foldedSetIterable iter X.env x = pure x := by intro _; rfl) :
    PE X (.SetComp elt [⟨tg, iter, ifs, 0⟩] scope pos) (tSk X.w wi g tt te (own.map (·.2))) := by
  refine ⟨fun pns s σ H Q I h => ?_⟩
  rw [eval_SetComp]
  have hfr : ∀ y ∈ scope.names, y.2 = .free → ∃ c, X.env.cells.lookup y.1 = some c := fun y hy e => (ok.free y hy e).elim (fun k => I.ok.has _ (.inl k)) fun k => I.ok.has _ (.inr k)
  have back : ∀ D C s' m H', Inv X pns σ H' s' → Q (.ref D) H' → s'.heap.Ns C m → FpOk X pns H' C → compPost (model X.prog X.w) X.A X.xe none (EP X pns σ Q) (.ref D) C (.ok .next) s' := fun D C s' m H' I' q hn f => ⟨m, hn, fun h2 sb => by
    obtain ⟨f0, f1, f2, f3, f4, f5⟩ := f
    exact ⟨.ref D, H', I'.turned (t' := s'.toks) (fun b o hb e => (sb.2 b hb).trans e) f0 f1 f3 f4 f5, rfl, q⟩⟩
  refine wpAny_comprehension_free rfl hs (closure_ok hfr) ok.kind (fun y hy e => by rw [ok.uniq y hy, e]) (thn (hi.run pns s σ H _ I h) fun xv s1 hx => thn hx fun itv s2 h2 => ?_)
  obtain ⟨it, fq, tn, J, H2, e, I2, T, st2, f2, q⟩ := h2
  subst e
  refine newSet_ok (newEnv_comp ?_)
  generalize hD : s2.heap.objs.size = D
  have nD : H2 D = none := I2.hok.fresh (Nat.le_of_eq hD)
  obtain ⟨W, ⟨m0, w0⟩, turn⟩ := q D nD
  generalize hs3 : ({ s2 with heap := s2.heap.push { cls := .type "set", dict := none, data := .set #[] 0 (.fresh 0 0 (!X.w.params.followText "set-order")) } } : Shared) = s3
  have I3 : Inv X pns σ (upd H2 D (SetKO X.w D (fun _ => false) 0)) s3 := by
    rw [← hs3]
    refine I2.laid (t' := s2.toks) (fun b o e => Heap.get?_push_of_some _ e) (Nat.le_of_eq hD) ?_
    exact hD ▸ setKO_ok (setS_fresh X.w)
  have h3 : s3.heap = s2.heap.push { cls := .type "set", dict := none, data := .set #[] 0 (.fresh 0 0 (!X.w.params.followText "set-order")) } := by rw [← hs3]
  have f3 : ∀ b ∈ fq, FpOk X pns (upd H2 D (SetKO X.w D (fun _ => false) 0)) b ∧ b < s3.heap.objs.size := fun b hb => by
    have lt : b < s2.heap.objs.size := (T.obj _ _ st2 b hb).elim fun o z => Heap.lt_size z.1
    refine ⟨⟨(upd_ne (by rw [← hD]; exact Nat.ne_of_lt lt)).trans (f2 b hb).1, (f2 b hb).2⟩, ?_⟩
    rw [h3, Heap.size_push]
    exact Nat.lt_succ_of_lt lt
  have st3 : tn 0 s3.heap := T.keep _ _ _ st2 fun b _ o e => h3 ▸ Heap.get?_push_of_some _ e
  have I4 := block_start I3 ok hN f3
  have pg := hg s3 (upd H2 D (SetKO X.w D (fun _ => false) 0)) s3.heap.objs.size (cellsFrom (s3.heap.objs.size + 1) scope.names (cloFrom X.env.cells scope.names [])) fq
  have pt := ht s3 (upd H2 D (SetKO X.w D (fun _ => false) 0)) s3.heap.objs.size (cellsFrom (s3.heap.objs.size + 1) scope.names (cloFrom X.env.cells scope.names [])) fq
  have pe := he s3 (upd H2 D (SetKO X.w D (fun _ => false) 0)) s3.heap.objs.size (cellsFrom (s3.heap.objs.size + 1) scope.names (cloFrom X.env.cells scope.names [])) fq
  show codeAny _ _ (.compStart (.SetComp elt [⟨tg, iter, ifs, 0⟩] scope pos) 0 (.ref it) (.ref D) (compEnvC scope (cellsFrom (s3.heap.objs.size + 1) scope.names (cloFrom X.env.cells scope.names [])) s3.heap.objs.size X.env)) (compPost (model X.prog X.w) X.A X.xe none (EP X pns σ Q) (.ref D) s3.heap.objs.size)
    { s3 with heap := pushCells (s3.heap.push { cls := .type "dict", data := .dict #[] }) scope.names }
  have nq : ∀ b ∈ fq, (upd H2 D (SetKO X.w D (fun _ => false) 0)) b = none := fun b hb => (f3 b hb).1.1
  generalize hce : compEnvC scope (cellsFrom (s3.heap.objs.size + 1) scope.names (cloFrom X.env.cells scope.names [])) s3.heap.objs.size X.env = ce at I4 pg pt pe ⊢
  have cL : ce.locals = s3.heap.objs.size := hce ▸ rfl
  generalize hH3 : upd H2 D (SetKO X.w D (fun _ => false) 0) = H3 at I3 I4 pg pt pe w0 nq f3
  generalize hs4 : ({ s3 with heap := pushCells (s3.heap.push { cls := .type "dict", data := .dict #[] }) scope.names } : Shared) = s4 at I4 ⊢
  have st4 : tn 0 s4.heap := T.keep _ _ _ st3 fun b _ o e => hs4 ▸ pushCells_keeps _ _ _ _ (Heap.get?_push_of_some _ e)
  have stat : ∀ {σ1 : L2.St} {H1 : Hp} {t1 : Shared}, Inv (X.blk s3 H3 scope ce fq) [] σ1 H1 t1 → (∀ b ∈ fq, H1 b = none) → ∀ b ∈ fq, FpOk (X.blk s3 H3 scope ce fq) [] H1 b := fun {σ1 H1 t1} J1 hn b hb =>
    ⟨hn b hb, (J1.ok.exf b hb).1, J1.ok.exfs b hb, .inl hb, fun x c e => (J1.ok.exf b hb).2 x c e, fun p hp => absurd (show p ∈ ([] : List (Addr × Obj)) ++ [] from hp) (by simp)⟩
  refine (fun loop => codeAny_compStart_set loop (T.self X.A 0 _ _ _ st4 loop)) ?_
  refine compLoopS_any (fun n t => ∃ i H', Inv (X.blk s3 H3 scope ce fq) [] (wipe σ (own.map (·.2))) H' t ∧ tn i t.heap ∧ (∀ b ∈ fq, H' b = none) ∧ W i n H') ?_ m0 ⟨0, H3, I4, st4, nq, w0⟩
  rintro n s5 ⟨i, H5, I5, st5, n5, w5⟩
  rcases turn i n H5 w5 with ⟨stop, qq⟩ | ⟨go, Nx, hNx, step⟩
  · refine thnF (T.done (X.blk s3 H3 scope ce fq) rfl rfl rfl hc i [] s5 _ H5 (fun _ _ => False) I5 (stat I5 n5) st5 stop) fun r s6 z => ?_
    obtain ⟨rfl, I6⟩ := z
    have I7 : Inv X pns σ H5 s6 := I3.call' (ch := fq) I6.os I6.base I6.hok I6.bare fun b hb => ⟨(f3 b hb).1.2.2.2.1, (f3 b hb).1.2.1, (f3 b hb).1.2.2.2.2.1, (f3 b hb).1.2.2.2.2.2⟩
    have nC : H5 s3.heap.objs.size = none := cL ▸ (show H5 ce.locals = none from I6.free)
    obtain ⟨m, hn, _⟩ := I6.loc
    exact back D s3.heap.objs.size s6 m H5 I7 qq (cL ▸ (show s6.heap.Ns ce.locals m from hn)) (I3.fpOk (Nat.le_refl _) nC)
  · refine thnF (T.item (X.blk s3 H3 scope ce fq) rfl rfl rfl hc i [] s5 _ H5 (fun _ _ => False) I5 (stat I5 n5) st5 go) fun r s6 z => ?_
    obtain ⟨u, rfl, h6⟩ := z
    refine thnF h6 fun _ s7 z => ?_
    obtain ⟨x, H7, I7, r7, y7, st7, n7⟩ := z
    have J7 := I7.pinned (stat I7 n7) (T.obj _ _ st7)
    refine thnF (pg.run _ s7 _ H7 x u _ J7 r7 (step x H7 y7)) fun _ s8 z => ?_
    obtain ⟨σ8, H8, I8, hw8, q8⟩ := z
    refine thnF (pt.run _ s8 σ8 H8 _ I8 q8) fun b s9 z => ?_
    obtain ⟨H9, I9, q9⟩ := z
    have fin : ∀ {t1 : Shared} {H1 : Hp}, Inv (X.blk s3 H3 scope ce fq) ([] ++ pinsAt fq s7.heap) σ8 H1 t1 → Nx H1 → ∃ m, m < n ∧ ∃ i H', Inv (X.blk s3 H3 scope ce fq) [] (wipe σ (own.map (·.2))) H' t1 ∧ tn i t1.heap ∧ (∀ b ∈ fq, H' b = none) ∧ W i m H' := fun {t1 H1} J1 nx => by
      obtain ⟨m', hm, w'⟩ := hNx H1 nx
      have pin' : ∀ b ∈ fq, ∀ o, s7.heap.get? b = some o → t1.heap.get? b = some o ∧ H1 b = none := fun b hb o e => ⟨(J1.pin (b, o) (List.mem_append_right _ (List.mem_append_right _ (mem_pinsAt hb e)))).1, (J1.pin (b, o) (List.mem_append_right _ (List.mem_append_right _ (mem_pinsAt hb e)))).2.1⟩
      have hl : (wipe σ (own.map (·.2))).length = σ8.length := (congrArg List.length hw8).symm.trans (wipe_length _ _)
      refine ⟨m', hm, i + 1, H1, (J1.unpinned (pins := [])).weak hl (fun j v e => ?_), T.keep _ _ _ st7 fun b hb o e => (pin' b hb o e).1, fun b hb => (T.obj _ _ st7 b hb).elim fun o z => (pin' b hb o z.1).2, w'⟩
      rw [← hw8] at e
      exact (wipe_some e).1
    cases b with
    | false =>
      simp only [Bool.false_eq_true, if_false] at q9 ⊢
      exact fin I9 q9
    | true =>
      simp only [if_true] at q9 ⊢
      refine thnF (pe.run _ s9 σ8 H9 _ I9 q9) fun z s10 zz => ?_
      obtain ⟨yv, H10, I10, r10, k0, S0, n0, rfl, hD10, hz10, nx⟩ := zz
      exact setKO_add (X := X.blk s3 H3 scope ce fq) I10 hD10 (kV_is (P := X.prog) (w := X.w) r10) hz10 fun s11 I11 => fin I11 nx
end
end Tp

/-! # Such sets by steps -/
namespace Tp
open PySem PySem.Spec PyProof.Rows L2 PpSet
def keyD : D → Option L2.Key
  | .int i => some (.inl i)
  | .str x => some (.inr x)
  | _ => none
def memK (us : List L2.Key) (k : L2.Key) : Bool := us.any fun j => decide (j = k)
theorem memK_iff {us : List L2.Key} {k : L2.Key} : memK us k = true ↔ k ∈ us := by
  unfold memK
  rw [List.any_eq_true]
  exact ⟨fun z => z.elim fun j z => (of_decide_eq_true z.2) ▸ z.1, fun z => ⟨k, z, decide_eq_true rfl⟩⟩
def insK (us : List L2.Key) (k : L2.Key) : List L2.Key := if memK us k = true then us else us ++ [k]
/-- the members of what was put in, in their order -/
def setK (ks : List L2.Key) : List L2.Key := ks.foldl insK []
theorem insK_mem {us : List L2.Key} {k j : L2.Key} : j ∈ insK us k ↔ j ∈ us ∨ j = k := by
  unfold insK
  split
  · rename_i h
    exact ⟨.inl, fun z => z.elim id fun e => e ▸ memK_iff.mp h⟩
  · rw [List.mem_append, List.mem_singleton]
theorem insK_nodup {us : List L2.Key} {k : L2.Key} (h : us.Nodup) : (insK us k).Nodup := by
  unfold insK
  split
  · exact h
  · rename_i n
    rw [List.nodup_append]
    exact ⟨h, List.pairwise_singleton .., fun a ha b hb e => n (memK_iff.mpr (by rw [List.mem_singleton] at hb; rw [← hb, ← e]; exact ha))⟩
theorem insK_len {us : List L2.Key} {k : L2.Key} : (insK us k).length = if memK us k = true then us.length else us.length + 1 := by
  unfold insK
  split
  · rfl
  · rw [List.length_append]
    rfl
theorem fold_mem : ∀ {ks us : List L2.Key} {j : L2.Key}, j ∈ ks.foldl insK us ↔ j ∈ us ∨ j ∈ ks
  | [], us, j => by simp
  | k :: ks, us, j => by
    rw [List.foldl_cons, fold_mem, insK_mem, List.mem_cons, or_assoc]
theorem fold_nodup : ∀ {ks us : List L2.Key}, us.Nodup → (ks.foldl insK us).Nodup
  | [], _, h => h
  | k :: ks, us, h => fold_nodup (ks := ks) (insK_nodup h)
theorem setK_mem {ks : List L2.Key} {j : L2.Key} : j ∈ setK ks ↔ j ∈ ks := by
  unfold setK
  rw [fold_mem]
  simp
theorem setK_nodup {ks : List L2.Key} : (setK ks).Nodup := fold_nodup List.nodup_nil
theorem setK_snoc {ks : List L2.Key} {k : L2.Key} : setK (ks ++ [k]) = insK (setK ks) k := by
  unfold setK
  rw [List.foldl_append]
  rfl
theorem fold_le : ∀ {ks us : List L2.Key}, (ks.foldl insK us).length ≤ us.length + ks.length
  | [], us => Nat.le_refl _
  | k :: ks, us => by
    refine Nat.le_trans (fold_le (ks := ks)) ?_
    have h : (insK us k).length ≤ us.length + 1 := by
      rw [insK_len]
      split <;> omega
    rw [List.length_cons]
    omega
theorem setK_le {ks : List L2.Key} : (setK ks).length ≤ ks.length := by
  have := fold_le (ks := ks) (us := [])
  unfold setK
  simpa using this
/-- at D the set of these members -/
def setU (w : World) (D : Addr) (us : List L2.Key) : HO := SetKO w D (memK us) us.length
theorem setU_ins {w : World} {D : Addr} {us : List L2.Key} {k : L2.Key} : SetKO w D (fun j => memK us j || decide (j = k)) (if memK us k = true then us.length else us.length + 1) = setU w D (insK us k) := by
  unfold setU
  rw [insK_len]
  congr 1
  funext j
  rw [Bool.eq_iff_iff, Bool.or_eq_true, decide_eq_true_eq, memK_iff, memK_iff, insK_mem]
/-- an expression whose value is such a set, for the moment -/
def EkM (K : PySem.W.Frag) (w : World) (P : Option Addr) (Z : Bas) (te : TE) (ρ : List Sx) (m : Nat) (φ : List L2.Key → List Sx → Nat → Prop) : Prop := ∀ (M0 : Hp) (σ : L2.St) (G M H : Hp) (Q : VK), At K P Z M0 m G M H σ ρ → m ≤ BIG →
  (∀ D us ρ2 m2 G2 M2 H2, Step G M H G2 M2 H2 → At K P Z M0 m2 G2 M2 H2 σ ρ2 → m2 ≤ BIG → H2 D = some (setU w D us) → G2 D = none → M2 D = none → us.Nodup → φ us ρ2 m2 → Q (.ref D) H2) → te σ H Q
/-- a comprehension's turns: as a list's, but the members have keys -/
def keysD : List D → Option (List L2.Key)
  | [] => some []
  | d :: ds => (keyD d).bind fun k => (keysD ds).map (k :: ·)
theorem Step.put0 {G M H G1 M1 H1 : Hp} {p : Addr} {o : HO} (s : Step G M H G1 M1 H1) (n : H p = none) (g : G1 p = none) (m : M1 p = none) : Step G M H G1 M1 (upd H1 p o) where
  s := ⟨fun a u z => (upd_ne (some_ne z g)).trans (s.s.g a u z), fun a u z => (upd_ne (some_ne z m)).trans (s.s.m a u z), s.s.d⟩
  gg := s.gg
  keep := fun a u z h => (upd_ne (some_ne h n)).trans (s.keep a u z h)
  out := s.out
  old := s.old
section
variable {K : PySem.W.Frag} {w : World} {P : Option Addr} {Z : Bas} {ρ : List Sx} {te : TE} {tt : TT} {ti : TI} {g : TG} {m i : Nat} {vs : List Nat} {φ : D → List Sx → Nat → Prop} {κ : List L2.Key → List Sx → Nat → Prop}
theorem keyD_v {G : Hp} {v : V} {d : D} {k : L2.Key} (h : DV K G v d) (e : keyD d = some k) : v = kV k := by
  cases h with
  | int i =>
    cases e
    rfl
  | str x =>
    cases e
    rfl
  | _ => cases e
theorem keysD_snoc : ∀ {ds : List D} {d : D} {ks : List L2.Key} {k : L2.Key}, keysD ds = some ks → keyD d = some k → keysD (ds ++ [d]) = some (ks ++ [k])
  | [], d, ks, k, h, e => by
    cases h
    show (keyD d).bind (fun k => (keysD []).map (k :: ·)) = _
    rw [e]
    rfl
  | x :: ds, d, ks, k, h, e => by
    have h' : ((keyD x).bind fun k => (keysD ds).map (k :: ·)) = some ks := h
    cases hx : keyD x with
    | none =>
      rw [hx] at h'
      cases h'
    | some kx =>
      rw [hx] at h'
      cases hd : keysD ds with
      | none =>
        rw [hd] at h'
        cases h'
      | some ks' =>
        rw [hd] at h'
        cases h'
        show ((keyD x).bind fun k => (keysD (ds ++ [d])).map (k :: ·)) = _
        rw [hx, keysD_snoc hd e]
        rfl
/-- what a turn asks -/
def SkS (K : PySem.W.Frag) (P : Option Addr) (Z : Bas) (g : TG) (tt : TT) (te : TE) (js : List Nat) (r1 : List Sx) : D → Nat → (Option L2.Key → Nat → Prop) → Prop := fun d m2 κ =>
  ∃ es, EvG K g js d es ∧ EtM K P Z tt (setR r1 js es) m2 fun b r2 m3 => r2 = setR r1 js es ∧ (b = true → EvM K P Z te r2 m3 fun y r3 m4 => r3 = setR r1 js es ∧ ∃ k, keyD y = some k ∧ κ (some k) m4) ∧ (b = false → κ none m3)
def SkM (step : D → Nat → (Option L2.Key → Nat → Prop) → Prop) (ψ : List L2.Key → Nat → Prop) : List D → List L2.Key → Nat → Prop
  | [], acc, m => ψ acc m
  | d :: ds, acc, m => step d m fun o m' => SkM step ψ ds (acc ++ o.toList) m'
theorem ekm_sk (js : List Nat) (hj : ∀ j ∈ js, j ∈ vs) (h : EiM K P Z ti ρ m fun ds r1 m1 => UnAt r1 vs ∧ ds.length ≤ 15 ∧ SkM (SkS K P Z g tt te js r1) (fun ks m2 => κ (setK ks) r1 m2) ds [] m1) : EkM K w P Z (tSk w ti g tt te vs) ρ m κ := fun M0 σ G M H Q a l q => by
  refine h M0 σ G M H _ a l fun J ds r1 m1 G1 M1 H1 s1 a1 l1 p1 W D hD => ?_
  obtain ⟨un, few, lc⟩ := p1
  obtain ⟨GG, YY, w1, hG, hY⟩ := W.ex
  obtain ⟨gD, mD⟩ := a1.sep.free hD
  have eR := wipeR_un un
  have aw := a1.wipe vs
  rw [eR] at aw
  have move : ∀ {m' : Nat} {G' M' H' : Hp} {σ' : L2.St} {r' : List Sx} {o : HO}, Step G1 M1 H1 G' M' H' → At K P Z M0 m' G' M' H' σ' r' → G' D = none → M' D = none → Step G1 M1 H1 G' M' (upd H' D o) ∧ At K P Z M0 m' G' M' (upd H' D o) σ' r' := fun {m' G' M' H' σ' r' o} s a' g m => by
    have st := Step.put0 (o := o) s hD g m
    exact ⟨st, st.s, a'.pot, a'.fr, a'.len, a'.bm, Z.step st a1.bs, a'.sl, a'.nd⟩
  have e0 : SetKO w D (fun _ => false) 0 = setU w D (setK []) := by
    rfl
  rw [e0]
  have few2 : ∀ {ks : List L2.Key} {n : Nat}, ks.length ≤ n → n ≤ 15 → (setK ks).length + 1 < scanBound := fun {ks n} h1 h2 => by
    have := setK_le (ks := ks)
    exact Nat.lt_of_le_of_lt (show (setK ks).length + 1 ≤ 16 by omega) (by decide)
  refine it_gen w1 (fun i H' => ∃ (m' : Nat) (G' M' : Hp) (ks : List L2.Key), Step G1 M1 H1 G' M' H' ∧ At K P Z M0 m' G' M' H' (L2.wipe σ vs) r1 ∧ m' ≤ BIG ∧ H' D = some (setU w D (setK ks)) ∧ G' D = none ∧ M' D = none ∧ ks.length ≤ i ∧ SkM (SkS K P Z g tt te js r1) (fun ks m2 => κ (setK ks) r1 m2) (ds.drop i) ks m') ?_ ?_ ?_ ?_
  · obtain ⟨s2, a2⟩ := move (o := setU w D (setK [])) (Step.refl a1.sep) aw gD mD
    exact ⟨m1, G1, M1, [], s2, a2, l1, upd_same, gD, mD, Nat.le_refl _, lc⟩
  · rintro i H' _ ⟨m', G', M', ks, s', a', _⟩
    exact hG H' (s'.gg.trans a'.sep.g)
  · rintro i x H' H'' hlt ⟨m', G', M', ks, s', a', l', hH, gD', mD', la, iv⟩ y
    obtain ⟨d, G'', e, st, dv⟩ := hY i G' M' H' x H'' hlt s'.gg a'.sep y
    have e5 : ds.drop i = d :: ds.drop (i + 1) := by
      rw [List.drop_eq_getElem_cons hlt]
      congr 1
      exact (List.getElem?_eq_some_iff.mp e).2
    rw [e5] at iv
    obtain ⟨es, hg, ht⟩ := iv
    have gD2 := st.out D _ mD' gD' hH
    have hH2 := st.keep D _ mD' hH
    refine hg x _ G'' H'' _ st.s.g dv fun ws _ hws => ⟨wipe_setL js ws _ hj |>.trans (wipe_wipe σ fun v hv => hv) |>.trans rfl, ?_⟩
    have a2 := (a'.pure st).setL (js := js) (fun j h => (List.getElem?_eq_some_iff.mp (un j (hj j h))).1) hws
    refine ht M0 _ G'' M' H'' _ a2 l' fun b r2 m3 G3 M3 H3 s3 a3 l3 p3 => ?_
    obtain ⟨er, p3⟩ := p3
    subst er
    have mD3 := s3.old D _ mD' hH2
    have gD3 := s3.out D _ mD' gD2 hH2
    have hH3 := s3.keep D _ mD' hH2
    cases b with
    | false =>
      rw [if_neg Bool.false_ne_true]
      have z := p3.2 rfl
      refine ⟨m3, G3, M3, ks, (s'.trans st).trans s3, a3.back un hj, l3, hH3, gD3, mD3, Nat.le_succ_of_le la, ?_⟩
      have z' : SkM (SkS K P Z g tt te js r1) (fun ks m2 => κ (setK ks) r1 m2) (ds.drop (i + 1)) (ks ++ []) m3 := z
      rwa [List.append_nil] at z'
    | true =>
      rw [if_pos rfl]
      refine p3.1 rfl M0 _ G3 M3 H3 _ a3 l3 fun v de r3 m4 G4 M4 H4 s4 a4 l4 p4 v4 => ?_
      obtain ⟨er, k, ek, p4⟩ := p4
      subst er
      have ev := keyD_v v4 ek
      subst ev
      have mD4 := s4.old D _ mD3 hH3
      have gD4 := s4.out D _ mD3 gD3 hH3
      have hH4 := s4.keep D _ mD3 hH3
      refine ⟨k, _, _, rfl, hH4, few2 la (Nat.le_trans (Nat.le_of_lt hlt) few), ?_⟩
      rw [setU_ins, ← setK_snoc]
      obtain ⟨s5, a5⟩ := move (o := setU w D (setK (ks ++ [k]))) (((s'.trans st).trans s3).trans s4) (a4.back un hj) gD4 mD4
      exact ⟨m4, G4, M4, ks ++ [k], s5, a5, l4, upd_same, gD4, mD4, by rw [List.length_append]; exact Nat.succ_le_succ la, p4⟩
  · rintro H' ⟨m', G', M', ks, s', a', l', hH, gD', mD', la, iv⟩
    rw [List.drop_length] at iv
    exact q D _ r1 m' G' M' H' (s1.trans s') (a'.unwipe un) l' hH gD' mD' setK_nodup iv
/-- over items of one kind, each making a key -/
theorem skm_on {τ : Type} {step : D → Nat → (Option L2.Key → Nat → Prop) → Prop} {ψ : List L2.Key → Nat → Prop} (g : τ → D) (F : τ → L2.Key) : ∀ {xs : List τ} {acc : List L2.Key}, (∀ a ∈ xs, ∀ κ : Option L2.Key → Nat → Prop, κ (some (F a)) m → step (g a) m κ) → ψ (acc ++ xs.map F) m → SkM step ψ (xs.map g) acc m
  | [], acc, _, q => by
    rw [List.map_nil, List.append_nil] at q
    exact q
  | x :: xs, acc, h, q => h x (.head _) _ (by
    refine skm_on g F (fun a ha => h a (.tail _ ha)) ?_
    show ψ (acc ++ [F x] ++ _) m
    rw [List.append_assoc]
    exact q)
theorem skm_map {step : D → Nat → (Option L2.Key → Nat → Prop) → Prop} {ψ : List L2.Key → Nat → Prop} (F : D → L2.Key) : ∀ {ds : List D} {acc : List L2.Key}, (∀ a ∈ ds, ∀ κ : Option L2.Key → Nat → Prop, κ (some (F a)) m → step a m κ) → ψ (acc ++ ds.map F) m → SkM step ψ ds acc m
  | [], acc, _, q => by
    rw [List.map_nil, List.append_nil] at q
    exact q
  | x :: xs, acc, h, q => h x (.head _) _ (by
    refine skm_map F (fun a ha => h a (.tail _ ha)) ?_
    show ψ (acc ++ [F x] ++ _) m
    rw [List.append_assoc]
    exact q)
/-- len({..}) -/
def rLenK (w : World) : List V → Hp → VK → Prop := fun xs H Q => ∃ (a : Addr) (us : List L2.Key), xs = [V.ref a] ∧ H a = some (setU w a us) ∧ Q (.int (us.length : Nat)) H
theorem evm_lenK (h : EkM K w P Z te ρ m fun us r1 m1 => φ (.int (us.length : Nat)) r1 m1) : EvM K P Z (tCB (rLenK w) (tCons te tNil)) ρ m φ := fun M0 σ G M H Q a l q =>
  h M0 σ G M H _ a l fun D us r1 m1 G1 M1 H1 s1 a1 l1 hH _ _ _ p => ⟨D, us, rfl, hH, q _ _ r1 m1 G1 M1 H1 s1 a1 l1 p (.int _)⟩
end
section
variable {X : Cx}
theorem cr_lenK : CallR X (.builtin "len") (rLenK X.w) := by
  intro pins s σ H xs us Q I r h
  obtain ⟨a, ks, rfl, ha, q⟩ := h
  obtain ⟨o, es, ep, t, ho, hex, hd, _, _, _, hb, hf, hn, _⟩ := setKO_at I ha
  rw [Vals.ref1 r]
  have lt : (es.size : Int) < 2 ^ 63 := Int.lt_trans (Int.ofNat_lt.mpr hb) (by decide)
  exact call_len_set ho hex hd hf lt ⟨.int _, H, I.tok _, ⟨_, by rw [hn]⟩, q⟩
end
section
variable {X : Cx} {e : Expr} {es : List Expr} {p pos : Pos} {elt tg iter : Expr} {scope : Scope}
abbrev de_lenK (hm : X.mg ("len" : Str) = none) (hg : Gl X "len") (ha : DA X (e :: es)) (he : starEach (e :: es) X.env = (false, eval e X.env) :: starEach es X.env := by rfl) (hpl : (backTo pos (starEach es X.env)).any (·.1) = false := by rfl) : DE X (.Call (.Name "len" p) (e :: es) [] pos) := de_callB cr_lenK hg hm bo_len ha nn_len nd_len he hpl
abbrev de_sk (own : List (Str × Nat)) (s0 : Shared) (H0 : Hp) (hc : X.calm = true) (hN : X.N.Nodup) (hi : DI X tg iter) (ok : blkC X.N X.env.scope scope own = true)
    (hg : ∀ (s : Shared) (H : Hp) (C : Addr) (cl : List (Str × Addr)) (fp : List Addr), DG (X.blk s H scope (compEnvC scope cl C X.env) fp) tg)
    (he : ∀ (s : Shared) (H : Hp) (C : Addr) (cl : List (Str × Addr)) (fp : List Addr), DE (X.blk s H scope (compEnvC scope cl C X.env) fp) elt)
    (eg : ∀ (s : Shared) (H : Hp) (C : Addr) (cl : List (Str × Addr)) (fp : List Addr), (hg s H C cl fp).1 = (hg s0 H0 0 [] []).1)
    (ee : ∀ (s : Shared) (H : Hp) (C : Addr) (cl : List (Str × Addr)) (fp : List Addr), (he s H C cl fp).1 = (he s0 H0 0 [] []).1)
    (hs : ∀ x, foldedSetIterable iter X.env x = pure x := by intro _; rfl) : DE X (.SetComp elt [⟨tg, iter, [], 0⟩] scope pos) :=
  ⟨tSk X.w hi.1 (hg s0 H0 0 [] []).1 tYes (he s0 H0 0 [] []).1 (own.map (·.2)), pe_sk hc hN hi.2 (blkOk_by ok) (fun s H C cl fp => eg s H C cl fp ▸ (hg s H C cl fp).2) (fun _ _ _ _ _ => pts_nil) (fun s H C cl fp => ee s H C cl fp ▸ (he s H C cl fp).2) hs⟩
end
section
variable {K : PySem.W.Frag} {w : World} {P : Option Addr} {Z : Bas} {ρ : List Sx} {te : TE} {tt : TT} {ti : TI} {m j : Nat} {κ : List L2.Key → List Sx → Nat → Prop}
/-- one name, no test -/
def SkY (K : PySem.W.Frag) (P : Option Addr) (Z : Bas) (te : TE) (j : Nat) (r1 : List Sx) : D → Nat → (Option L2.Key → Nat → Prop) → Prop := fun d m2 κ => EvM K P Z te (r1.set j (.d d)) m2 fun y r3 m4 => r3 = r1.set j (.d d) ∧ ∃ k, keyD y = some k ∧ κ (some k) m4
theorem SkM.imp {s1 s2 : D → Nat → (Option L2.Key → Nat → Prop) → Prop} {ψ : List L2.Key → Nat → Prop} (h : ∀ d m κ, s1 d m κ → s2 d m κ) (mono : ∀ d m (κ κ' : Option L2.Key → Nat → Prop), (∀ o n, κ o n → κ' o n) → s1 d m κ → s1 d m κ') : ∀ {ds : List D} {acc : List L2.Key} {m : Nat}, SkM s1 ψ ds acc m → SkM s2 ψ ds acc m
  | [], _, _, q => q
  | d :: ds, acc, m, q => h d m _ (mono d m _ _ (fun o n z => SkM.imp h mono z) q)
theorem ekm_skY (h : EiM K P Z ti ρ m fun ds r1 m1 => r1[j]? = some .un ∧ ds.length ≤ 15 ∧ SkM (SkY K P Z te j r1) (fun ks m2 => κ (setK ks) r1 m2) ds [] m1) : EkM K w P Z (tSk w ti (gName j) tYes te [j]) ρ m κ :=
  ekm_sk [j] (fun _ h => h) (EiM.imp h fun ds r1 m1 z => ⟨un1 z.1, z.2.1, SkM.imp (s1 := SkY K P Z te j r1) (fun d m κ q => ⟨[d], eg_name, etm_yes ⟨rfl, fun _ => q, fun e => nomatch e⟩⟩) (fun d m κ κ' f q => EvM.imp q fun _ _ _ z => ⟨z.1, z.2.elim fun k y => ⟨k, y.1, f _ _ y.2⟩⟩) z.2.2⟩)
end
end Tp

/-! # Kinds of data, None, truth, small data and their texts -/
namespace Tp
open PySem PySem.Spec PyProof.Rows L2
def tyN : D → Option String
  | .non => some "NoneType"
  | .bl _ => some "bool"
  | .int _ => some "int"
  | .str _ => some "str"
  | .lst _ => some "list"
  | .tup _ => some "tuple"
  | .dic _ => some "dict"
  | _ => none
theorem kit_str {d : D} {t : String} (h : tyN d = some t) : kitB t "str" = some (decide (t = "str")) := by
  cases d <;> cases h <;> decide +kernel
theorem kit_tuple {d : D} {t : String} (h : tyN d = some t) : kitB t "tuple" = some (decide (t = "tuple")) := by
  cases d <;> cases h <;> decide +kernel
theorem kit_int {d : D} {t : String} (h : tyN d = some t) : kitB t "int" = some (decide (t = "int") || decide (t = "bool")) := by
  cases d <;> cases h <;> decide +kernel
theorem kit_bool {d : D} {t : String} (h : tyN d = some t) : kitB t "bool" = some (decide (t = "bool")) := by
  cases d <;> cases h <;> decide +kernel
def isN : D → Bool
  | .non => true
  | _ => false
abbrev rIsN0 : R2 := fun x y H Q => y = .non ∧ Q (.bl (decide (x = .non))) H
def tTru (K : PySem.W.Frag) (te : TE) : TT := fun σ H Q => te σ H fun x H' => ∃ k, TruV K x H' k ∧ Q k H'
def trD : D → Option Bool
  | .non => some false
  | .bl b => some b
  | .int i => some (i != 0)
  | .lst xs => some (!xs.isEmpty)
  | .tup xs => some (!xs.isEmpty)
  | _ => none
section
variable {X : Cx} {a b e o : Expr} {es : List Expr} {p pos : Pos}
abbrev de_isN (ha : DE X a) (hb : DE X b) (hm : behindInMarks .Is b = false := by rfl) : DE X (.Compare a [.Is] [b] pos) := ⟨tOp rIsN0 ha.1 hb.1, pe_cmpR op_isN ha.2 hb.2 hm⟩
abbrev dt_isN (ha : DE X a) (hb : DE X b) (hm : behindInMarks .Is b = false := by rfl) : DT X (.Compare a [.Is] [b] pos) := ⟨tTest (tOp rIsN0 ha.1 hb.1), pt_cmpR op_isN ha.2 hb.2 hm⟩
abbrev de_tupT (hg : Gl X "tuple") (hm : X.mg ("tuple" : Str) = none) : DE X (.Name "tuple" pos) := ⟨tC (.ty "tuple"), pe_bltn hg hm bo_tuple rfl (by decide) (by decide)⟩
abbrev dt_tru (h : DE X e) (he : ∀ whole, isTrue e X.env whole = (do let v ← whole; standAt e.pos; holding [v] (truthy v)) := by intro _; rfl) : DT X e := ⟨tTru X.K h.1, pt_truth h.2 he⟩
abbrev rInC : R2 := fun x y H Q => ∃ (c : Nat) (z : Str), x = .str ⟨#[c]⟩ ∧ y = .str z ∧ Q (.bl (decide (c ∈ z.cps.toList))) H
abbrev de_inC {z : Str} {kk : Nat} (ha : DE X a) (hm : behindInMarks .In (.Constant (.str z) kk p) = false := by rfl) : DE X (.Compare a [.In] [.Constant (.str z) kk p] pos) := ⟨tOp rInC ha.1 (tC (.str z)), pe_cmpR op_in_sign ha.2 pe_str hm⟩
abbrev de_mulT (ha : DE X a) (hb : DE X b) : DE X (.BinOp a .Mult b pos) := de_op op_repT ha hb
end
section
variable {K : PySem.W.Frag} {P : Option Addr} {Z : Bas} {ρ : List Sx} {te tb : TE} {m i j : Nat} {φ : D → List Sx → Nat → Prop} {β : Bool → List Sx → Nat → Prop} {ψ : D → Prop} {T : String}
theorem evm_isi (h : EvM K P Z te ρ m fun d r1 m1 => ∃ t b, tyN d = some t ∧ kitB t T = some b ∧ φ (.bl b) r1 m1) : EvM K P Z (tCB (rIsi K) (tCons te (tCons (tC (.ty T)) tNil))) ρ m φ := fun M0 σ G M H Q a l q =>
  h M0 σ G M H _ a l fun v d r1 m1 G1 M1 H1 s1 a1 l1 p1 v1 => by
    obtain ⟨t, b, e, k, z⟩ := p1
    have fin := q (.bl b) (.bl b) r1 m1 G1 M1 H1 s1 a1 l1 z (.bl b)
    have out : TyX K H1 v (.type t) → (tCons (tC (.ty T)) tNil : TA) σ H1 fun xs H2 => rIsi K (v :: xs) H2 Q := fun ty => ⟨_, _, _, _, b, rfl, .ty _, ty, kit_ty k, fin⟩
    cases v1 with
    | non =>
      cases e
      exact out (.base .non)
    | bl y =>
      cases e
      exact out (.base (.bl _))
    | int y =>
      cases e
      exact out (.base (.int _))
    | str y =>
      cases e
      exact out (.base (.str _))
    | lst h1 h2 =>
      cases e
      exact out (.base (.lst (s1.s.g _ _ h1)))
    | tup h1 h2 =>
      cases e
      rcases s1.s.g.sqTd h1 with (h1 | ⟨o, h1⟩) | ⟨o, _, _, h3, h4, _⟩
      · exact out (.base (.tup h1))
      · exact out (.fTuple h1)
      · exact out (.kTuple h3 h4)
    | dic h1 h2 =>
      cases e
      rcases s1.s.g.rdd h1 with h1 | ⟨o, h1⟩
      · exact out (.base (.dK h1))
      · exact out (.fDict h1)
    | _ => cases e
theorem ow_isN {d : D} {t : String} (h : tyN d = some t) (q : ψ (.bl (isN d))) : OpW K rIsN0 d .non ψ := ow (fun u v G M H Q s ha hb f => by
  cases hb
  refine ⟨rfl, ?_⟩
  have e : decide (u = V.non) = isN d := by
    cases ha with
    | non => rfl
    | sam _ => cases h
    | err _ _ => cases h
    | ins _ _ => cases h
    | _ => exact decide_eq_false fun z => nomatch z
  rw [e]
  exact f _ _ G H (Step.refl s) rfl (.bl _)) q
theorem etm_tru (h : EvM K P Z te ρ m fun d r1 m1 => ∃ b, trD d = some b ∧ β b r1 m1) : EtM K P Z (tTru K te) ρ m β := fun M0 σ G M H Q a l q =>
  h M0 σ G M H _ a l fun v d r1 m1 G1 M1 H1 s1 a1 l1 p1 v1 => by
    obtain ⟨b, e, z⟩ := p1
    refine ⟨b, ?_, q b r1 m1 G1 M1 H1 s1 a1 l1 z⟩
    cases v1 with
    | non =>
      cases e
      rfl
    | bl y =>
      cases e
      rfl
    | int y =>
      cases e
      rfl
    | lst h1 h2 =>
      cases e
      refine .inl ⟨_, sq_of' (s1.s.g _ _ h1), ?_⟩
      cases h2 <;> rfl
    | tup h1 h2 =>
      cases e
      refine .inr (.inl ⟨_, s1.s.g.sqTd h1, ?_⟩)
      cases h2 <;> rfl
    | _ => cases e
theorem atI_zero {α : Type} {d : α} {ds : List α} : L2.atI (d :: ds) 0 = some d := by
  unfold L2.atI ixN
  rw [if_pos (by decide), if_pos (by rw [List.length_cons]; omega)]
  rfl
/-- truth of a list that stays owned -/
theorem etm_truO {ds : List D} (e : ρ[j]? = some (.own (.lst ds))) (q : β (!ds.isEmpty) ρ m) : EtM K P Z (tTru K (tVar j)) ρ m β := fun M0 σ G M H Q a b f => by
  obtain ⟨l, u, e1, _, _, e4, ⟨vs, rfl, hv⟩, _⟩ := a.own e
  refine ⟨.ref l, e1, !ds.isEmpty, .inl ⟨_, sq_of' (a.sep.m _ _ e4), ?_⟩, f _ ρ m G M H (Step.refl a.sep) a b q⟩
  cases hv <;> rfl
/-- an item of a list that stays owned -/
theorem evm_ixO {ds : List D} (e : ρ[j]? = some (.own (.lst ds))) (h : EvM K P Z te ρ m fun d r1 m1 => r1 = ρ ∧ ∃ i x, d = .int i ∧ L2.atI ds i = some x ∧ φ x r1 m1) : EvM K P Z (tOp (rIx K) (tVar j) te) ρ m φ := fun M0 σ G M H Q a b f => by
  obtain ⟨l, u, e1, _, _, e4, _, _⟩ := a.own e
  refine ⟨.ref l, e1, h M0 σ G M H _ a b fun v d r1 m1 G1 M1 H1 s1 a1 l1 p1 v1 => ?_⟩
  obtain ⟨rfl, i, x, rfl, ei, z⟩ := p1
  cases v1
  obtain ⟨l', u', f1, _, _, f4, ⟨vs, rfl, hv⟩, _⟩ := a1.own e
  rw [e1] at f1
  cases f1
  obtain ⟨y, ey, dy⟩ := hv.atI ei
  exact .inl ⟨l, vs, i, y, rfl, rfl, sq_of' (a1.sep.m _ _ f4), ey, f y x r1 m1 G1 M1 H1 s1 a1 l1 z dy⟩
theorem ow_inC {c : Nat} {z : Str} (q : ψ (.bl (decide (c ∈ z.cps.toList)))) : OpW K rInC (.str ⟨#[c]⟩) (.str z) ψ := ow (fun u v G M H Q s ha hb f => by
  cases ha
  cases hb
  exact ⟨c, z, rfl, rfl, f _ _ G H (Step.refl s) rfl (.bl _)⟩) q
theorem ow_repT {xs : List D} {k : Int} (n : xs ≠ []) (h2 : 2 ≤ k) (h3 : k ≤ 1000) (h4 : xs.length ≤ 1000) (q : ψ (.tup (List.replicate k.toNat xs).flatten)) : OpW K (rRepT K) (.tup xs) (.int k) ψ := ow (fun u v G M H Q s ha hb f => by
  cases hb
  cases ha with
  | tup h1 k1 =>
    refine ⟨_, k, _, rfl, rfl, s.g.sqTd h1, ?_, h2, h3, by rw [k1.length]; exact h4, fun p n2 => f _ _ _ _ (Step.new s n2) rfl (new_tup s n2 (k1.rep _))⟩
    intro z
    rw [z] at k1
    cases k1
    exact n rfl) q
end
/-! ### small data -/
structure Sm (n dp : Nat) (d : D) : Prop where
  pl : d.plain = true
  sh : d.py.showable = true
  lv : d.py.leavesShort 13 = true
  w : d.py.weight ≤ n
  dp : d.py.depth ≤ dp
theorem Sm.le {n n' dp dp' : Nat} {d : D} (h : Sm n dp d) (l : n ≤ n') (l2 : dp ≤ dp') : Sm n' dp' d := ⟨h.pl, h.sh, h.lv, Nat.le_trans h.w l, Nat.le_trans h.dp l2⟩
theorem sm_non {n dp : Nat} : Sm n dp .non := ⟨rfl, rfl, rfl, Nat.zero_le _, Nat.zero_le _⟩
theorem sm_bl {n dp : Nat} {b : Bool} : Sm n dp (.bl b) := ⟨rfl, rfl, rfl, Nat.zero_le _, Nat.zero_le _⟩
theorem sm_str {n dp : Nat} {x : Str} (h : ∀ c ∈ x.cps.toList, c < 16 ^ 8) (l : x.length ≤ n) : Sm n dp (.str x) := ⟨rfl, rfl, List.all_eq_true.mpr fun c hc => decide_eq_true (h c hc), l, Nat.zero_le _⟩
theorem sm_alls {n dp : Nat} : ∀ {ds : List D}, (∀ d ∈ ds, Sm n dp d) → D.plains ds = true ∧ PyData.showableAll (D.pys ds) = true ∧ PyData.leavesShortAll 13 (D.pys ds) = true ∧ PyData.weightAll (D.pys ds) ≤ ds.length * (n + 1) ∧ PyData.depthAll (D.pys ds) ≤ dp
  | [], _ => ⟨rfl, rfl, rfl, by rw [List.length_nil, Nat.zero_mul]; exact Nat.le_refl _, Nat.zero_le _⟩
  | d :: ds, h => by
    have h1 := h d (.head _)
    obtain ⟨a, b, c, e, f⟩ := sm_alls (ds := ds) fun d hd => h d (.tail _ hd)
    refine ⟨?_, ?_, ?_, ?_, ?_⟩
    · show (d.plain && D.plains ds) = true
      rw [h1.pl, a]
      rfl
    · show (d.py.showable && PyData.showableAll (D.pys ds)) = true
      rw [h1.sh, b]
      rfl
    · show (d.py.leavesShort 13 && PyData.leavesShortAll 13 (D.pys ds)) = true
      rw [h1.lv, c]
      rfl
    · show d.py.weight + 1 + PyData.weightAll (D.pys ds) ≤ _
      have := h1.w
      rw [List.length_cons, Nat.add_mul, Nat.one_mul]
      omega
    · show max d.py.depth (PyData.depthAll (D.pys ds)) ≤ dp
      exact Nat.max_le.mpr ⟨h1.dp, f⟩
theorem sm_tup {n dp : Nat} {ds : List D} (h : ∀ d ∈ ds, Sm n dp d) : Sm (ds.length * (n + 1)) (dp + 1) (.tup ds) := by
  obtain ⟨a, b, c, e, f⟩ := sm_alls h
  exact ⟨a, b, c, e, Nat.succ_le_succ f⟩
theorem sm_lst {n dp : Nat} {ds : List D} (h : ∀ d ∈ ds, Sm n dp d) : Sm (ds.length * (n + 1)) (dp + 1) (.lst ds) := by
  obtain ⟨a, b, c, e, f⟩ := sm_alls h
  exact ⟨a, b, c, e, Nat.succ_le_succ f⟩
section
variable {K : PySem.W.Frag} {ψ : D → Prop}
theorem cw_repr {d : D} (h : Sm 1000000 60 d) (q : ψ (.str d.py.shown)) : CaW K (rRepr K) [d] ψ := cw (cd_repr h.pl h.sh h.dp (PyData.shown_fits (by decide) (by decide) h.lv (Nat.le_trans h.w (by decide)))) q
theorem eqv_strs : ∀ {xs ys : List Str}, PyData.eqvAll (D.pys (xs.map .str)) (D.pys (ys.map .str)) = decide (xs = ys)
  | [], [] => rfl
  | [], _ :: _ => rfl
  | _ :: _, [] => rfl
  | x :: xs, y :: ys => by
    show ((x == y) && PyData.eqvAll (D.pys (xs.map .str)) (D.pys (ys.map .str))) = _
    rw [eqv_strs]
    by_cases h : x = y
    · subst h
      by_cases h2 : xs = ys
      · subst h2
        simp
      · simp [h2]
    · simp [h]
theorem shaped_strs {xs : List Str} (h : ∀ x ∈ xs, PyData.strOk x = true) : SeqAt.shaped (D.lst (xs.map .str)).py = true := by
  have z : ∀ {xs : List Str}, (∀ x ∈ xs, PyData.strOk x = true) → PyData.canLayAll0 (D.pys (xs.map .str)) = true ∧ PyData.depthAll (D.pys (xs.map .str)) = 0 := fun {xs} => by
    induction xs with
    | nil => exact fun _ => ⟨rfl, rfl⟩
    | cons x xs ih =>
      intro h
      obtain ⟨a, b⟩ := ih fun x hx => h x (.tail _ hx)
      constructor
      · show (PyData.strOk x && PyData.canLayAll0 (D.pys (xs.map .str))) = true
        rw [h x (.head _), a]
        rfl
      · show max 0 (PyData.depthAll (D.pys (xs.map .str))) = 0
        rw [b]
        rfl
  obtain ⟨a, b⟩ := z h
  show (PyData.canLayAll0 (D.pys (xs.map .str)) && decide (PyData.depthAll (D.pys (xs.map .str)) + 1 ≤ 64)) = true
  rw [a, b]
  rfl
theorem pl_strs {xs : List Str} : (D.lst (xs.map .str)).plain = true := by
  show D.plains (xs.map .str) = true
  rw [plains_all]
  exact List.all_eq_true.mpr fun d hd => (List.mem_map.mp hd).elim fun x z => z.2 ▸ rfl
theorem ow_neL {xs ys : List Str} (hx : ∀ x ∈ xs, PyData.strOk x = true) (hy : ∀ x ∈ ys, PyData.strOk x = true) (q : ψ (.bl (!decide (xs = ys)))) : OpW K (rNe1 K) (.lst (xs.map .str)) (.lst (ys.map .str)) ψ := by
  refine ow (od_neP pl_strs pl_strs (shaped_strs hx) (shaped_strs hy) toDp) ?_
  rw [show PyData.eqv (D.lst (xs.map .str)).py (D.lst (ys.map .str)).py = decide (xs = ys) from eqv_strs]
  exact q
theorem strOk_lt {x : Str} (h : ∀ c ∈ x.cps.toList, c < 128) : PyData.strOk x = true := by
  unfold PyData.strOk
  rw [Array.all_eq_true']
  intro c hc
  exact decide_eq_true (Nat.lt_of_lt_of_le (h c (by simpa using hc)) (by decide))
end
end Tp

/-! # A law's pot made within its body; enumerate; the law itself -/
namespace Tp
open PySem PySem.Spec PyProof.Rows L2
/-- the draws of a cell: a new list, owned -/
def spPt (K : PySem.W.Frag) : Sp := fun vs H Q _ => ∃ (a : Addr) (ns : List Int) (i : Nat) (G M : Hp), vs = [.ref a, .int i] ∧ Sep G M H ∧ SqL K G a (ns.map V.int) ∧ ns.length ≤ 1000000 ∧ i ≤ 63 ∧
  ∀ p G2 M2 H2, Step G M H G2 M2 H2 → M p = none → PotM (some p) 0 M2 → (∀ b, b ≠ p → M2 b = M b) → (∃ o, M2 p = some o) → Q (.ref p) H2
def unpot : List Sx → List Sx := List.map fun x => match x with | .pot => .un | y => y
section
variable {K : PySem.W.Frag} {P : Option Addr} {Z : Bas} {G M H : Hp} {m n i j : Nat} {ρ : List Sx} {u : TS} {te : TE} {tr : TA} {nx bk ct : List Sx → Nat → Prop} {rt : D → Nat → Prop} {α : List D → List Sx → Nat → Prop} {φ : D → List Sx → Nat → Prop}
theorem at_unpot {p : Addr} {M0 : Hp} {σ : L2.St} (n0 : M0 p = none) (a : At K (some p) Z M0 m G M H σ ρ) : At K none Z M0 n G M H σ (unpot ρ) := by
  have look : ∀ (j : Nat) (x : Sx), (unpot ρ)[j]? = some x → x = .un ∨ (x ≠ .pot ∧ ρ[j]? = some x) := fun j x e => by
    unfold unpot at e
    rw [List.getElem?_map] at e
    cases h : ρ[j]? with
    | none =>
      rw [h] at e
      cases e
    | some y =>
      rw [h] at e
      cases y with
      | pot =>
        cases e
        exact .inl rfl
      | _ =>
        cases e
        exact .inr ⟨(fun z => nomatch z), rfl⟩
  refine ⟨a.sep, PotM.no, fun b o _ h => a.fr b o (fun e => ?_) h, by rw [a.len]; unfold unpot; rw [List.length_map], a.bm, a.bs, fun j x e => ?_, fun j k b b' e1 e2 ne => ?_⟩
  · cases e
    rw [n0] at h
    cases h
  · rcases look j x e with rfl | ⟨np, e'⟩
    · trivial
    · have q := a.sl j x e'
      cases x with
      | pot => exact absurd rfl np
      | own b =>
        obtain ⟨l, u, e1, e2, e3, e4, e5⟩ := q
        exact ⟨l, u, e1, e2, (fun z => nomatch z), e4, e5⟩
      | _ => exact q
  · rcases look j _ e1 with z | ⟨_, h1⟩
    · cases z
    · rcases look k _ e2 with z | ⟨_, h2⟩
      · cases z
      · exact a.nd j k b b' h1 h2 ne
/-- pot = _law_pot(script, number), and what follows with it -/
theorem esm_withPot {ns : List Int} {x : Nat} {E0 : XK} (e0 : ρ[0]? = some (.scr ns)) (e1 : ρ[j]? = some (.d (.int (x : Nat)))) (ln : ns.length ≤ 1000000) (lx : x ≤ 63) (li : i < ρ.length) (lm : m ≤ BIG) (np : ∀ k : Nat, ρ[k]? ≠ some Sx.pot)
    (h : ∀ p, EsM K (some p) Z u (ρ.set i .pot) 0 (fun r _ => nx (unpot r) m) (fun r _ => bk (unpot r) m) (fun r _ => ct (unpot r) m) (fun d _ => rt d m)) :
    EsM K none Z (tSeq (tAsg (tCall (spPt K) [] E0 (tCons (tVar 0) (tCons (tVar j) tNil))) (gName i)) u) ρ m nx bk ct rt := fun M0 σ G M H E a l q1 q2 q3 q4 => by
  obtain ⟨b, f0, hq⟩ := a.sl 0 _ e0
  obtain ⟨v, f1, hv⟩ := a.sl j _ e1
  cases hv
  refine ⟨.ref b, f0, .int x, f1, b, ns, x, G, M, rfl, a.sep, hq, ln, lx, fun p G2 M2 H2 st np' pm off ex => ?_⟩
  have n0 : M0 p = none := by
    cases e : M0 p with
    | none => rfl
    | some o =>
      have z := a.fr p o (fun e => nomatch e) e
      rw [np'] at z
      cases z
  have neP : ∀ {c : Addr} {o : HO}, M c = some o → c ≠ p := fun {c o} e z => by
    rw [z, np'] at e
    cases e
  have a2 : At K (some p) Z M0 0 G2 M2 H2 (σ.set i (some (.ref p))) (ρ.set i .pot) := by
    refine ⟨st.s, pm, fun c o _ e => ?_, by rw [List.length_set, List.length_set, a.len], a.bm, Z.step st a.bs, fun k y e => ?_, fun k k' b b' g1 g2 ne => ?_⟩
    · have z := a.fr c o (fun e => nomatch e) e
      rw [off c (neP z)]
      exact z
    · rw [getset li] at e
      rw [getset (by rw [a.len]; exact li)]
      by_cases q : i = k
      · rw [if_pos q] at e ⊢
        cases e
        exact ⟨p, rfl, rfl⟩
      · rw [if_neg q] at e ⊢
        have z := a.sl k y e
        cases y with
        | un => trivial
        | d x =>
          obtain ⟨v, z1, z2⟩ := z
          exact ⟨v, z1, z2.mono st.gg⟩
        | pot => exact absurd e (np k)
        | own b =>
          obtain ⟨l, u, z1, z2, z3, z4, z5⟩ := z
          exact ⟨l, u, z1, z2, (fun e => neP z4 (Option.some.inj e).symm), by rw [off l (neP z4)]; exact z4, z5.mono st.gg⟩
        | scr ns =>
          obtain ⟨l, z1, z2⟩ := z
          exact ⟨l, z1, st.gg.sqLd z2⟩
    · rw [getset li] at g1 g2
      rw [getset (by rw [a.len]; exact li), getset (by rw [a.len]; exact li)]
      by_cases q : i = k
      · rw [if_pos q] at g1
        cases g1
      · rw [if_neg q] at g1 ⊢
        by_cases q' : i = k'
        · rw [if_pos q'] at g2
          cases g2
        · rw [if_neg q'] at g2 ⊢
          exact a.nd k k' b b' g1 g2 ne
  exact h p M0 _ G2 M2 H2 E a2 (by decide) (fun σ' r' n' G3 M3 H3 s3 a3 _ z => q1 _ _ m _ _ _ (st.trans s3) (at_unpot n0 a3) lm z) (fun σ' r' n' G3 M3 H3 s3 a3 _ z => q2 _ _ m _ _ _ (st.trans s3) (at_unpot n0 a3) lm z) (fun σ' r' n' G3 M3 H3 s3 a3 _ z => q3 _ _ m _ _ _ (st.trans s3) (at_unpot n0 a3) lm z)
    (fun v d σ' r' n' G3 M3 H3 s3 a3 _ z hv => q4 _ _ _ _ m _ _ _ (st.trans s3) (at_unpot n0 a3) lm z hv)
def enumF : Nat → List D → List D
  | _, [] => []
  | k, d :: ds => .tup [.int (k : Nat), d] :: enumF (k + 1) ds
theorem enumF_at : ∀ {ds : List D} {k i : Nat}, (enumF k ds)[i]? = (ds[i]?).map fun d => D.tup [.int ((k + i : Nat) : Int), d]
  | [], _, _ => rfl
  | d :: ds, k, 0 => rfl
  | d :: ds, k, i + 1 => by
    show (enumF (k + 1) ds)[i]? = _
    rw [enumF_at, List.getElem?_cons_succ, show k + 1 + i = k + (i + 1) by omega]
theorem enumD_eq {ds : List D} : enumD ds = enumF 0 ds := by
  apply List.ext_getElem?
  intro i
  rw [enumF_at, Nat.zero_add]
  cases h : ds[i]? with
  | none =>
    rw [List.getElem?_eq_none_iff] at h
    rw [Option.map_none, List.getElem?_eq_none_iff, enumD_len]
    exact h
  | some d => exact enumD_at h
/-- enumerate(list) -/
theorem eim_enum (h : EaM K P Z tr ρ m fun ds r1 m1 => ∃ es, ds = [.lst es] ∧ α (enumD es) r1 m1) : EiM K P Z (iEnum K tr) ρ m α := fun M0 σ G M H R a l q =>
  h M0 σ G M H _ a l fun vs ds r1 m1 G1 M1 H1 s1 a1 l1 p1 v1 => by
    obtain ⟨es, rfl, h3⟩ := p1
    cases v1 with
    | cons hv hn =>
      cases hn
      cases hv with
      | @lst b xs _ h1 h2 =>
        refine ⟨b, xs, rfl, sq_of' (s1.s.g _ _ h1), q _ (enumD es) r1 m1 G1 M1 H1 s1 a1 l1 h3 ⟨_, _, by rw [enumD_len, ← h2.length]; exact walk_enum, fun H s => sq_of' (s _ _ h1), fun i G' M' H' x H'' hi s' sp y => ?_⟩⟩
        obtain ⟨T, x1, y1, rfl, n, rfl, e1, e2⟩ := y
        cases e1
        obtain ⟨d, e', hv⟩ := h2.at e2
        obtain ⟨G'', st, dv⟩ := pair_step sp n (.int (i : Nat)) (hv.mono s')
        exact ⟨_, G'', enumD_at e', st, dv⟩
/-- len(script) -/
theorem evm_scrLen {ns : List Int} (e : ρ[j]? = some (.scr ns)) (q : φ (.int (ns.length : Nat)) ρ m) : EvM K P Z (tCB (rLen1 K) (tCons (tVar j) tNil)) ρ m φ := fun M0 σ G M H Q a l f => by
  obtain ⟨b, e1, h⟩ := a.sl j _ e
  exact ⟨.ref b, e1, _, ns.length, rfl, .inl ⟨_, a.sep.g.sqLd h, by simp⟩, f _ _ ρ m G M H (Step.refl a.sep) a l q (.int _)⟩
theorem cw_max2 {i j : Int} {ψ : D → Prop} (q : ψ (.int (if j > i then j else i))) : CaW K (fun xs H Q => ∃ i j, xs = [V.int i, V.int j] ∧ Q (V.int (if j > i then j else i)) H) [.int i, .int j] ψ := cw (fun vs G M H Q s hv q => by
  cases hv with
  | cons h1 h2 =>
    cases h2 with
    | cons h2 h3 =>
      cases h3
      cases h1
      cases h2
      exact ⟨i, j, rfl, q _ _ G H (Step.refl s) rfl (.int _)⟩) q
end
abbrev spLw (K : PySem.W.Frag) : Sp := fun vs H Q _ => ∃ (a : Addr) (ns : List Int), vs = [.ref a] ∧ SqL K H a (ns.map V.int) ∧ ns.length ≤ 63 ∧ ∀ H', Q (.bl true) H'
section
variable {P : Program} {w : World} {K : PySem.W.Frag} {mg : Str → Option Value} {base : Heap} {x qual : Str} {st : Stmt} {f : Addr} {fd : FuncData} {N ps : List Str} {k : Nat}
theorem okML {y : Str} (F : Fun K x qual st f fd) (S : FnScope N [y] (defScope st)) (hn : 0 < N.length)
    (body : ∀ (cdv : Value) (A : Around) (outer : List Env) (s : Shared) (H : Hp) (E : XK), Room k (A.deeper (envOfC qual (defScope st) s.heap.objs.size f cdv)) → Quiet A → (A.deeper (envOfC qual (defScope st) s.heap.objs.size f cdv)).units + 64 < cLine → (A.deeper (envOfC qual (defScope st) s.heap.objs.size f cdv)).units + 1 < cLine →
      ∃ t, PSs (Xof P w K mg base N qual st f cdv A outer s H E) (defBody st) t ∧ ∀ ns : List Int, ns.length ≤ 63 → EsM K none Z0 t (.scr ns :: List.replicate (N.length - 1) .un) 0 NoS NoS NoS (fun d _ => d = .bl true)) :
    FnG P w K mg base CX0 (k + 1) f fd [y] (spLw K) := by
  refine okG0 F S (fun vs H Q E h => ?_) fun cdv A outer s H vs Q E hr gq h => ?_
  · obtain ⟨a, ns, rfl, _⟩ := h
    rfl
  · obtain ⟨t, ht, hb⟩ := body cdv A outer s H E hr gq hr.units (hu_of hr)
    obtain ⟨b, ns, rfl, hq, ln, q⟩ := h
    have en : L2.start N [V.ref b] = some (V.ref b) :: List.replicate (N.length - 1) none := by
      cases N with
      | nil => cases hn
      | cons y N => rfl
    refine ⟨t, ht, ?_⟩
    rw [en]
    refine hb ns ln (fun _ => none) _ H (fun _ => none) H _ ?_ (by decide) (fun _ _ _ _ _ _ _ _ _ z => z.elim) (fun _ _ _ _ _ _ _ _ _ z => z.elim) (fun _ _ _ _ _ _ _ _ _ z => z.elim) (fun v d _ _ _ G2 M2 H2 _ _ _ z hv => ?_)
    · have un : ∀ {i : Nat} {z : Sx}, (Sx.scr ns :: List.replicate (N.length - 1) .un)[i]? = some z → (i = 0 ∧ z = .scr ns) ∨ z = .un := fun {i z} e => by
        cases i with
        | zero =>
          cases e
          exact .inl ⟨rfl, rfl⟩
        | succ i =>
          rw [List.getElem?_cons_succ, List.getElem?_replicate] at e
          split at e
          · cases e
            exact .inr rfl
          · cases e
      exact ⟨⟨Same.refl _, (fun _ _ z => nomatch z), (fun _ _ z => nomatch z)⟩, PotM.no, (fun _ _ _ z => z), by rw [List.length_cons, List.length_cons, List.length_replicate, List.length_replicate], trivial, trivial, fun i z e => by
        rcases un e with ⟨rfl, rfl⟩ | rfl
        · exact ⟨b, rfl, hq⟩
        · trivial, fun i j b b' e1 _ _ => by
        rcases un e1 with ⟨_, z⟩ | z <;> cases z⟩
    · cases z
      cases hv
      exact q H2
end
end Tp

namespace Tp
open PySem PySem.Spec PyProof.Rows L2
def topS (i : Nat) : Stmt := PySem.Challenge.pw_treadplans_k61_pictures_as_texts.main.body.getD i (.Pass ⟨0, 0, 0, 0⟩)
abbrev sInit : Stmt := inClass (topS 1) 0
abbrev sIsName : Stmt := topS 6
abbrev sIsLine : Stmt := topS 9
abbrev sIsPicture : Stmt := topS 10
abbrev sLinesOf : Stmt := topS 13
abbrev sShowPicture : Stmt := topS 14
abbrev sLineOfWords : Stmt := topS 15
abbrev sReadPicture : Stmt := topS 16
abbrev sPot : Stmt := topS 18
abbrev sTake : Stmt := topS 19
abbrev sOf : Stmt := topS 20
abbrev sDrawn : Stmt := topS 21
abbrev sIsColour : Stmt := topS 22
abbrev sDue : Stmt := topS 23
abbrev sBent : Stmt := topS 24
abbrev sMet : Stmt := topS 25
abbrev sLawLines : Stmt := topS 26
abbrev sBadPicture : Stmt := topS 27
abbrev sRight : Stmt := topS 28
abbrev sLaw : Stmt := topS 29
end Tp

namespace Tp
open PySem PySem.Spec PyProof.Rows L2
/-! ### the derivations, by the syntax -/
local macro_rules | `(tactic| walk_at "pv") => `(tactic| first | exact de_v 0 | exact de_v 1 | exact de_v 2 | exact de_v 3 | exact de_v 4 | exact de_v 5 | exact de_v 6 | exact de_v 7 | exact de_v 8 | exact de_v 9 | exact de_v 10 | exact de_v 11)
local macro_rules | `(tactic| walk_at "rm") => `(tactic| first | assumption | exact Room.mono (by assumption) (by omega))
local macro_rules | `(tactic| walk_at "e") => `(tactic| first
  | exact de_int
  | exact de_str
  | exact de_bl
  | exact de_non
  | (refine de_add ?_ ?_ <;> walk_at "e")
  | (refine de_sub ?_ ?_ <;> walk_at "e")
  | (refine de_mul ?_ ?_ <;> walk_at "e")
  | (refine de_mod ?_ ?_ <;> walk_at "e")
  | (refine de_fdiv ?_ ?_ <;> walk_at "e")
  | (refine de_pow ?_ ?_ <;> walk_at "e")
  | (refine de_eq (by assumption) ?_ ?_ <;> walk_at "e")
  | (refine de_ne (by assumption) ?_ ?_ <;> walk_at "e")
  | (refine de_lt2 ?_ ?_ <;> walk_at "e")
  | (refine de_le2 ?_ ?_ <;> walk_at "e")
  | (refine de_gt ?_ ?_ <;> walk_at "e")
  | (refine de_ge ?_ ?_ <;> walk_at "e")
  | (refine de_chll ?_ ?_ ?_ <;> walk_at "e")
  | (refine de_inC ?_; walk_at "e")
  | (refine de_isN ?_ ?_ <;> walk_at "e")
  | (refine de_in (by assumption) ?_ ?_ <;> walk_at "e")
  | (refine de_nin (by assumption) ?_ ?_ <;> walk_at "e")
  | (refine de_one ?_; walk_at "e")
  | (refine de_and ?_ ?_ <;> walk_at "e")
  | (refine de_or ?_ ?_ <;> walk_at "e")
  | (refine de_not ?_; walk_at "e")
  | (refine de_neg ?_; walk_at "e")
  | (refine de_ifE ?_ ?_ ?_; walk_at "t"; walk_at "e"; walk_at "e")
  | (refine de_tup ?_ (fun _ h => pe_tup h); walk_at "a")
  | (refine de_lst ?_ (fun _ h => pe_lst h); walk_at "a")
  | exact de_dic0
  | (refine de_dic1 ?_; walk_at "e")
  | (refine de_fld ?_; walk_at "e")
  | walk_at "lc"
  | (refine de_ix ix_seq ?_ ?_ (fun _ _ => rfl) <;> walk_at "e")
  | walk_at "c"
  | (refine de_fun (by assumption) (by walk_at "rm") (by assumption) (by rfl) ?_; walk_at "a")
  | (refine de_funX _ (by assumption) (by assumption) (by walk_at "rm") (by assumption) (by rfl) ?_; walk_at "a")
  | (refine de_funX0 (by assumption) (by walk_at "rm") (by assumption) (by rfl) ?_; walk_at "a")
  | (refine de_mk (by assumption) (by walk_at "rm") (by assumption) (by rfl) ?_; walk_at "a")
  | (refine de_err (by assumption) (by walk_at "rm") (by assumption) (by rfl) ?_; walk_at "a")
  | walk_at "pv"
  | exact de_gX (by assumption) (by rfl)
  | exact de_gl (by assumption) (by rfl)
  | exact de_strT (by rfl) (by assumption)
  | exact de_tupT (by rfl) (by assumption)
  | (refine de_slice ?_ ?_ ?_; walk_at "e"; walk_at "po"; walk_at "po")
  | (refine de_bm ?_ ?_ (fun _ _ h k => pe_bm PySem.F.plainAttrs_list PySem.F.slot_list_pop PySem.F.type_list_pop mt_popAt h k); walk_at "e"; walk_at "a")
  | walk_at "el"
  | exact de_VE (by rfl) (by assumption))
local macro_rules | `(tactic| walk_at "c") => `(tactic| first
  | (refine de_split ?_ ?_ <;> walk_at "e")
  | (refine de_join ?_ ?_ <;> walk_at "e")
  | (refine de_part ?_ ?_ <;> walk_at "e")
  | (refine de_kget (by assumption) ?_ ?_ ?_ <;> walk_at "e")
  | (refine de_f_len (by assumption) (by rfl) ?_; walk_at "a")
  | (refine de_f_int (by assumption) (by rfl) ?_; walk_at "a")
  | (refine de_f_abs (by assumption) (by rfl) ?_; walk_at "a")
  | (refine de_f_all rfl (by assumption) (by rfl) ?_; walk_at "a")
  | (refine de_f_any rfl (by assumption) (by rfl) ?_; walk_at "a")
  | (refine de_f_min rfl (by assumption) (by rfl) ?_; walk_at "a")
  | (refine de_f_max rfl (by assumption) (by rfl) ?_; walk_at "a")
  | (refine de_isi2 (by assumption) (by rfl) ?_; walk_at "a")
  | (refine de_f_tuple (by assumption) (by rfl) ?_; walk_at "a")
  | (refine de_f_list (by assumption) (by rfl) ?_; walk_at "a")
  | (refine de_f_sum rfl (by assumption) (by rfl) ?_; walk_at "a")
  | (refine de_f_sorted (by assumption) (by rfl) ?_; walk_at "a")
  | (refine de_f_repr (by assumption) (by assumption) (by assumption) (by assumption) (by rfl) ?_; walk_at "a"))
local macro_rules | `(tactic| walk_at "po") => `(tactic| first
  | exact do_none
  | (refine do_some ?_; walk_at "e"))
local macro_rules | `(tactic| walk_at "a") => `(tactic| first
  | exact da_nil
  | (refine da_cons ?_ ?_; walk_at "e"; walk_at "a"))
local macro_rules | `(tactic| walk_at "t") => `(tactic| first
  | (refine dt_lt2 ?_ ?_ <;> walk_at "e")
  | (refine dt_le2 ?_ ?_ <;> walk_at "e")
  | (refine dt_gt ?_ ?_ <;> walk_at "e")
  | (refine dt_ge ?_ ?_ <;> walk_at "e")
  | (refine dt_chll ?_ ?_ ?_ <;> walk_at "e")
  | (refine dt_isN ?_ ?_ <;> walk_at "e")
  | (refine dt_in (by assumption) ?_ ?_ <;> walk_at "e")
  | (refine dt_nin (by assumption) ?_ ?_ <;> walk_at "e")
  | (refine dt_eq (by assumption) ?_ ?_ <;> walk_at "e")
  | (refine dt_ne (by assumption) ?_ ?_ <;> walk_at "e")
  | (refine dt_not ?_; walk_at "t")
  | (refine dt_w ?_; walk_at "w")
  | (refine dt_val ?_; walk_at "e"))
local macro_rules | `(tactic| walk_at "w") => `(tactic| first
  | (refine dw_and1 ?_; walk_at "t")
  | (refine dw_or1 ?_; walk_at "t")
  | (refine dw_and ?_ ?_; walk_at "t"; walk_at "w")
  | (refine dw_or ?_ ?_; walk_at "t"; walk_at "w"))
local macro_rules | `(tactic| walk_at "set") => `(tactic| first
  | refine ds_set 1 (by assumption) ?_
  | refine ds_set 2 (by assumption) ?_
  | refine ds_set 3 (by assumption) ?_
  | refine ds_set 4 (by assumption) ?_
  | refine ds_set 5 (by assumption) ?_
  | refine ds_set 6 (by assumption) ?_
  | refine ds_set 7 (by assumption) ?_
  | refine ds_set 8 (by assumption) ?_
  | refine ds_set 9 (by assumption) ?_
  | refine ds_set 10 (by assumption) ?_
  | refine ds_set 0 (by assumption) ?_)
local macro_rules | `(tactic| walk_at "g") => `(tactic| first
  | exact dg_name 1 (by assumption)
  | exact dg_name 2 (by assumption)
  | exact dg_name 3 (by assumption)
  | exact dg_name 4 (by assumption)
  | exact dg_name 5 (by assumption)
  | exact dg_name 6 (by assumption)
  | exact dg_name 7 (by assumption)
  | exact dg_name 8 (by assumption)
  | exact dg_name 9 (by assumption)
  | (refine dg_tup 2 rfl ?_; walk_at "gs")
  | (refine dg_tup 3 rfl ?_; walk_at "gs"))
local macro_rules | `(tactic| walk_at "gs") => `(tactic| first
  | exact dgs_nil
  | (refine dgs_cons ?_ ?_; walk_at "g"; walk_at "gs"))
local macro_rules | `(tactic| walk_at "i") => `(tactic| first
  | (refine di_range1 (by rfl) (by assumption) ?_; walk_at "a")
  | (refine di_enum (by rfl) (by assumption) ?_; walk_at "a")
  | (refine di_seq ?_; walk_at "e"))
local macro_rules | `(tactic| walk_at "s") => `(tactic| first
  | (refine ds_ret ?_; walk_at "e")
  | (walk_at "set"; walk_at "e")
  | (refine ds_fld ?_ ?_; walk_at "e"; walk_at "e")
  | (refine ds_if ?_ ?_ ?_; walk_at "t"; walk_at "b"; walk_at "b")
  | (refine ds_expr (de_bm ?_ ?_ (fun _ _ h k => pe_bm PySem.F.plainAttrs_list PySem.F.slot_list_append PySem.F.type_list_append mt_append h k)); walk_at "e"; walk_at "a")
  | (refine ds_expr (de_bm ?_ ?_ (fun _ _ h k => pe_bm PySem.F.plainAttrs_list PySem.F.slot_list_extend PySem.F.type_list_extend mt_extend h k)); walk_at "e"; walk_at "a")
  | (refine ds_asg ?_ (dg_tup 2 rfl ?_); walk_at "e"; walk_at "gs")
  | (refine ds_asg ?_ (dg_sub ?_ ?_ set_list); walk_at "e"; walk_at "e"; walk_at "e")
  | (refine ds_raise _ (by assumption) (by assumption) rfl (by walk_at "rm") (by assumption) (by rfl) ?_; walk_at "a")
  | exact ds_break
  | exact ds_continue
  | (refine ds_while (by first | exact PassesOwn.never | assumption) ?_ ?_; walk_at "t"; walk_at "b")
  | (refine ds_for (by first | exact PassesOwn.never | assumption) rfl ?_ ?_ ?_; walk_at "i"; walk_at "g"; walk_at "b"))
local macro_rules | `(tactic| walk_at "b") => `(tactic| first
  | exact db_nil
  | (refine db_one ?_; walk_at "s")
  | (refine db_cons ?_ ?_; walk_at "s"; walk_at "b"))
local macro_rules | `(tactic| walk_at "nf") => `(tactic| dsimp only [de_slice, do_none, do_some, ds_swap, dt_inS, de_f_int2, de_isN, dt_isN, de_tupT, dt_tru, de_inC, de_mulT, de_lenK, de_sk, de_funX, de_funX0, ds_raise, ds_tryK, XofX, de_split, de_join, de_part, de_lc2, de_lcI, de_kget, de_kin, de_mk, de_fld, ds_fld, Xof, cxOf, Cx.nox, tInQ, List.map, de_lt2, de_le2, dt_lt2, dt_le2, de_ch, dt_ch, de_chll, dt_chll, de_in, de_nin, dt_in, dt_nin, de_gl, de_strT, de_isi2, de_f_tuple, de_f_list, de_f_sum, de_f_sorted, di_str, di_seq, de_lc, ds_setLc, de_err, de_gX, de_VE, de_f_isi, de_dic0, de_dic1, de_int, de_str, de_bl, de_non, de_v, de_op, de_cmp, de_one, de_and, de_or, de_not, de_neg, de_ifE, da_nil, da_cons, de_tup, de_lst, de_ix, de_callB, de_callT, de_fun, dt_val, dt_cmp, dt_not, dt_w, dw_and1, dw_or1, dw_and, dw_or, dg_name, dgs_nil, dgs_cons, dg_tup, dg_sub, di_list, di_tup, di_range1, di_enum, db_nil, db_one, db_cons, ds_ret, ds_retN, ds_set, ds_asg, ds_if, ds_expr, ds_for, ds_while, ds_break, ds_continue, ds_never, de_bm, de_errF, de_f_len, de_f_int, de_f_abs, de_f_all, de_f_any, de_f_min, de_f_max, de_f_repr, de_add, de_sub, de_mul, de_mod, de_fdiv, de_pow, de_eq, de_ne, de_lt, de_le, de_gt, de_ge, dt_eq, dt_ne, dt_lt, dt_le, dt_gt, dt_ge])
local macro_rules | `(tactic| walk_at "lc3") => `(tactic| (intro _ _ _ _ _; walk_at "g"))
local macro_rules | `(tactic| walk_at "lc4") => `(tactic| (intro _ _ _ _ _; walk_at "e"))
local macro_rules | `(tactic| walk_at "lc5") => `(tactic| (intro _ _ _ _ _; rfl))

/-! ### steps over data -/
local macro_rules | `(tactic| walk_at "x") => `(tactic| first
  | with_reducible refine esm_seq ?_
  | with_reducible refine esm_next ?_
  | with_reducible refine esm_brk ?_
  | with_reducible refine esm_cont ?_
  | with_reducible refine esm_ret ?_
  | with_reducible refine esm_retN ?_
  | with_reducible refine esm_raise (CalE.T (by assumption)) (by assumption) ?_
  | with_reducible refine evm_funTX (by assumption) ?_
  | with_reducible refine evm_funT0 ?_
  | with_reducible refine evm_isi ?_
  | with_reducible refine evm_slice ?_
  | with_reducible refine eom_none ?_
  | with_reducible refine eom_some ?_
  | with_reducible refine esm_swp ?_
  | with_reducible refine evm_popAt rfl ?_
  | with_reducible refine evm_lenO rfl ?_
  | with_reducible refine cw_min2 ?_
  | with_reducible refine esm_asgLN (by decide) ?_
  | with_reducible refine ow_isN rfl ?_
  | with_reducible refine esm_newL ?_
  | (with_reducible refine esm_newD (by exact Nat.le_of_ble_eq_true rfl) ?_; dsimp only [List.set])
  | with_reducible refine esm_asg ?_
  | with_reducible refine esm_if ?_
  | with_reducible refine esm_app rfl ?_
  | with_reducible refine esm_ext rfl ?_
  | with_reducible refine evm_int ?_
  | with_reducible refine evm_str ?_
  | with_reducible refine evm_bl ?_
  | with_reducible refine evm_non ?_
  | with_reducible refine evm_var rfl ?_
  | with_reducible refine evm_c (by assumption) ?_
  | (with_reducible refine evm_own rfl ?_; dsimp only [List.set])
  | (with_reducible refine evm_ownD rfl ?_; dsimp only [List.set])
  | with_reducible refine evm_isStr ?_
  | with_reducible refine evm_ixO rfl ?_
  | with_reducible refine evm_op ?_
  | with_reducible refine evm_chain ?_
  | with_reducible refine evm_fldV (by assumption) rfl (by with_unfolding_all decide) rfl ?_
  | with_reducible refine evm_fldO (by assumption) rfl (by with_unfolding_all decide) rfl ?_
  | with_reducible refine esm_fldN (by assumption) (by with_unfolding_all decide) ?_
  | with_reducible refine evm_if ?_
  | with_reducible refine evm_andV ?_
  | with_reducible refine evm_orV ?_
  | with_reducible refine evm_notV ?_
  | with_reducible refine evm_tup ?_
  | with_reducible refine evm_lst ?_
  | with_reducible refine evm_call ?_
  | with_reducible refine evm_fun ?_
  | with_reducible refine evm_split ?_
  | with_reducible refine evm_join ?_
  | with_reducible refine evm_part ?_
  | with_reducible refine evm_funT ?_
  | with_reducible refine evm_funP rfl ?_
  | with_reducible refine evm_make ?_
  | with_reducible refine eam_nil ?_
  | with_reducible refine eam_cons ?_
  | with_reducible refine etm_test ?_
  | with_reducible refine etm_B ?_
  | with_reducible refine etm_not ?_
  | with_reducible refine etm_and ?_
  | with_reducible refine etm_or ?_
  | with_reducible refine etm_yes ?_
  | with_reducible refine ow_addI ?_
  | with_reducible refine ow_subI ?_
  | with_reducible refine cw_lenL ?_
  | with_reducible refine cw_lenT ?_
  | with_reducible refine cw_int ?_
  | with_reducible refine cw_tupL ?_
  | with_reducible refine cw_lstL ?_
  | with_reducible refine cw_lstT ?_
  | refine br_t (by first | rfl | assumption | exact bnt (by assumption) | exact bnf (by assumption)) ?_
  | refine br_f (by first | rfl | assumption | exact bnt (by assumption) | exact bnf (by assumption)) ?_
  | refine rb_t (by first | rfl | assumption | exact bnt (by assumption) | exact bnf (by assumption)) ?_
  | refine rb_f (by first | rfl | assumption | exact bnt (by assumption) | exact bnf (by assumption)) ?_
  | with_reducible refine eim_varL rfl ?_
  | with_reducible refine eim_varT rfl ?_
  | with_reducible refine eim_varS rfl ?_
  | (with_reducible refine eim_ownL rfl ?_; dsimp only [List.set])
  | with_reducible refine eim_range1 ?_
  | with_reducible refine eim_enum ?_
  | with_reducible refine evm_scrLen rfl ?_
  | with_reducible refine cw_max2 ?_
  | (with_reducible refine lcy ?_; dsimp only [List.set])
  | (with_reducible refine lct ?_; dsimp only [List.set])
  | (with_reducible refine lcy2 ?_; dsimp only [List.set])
  | with_reducible refine esm_forN ?_
  | with_reducible refine esm_forN2 ?_
  | with_reducible refine esm_asg2 ?_
  | with_reducible refine evm_lcY ?_
  | with_reducible refine evm_lcT ?_
  | with_reducible refine evm_lcY2 ?_
  | (with_reducible refine ⟨_, rfl, ?_⟩)
  | (refine ⟨_, _, rfl, (by exact Nat.lt_of_lt_of_le (Nat.lt_succ_self _) (Nat.le_of_ble_eq_true rfl)), ?_⟩; dsimp only [List.set])
  | (refine ⟨Nat.le_of_ble_eq_true rfl, ?_⟩; try dsimp only [List.set]))
local macro_rules | `(tactic| walk_at "xv") => `(tactic| first
  | with_reducible refine ow_ltI ?_
  | with_reducible refine ow_leI ?_
  | with_reducible refine ow_leS ?_
  | with_reducible refine ow_gtI ?_
  | with_reducible refine ow_geI ?_
  | with_reducible refine ow_eqI ?_
  | with_reducible refine ow_eqS ?_
  | with_reducible refine ow_neI ?_
  | with_reducible refine ow_neS ?_)
local macro_rules | `(tactic| walk_at "xo") => `(tactic| first
  | with_reducible refine oc_ltI ?_
  | with_reducible refine oc_leI ?_
  | with_reducible refine oc_leS ?_
  | with_reducible refine oc_gtI ?_
  | with_reducible refine oc_geI ?_
  | with_reducible refine oc_eqI ?_
  | with_reducible refine oc_eqS ?_
  | with_reducible refine oc_neI ?_
  | with_reducible refine oc_neS ?_)
local macro_rules | `(tactic| walk_at "xc") => `(tactic| (walk_at "xo"; intro b hb; cases b <;> walk_at "xs"))
local macro_rules | `(tactic| walk_at "xs") => `(tactic| repeat walk_at "x")
section
variable {P : Program} {w : World} {K : PySem.W.Frag} {mg : Str → Option Value} {base : Heap}
local macro_rules | `(tactic| walk_at "lc") => `(tactic| (refine de_lc [("letter", 1)] ‹Shared› ‹Hp› rfl (by assumption) ?_ rfl ?_ ?_ ?_ ?_; walk_at "i"; walk_at "lc3"; walk_at "lc4"; walk_at "lc5"; walk_at "lc5"))
theorem scIsName : FnScope ["value", "letter"] ["value"] (defScope sIsName) := ⟨rfl, rfl, rfl, by decide +kernel, rfl, by decide +kernel, by decide +kernel⟩
def letterOk (c : Nat) : Bool := (!decide ((⟨#[c]⟩ : Str).cps.toList < ("a" : Str).cps.toList)) && (!decide (("z" : Str).cps.toList < (⟨#[c]⟩ : Str).cps.toList))
/-- 1 to 8 letters a to z -/
def isName (x : Str) : Bool := decide (1 ≤ (x.length : Int)) && (decide ((x.length : Int) ≤ 8) && x.cps.toList.all letterOk)
def isNameD : D → Bool
  | .str x => isName x
  | _ => false
/-- data that is none of an own class, texts not too long -/
structure OkD (d : D) : Prop where
  t : (tyN d).isSome = true
  l : ∀ x, d = .str x → x.length ≤ 1000000
theorem OkD.ty {d : D} (h : OkD d) : ∃ t, tyN d = some t := Option.isSome_iff_exists.mp h.t
theorem okd_str {x : Str} (h : x.length ≤ 1000000) : OkD (.str x) := ⟨rfl, fun y e => by cases e; exact h⟩
theorem okd_non : OkD .non := ⟨rfl, fun y e => nomatch e⟩
theorem str_of {d : D} {t : String} (e : tyN d = some t) (h : t = "str") : ∃ x, d = .str x := by
  cases d <;> cases e <;> first | exact ⟨_, rfl⟩ | exact absurd h (by decide)
theorem not_str {d : D} {t : String} (e : tyN d = some t) (h : ¬ t = "str") : isNameD d = false := by
  cases d <;> cases e <;> first | rfl | exact absurd rfl h
abbrev spName (K : PySem.W.Frag) : Sp := spT K (fun d : D => [d]) OkD (fun d r => r = .bl (isNameD d))
theorem ec_name {d : D} {φ : D → Prop} (h : OkD d) (q : φ (.bl (isNameD d))) : OkD d ∧ ∀ r, r = .bl (isNameD d) → φ r := ⟨h, fun r e => e ▸ q⟩
theorem ok_isName {f : Addr} {fd : FuncData} (F : Fun K "is_name" "is_name" sIsName f fd) (gI : mg "isinstance" = none) (gS : mg "str" = none) (gA : mg "all" = none) (gL : mg "len" = none) (gN : GlV mg "LONGEST_NAME" (.int 8)) :
    FnG P w K mg base CX0 1 f fd ["value"] (spName K) := by
  refine okMT F scIsName (fun _ => rfl) (by decide) fun cdv A outer s H E hr gq hu h1 => ?_
  have nd := scIsName.nd
  refine ⟨Subtype.val (p := PSs _ _) ?d, Subtype.property ?d, ?r⟩
  case d => walk_at "b"
  case r =>
    walk_at "nf"
    intro d h
    obtain ⟨t, et⟩ := h.ty
    show EsM K none Z0 _ [.d d, .un] 0 _ _ _ _
    walk_at "xs"
    refine ⟨t, _, et, kit_str et, ?_⟩
    by_cases hs : t = "str"
    · obtain ⟨x, rfl⟩ := str_of et hs
      have lx := h.l x rfl
      rw [decide_eq_true hs]
      have eN : ∀ {q : Bool}, isName x = q → D.bl q = .bl (isNameD (.str x)) := fun {q} e => by
        rw [← e]
        rfl
      walk_at "xs"
      refine cw_lenS lx ?_
      walk_at "xs"
      walk_at "xc"
      · rename_i h
        refine eN ?_
        unfold isName
        rw [h]
        rfl
      · rename_i h
        walk_at "xc"
        · rename_i h2
          refine eN ?_
          unfold isName
          rw [h, h2]
          rfl
        · rename_i h2
          refine ⟨rfl, Nat.le_trans (Nat.le_of_eq (by simp [signsD]; rfl)) lx, ?_⟩
          refine lcm_on (fun c => .str ⟨#[c]⟩) (fun c => .bl (letterOk c)) (fun c hc κ q => ?_) ?_
          · unfold letterOk at q
            walk_at "xs"
            walk_at "xc"
            · rename_i h3
              rw [h3] at q
              exact ⟨rfl, q⟩
            · rename_i h3
              rw [h3] at q
              walk_at "xv"
              exact ⟨rfl, q⟩
          · walk_at "xs"
            rw [List.nil_append, show (fun c => D.bl (letterOk c)) = D.bl ∘ letterOk from rfl, ← List.map_map]
            refine cw_all (eN ?_)
            unfold isName
            rw [h, h2, Bool.true_and, Bool.true_and, List.all_map]
            rfl
    · rw [decide_eq_false hs]
      walk_at "xs"
      rw [not_str et hs]
end
end Tp

namespace Tp
open PySem PySem.Spec PyProof.Rows L2
/-! ### the derivations, by the syntax -/
local macro_rules | `(tactic| walk_at "pv") => `(tactic| first | exact de_v 0 | exact de_v 1 | exact de_v 2 | exact de_v 3 | exact de_v 4 | exact de_v 5 | exact de_v 6 | exact de_v 7 | exact de_v 8 | exact de_v 9 | exact de_v 10 | exact de_v 11)
local macro_rules | `(tactic| walk_at "rm") => `(tactic| first | assumption | exact Room.mono (by assumption) (by omega))
local macro_rules | `(tactic| walk_at "e") => `(tactic| first
  | exact de_int
  | exact de_str
  | exact de_bl
  | exact de_non
  | (refine de_add ?_ ?_ <;> walk_at "e")
  | (refine de_sub ?_ ?_ <;> walk_at "e")
  | (refine de_mul ?_ ?_ <;> walk_at "e")
  | (refine de_mod ?_ ?_ <;> walk_at "e")
  | (refine de_fdiv ?_ ?_ <;> walk_at "e")
  | (refine de_pow ?_ ?_ <;> walk_at "e")
  | (refine de_eq (by assumption) ?_ ?_ <;> walk_at "e")
  | (refine de_ne (by assumption) ?_ ?_ <;> walk_at "e")
  | (refine de_lt2 ?_ ?_ <;> walk_at "e")
  | (refine de_le2 ?_ ?_ <;> walk_at "e")
  | (refine de_gt ?_ ?_ <;> walk_at "e")
  | (refine de_ge ?_ ?_ <;> walk_at "e")
  | (refine de_chll ?_ ?_ ?_ <;> walk_at "e")
  | (refine de_inC ?_; walk_at "e")
  | (refine de_isN ?_ ?_ <;> walk_at "e")
  | (refine de_in (by assumption) ?_ ?_ <;> walk_at "e")
  | (refine de_nin (by assumption) ?_ ?_ <;> walk_at "e")
  | (refine de_one ?_; walk_at "e")
  | (refine de_and ?_ ?_ <;> walk_at "e")
  | (refine de_or ?_ ?_ <;> walk_at "e")
  | (refine de_not ?_; walk_at "e")
  | (refine de_neg ?_; walk_at "e")
  | (refine de_ifE ?_ ?_ ?_; walk_at "t"; walk_at "e"; walk_at "e")
  | (refine de_tup ?_ (fun _ h => pe_tup h); walk_at "a")
  | (refine de_lst ?_ (fun _ h => pe_lst h); walk_at "a")
  | exact de_dic0
  | (refine de_dic1 ?_; walk_at "e")
  | (refine de_fld ?_; walk_at "e")
  | walk_at "lc"
  | (refine de_ix ix_seq ?_ ?_ (fun _ _ => rfl) <;> walk_at "e")
  | walk_at "c"
  | (refine de_fun (by assumption) (by walk_at "rm") (by assumption) (by rfl) ?_; walk_at "a")
  | (refine de_funX _ (by assumption) (by assumption) (by walk_at "rm") (by assumption) (by rfl) ?_; walk_at "a")
  | (refine de_funX0 (by assumption) (by walk_at "rm") (by assumption) (by rfl) ?_; walk_at "a")
  | (refine de_mk (by assumption) (by walk_at "rm") (by assumption) (by rfl) ?_; walk_at "a")
  | (refine de_err (by assumption) (by walk_at "rm") (by assumption) (by rfl) ?_; walk_at "a")
  | walk_at "pv"
  | exact de_gX (by assumption) (by rfl)
  | exact de_gl (by assumption) (by rfl)
  | exact de_strT (by rfl) (by assumption)
  | exact de_tupT (by rfl) (by assumption)
  | (refine de_slice ?_ ?_ ?_; walk_at "e"; walk_at "po"; walk_at "po")
  | (refine de_bm ?_ ?_ (fun _ _ h k => pe_bm PySem.F.plainAttrs_list PySem.F.slot_list_pop PySem.F.type_list_pop mt_popAt h k); walk_at "e"; walk_at "a")
  | walk_at "el"
  | exact de_VE (by rfl) (by assumption))
local macro_rules | `(tactic| walk_at "c") => `(tactic| first
  | (refine de_split ?_ ?_ <;> walk_at "e")
  | (refine de_join ?_ ?_ <;> walk_at "e")
  | (refine de_part ?_ ?_ <;> walk_at "e")
  | (refine de_kget (by assumption) ?_ ?_ ?_ <;> walk_at "e")
  | (refine de_f_len (by assumption) (by rfl) ?_; walk_at "a")
  | (refine de_f_int (by assumption) (by rfl) ?_; walk_at "a")
  | (refine de_f_abs (by assumption) (by rfl) ?_; walk_at "a")
  | (refine de_f_all rfl (by assumption) (by rfl) ?_; walk_at "a")
  | (refine de_f_any rfl (by assumption) (by rfl) ?_; walk_at "a")
  | (refine de_f_min rfl (by assumption) (by rfl) ?_; walk_at "a")
  | (refine de_f_max rfl (by assumption) (by rfl) ?_; walk_at "a")
  | (refine de_isi2 (by assumption) (by rfl) ?_; walk_at "a")
  | (refine de_f_tuple (by assumption) (by rfl) ?_; walk_at "a")
  | (refine de_f_list (by assumption) (by rfl) ?_; walk_at "a")
  | (refine de_f_sum rfl (by assumption) (by rfl) ?_; walk_at "a")
  | (refine de_f_sorted (by assumption) (by rfl) ?_; walk_at "a")
  | (refine de_f_repr (by assumption) (by assumption) (by assumption) (by assumption) (by rfl) ?_; walk_at "a"))
local macro_rules | `(tactic| walk_at "po") => `(tactic| first
  | exact do_none
  | (refine do_some ?_; walk_at "e"))
local macro_rules | `(tactic| walk_at "a") => `(tactic| first
  | exact da_nil
  | (refine da_cons ?_ ?_; walk_at "e"; walk_at "a"))
local macro_rules | `(tactic| walk_at "t") => `(tactic| first
  | (refine dt_lt2 ?_ ?_ <;> walk_at "e")
  | (refine dt_le2 ?_ ?_ <;> walk_at "e")
  | (refine dt_gt ?_ ?_ <;> walk_at "e")
  | (refine dt_ge ?_ ?_ <;> walk_at "e")
  | (refine dt_chll ?_ ?_ ?_ <;> walk_at "e")
  | (refine dt_isN ?_ ?_ <;> walk_at "e")
  | (refine dt_in (by assumption) ?_ ?_ <;> walk_at "e")
  | (refine dt_nin (by assumption) ?_ ?_ <;> walk_at "e")
  | (refine dt_eq (by assumption) ?_ ?_ <;> walk_at "e")
  | (refine dt_ne (by assumption) ?_ ?_ <;> walk_at "e")
  | (refine dt_not ?_; walk_at "t")
  | (refine dt_w ?_; walk_at "w")
  | (refine dt_val ?_; walk_at "e"))
local macro_rules | `(tactic| walk_at "w") => `(tactic| first
  | (refine dw_and1 ?_; walk_at "t")
  | (refine dw_or1 ?_; walk_at "t")
  | (refine dw_and ?_ ?_; walk_at "t"; walk_at "w")
  | (refine dw_or ?_ ?_; walk_at "t"; walk_at "w"))
local macro_rules | `(tactic| walk_at "set") => `(tactic| first
  | refine ds_set 1 (by assumption) ?_
  | refine ds_set 2 (by assumption) ?_
  | refine ds_set 3 (by assumption) ?_
  | refine ds_set 4 (by assumption) ?_
  | refine ds_set 5 (by assumption) ?_
  | refine ds_set 6 (by assumption) ?_
  | refine ds_set 7 (by assumption) ?_
  | refine ds_set 8 (by assumption) ?_
  | refine ds_set 9 (by assumption) ?_
  | refine ds_set 10 (by assumption) ?_
  | refine ds_set 0 (by assumption) ?_)
local macro_rules | `(tactic| walk_at "g") => `(tactic| first
  | exact dg_name 1 (by assumption)
  | exact dg_name 2 (by assumption)
  | exact dg_name 3 (by assumption)
  | exact dg_name 4 (by assumption)
  | exact dg_name 5 (by assumption)
  | exact dg_name 6 (by assumption)
  | exact dg_name 7 (by assumption)
  | exact dg_name 8 (by assumption)
  | exact dg_name 9 (by assumption)
  | (refine dg_tup 2 rfl ?_; walk_at "gs")
  | (refine dg_tup 3 rfl ?_; walk_at "gs"))
local macro_rules | `(tactic| walk_at "gs") => `(tactic| first
  | exact dgs_nil
  | (refine dgs_cons ?_ ?_; walk_at "g"; walk_at "gs"))
local macro_rules | `(tactic| walk_at "i") => `(tactic| first
  | (refine di_range1 (by rfl) (by assumption) ?_; walk_at "a")
  | (refine di_enum (by rfl) (by assumption) ?_; walk_at "a")
  | (refine di_seq ?_; walk_at "e"))
local macro_rules | `(tactic| walk_at "s") => `(tactic| first
  | (refine ds_ret ?_; walk_at "e")
  | (walk_at "set"; walk_at "e")
  | (refine ds_fld ?_ ?_; walk_at "e"; walk_at "e")
  | (refine ds_if ?_ ?_ ?_; walk_at "t"; walk_at "b"; walk_at "b")
  | (refine ds_expr (de_bm ?_ ?_ (fun _ _ h k => pe_bm PySem.F.plainAttrs_list PySem.F.slot_list_append PySem.F.type_list_append mt_append h k)); walk_at "e"; walk_at "a")
  | (refine ds_expr (de_bm ?_ ?_ (fun _ _ h k => pe_bm PySem.F.plainAttrs_list PySem.F.slot_list_extend PySem.F.type_list_extend mt_extend h k)); walk_at "e"; walk_at "a")
  | (refine ds_asg ?_ (dg_tup 2 rfl ?_); walk_at "e"; walk_at "gs")
  | (refine ds_asg ?_ (dg_sub ?_ ?_ set_list); walk_at "e"; walk_at "e"; walk_at "e")
  | (refine ds_raise _ (by assumption) (by assumption) rfl (by walk_at "rm") (by assumption) (by rfl) ?_; walk_at "a")
  | exact ds_break
  | exact ds_continue
  | (refine ds_while (by first | exact PassesOwn.never | assumption) ?_ ?_; walk_at "t"; walk_at "b")
  | (refine ds_for (by first | exact PassesOwn.never | assumption) rfl ?_ ?_ ?_; walk_at "i"; walk_at "g"; walk_at "b"))
local macro_rules | `(tactic| walk_at "b") => `(tactic| first
  | exact db_nil
  | (refine db_one ?_; walk_at "s")
  | (refine db_cons ?_ ?_; walk_at "s"; walk_at "b"))
local macro_rules | `(tactic| walk_at "nf") => `(tactic| dsimp only [de_slice, do_none, do_some, ds_swap, dt_inS, de_f_int2, de_isN, dt_isN, de_tupT, dt_tru, de_inC, de_mulT, de_lenK, de_sk, de_funX, de_funX0, ds_raise, ds_tryK, XofX, de_split, de_join, de_part, de_lc2, de_lcI, de_kget, de_kin, de_mk, de_fld, ds_fld, Xof, cxOf, Cx.nox, tInQ, List.map, de_lt2, de_le2, dt_lt2, dt_le2, de_ch, dt_ch, de_chll, dt_chll, de_in, de_nin, dt_in, dt_nin, de_gl, de_strT, de_isi2, de_f_tuple, de_f_list, de_f_sum, de_f_sorted, di_str, di_seq, de_lc, ds_setLc, de_err, de_gX, de_VE, de_f_isi, de_dic0, de_dic1, de_int, de_str, de_bl, de_non, de_v, de_op, de_cmp, de_one, de_and, de_or, de_not, de_neg, de_ifE, da_nil, da_cons, de_tup, de_lst, de_ix, de_callB, de_callT, de_fun, dt_val, dt_cmp, dt_not, dt_w, dw_and1, dw_or1, dw_and, dw_or, dg_name, dgs_nil, dgs_cons, dg_tup, dg_sub, di_list, di_tup, di_range1, di_enum, db_nil, db_one, db_cons, ds_ret, ds_retN, ds_set, ds_asg, ds_if, ds_expr, ds_for, ds_while, ds_break, ds_continue, ds_never, de_bm, de_errF, de_f_len, de_f_int, de_f_abs, de_f_all, de_f_any, de_f_min, de_f_max, de_f_repr, de_add, de_sub, de_mul, de_mod, de_fdiv, de_pow, de_eq, de_ne, de_lt, de_le, de_gt, de_ge, dt_eq, dt_ne, dt_lt, dt_le, dt_gt, dt_ge])
local macro_rules | `(tactic| walk_at "lc3") => `(tactic| (intro _ _ _ _ _; walk_at "g"))
local macro_rules | `(tactic| walk_at "lc4") => `(tactic| (intro _ _ _ _ _; walk_at "e"))
local macro_rules | `(tactic| walk_at "lc5") => `(tactic| (intro _ _ _ _ _; rfl))

/-! ### steps over data -/
local macro_rules | `(tactic| walk_at "x") => `(tactic| first
  | with_reducible refine esm_seq ?_
  | with_reducible refine esm_next ?_
  | with_reducible refine esm_brk ?_
  | with_reducible refine esm_cont ?_
  | with_reducible refine esm_ret ?_
  | with_reducible refine esm_retN ?_
  | with_reducible refine esm_raise (CalE.T (by assumption)) (by assumption) ?_
  | with_reducible refine evm_funTX (by assumption) ?_
  | with_reducible refine evm_funT0 ?_
  | with_reducible refine evm_isi ?_
  | with_reducible refine evm_slice ?_
  | with_reducible refine eom_none ?_
  | with_reducible refine eom_some ?_
  | with_reducible refine esm_swp ?_
  | with_reducible refine evm_popAt rfl ?_
  | with_reducible refine evm_lenO rfl ?_
  | with_reducible refine cw_min2 ?_
  | with_reducible refine esm_asgLN (by decide) ?_
  | with_reducible refine ow_isN rfl ?_
  | with_reducible refine esm_newL ?_
  | (with_reducible refine esm_newD (by exact Nat.le_of_ble_eq_true rfl) ?_; dsimp only [List.set])
  | with_reducible refine esm_asg ?_
  | with_reducible refine esm_if ?_
  | with_reducible refine esm_app rfl ?_
  | with_reducible refine esm_ext rfl ?_
  | with_reducible refine evm_int ?_
  | with_reducible refine evm_str ?_
  | with_reducible refine evm_bl ?_
  | with_reducible refine evm_non ?_
  | with_reducible refine evm_var rfl ?_
  | with_reducible refine evm_c (by assumption) ?_
  | (with_reducible refine evm_own rfl ?_; dsimp only [List.set])
  | (with_reducible refine evm_ownD rfl ?_; dsimp only [List.set])
  | with_reducible refine evm_isStr ?_
  | with_reducible refine evm_ixO rfl ?_
  | with_reducible refine evm_op ?_
  | with_reducible refine evm_chain ?_
  | with_reducible refine evm_fldV (by assumption) rfl (by with_unfolding_all decide) rfl ?_
  | with_reducible refine evm_fldO (by assumption) rfl (by with_unfolding_all decide) rfl ?_
  | with_reducible refine esm_fldN (by assumption) (by with_unfolding_all decide) ?_
  | with_reducible refine evm_if ?_
  | with_reducible refine evm_andV ?_
  | with_reducible refine evm_orV ?_
  | with_reducible refine evm_notV ?_
  | with_reducible refine evm_tup ?_
  | with_reducible refine evm_lst ?_
  | with_reducible refine evm_call ?_
  | with_reducible refine evm_fun ?_
  | with_reducible refine evm_split ?_
  | with_reducible refine evm_join ?_
  | with_reducible refine evm_part ?_
  | with_reducible refine evm_funT ?_
  | with_reducible refine evm_funP rfl ?_
  | with_reducible refine evm_make ?_
  | with_reducible refine eam_nil ?_
  | with_reducible refine eam_cons ?_
  | with_reducible refine etm_test ?_
  | with_reducible refine etm_B ?_
  | with_reducible refine etm_not ?_
  | with_reducible refine etm_and ?_
  | with_reducible refine etm_or ?_
  | with_reducible refine etm_yes ?_
  | with_reducible refine ow_addI ?_
  | with_reducible refine ow_subI ?_
  | with_reducible refine cw_lenL ?_
  | with_reducible refine cw_lenT ?_
  | with_reducible refine cw_int ?_
  | with_reducible refine cw_tupL ?_
  | with_reducible refine cw_lstL ?_
  | with_reducible refine cw_lstT ?_
  | refine br_t (by first | rfl | assumption | exact bnt (by assumption) | exact bnf (by assumption)) ?_
  | refine br_f (by first | rfl | assumption | exact bnt (by assumption) | exact bnf (by assumption)) ?_
  | refine rb_t (by first | rfl | assumption | exact bnt (by assumption) | exact bnf (by assumption)) ?_
  | refine rb_f (by first | rfl | assumption | exact bnt (by assumption) | exact bnf (by assumption)) ?_
  | with_reducible refine eim_varL rfl ?_
  | with_reducible refine eim_varT rfl ?_
  | with_reducible refine eim_varS rfl ?_
  | (with_reducible refine eim_ownL rfl ?_; dsimp only [List.set])
  | with_reducible refine eim_range1 ?_
  | with_reducible refine eim_enum ?_
  | with_reducible refine evm_scrLen rfl ?_
  | with_reducible refine cw_max2 ?_
  | (with_reducible refine lcy ?_; dsimp only [List.set])
  | (with_reducible refine lct ?_; dsimp only [List.set])
  | (with_reducible refine lcy2 ?_; dsimp only [List.set])
  | with_reducible refine esm_forN ?_
  | with_reducible refine esm_forN2 ?_
  | with_reducible refine esm_asg2 ?_
  | with_reducible refine evm_lcY ?_
  | with_reducible refine evm_lcT ?_
  | with_reducible refine evm_lcY2 ?_
  | (with_reducible refine ⟨_, rfl, ?_⟩)
  | (refine ⟨_, _, rfl, (by exact Nat.lt_of_lt_of_le (Nat.lt_succ_self _) (Nat.le_of_ble_eq_true rfl)), ?_⟩; dsimp only [List.set])
  | (refine ⟨Nat.le_of_ble_eq_true rfl, ?_⟩; try dsimp only [List.set]))
local macro_rules | `(tactic| walk_at "xv") => `(tactic| first
  | with_reducible refine ow_ltI ?_
  | with_reducible refine ow_leI ?_
  | with_reducible refine ow_leS ?_
  | with_reducible refine ow_gtI ?_
  | with_reducible refine ow_geI ?_
  | with_reducible refine ow_eqI ?_
  | with_reducible refine ow_eqS ?_
  | with_reducible refine ow_neI ?_
  | with_reducible refine ow_neS ?_)
local macro_rules | `(tactic| walk_at "xo") => `(tactic| first
  | with_reducible refine oc_ltI ?_
  | with_reducible refine oc_leI ?_
  | with_reducible refine oc_leS ?_
  | with_reducible refine oc_gtI ?_
  | with_reducible refine oc_geI ?_
  | with_reducible refine oc_eqI ?_
  | with_reducible refine oc_eqS ?_
  | with_reducible refine oc_neI ?_
  | with_reducible refine oc_neS ?_)
local macro_rules | `(tactic| walk_at "xc") => `(tactic| (walk_at "xo"; intro b hb; cases b <;> walk_at "xs"))
local macro_rules | `(tactic| walk_at "xs") => `(tactic| repeat walk_at "x")
section
variable {P : Program} {w : World} {K : PySem.W.Frag} {mg : Str → Option Value} {base : Heap}
local macro_rules | `(tactic| walk_at "lc") => `(tactic| (refine de_lc [("colour", 1)] ‹Shared› ‹Hp› rfl (by assumption) ?_ rfl ?_ ?_ ?_ ?_; walk_at "i"; walk_at "lc3"; walk_at "lc4"; walk_at "lc5"; walk_at "lc5"))
theorem scIsLine : FnScope ["value", "colour"] ["value"] (defScope sIsLine) := ⟨rfl, rfl, rfl, by decide +kernel, rfl, by decide +kernel, by decide +kernel⟩
def isColD (d : D) : Bool := isN d || isNameD d
def isLineD : D → Bool
  | .tup ds => decide (1 ≤ (ds.length : Int)) && (decide ((ds.length : Int) ≤ 7) && ds.all isColD)
  | _ => false
structure OkL (d : D) : Prop where
  t : (tyN d).isSome = true
  l : ∀ ds, d = .tup ds → ds.length ≤ 1000000 ∧ ∀ x ∈ ds, OkD x
theorem OkL.ty {d : D} (h : OkL d) : ∃ t, tyN d = some t := Option.isSome_iff_exists.mp h.t
theorem tup_of {d : D} {t : String} (e : tyN d = some t) (h : t = "tuple") : ∃ x, d = .tup x := by
  cases d <;> cases e <;> first | exact ⟨_, rfl⟩ | exact absurd h (by decide)
theorem not_line {d : D} {t : String} (e : tyN d = some t) (h : ¬ t = "tuple") : isLineD d = false := by
  cases d <;> cases e <;> first | rfl | exact absurd rfl h
abbrev spLine (K : PySem.W.Frag) : Sp := spT K (fun d : D => [d]) OkL (fun d r => r = .bl (isLineD d))
theorem ec_line {d : D} {φ : D → Prop} (h : OkL d) (q : φ (.bl (isLineD d))) : OkL d ∧ ∀ r, r = .bl (isLineD d) → φ r := ⟨h, fun r e => e ▸ q⟩
theorem ok_isLine {f : Addr} {fd : FuncData} {k : Nat} (F : Fun K "is_line" "is_line" sIsLine f fd) (cN : Cal P w K mg base k "is_name" (spName K)) (gI : mg "isinstance" = none) (gS : mg "tuple" = none) (gA : mg "all" = none) (gL : mg "len" = none) (gN : GlV mg "MOST_THREADS" (.int 7)) :
    FnG P w K mg base CX0 (k + 1) f fd ["value"] (spLine K) := by
  refine okMT F scIsLine (fun _ => rfl) (by decide) fun cdv A outer s H E hr gq hu h1 => ?_
  have nd := scIsLine.nd
  refine ⟨Subtype.val (p := PSs _ _) ?d, Subtype.property ?d, ?r⟩
  case d => walk_at "b"
  case r =>
    walk_at "nf"
    intro d h
    obtain ⟨t, et⟩ := h.ty
    show EsM K none Z0 _ [.d d, .un] 0 _ _ _ _
    walk_at "xs"
    refine ⟨t, _, et, kit_tuple et, ?_⟩
    by_cases hs : t = "tuple"
    · obtain ⟨ds, rfl⟩ := tup_of et hs
      obtain ⟨lx, all⟩ := h.l ds rfl
      rw [decide_eq_true hs]
      have eN : ∀ {q : Bool}, isLineD (.tup ds) = q → D.bl q = .bl (isLineD (.tup ds)) := fun {q} e => by rw [← e]
      walk_at "xs"
      walk_at "xc"
      · rename_i h
        refine eN ?_
        show (decide (1 ≤ (ds.length : Int)) && _) = _
        rw [h]
        rfl
      · rename_i h
        walk_at "xc"
        · rename_i h2
          refine eN ?_
          show (decide (1 ≤ (ds.length : Int)) && (decide ((ds.length : Int) ≤ 7) && _)) = _
          rw [h, h2]
          rfl
        · rename_i h2
          refine ⟨rfl, lx, ?_⟩
          refine lcm_map (fun c => .bl (isColD c)) (fun c hc κ q => ?_) ?_
          · have oc := all c hc
            obtain ⟨tc, ec⟩ := oc.ty
            walk_at "xs"
            refine ow_isN ec ?_
            refine ⟨_, rfl, ?_⟩
            unfold isColD at q
            cases hn : isN c with
            | true =>
              rw [hn] at q
              walk_at "xs"
              exact ⟨rfl, q⟩
            | false =>
              rw [hn] at q
              walk_at "xs"
              refine ec_name oc ?_
              exact ⟨rfl, q⟩
          · walk_at "xs"
            rw [List.nil_append, show (fun c => D.bl (isColD c)) = D.bl ∘ isColD from rfl, ← List.map_map]
            refine cw_all (eN ?_)
            show (decide (1 ≤ (ds.length : Int)) && (decide ((ds.length : Int) ≤ 7) && _)) = _
            rw [h, h2, Bool.true_and, Bool.true_and, List.all_map]
            rfl
    · rw [decide_eq_false hs]
      walk_at "xs"
      rw [not_line et hs]
end
end Tp

namespace Tp
open PySem PySem.Spec PyProof.Rows L2
/-! ### the derivations, by the syntax -/
local macro_rules | `(tactic| walk_at "pv") => `(tactic| first | exact de_v 0 | exact de_v 1 | exact de_v 2 | exact de_v 3 | exact de_v 4 | exact de_v 5 | exact de_v 6 | exact de_v 7 | exact de_v 8 | exact de_v 9 | exact de_v 10 | exact de_v 11)
local macro_rules | `(tactic| walk_at "rm") => `(tactic| first | assumption | exact Room.mono (by assumption) (by omega))
local macro_rules | `(tactic| walk_at "e") => `(tactic| first
  | exact de_int
  | exact de_str
  | exact de_bl
  | exact de_non
  | (refine de_add ?_ ?_ <;> walk_at "e")
  | (refine de_sub ?_ ?_ <;> walk_at "e")
  | (refine de_mul ?_ ?_ <;> walk_at "e")
  | (refine de_mod ?_ ?_ <;> walk_at "e")
  | (refine de_fdiv ?_ ?_ <;> walk_at "e")
  | (refine de_pow ?_ ?_ <;> walk_at "e")
  | (refine de_eq (by assumption) ?_ ?_ <;> walk_at "e")
  | (refine de_ne (by assumption) ?_ ?_ <;> walk_at "e")
  | (refine de_lt2 ?_ ?_ <;> walk_at "e")
  | (refine de_le2 ?_ ?_ <;> walk_at "e")
  | (refine de_gt ?_ ?_ <;> walk_at "e")
  | (refine de_ge ?_ ?_ <;> walk_at "e")
  | (refine de_chll ?_ ?_ ?_ <;> walk_at "e")
  | (refine de_inC ?_; walk_at "e")
  | (refine de_isN ?_ ?_ <;> walk_at "e")
  | (refine de_in (by assumption) ?_ ?_ <;> walk_at "e")
  | (refine de_nin (by assumption) ?_ ?_ <;> walk_at "e")
  | (refine de_one ?_; walk_at "e")
  | (refine de_and ?_ ?_ <;> walk_at "e")
  | (refine de_or ?_ ?_ <;> walk_at "e")
  | (refine de_not ?_; walk_at "e")
  | (refine de_neg ?_; walk_at "e")
  | (refine de_ifE ?_ ?_ ?_; walk_at "t"; walk_at "e"; walk_at "e")
  | (refine de_tup ?_ (fun _ h => pe_tup h); walk_at "a")
  | (refine de_lst ?_ (fun _ h => pe_lst h); walk_at "a")
  | exact de_dic0
  | (refine de_dic1 ?_; walk_at "e")
  | (refine de_fld ?_; walk_at "e")
  | walk_at "lc"
  | (refine de_ix ix_seq ?_ ?_ (fun _ _ => rfl) <;> walk_at "e")
  | walk_at "c"
  | (refine de_fun (by assumption) (by walk_at "rm") (by assumption) (by rfl) ?_; walk_at "a")
  | (refine de_funX _ (by assumption) (by assumption) (by walk_at "rm") (by assumption) (by rfl) ?_; walk_at "a")
  | (refine de_funX0 (by assumption) (by walk_at "rm") (by assumption) (by rfl) ?_; walk_at "a")
  | (refine de_mk (by assumption) (by walk_at "rm") (by assumption) (by rfl) ?_; walk_at "a")
  | (refine de_err (by assumption) (by walk_at "rm") (by assumption) (by rfl) ?_; walk_at "a")
  | walk_at "pv"
  | exact de_gX (by assumption) (by rfl)
  | exact de_gl (by assumption) (by rfl)
  | exact de_strT (by rfl) (by assumption)
  | exact de_tupT (by rfl) (by assumption)
  | (refine de_slice ?_ ?_ ?_; walk_at "e"; walk_at "po"; walk_at "po")
  | (refine de_bm ?_ ?_ (fun _ _ h k => pe_bm PySem.F.plainAttrs_list PySem.F.slot_list_pop PySem.F.type_list_pop mt_popAt h k); walk_at "e"; walk_at "a")
  | walk_at "el"
  | exact de_VE (by rfl) (by assumption))
local macro_rules | `(tactic| walk_at "c") => `(tactic| first
  | (refine de_split ?_ ?_ <;> walk_at "e")
  | (refine de_join ?_ ?_ <;> walk_at "e")
  | (refine de_part ?_ ?_ <;> walk_at "e")
  | (refine de_kget (by assumption) ?_ ?_ ?_ <;> walk_at "e")
  | (refine de_f_len (by assumption) (by rfl) ?_; walk_at "a")
  | (refine de_f_int (by assumption) (by rfl) ?_; walk_at "a")
  | (refine de_f_abs (by assumption) (by rfl) ?_; walk_at "a")
  | (refine de_f_all rfl (by assumption) (by rfl) ?_; walk_at "a")
  | (refine de_f_any rfl (by assumption) (by rfl) ?_; walk_at "a")
  | (refine de_f_min rfl (by assumption) (by rfl) ?_; walk_at "a")
  | (refine de_f_max rfl (by assumption) (by rfl) ?_; walk_at "a")
  | (refine de_isi2 (by assumption) (by rfl) ?_; walk_at "a")
  | (refine de_f_tuple (by assumption) (by rfl) ?_; walk_at "a")
  | (refine de_f_list (by assumption) (by rfl) ?_; walk_at "a")
  | (refine de_f_sum rfl (by assumption) (by rfl) ?_; walk_at "a")
  | (refine de_f_sorted (by assumption) (by rfl) ?_; walk_at "a")
  | (refine de_f_repr (by assumption) (by assumption) (by assumption) (by assumption) (by rfl) ?_; walk_at "a"))
local macro_rules | `(tactic| walk_at "po") => `(tactic| first
  | exact do_none
  | (refine do_some ?_; walk_at "e"))
local macro_rules | `(tactic| walk_at "a") => `(tactic| first
  | exact da_nil
  | (refine da_cons ?_ ?_; walk_at "e"; walk_at "a"))
local macro_rules | `(tactic| walk_at "t") => `(tactic| first
  | (refine dt_lt2 ?_ ?_ <;> walk_at "e")
  | (refine dt_le2 ?_ ?_ <;> walk_at "e")
  | (refine dt_gt ?_ ?_ <;> walk_at "e")
  | (refine dt_ge ?_ ?_ <;> walk_at "e")
  | (refine dt_chll ?_ ?_ ?_ <;> walk_at "e")
  | (refine dt_isN ?_ ?_ <;> walk_at "e")
  | (refine dt_in (by assumption) ?_ ?_ <;> walk_at "e")
  | (refine dt_nin (by assumption) ?_ ?_ <;> walk_at "e")
  | (refine dt_eq (by assumption) ?_ ?_ <;> walk_at "e")
  | (refine dt_ne (by assumption) ?_ ?_ <;> walk_at "e")
  | (refine dt_not ?_; walk_at "t")
  | (refine dt_w ?_; walk_at "w")
  | (refine dt_val ?_; walk_at "e"))
local macro_rules | `(tactic| walk_at "w") => `(tactic| first
  | (refine dw_and1 ?_; walk_at "t")
  | (refine dw_or1 ?_; walk_at "t")
  | (refine dw_and ?_ ?_; walk_at "t"; walk_at "w")
  | (refine dw_or ?_ ?_; walk_at "t"; walk_at "w"))
local macro_rules | `(tactic| walk_at "set") => `(tactic| first
  | refine ds_set 1 (by assumption) ?_
  | refine ds_set 2 (by assumption) ?_
  | refine ds_set 3 (by assumption) ?_
  | refine ds_set 4 (by assumption) ?_
  | refine ds_set 5 (by assumption) ?_
  | refine ds_set 6 (by assumption) ?_
  | refine ds_set 7 (by assumption) ?_
  | refine ds_set 8 (by assumption) ?_
  | refine ds_set 9 (by assumption) ?_
  | refine ds_set 10 (by assumption) ?_
  | refine ds_set 0 (by assumption) ?_)
local macro_rules | `(tactic| walk_at "g") => `(tactic| first
  | exact dg_name 1 (by assumption)
  | exact dg_name 2 (by assumption)
  | exact dg_name 3 (by assumption)
  | exact dg_name 4 (by assumption)
  | exact dg_name 5 (by assumption)
  | exact dg_name 6 (by assumption)
  | exact dg_name 7 (by assumption)
  | exact dg_name 8 (by assumption)
  | exact dg_name 9 (by assumption)
  | (refine dg_tup 2 rfl ?_; walk_at "gs")
  | (refine dg_tup 3 rfl ?_; walk_at "gs"))
local macro_rules | `(tactic| walk_at "gs") => `(tactic| first
  | exact dgs_nil
  | (refine dgs_cons ?_ ?_; walk_at "g"; walk_at "gs"))
local macro_rules | `(tactic| walk_at "i") => `(tactic| first
  | (refine di_range1 (by rfl) (by assumption) ?_; walk_at "a")
  | (refine di_enum (by rfl) (by assumption) ?_; walk_at "a")
  | (refine di_seq ?_; walk_at "e"))
local macro_rules | `(tactic| walk_at "s") => `(tactic| first
  | (refine ds_ret ?_; walk_at "e")
  | (walk_at "set"; walk_at "e")
  | (refine ds_fld ?_ ?_; walk_at "e"; walk_at "e")
  | (refine ds_if ?_ ?_ ?_; walk_at "t"; walk_at "b"; walk_at "b")
  | (refine ds_expr (de_bm ?_ ?_ (fun _ _ h k => pe_bm PySem.F.plainAttrs_list PySem.F.slot_list_append PySem.F.type_list_append mt_append h k)); walk_at "e"; walk_at "a")
  | (refine ds_expr (de_bm ?_ ?_ (fun _ _ h k => pe_bm PySem.F.plainAttrs_list PySem.F.slot_list_extend PySem.F.type_list_extend mt_extend h k)); walk_at "e"; walk_at "a")
  | (refine ds_asg ?_ (dg_tup 2 rfl ?_); walk_at "e"; walk_at "gs")
  | (refine ds_asg ?_ (dg_sub ?_ ?_ set_list); walk_at "e"; walk_at "e"; walk_at "e")
  | (refine ds_raise _ (by assumption) (by assumption) rfl (by walk_at "rm") (by assumption) (by rfl) ?_; walk_at "a")
  | exact ds_break
  | exact ds_continue
  | (refine ds_while (by first | exact PassesOwn.never | assumption) ?_ ?_; walk_at "t"; walk_at "b")
  | (refine ds_for (by first | exact PassesOwn.never | assumption) rfl ?_ ?_ ?_; walk_at "i"; walk_at "g"; walk_at "b"))
local macro_rules | `(tactic| walk_at "b") => `(tactic| first
  | exact db_nil
  | (refine db_one ?_; walk_at "s")
  | (refine db_cons ?_ ?_; walk_at "s"; walk_at "b"))
local macro_rules | `(tactic| walk_at "nf") => `(tactic| dsimp only [de_slice, do_none, do_some, ds_swap, dt_inS, de_f_int2, de_isN, dt_isN, de_tupT, dt_tru, de_inC, de_mulT, de_lenK, de_sk, de_funX, de_funX0, ds_raise, ds_tryK, XofX, de_split, de_join, de_part, de_lc2, de_lcI, de_kget, de_kin, de_mk, de_fld, ds_fld, Xof, cxOf, Cx.nox, tInQ, List.map, de_lt2, de_le2, dt_lt2, dt_le2, de_ch, dt_ch, de_chll, dt_chll, de_in, de_nin, dt_in, dt_nin, de_gl, de_strT, de_isi2, de_f_tuple, de_f_list, de_f_sum, de_f_sorted, di_str, di_seq, de_lc, ds_setLc, de_err, de_gX, de_VE, de_f_isi, de_dic0, de_dic1, de_int, de_str, de_bl, de_non, de_v, de_op, de_cmp, de_one, de_and, de_or, de_not, de_neg, de_ifE, da_nil, da_cons, de_tup, de_lst, de_ix, de_callB, de_callT, de_fun, dt_val, dt_cmp, dt_not, dt_w, dw_and1, dw_or1, dw_and, dw_or, dg_name, dgs_nil, dgs_cons, dg_tup, dg_sub, di_list, di_tup, di_range1, di_enum, db_nil, db_one, db_cons, ds_ret, ds_retN, ds_set, ds_asg, ds_if, ds_expr, ds_for, ds_while, ds_break, ds_continue, ds_never, de_bm, de_errF, de_f_len, de_f_int, de_f_abs, de_f_all, de_f_any, de_f_min, de_f_max, de_f_repr, de_add, de_sub, de_mul, de_mod, de_fdiv, de_pow, de_eq, de_ne, de_lt, de_le, de_gt, de_ge, dt_eq, dt_ne, dt_lt, dt_le, dt_gt, dt_ge])
local macro_rules | `(tactic| walk_at "lc3") => `(tactic| (intro _ _ _ _ _; walk_at "g"))
local macro_rules | `(tactic| walk_at "lc4") => `(tactic| (intro _ _ _ _ _; walk_at "e"))
local macro_rules | `(tactic| walk_at "lc5") => `(tactic| (intro _ _ _ _ _; rfl))

/-! ### steps over data -/
local macro_rules | `(tactic| walk_at "x") => `(tactic| first
  | with_reducible refine esm_seq ?_
  | with_reducible refine esm_next ?_
  | with_reducible refine esm_brk ?_
  | with_reducible refine esm_cont ?_
  | with_reducible refine esm_ret ?_
  | with_reducible refine esm_retN ?_
  | with_reducible refine esm_raise (CalE.T (by assumption)) (by assumption) ?_
  | with_reducible refine evm_funTX (by assumption) ?_
  | with_reducible refine evm_funT0 ?_
  | with_reducible refine evm_isi ?_
  | with_reducible refine evm_slice ?_
  | with_reducible refine eom_none ?_
  | with_reducible refine eom_some ?_
  | with_reducible refine esm_swp ?_
  | with_reducible refine evm_popAt rfl ?_
  | with_reducible refine evm_lenO rfl ?_
  | with_reducible refine cw_min2 ?_
  | with_reducible refine esm_asgLN (by decide) ?_
  | with_reducible refine ow_isN rfl ?_
  | with_reducible refine esm_newL ?_
  | (with_reducible refine esm_newD (by exact Nat.le_of_ble_eq_true rfl) ?_; dsimp only [List.set])
  | with_reducible refine esm_asg ?_
  | with_reducible refine esm_if ?_
  | with_reducible refine esm_app rfl ?_
  | with_reducible refine esm_ext rfl ?_
  | with_reducible refine evm_int ?_
  | with_reducible refine evm_str ?_
  | with_reducible refine evm_bl ?_
  | with_reducible refine evm_non ?_
  | with_reducible refine evm_var rfl ?_
  | with_reducible refine evm_c (by assumption) ?_
  | (with_reducible refine evm_own rfl ?_; dsimp only [List.set])
  | (with_reducible refine evm_ownD rfl ?_; dsimp only [List.set])
  | with_reducible refine evm_isStr ?_
  | with_reducible refine evm_ixO rfl ?_
  | with_reducible refine evm_op ?_
  | with_reducible refine evm_chain ?_
  | with_reducible refine evm_fldV (by assumption) rfl (by with_unfolding_all decide) rfl ?_
  | with_reducible refine evm_fldO (by assumption) rfl (by with_unfolding_all decide) rfl ?_
  | with_reducible refine esm_fldN (by assumption) (by with_unfolding_all decide) ?_
  | with_reducible refine evm_if ?_
  | with_reducible refine evm_andV ?_
  | with_reducible refine evm_orV ?_
  | with_reducible refine evm_notV ?_
  | with_reducible refine evm_tup ?_
  | with_reducible refine evm_lst ?_
  | with_reducible refine evm_call ?_
  | with_reducible refine evm_fun ?_
  | with_reducible refine evm_split ?_
  | with_reducible refine evm_join ?_
  | with_reducible refine evm_part ?_
  | with_reducible refine evm_funT ?_
  | with_reducible refine evm_funP rfl ?_
  | with_reducible refine evm_make ?_
  | with_reducible refine eam_nil ?_
  | with_reducible refine eam_cons ?_
  | with_reducible refine etm_test ?_
  | with_reducible refine etm_B ?_
  | with_reducible refine etm_not ?_
  | with_reducible refine etm_and ?_
  | with_reducible refine etm_or ?_
  | with_reducible refine etm_yes ?_
  | with_reducible refine ow_addI ?_
  | with_reducible refine ow_subI ?_
  | with_reducible refine cw_lenL ?_
  | with_reducible refine cw_lenT ?_
  | with_reducible refine cw_int ?_
  | with_reducible refine cw_tupL ?_
  | with_reducible refine cw_lstL ?_
  | with_reducible refine cw_lstT ?_
  | refine br_t (by first | rfl | assumption | exact bnt (by assumption) | exact bnf (by assumption)) ?_
  | refine br_f (by first | rfl | assumption | exact bnt (by assumption) | exact bnf (by assumption)) ?_
  | refine rb_t (by first | rfl | assumption | exact bnt (by assumption) | exact bnf (by assumption)) ?_
  | refine rb_f (by first | rfl | assumption | exact bnt (by assumption) | exact bnf (by assumption)) ?_
  | with_reducible refine eim_varL rfl ?_
  | with_reducible refine eim_varT rfl ?_
  | with_reducible refine eim_varS rfl ?_
  | (with_reducible refine eim_ownL rfl ?_; dsimp only [List.set])
  | with_reducible refine eim_range1 ?_
  | with_reducible refine eim_enum ?_
  | with_reducible refine evm_scrLen rfl ?_
  | with_reducible refine cw_max2 ?_
  | (with_reducible refine lcy ?_; dsimp only [List.set])
  | (with_reducible refine lct ?_; dsimp only [List.set])
  | (with_reducible refine lcy2 ?_; dsimp only [List.set])
  | with_reducible refine esm_forN ?_
  | with_reducible refine esm_forN2 ?_
  | with_reducible refine esm_asg2 ?_
  | with_reducible refine evm_lcY ?_
  | with_reducible refine evm_lcT ?_
  | with_reducible refine evm_lcY2 ?_
  | (with_reducible refine ⟨_, rfl, ?_⟩)
  | (refine ⟨_, _, rfl, (by exact Nat.lt_of_lt_of_le (Nat.lt_succ_self _) (Nat.le_of_ble_eq_true rfl)), ?_⟩; dsimp only [List.set])
  | (refine ⟨Nat.le_of_ble_eq_true rfl, ?_⟩; try dsimp only [List.set]))
local macro_rules | `(tactic| walk_at "xv") => `(tactic| first
  | with_reducible refine ow_ltI ?_
  | with_reducible refine ow_leI ?_
  | with_reducible refine ow_leS ?_
  | with_reducible refine ow_gtI ?_
  | with_reducible refine ow_geI ?_
  | with_reducible refine ow_eqI ?_
  | with_reducible refine ow_eqS ?_
  | with_reducible refine ow_neI ?_
  | with_reducible refine ow_neS ?_)
local macro_rules | `(tactic| walk_at "xo") => `(tactic| first
  | with_reducible refine oc_ltI ?_
  | with_reducible refine oc_leI ?_
  | with_reducible refine oc_leS ?_
  | with_reducible refine oc_gtI ?_
  | with_reducible refine oc_geI ?_
  | with_reducible refine oc_eqI ?_
  | with_reducible refine oc_eqS ?_
  | with_reducible refine oc_neI ?_
  | with_reducible refine oc_neS ?_)
local macro_rules | `(tactic| walk_at "xc") => `(tactic| (walk_at "xo"; intro b hb; cases b <;> walk_at "xs"))
local macro_rules | `(tactic| walk_at "xs") => `(tactic| repeat walk_at "x")
section
variable {P : Program} {w : World} {K : PySem.W.Frag} {mg : Str → Option Value} {base : Heap}
local macro_rules | `(tactic| walk_at "lc") => `(tactic| (refine de_lc [("line", 1)] ‹Shared› ‹Hp› rfl (by assumption) ?_ rfl ?_ ?_ ?_ ?_; walk_at "i"; walk_at "lc3"; walk_at "lc4"; walk_at "lc5"; walk_at "lc5"))
local macro_rules | `(tactic| walk_at "sk") => `(tactic| (refine de_sk [("line", 1)] ‹Shared› ‹Hp› rfl (by assumption) ?_ rfl ?_ ?_ ?_ ?_; walk_at "i"; walk_at "lc3"; walk_at "lc4"; walk_at "lc5"; walk_at "lc5"))
local macro_rules | `(tactic| walk_at "c") => `(tactic| (refine de_lenK (by assumption) (by rfl) (da_cons ?_ da_nil); walk_at "sk"))
local macro_rules | `(tactic| walk_at "x") => `(tactic| first
  | with_reducible refine evm_lenK ?_
  | with_reducible refine ekm_skY ?_)
theorem scIsPicture : FnScope ["value", "line"] ["value"] (defScope sIsPicture) := ⟨rfl, rfl, rfl, by decide +kernel, rfl, by decide +kernel, by decide +kernel⟩
def tupLen : D → Nat
  | .tup ds => ds.length
  | _ => 0
abbrev lenK (d : D) : L2.Key := .inl ((tupLen d : Nat) : Int)
def isPicD : D → Bool
  | .tup ds => decide (1 ≤ (ds.length : Int)) && (decide ((ds.length : Int) ≤ 7) && (ds.all isLineD && decide (((setK (ds.map lenK)).length : Int) = 1)))
  | _ => false
structure OkP (d : D) : Prop where
  t : (tyN d).isSome = true
  l : ∀ ds, d = .tup ds → ds.length ≤ 1000000 ∧ ∀ x ∈ ds, OkL x
theorem OkP.ty {d : D} (h : OkP d) : ∃ t, tyN d = some t := Option.isSome_iff_exists.mp h.t
theorem not_pic {d : D} {t : String} (e : tyN d = some t) (h : ¬ t = "tuple") : isPicD d = false := by
  cases d <;> cases e <;> first | rfl | exact absurd rfl h
abbrev spPic (K : PySem.W.Frag) : Sp := spT K (fun d : D => [d]) OkP (fun d r => r = .bl (isPicD d))
theorem ec_pic {d : D} {φ : D → Prop} (h : OkP d) (q : φ (.bl (isPicD d))) : OkP d ∧ ∀ r, r = .bl (isPicD d) → φ r := ⟨h, fun r e => e ▸ q⟩
theorem line_tup {d : D} (h : isLineD d = true) : ∃ es, d = .tup es ∧ 1 ≤ es.length ∧ es.length ≤ 7 ∧ es.all isColD = true := by
  cases d with
  | tup es =>
    have z : (decide (1 ≤ (es.length : Int)) && (decide ((es.length : Int) ≤ 7) && es.all isColD)) = true := h
    simp only [Bool.and_eq_true, decide_eq_true_eq] at z
    exact ⟨es, rfl, by omega, by omega, z.2.2⟩
  | _ => cases h
theorem ok_isPic {f : Addr} {fd : FuncData} {k : Nat} (F : Fun K "is_picture" "is_picture" sIsPicture f fd) (cN : Cal P w K mg base k "is_line" (spLine K)) (gI : mg "isinstance" = none) (gS : mg "tuple" = none) (gA : mg "all" = none) (gL : mg "len" = none) (gN : GlV mg "MOST_THREADS" (.int 7)) :
    FnG P w K mg base CX0 (k + 1) f fd ["value"] (spPic K) := by
  refine okMT F scIsPicture (fun _ => rfl) (by decide) fun cdv A outer s H E hr gq hu h1 => ?_
  have nd := scIsPicture.nd
  refine ⟨Subtype.val (p := PSs _ _) ?d, Subtype.property ?d, ?r⟩
  case d => walk_at "b"
  case r =>
    walk_at "nf"
    intro d h
    obtain ⟨t, et⟩ := h.ty
    show EsM K none Z0 _ [.d d, .un] 0 _ _ _ _
    walk_at "xs"
    refine ⟨t, _, et, kit_tuple et, ?_⟩
    by_cases hs : t = "tuple"
    · obtain ⟨ds, rfl⟩ := tup_of et hs
      obtain ⟨lx, all⟩ := h.l ds rfl
      rw [decide_eq_true hs]
      have eN : ∀ {q : Bool}, isPicD (.tup ds) = q → D.bl q = .bl (isPicD (.tup ds)) := fun {q} e => by rw [← e]
      walk_at "xs"
      walk_at "xc"
      · rename_i h
        refine eN ?_
        show (decide (1 ≤ (ds.length : Int)) && _) = _
        rw [h]
        rfl
      · rename_i h
        walk_at "xc"
        · rename_i h2
          refine eN ?_
          show (decide (1 ≤ (ds.length : Int)) && (decide ((ds.length : Int) ≤ 7) && _)) = _
          rw [h, h2]
          rfl
        · rename_i h2
          refine ⟨rfl, lx, ?_⟩
          refine lcm_map (fun c => .bl (isLineD c)) (fun c hc κ q => ?_) ?_
          · walk_at "xs"
            refine ec_line (all c hc) ?_
            exact ⟨rfl, q⟩
          · walk_at "xs"
            rw [List.nil_append, show (fun c => D.bl (isLineD c)) = D.bl ∘ isLineD from rfl, ← List.map_map]
            refine cw_all ?_
            rw [List.all_map]
            refine ⟨_, rfl, ?_⟩
            have e0 : (id ∘ isLineD) = isLineD := rfl
            rw [e0]
            cases ha : ds.all isLineD with
            | false =>
              walk_at "xs"
              refine eN ?_
              show (decide (1 ≤ (ds.length : Int)) && (decide ((ds.length : Int) ≤ 7) && (ds.all isLineD && _))) = _
              rw [h, h2, ha]
              rfl
            | true =>
              walk_at "xs"
              have l7 : ds.length ≤ 7 := by
                have := of_decide_eq_true h2
                omega
              refine ⟨rfl, by omega, ?_⟩
              refine skm_map lenK (fun c hc κ q => ?_) ?_
              · obtain ⟨es, rfl, _, _, _⟩ := line_tup (List.all_eq_true.mp ha c hc)
                show EvM K none Z0 _ [.d (.tup ds), .d (.tup es)] 0 _
                walk_at "xs"
                exact ⟨rfl, _, rfl, q⟩
              · rw [List.nil_append]
                walk_at "xs"
                walk_at "xv"
                refine eN ?_
                show (decide (1 ≤ (ds.length : Int)) && (decide ((ds.length : Int) ≤ 7) && (ds.all isLineD && _))) = _
                rw [h, h2, ha]
                rfl
    · rw [decide_eq_false hs]
      walk_at "xs"
      rw [not_pic et hs]
end
end Tp

namespace Tp
open PySem PySem.Spec PyProof.Rows L2
/-! ### the derivations, by the syntax -/
local macro_rules | `(tactic| walk_at "pv") => `(tactic| first | exact de_v 0 | exact de_v 1 | exact de_v 2 | exact de_v 3 | exact de_v 4 | exact de_v 5 | exact de_v 6 | exact de_v 7 | exact de_v 8 | exact de_v 9 | exact de_v 10 | exact de_v 11)
local macro_rules | `(tactic| walk_at "rm") => `(tactic| first | assumption | exact Room.mono (by assumption) (by omega))
local macro_rules | `(tactic| walk_at "e") => `(tactic| first
  | exact de_int
  | exact de_str
  | exact de_bl
  | exact de_non
  | (refine de_add ?_ ?_ <;> walk_at "e")
  | (refine de_sub ?_ ?_ <;> walk_at "e")
  | (refine de_mul ?_ ?_ <;> walk_at "e")
  | (refine de_mod ?_ ?_ <;> walk_at "e")
  | (refine de_fdiv ?_ ?_ <;> walk_at "e")
  | (refine de_pow ?_ ?_ <;> walk_at "e")
  | (refine de_eq (by assumption) ?_ ?_ <;> walk_at "e")
  | (refine de_ne (by assumption) ?_ ?_ <;> walk_at "e")
  | (refine de_lt2 ?_ ?_ <;> walk_at "e")
  | (refine de_le2 ?_ ?_ <;> walk_at "e")
  | (refine de_gt ?_ ?_ <;> walk_at "e")
  | (refine de_ge ?_ ?_ <;> walk_at "e")
  | (refine de_chll ?_ ?_ ?_ <;> walk_at "e")
  | (refine de_inC ?_; walk_at "e")
  | (refine de_isN ?_ ?_ <;> walk_at "e")
  | (refine de_in (by assumption) ?_ ?_ <;> walk_at "e")
  | (refine de_nin (by assumption) ?_ ?_ <;> walk_at "e")
  | (refine de_one ?_; walk_at "e")
  | (refine de_and ?_ ?_ <;> walk_at "e")
  | (refine de_or ?_ ?_ <;> walk_at "e")
  | (refine de_not ?_; walk_at "e")
  | (refine de_neg ?_; walk_at "e")
  | (refine de_ifE ?_ ?_ ?_; walk_at "t"; walk_at "e"; walk_at "e")
  | (refine de_tup ?_ (fun _ h => pe_tup h); walk_at "a")
  | (refine de_lst ?_ (fun _ h => pe_lst h); walk_at "a")
  | exact de_dic0
  | (refine de_dic1 ?_; walk_at "e")
  | (refine de_fld ?_; walk_at "e")
  | walk_at "lc"
  | (refine de_ix ix_seq ?_ ?_ (fun _ _ => rfl) <;> walk_at "e")
  | walk_at "c"
  | (refine de_fun (by assumption) (by walk_at "rm") (by assumption) (by rfl) ?_; walk_at "a")
  | (refine de_funX _ (by assumption) (by assumption) (by walk_at "rm") (by assumption) (by rfl) ?_; walk_at "a")
  | (refine de_funX0 (by assumption) (by walk_at "rm") (by assumption) (by rfl) ?_; walk_at "a")
  | (refine de_mk (by assumption) (by walk_at "rm") (by assumption) (by rfl) ?_; walk_at "a")
  | (refine de_err (by assumption) (by walk_at "rm") (by assumption) (by rfl) ?_; walk_at "a")
  | walk_at "pv"
  | exact de_gX (by assumption) (by rfl)
  | exact de_gl (by assumption) (by rfl)
  | exact de_strT (by rfl) (by assumption)
  | exact de_tupT (by rfl) (by assumption)
  | (refine de_slice ?_ ?_ ?_; walk_at "e"; walk_at "po"; walk_at "po")
  | (refine de_bm ?_ ?_ (fun _ _ h k => pe_bm PySem.F.plainAttrs_list PySem.F.slot_list_pop PySem.F.type_list_pop mt_popAt h k); walk_at "e"; walk_at "a")
  | walk_at "el"
  | exact de_VE (by rfl) (by assumption))
local macro_rules | `(tactic| walk_at "c") => `(tactic| first
  | (refine de_split ?_ ?_ <;> walk_at "e")
  | (refine de_join ?_ ?_ <;> walk_at "e")
  | (refine de_part ?_ ?_ <;> walk_at "e")
  | (refine de_kget (by assumption) ?_ ?_ ?_ <;> walk_at "e")
  | (refine de_f_len (by assumption) (by rfl) ?_; walk_at "a")
  | (refine de_f_int (by assumption) (by rfl) ?_; walk_at "a")
  | (refine de_f_abs (by assumption) (by rfl) ?_; walk_at "a")
  | (refine de_f_all rfl (by assumption) (by rfl) ?_; walk_at "a")
  | (refine de_f_any rfl (by assumption) (by rfl) ?_; walk_at "a")
  | (refine de_f_min rfl (by assumption) (by rfl) ?_; walk_at "a")
  | (refine de_f_max rfl (by assumption) (by rfl) ?_; walk_at "a")
  | (refine de_isi2 (by assumption) (by rfl) ?_; walk_at "a")
  | (refine de_f_tuple (by assumption) (by rfl) ?_; walk_at "a")
  | (refine de_f_list (by assumption) (by rfl) ?_; walk_at "a")
  | (refine de_f_sum rfl (by assumption) (by rfl) ?_; walk_at "a")
  | (refine de_f_sorted (by assumption) (by rfl) ?_; walk_at "a")
  | (refine de_f_repr (by assumption) (by assumption) (by assumption) (by assumption) (by rfl) ?_; walk_at "a"))
local macro_rules | `(tactic| walk_at "po") => `(tactic| first
  | exact do_none
  | (refine do_some ?_; walk_at "e"))
local macro_rules | `(tactic| walk_at "a") => `(tactic| first
  | exact da_nil
  | (refine da_cons ?_ ?_; walk_at "e"; walk_at "a"))
local macro_rules | `(tactic| walk_at "t") => `(tactic| first
  | (refine dt_lt2 ?_ ?_ <;> walk_at "e")
  | (refine dt_le2 ?_ ?_ <;> walk_at "e")
  | (refine dt_gt ?_ ?_ <;> walk_at "e")
  | (refine dt_ge ?_ ?_ <;> walk_at "e")
  | (refine dt_chll ?_ ?_ ?_ <;> walk_at "e")
  | (refine dt_isN ?_ ?_ <;> walk_at "e")
  | (refine dt_in (by assumption) ?_ ?_ <;> walk_at "e")
  | (refine dt_nin (by assumption) ?_ ?_ <;> walk_at "e")
  | (refine dt_eq (by assumption) ?_ ?_ <;> walk_at "e")
  | (refine dt_ne (by assumption) ?_ ?_ <;> walk_at "e")
  | (refine dt_not ?_; walk_at "t")
  | (refine dt_w ?_; walk_at "w")
  | (refine dt_val ?_; walk_at "e"))
local macro_rules | `(tactic| walk_at "w") => `(tactic| first
  | (refine dw_and1 ?_; walk_at "t")
  | (refine dw_or1 ?_; walk_at "t")
  | (refine dw_and ?_ ?_; walk_at "t"; walk_at "w")
  | (refine dw_or ?_ ?_; walk_at "t"; walk_at "w"))
local macro_rules | `(tactic| walk_at "set") => `(tactic| first
  | refine ds_set 1 (by assumption) ?_
  | refine ds_set 2 (by assumption) ?_
  | refine ds_set 3 (by assumption) ?_
  | refine ds_set 4 (by assumption) ?_
  | refine ds_set 5 (by assumption) ?_
  | refine ds_set 6 (by assumption) ?_
  | refine ds_set 7 (by assumption) ?_
  | refine ds_set 8 (by assumption) ?_
  | refine ds_set 9 (by assumption) ?_
  | refine ds_set 10 (by assumption) ?_
  | refine ds_set 0 (by assumption) ?_)
local macro_rules | `(tactic| walk_at "g") => `(tactic| first
  | exact dg_name 1 (by assumption)
  | exact dg_name 2 (by assumption)
  | exact dg_name 3 (by assumption)
  | exact dg_name 4 (by assumption)
  | exact dg_name 5 (by assumption)
  | exact dg_name 6 (by assumption)
  | exact dg_name 7 (by assumption)
  | exact dg_name 8 (by assumption)
  | exact dg_name 9 (by assumption)
  | (refine dg_tup 2 rfl ?_; walk_at "gs")
  | (refine dg_tup 3 rfl ?_; walk_at "gs"))
local macro_rules | `(tactic| walk_at "gs") => `(tactic| first
  | exact dgs_nil
  | (refine dgs_cons ?_ ?_; walk_at "g"; walk_at "gs"))
local macro_rules | `(tactic| walk_at "i") => `(tactic| first
  | (refine di_range1 (by rfl) (by assumption) ?_; walk_at "a")
  | (refine di_enum (by rfl) (by assumption) ?_; walk_at "a")
  | (refine di_seq ?_; walk_at "e"))
local macro_rules | `(tactic| walk_at "s") => `(tactic| first
  | (refine ds_ret ?_; walk_at "e")
  | (walk_at "set"; walk_at "e")
  | (refine ds_fld ?_ ?_; walk_at "e"; walk_at "e")
  | (refine ds_if ?_ ?_ ?_; walk_at "t"; walk_at "b"; walk_at "b")
  | (refine ds_expr (de_bm ?_ ?_ (fun _ _ h k => pe_bm PySem.F.plainAttrs_list PySem.F.slot_list_append PySem.F.type_list_append mt_append h k)); walk_at "e"; walk_at "a")
  | (refine ds_expr (de_bm ?_ ?_ (fun _ _ h k => pe_bm PySem.F.plainAttrs_list PySem.F.slot_list_extend PySem.F.type_list_extend mt_extend h k)); walk_at "e"; walk_at "a")
  | (refine ds_asg ?_ (dg_tup 2 rfl ?_); walk_at "e"; walk_at "gs")
  | (refine ds_asg ?_ (dg_sub ?_ ?_ set_list); walk_at "e"; walk_at "e"; walk_at "e")
  | (refine ds_raise _ (by assumption) (by assumption) rfl (by walk_at "rm") (by assumption) (by rfl) ?_; walk_at "a")
  | exact ds_break
  | exact ds_continue
  | (refine ds_while (by first | exact PassesOwn.never | assumption) ?_ ?_; walk_at "t"; walk_at "b")
  | (refine ds_for (by first | exact PassesOwn.never | assumption) rfl ?_ ?_ ?_; walk_at "i"; walk_at "g"; walk_at "b"))
local macro_rules | `(tactic| walk_at "b") => `(tactic| first
  | exact db_nil
  | (refine db_one ?_; walk_at "s")
  | (refine db_cons ?_ ?_; walk_at "s"; walk_at "b"))
local macro_rules | `(tactic| walk_at "nf") => `(tactic| dsimp only [de_slice, do_none, do_some, ds_swap, dt_inS, de_f_int2, de_isN, dt_isN, de_tupT, dt_tru, de_inC, de_mulT, de_lenK, de_sk, de_funX, de_funX0, ds_raise, ds_tryK, XofX, de_split, de_join, de_part, de_lc2, de_lcI, de_kget, de_kin, de_mk, de_fld, ds_fld, Xof, cxOf, Cx.nox, tInQ, List.map, de_lt2, de_le2, dt_lt2, dt_le2, de_ch, dt_ch, de_chll, dt_chll, de_in, de_nin, dt_in, dt_nin, de_gl, de_strT, de_isi2, de_f_tuple, de_f_list, de_f_sum, de_f_sorted, di_str, di_seq, de_lc, ds_setLc, de_err, de_gX, de_VE, de_f_isi, de_dic0, de_dic1, de_int, de_str, de_bl, de_non, de_v, de_op, de_cmp, de_one, de_and, de_or, de_not, de_neg, de_ifE, da_nil, da_cons, de_tup, de_lst, de_ix, de_callB, de_callT, de_fun, dt_val, dt_cmp, dt_not, dt_w, dw_and1, dw_or1, dw_and, dw_or, dg_name, dgs_nil, dgs_cons, dg_tup, dg_sub, di_list, di_tup, di_range1, di_enum, db_nil, db_one, db_cons, ds_ret, ds_retN, ds_set, ds_asg, ds_if, ds_expr, ds_for, ds_while, ds_break, ds_continue, ds_never, de_bm, de_errF, de_f_len, de_f_int, de_f_abs, de_f_all, de_f_any, de_f_min, de_f_max, de_f_repr, de_add, de_sub, de_mul, de_mod, de_fdiv, de_pow, de_eq, de_ne, de_lt, de_le, de_gt, de_ge, dt_eq, dt_ne, dt_lt, dt_le, dt_gt, dt_ge])
local macro_rules | `(tactic| walk_at "lc3") => `(tactic| (intro _ _ _ _ _; walk_at "g"))
local macro_rules | `(tactic| walk_at "lc4") => `(tactic| (intro _ _ _ _ _; walk_at "e"))
local macro_rules | `(tactic| walk_at "lc5") => `(tactic| (intro _ _ _ _ _; rfl))

/-! ### steps over data -/
local macro_rules | `(tactic| walk_at "x") => `(tactic| first
  | with_reducible refine esm_seq ?_
  | with_reducible refine esm_next ?_
  | with_reducible refine esm_brk ?_
  | with_reducible refine esm_cont ?_
  | with_reducible refine esm_ret ?_
  | with_reducible refine esm_retN ?_
  | with_reducible refine esm_raise (CalE.T (by assumption)) (by assumption) ?_
  | with_reducible refine evm_funTX (by assumption) ?_
  | with_reducible refine evm_funT0 ?_
  | with_reducible refine evm_isi ?_
  | with_reducible refine evm_slice ?_
  | with_reducible refine eom_none ?_
  | with_reducible refine eom_some ?_
  | with_reducible refine esm_swp ?_
  | with_reducible refine evm_popAt rfl ?_
  | with_reducible refine evm_lenO rfl ?_
  | with_reducible refine cw_min2 ?_
  | with_reducible refine esm_asgLN (by decide) ?_
  | with_reducible refine ow_isN rfl ?_
  | with_reducible refine esm_newL ?_
  | (with_reducible refine esm_newD (by exact Nat.le_of_ble_eq_true rfl) ?_; dsimp only [List.set])
  | with_reducible refine esm_asg ?_
  | with_reducible refine esm_if ?_
  | with_reducible refine esm_app rfl ?_
  | with_reducible refine esm_ext rfl ?_
  | with_reducible refine evm_int ?_
  | with_reducible refine evm_str ?_
  | with_reducible refine evm_bl ?_
  | with_reducible refine evm_non ?_
  | with_reducible refine evm_var rfl ?_
  | with_reducible refine evm_c (by assumption) ?_
  | (with_reducible refine evm_own rfl ?_; dsimp only [List.set])
  | (with_reducible refine evm_ownD rfl ?_; dsimp only [List.set])
  | with_reducible refine evm_isStr ?_
  | with_reducible refine evm_ixO rfl ?_
  | with_reducible refine evm_op ?_
  | with_reducible refine evm_chain ?_
  | with_reducible refine evm_fldV (by assumption) rfl (by with_unfolding_all decide) rfl ?_
  | with_reducible refine evm_fldO (by assumption) rfl (by with_unfolding_all decide) rfl ?_
  | with_reducible refine esm_fldN (by assumption) (by with_unfolding_all decide) ?_
  | with_reducible refine evm_if ?_
  | with_reducible refine evm_andV ?_
  | with_reducible refine evm_orV ?_
  | with_reducible refine evm_notV ?_
  | with_reducible refine evm_tup ?_
  | with_reducible refine evm_lst ?_
  | with_reducible refine evm_call ?_
  | with_reducible refine evm_fun ?_
  | with_reducible refine evm_split ?_
  | with_reducible refine evm_join ?_
  | with_reducible refine evm_part ?_
  | with_reducible refine evm_funT ?_
  | with_reducible refine evm_funP rfl ?_
  | with_reducible refine evm_make ?_
  | with_reducible refine eam_nil ?_
  | with_reducible refine eam_cons ?_
  | with_reducible refine etm_test ?_
  | with_reducible refine etm_B ?_
  | with_reducible refine etm_not ?_
  | with_reducible refine etm_and ?_
  | with_reducible refine etm_or ?_
  | with_reducible refine etm_yes ?_
  | with_reducible refine ow_addI ?_
  | with_reducible refine ow_subI ?_
  | with_reducible refine cw_lenL ?_
  | with_reducible refine cw_lenT ?_
  | with_reducible refine cw_int ?_
  | with_reducible refine cw_tupL ?_
  | with_reducible refine cw_lstL ?_
  | with_reducible refine cw_lstT ?_
  | refine br_t (by first | rfl | assumption | exact bnt (by assumption) | exact bnf (by assumption)) ?_
  | refine br_f (by first | rfl | assumption | exact bnt (by assumption) | exact bnf (by assumption)) ?_
  | refine rb_t (by first | rfl | assumption | exact bnt (by assumption) | exact bnf (by assumption)) ?_
  | refine rb_f (by first | rfl | assumption | exact bnt (by assumption) | exact bnf (by assumption)) ?_
  | with_reducible refine eim_varL rfl ?_
  | with_reducible refine eim_varT rfl ?_
  | with_reducible refine eim_varS rfl ?_
  | (with_reducible refine eim_ownL rfl ?_; dsimp only [List.set])
  | with_reducible refine eim_range1 ?_
  | with_reducible refine eim_enum ?_
  | with_reducible refine evm_scrLen rfl ?_
  | with_reducible refine cw_max2 ?_
  | (with_reducible refine lcy ?_; dsimp only [List.set])
  | (with_reducible refine lct ?_; dsimp only [List.set])
  | (with_reducible refine lcy2 ?_; dsimp only [List.set])
  | with_reducible refine esm_forN ?_
  | with_reducible refine esm_forN2 ?_
  | with_reducible refine esm_asg2 ?_
  | with_reducible refine evm_lcY ?_
  | with_reducible refine evm_lcT ?_
  | with_reducible refine evm_lcY2 ?_
  | (with_reducible refine ⟨_, rfl, ?_⟩)
  | (refine ⟨_, _, rfl, (by exact Nat.lt_of_lt_of_le (Nat.lt_succ_self _) (Nat.le_of_ble_eq_true rfl)), ?_⟩; dsimp only [List.set])
  | (refine ⟨Nat.le_of_ble_eq_true rfl, ?_⟩; try dsimp only [List.set]))
local macro_rules | `(tactic| walk_at "xv") => `(tactic| first
  | with_reducible refine ow_ltI ?_
  | with_reducible refine ow_leI ?_
  | with_reducible refine ow_leS ?_
  | with_reducible refine ow_gtI ?_
  | with_reducible refine ow_geI ?_
  | with_reducible refine ow_eqI ?_
  | with_reducible refine ow_eqS ?_
  | with_reducible refine ow_neI ?_
  | with_reducible refine ow_neS ?_)
local macro_rules | `(tactic| walk_at "xo") => `(tactic| first
  | with_reducible refine oc_ltI ?_
  | with_reducible refine oc_leI ?_
  | with_reducible refine oc_leS ?_
  | with_reducible refine oc_gtI ?_
  | with_reducible refine oc_geI ?_
  | with_reducible refine oc_eqI ?_
  | with_reducible refine oc_eqS ?_
  | with_reducible refine oc_neI ?_
  | with_reducible refine oc_neS ?_)
local macro_rules | `(tactic| walk_at "xc") => `(tactic| (walk_at "xo"; intro b hb; cases b <;> walk_at "xs"))
local macro_rules | `(tactic| walk_at "xs") => `(tactic| repeat walk_at "x")
section
variable {P : Program} {w : World} {K : PySem.W.Frag} {mg : Str → Option Value} {base : Heap}
local macro_rules | `(tactic| walk_at "lc") => `(tactic| first
  | (refine de_lc [("line", 1)] ‹Shared› ‹Hp› rfl (by assumption) ?_ rfl ?_ ?_ ?_ ?_; walk_at "i"; walk_at "lc3"; walk_at "lc4"; walk_at "lc5"; walk_at "lc5")
  | (refine de_lc [("colour", 2)] ‹Shared› ‹Hp› rfl (by assumption) ?_ rfl ?_ ?_ ?_ ?_; walk_at "i"; walk_at "lc3"; walk_at "lc4"; walk_at "lc5"; walk_at "lc5"))
theorem scLinesOf : FnScope ["text"] ["text"] (defScope sLinesOf) := ⟨rfl, rfl, rfl, by decide +kernel, rfl, by decide +kernel, by decide +kernel⟩
def isStrB : D → Bool
  | .str _ => true
  | _ => false
abbrev nl : Str := "\n"
abbrev sp1 : Str := " "
abbrev spLinesOf (K : PySem.W.Frag) (CT : Addr) : Sp := spTX K (fun d : D => [d]) OkD (fun d r => ∃ x, d = .str x ∧ r = .lst ((Txt.split x nl).map .str)) (fun d C x => isStrB d = false ∧ C = CT ∧ x = .int 0)
theorem not_strB {d : D} {t : String} (e : tyN d = some t) (h : ¬ t = "str") : isStrB d = false := by
  cases d <;> cases e <;> first | rfl | exact absurd rfl h
theorem ok_linesOf {CT : Addr} {f : Addr} {fd : FuncData} {k : Nat} (F : Fun K "lines_of" "lines_of" sLinesOf f fd) (cT : CalE P w K mg base k "BadText" CT) (gI : mg "isinstance" = none) (gS : mg "str" = none) :
    FnG P w K mg base (L2.CX P w) (k + 2) f fd ["text"] (spLinesOf K CT) := by
  refine okMTX F scLinesOf (fun _ => rfl) (by decide) fun cdv A outer s H E W hr gq hu h1 tk po => ?_
  have nd := scLinesOf.nd
  refine ⟨Subtype.val (p := PSs _ _) ?d, Subtype.property ?d, ?r⟩
  case d => walk_at "b"
  case r =>
    walk_at "nf"
    intro d Z h o
    obtain ⟨t, et⟩ := h.ty
    show EsM K none Z _ [.d d] 0 _ _ _ _
    walk_at "xs"
    refine ⟨t, _, et, kit_str et, ?_⟩
    by_cases hs : t = "str"
    · obtain ⟨x, rfl⟩ := str_of et hs
      have lx := h.l x rfl
      rw [decide_eq_true hs]
      walk_at "xs"
      exact ⟨rfl, lx, x, rfl, rfl⟩
    · rw [decide_eq_false hs]
      walk_at "xs"
      exact ⟨not_strB et hs, rfl, rfl⟩
/-! ### a picture's text -/
theorem scShow : FnScope ["picture", "line", "colour"] ["picture"] (defScope sShowPicture) := ⟨rfl, rfl, rfl, by decide +kernel, rfl, by decide +kernel, by decide +kernel⟩
def colT : D → Str
  | .str x => x
  | _ => "-"
def itemsD : D → List D
  | .tup ds => ds
  | _ => []
def rowT (d : D) : Str := Txt.join sp1 ((itemsD d).map colT)
def picT (d : D) : Str := Txt.join nl ((itemsD d).map rowT)
abbrev spShow (K : PySem.W.Frag) (CP : Addr) : Sp := spTX K (fun d : D => [d]) OkP (fun d r => isPicD d = true ∧ r = .str (picT d)) (fun d C x => isPicD d = false ∧ C = CP ∧ x = d)
theorem col_cases {d : D} (h : isColD d = true) : d = .non ∨ ∃ x, d = .str x ∧ isName x = true := by
  cases d with
  | non => exact .inl rfl
  | str x => exact .inr ⟨x, rfl, h⟩
  | _ => cases h
theorem name_len {x : Str} (h : isName x = true) : x.length ≤ 8 := by
  unfold isName at h
  simp only [Bool.and_eq_true, decide_eq_true_eq] at h
  omega
theorem col_len {d : D} (h : isColD d = true) : (colT d).length ≤ 8 := by
  rcases col_cases h with rfl | ⟨x, rfl, hx⟩
  · decide
  · exact name_len hx
theorem sum_le {α : Type} (f : α → Nat) (B : Nat) : ∀ {xs : List α}, (∀ x ∈ xs, f x ≤ B) → (xs.map f).sum ≤ xs.length * B
  | [], _ => by simp
  | x :: xs, h => by
    have h1 := h x (.head _)
    have h2 := sum_le f B (xs := xs) fun y hy => h y (.tail _ hy)
    rw [List.map_cons, List.sum_cons, List.length_cons, Nat.add_mul, Nat.one_mul]
    omega
theorem join_eq2 (a : Str) (ys : List Str) : Txt.join a ys = Str.join a ys := StrLaws.glued_eq_join a ys
theorem join_len (a : Str) (ys : List Str) : (Txt.join a ys).length ≤ (ys.map (fun x => x.length)).sum + ys.length * a.length := by
  rw [join_eq2]
  exact StrLaws.join_length_le a ys
theorem row_len {d : D} (h : isLineD d = true) : (rowT d).length ≤ 100 := by
  obtain ⟨es, rfl, l1, l7, all⟩ := line_tup h
  have h1 := join_len sp1 (es.map colT)
  have h2 := sum_le (fun x : Str => x.length) 8 (xs := es.map colT) fun x hx => by
    obtain ⟨d, hd, rfl⟩ := List.mem_map.mp hx
    exact col_len (List.all_eq_true.mp all d hd)
  rw [List.length_map] at h1 h2
  have h3 : sp1.length = 1 := rfl
  show (Txt.join sp1 (es.map colT)).length ≤ 100
  rw [h3] at h1
  omega
theorem pic_tup {d : D} (h : isPicD d = true) : ∃ ds, d = .tup ds ∧ 1 ≤ ds.length ∧ ds.length ≤ 7 ∧ ds.all isLineD = true ∧ (setK (ds.map lenK)).length = 1 := by
  cases d with
  | tup es =>
    have z : (decide (1 ≤ (es.length : Int)) && (decide ((es.length : Int) ≤ 7) && (es.all isLineD && decide (((setK (es.map lenK)).length : Int) = 1)))) = true := h
    simp only [Bool.and_eq_true, decide_eq_true_eq] at z
    exact ⟨es, rfl, by omega, by omega, z.2.2.1, by omega⟩
  | _ => cases h
theorem ok_show {CP : Addr} {f : Addr} {fd : FuncData} {k : Nat} (F : Fun K "show_picture" "show_picture" sShowPicture f fd) (cP : CalE P w K mg base k "BadPicture" CP) (cI : Cal P w K mg base (k + 1) "is_picture" (spPic K)) (gU : GlV mg "UNKNOWN" (.str "-")) :
    FnG P w K mg base (L2.CX P w) (k + 2) f fd ["picture"] (spShow K CP) := by
  refine okMTX F scShow (fun _ => rfl) (by decide) fun cdv A outer s H E W hr gq hu h1 tk po => ?_
  have nd := scShow.nd
  refine ⟨Subtype.val (p := PSs _ _) ?d, Subtype.property ?d, ?r⟩
  case d => walk_at "b"
  case r =>
    walk_at "nf"
    intro d Z h o
    show EsM K none Z _ [.d d, .un, .un] 0 _ _ _ _
    walk_at "xs"
    refine ec_pic h ?_
    refine ⟨_, rfl, ?_⟩
    cases hp : isPicD d with
    | false =>
      walk_at "xs"
      exact ⟨hp, rfl, rfl⟩
    | true =>
      walk_at "xs"
      obtain ⟨ds, rfl, l1, l7, all, _⟩ := pic_tup hp
      walk_at "xs"
      refine ⟨rfl, by omega, ?_⟩
      refine lcm_map (fun c => .str (rowT c)) (fun c hc κ q => ?_) ?_
      · have hl := List.all_eq_true.mp all c hc
        obtain ⟨es, rfl, m1, m7, alc⟩ := line_tup hl
        walk_at "xs"
        refine ⟨rfl, by omega, ?_⟩
        refine lcm_map (fun c => .str (colT c)) (fun x hx κ2 q2 => ?_) ?_
        · have hcx := List.all_eq_true.mp alc x hx
          have ex : ∃ t, tyN x = some t := by
            rcases col_cases hcx with rfl | ⟨y, rfl, _⟩ <;> exact ⟨_, rfl⟩
          obtain ⟨tx, ex⟩ := ex
          walk_at "xs"
          refine ow_isN ex ?_
          refine ⟨_, rfl, ?_⟩
          rcases col_cases hcx with rfl | ⟨y, rfl, _⟩
          · walk_at "xs"
            exact ⟨rfl, q2⟩
          · walk_at "xs"
            exact ⟨rfl, q2⟩
        · refine ⟨es.map colT, .inl (by rw [List.nil_append, List.map_map]; rfl), ?_, rfl, q⟩
          have h2 := sum_le (fun x : Str => x.length) 8 (xs := es.map colT) fun x hx => by
            obtain ⟨d, hd, rfl⟩ := List.mem_map.mp hx
            exact col_len (List.all_eq_true.mp alc d hd)
          rw [List.length_map] at h2
          rw [List.length_map]
          have h3 : (" " : Str).length = 1 := rfl
          rw [h3]
          omega
      · refine ⟨ds.map rowT, .inl (by rw [List.nil_append, List.map_map]; rfl), ?_, rfl, rfl⟩
        have h2 := sum_le (fun x : Str => x.length) 100 (xs := ds.map rowT) fun x hx => by
          obtain ⟨d, hd, rfl⟩ := List.mem_map.mp hx
          exact row_len (List.all_eq_true.mp all d hd)
        rw [List.length_map] at h2
        rw [List.length_map]
        have h3 : ("\n" : Str).length = 1 := rfl
        rw [h3]
        omega
end
end Tp

namespace Tp
open PySem PySem.Spec PyProof.Rows L2
/-! ### the derivations, by the syntax -/
local macro_rules | `(tactic| walk_at "pv") => `(tactic| first | exact de_v 0 | exact de_v 1 | exact de_v 2 | exact de_v 3 | exact de_v 4 | exact de_v 5 | exact de_v 6 | exact de_v 7 | exact de_v 8 | exact de_v 9 | exact de_v 10 | exact de_v 11)
local macro_rules | `(tactic| walk_at "rm") => `(tactic| first | assumption | exact Room.mono (by assumption) (by omega))
local macro_rules | `(tactic| walk_at "e") => `(tactic| first
  | exact de_int
  | exact de_str
  | exact de_bl
  | exact de_non
  | (refine de_add ?_ ?_ <;> walk_at "e")
  | (refine de_sub ?_ ?_ <;> walk_at "e")
  | (refine de_mul ?_ ?_ <;> walk_at "e")
  | (refine de_mod ?_ ?_ <;> walk_at "e")
  | (refine de_fdiv ?_ ?_ <;> walk_at "e")
  | (refine de_pow ?_ ?_ <;> walk_at "e")
  | (refine de_eq (by assumption) ?_ ?_ <;> walk_at "e")
  | (refine de_ne (by assumption) ?_ ?_ <;> walk_at "e")
  | (refine de_lt2 ?_ ?_ <;> walk_at "e")
  | (refine de_le2 ?_ ?_ <;> walk_at "e")
  | (refine de_gt ?_ ?_ <;> walk_at "e")
  | (refine de_ge ?_ ?_ <;> walk_at "e")
  | (refine de_chll ?_ ?_ ?_ <;> walk_at "e")
  | (refine de_inC ?_; walk_at "e")
  | (refine de_isN ?_ ?_ <;> walk_at "e")
  | (refine de_in (by assumption) ?_ ?_ <;> walk_at "e")
  | (refine de_nin (by assumption) ?_ ?_ <;> walk_at "e")
  | (refine de_one ?_; walk_at "e")
  | (refine de_and ?_ ?_ <;> walk_at "e")
  | (refine de_or ?_ ?_ <;> walk_at "e")
  | (refine de_not ?_; walk_at "e")
  | (refine de_neg ?_; walk_at "e")
  | (refine de_ifE ?_ ?_ ?_; walk_at "t"; walk_at "e"; walk_at "e")
  | (refine de_tup ?_ (fun _ h => pe_tup h); walk_at "a")
  | (refine de_lst ?_ (fun _ h => pe_lst h); walk_at "a")
  | exact de_dic0
  | (refine de_dic1 ?_; walk_at "e")
  | (refine de_fld ?_; walk_at "e")
  | walk_at "lc"
  | (refine de_ix ix_seq ?_ ?_ (fun _ _ => rfl) <;> walk_at "e")
  | walk_at "c"
  | (refine de_fun (by assumption) (by walk_at "rm") (by assumption) (by rfl) ?_; walk_at "a")
  | (refine de_funX _ (by assumption) (by assumption) (by walk_at "rm") (by assumption) (by rfl) ?_; walk_at "a")
  | (refine de_funX0 (by assumption) (by walk_at "rm") (by assumption) (by rfl) ?_; walk_at "a")
  | (refine de_mk (by assumption) (by walk_at "rm") (by assumption) (by rfl) ?_; walk_at "a")
  | (refine de_err (by assumption) (by walk_at "rm") (by assumption) (by rfl) ?_; walk_at "a")
  | walk_at "pv"
  | exact de_gX (by assumption) (by rfl)
  | exact de_gl (by assumption) (by rfl)
  | exact de_strT (by rfl) (by assumption)
  | exact de_tupT (by rfl) (by assumption)
  | (refine de_slice ?_ ?_ ?_; walk_at "e"; walk_at "po"; walk_at "po")
  | (refine de_bm ?_ ?_ (fun _ _ h k => pe_bm PySem.F.plainAttrs_list PySem.F.slot_list_pop PySem.F.type_list_pop mt_popAt h k); walk_at "e"; walk_at "a")
  | walk_at "el"
  | exact de_VE (by rfl) (by assumption))
local macro_rules | `(tactic| walk_at "c") => `(tactic| first
  | (refine de_split ?_ ?_ <;> walk_at "e")
  | (refine de_join ?_ ?_ <;> walk_at "e")
  | (refine de_part ?_ ?_ <;> walk_at "e")
  | (refine de_kget (by assumption) ?_ ?_ ?_ <;> walk_at "e")
  | (refine de_f_len (by assumption) (by rfl) ?_; walk_at "a")
  | (refine de_f_int (by assumption) (by rfl) ?_; walk_at "a")
  | (refine de_f_abs (by assumption) (by rfl) ?_; walk_at "a")
  | (refine de_f_all rfl (by assumption) (by rfl) ?_; walk_at "a")
  | (refine de_f_any rfl (by assumption) (by rfl) ?_; walk_at "a")
  | (refine de_f_min rfl (by assumption) (by rfl) ?_; walk_at "a")
  | (refine de_f_max rfl (by assumption) (by rfl) ?_; walk_at "a")
  | (refine de_isi2 (by assumption) (by rfl) ?_; walk_at "a")
  | (refine de_f_tuple (by assumption) (by rfl) ?_; walk_at "a")
  | (refine de_f_list (by assumption) (by rfl) ?_; walk_at "a")
  | (refine de_f_sum rfl (by assumption) (by rfl) ?_; walk_at "a")
  | (refine de_f_sorted (by assumption) (by rfl) ?_; walk_at "a")
  | (refine de_f_repr (by assumption) (by assumption) (by assumption) (by assumption) (by rfl) ?_; walk_at "a"))
local macro_rules | `(tactic| walk_at "po") => `(tactic| first
  | exact do_none
  | (refine do_some ?_; walk_at "e"))
local macro_rules | `(tactic| walk_at "a") => `(tactic| first
  | exact da_nil
  | (refine da_cons ?_ ?_; walk_at "e"; walk_at "a"))
local macro_rules | `(tactic| walk_at "t") => `(tactic| first
  | (refine dt_lt2 ?_ ?_ <;> walk_at "e")
  | (refine dt_le2 ?_ ?_ <;> walk_at "e")
  | (refine dt_gt ?_ ?_ <;> walk_at "e")
  | (refine dt_ge ?_ ?_ <;> walk_at "e")
  | (refine dt_chll ?_ ?_ ?_ <;> walk_at "e")
  | (refine dt_isN ?_ ?_ <;> walk_at "e")
  | (refine dt_in (by assumption) ?_ ?_ <;> walk_at "e")
  | (refine dt_nin (by assumption) ?_ ?_ <;> walk_at "e")
  | (refine dt_eq (by assumption) ?_ ?_ <;> walk_at "e")
  | (refine dt_ne (by assumption) ?_ ?_ <;> walk_at "e")
  | (refine dt_not ?_; walk_at "t")
  | (refine dt_w ?_; walk_at "w")
  | (refine dt_val ?_; walk_at "e"))
local macro_rules | `(tactic| walk_at "w") => `(tactic| first
  | (refine dw_and1 ?_; walk_at "t")
  | (refine dw_or1 ?_; walk_at "t")
  | (refine dw_and ?_ ?_; walk_at "t"; walk_at "w")
  | (refine dw_or ?_ ?_; walk_at "t"; walk_at "w"))
local macro_rules | `(tactic| walk_at "set") => `(tactic| first
  | refine ds_set 1 (by assumption) ?_
  | refine ds_set 2 (by assumption) ?_
  | refine ds_set 3 (by assumption) ?_
  | refine ds_set 4 (by assumption) ?_
  | refine ds_set 5 (by assumption) ?_
  | refine ds_set 6 (by assumption) ?_
  | refine ds_set 7 (by assumption) ?_
  | refine ds_set 8 (by assumption) ?_
  | refine ds_set 9 (by assumption) ?_
  | refine ds_set 10 (by assumption) ?_
  | refine ds_set 0 (by assumption) ?_)
local macro_rules | `(tactic| walk_at "g") => `(tactic| first
  | exact dg_name 1 (by assumption)
  | exact dg_name 2 (by assumption)
  | exact dg_name 3 (by assumption)
  | exact dg_name 4 (by assumption)
  | exact dg_name 5 (by assumption)
  | exact dg_name 6 (by assumption)
  | exact dg_name 7 (by assumption)
  | exact dg_name 8 (by assumption)
  | exact dg_name 9 (by assumption)
  | (refine dg_tup 2 rfl ?_; walk_at "gs")
  | (refine dg_tup 3 rfl ?_; walk_at "gs"))
local macro_rules | `(tactic| walk_at "gs") => `(tactic| first
  | exact dgs_nil
  | (refine dgs_cons ?_ ?_; walk_at "g"; walk_at "gs"))
local macro_rules | `(tactic| walk_at "i") => `(tactic| first
  | (refine di_range1 (by rfl) (by assumption) ?_; walk_at "a")
  | (refine di_enum (by rfl) (by assumption) ?_; walk_at "a")
  | (refine di_seq ?_; walk_at "e"))
local macro_rules | `(tactic| walk_at "s") => `(tactic| first
  | (refine ds_ret ?_; walk_at "e")
  | (walk_at "set"; walk_at "e")
  | (refine ds_fld ?_ ?_; walk_at "e"; walk_at "e")
  | (refine ds_if ?_ ?_ ?_; walk_at "t"; walk_at "b"; walk_at "b")
  | (refine ds_expr (de_bm ?_ ?_ (fun _ _ h k => pe_bm PySem.F.plainAttrs_list PySem.F.slot_list_append PySem.F.type_list_append mt_append h k)); walk_at "e"; walk_at "a")
  | (refine ds_expr (de_bm ?_ ?_ (fun _ _ h k => pe_bm PySem.F.plainAttrs_list PySem.F.slot_list_extend PySem.F.type_list_extend mt_extend h k)); walk_at "e"; walk_at "a")
  | (refine ds_asg ?_ (dg_tup 2 rfl ?_); walk_at "e"; walk_at "gs")
  | (refine ds_asg ?_ (dg_sub ?_ ?_ set_list); walk_at "e"; walk_at "e"; walk_at "e")
  | (refine ds_raise _ (by assumption) (by assumption) rfl (by walk_at "rm") (by assumption) (by rfl) ?_; walk_at "a")
  | exact ds_break
  | exact ds_continue
  | (refine ds_while (by first | exact PassesOwn.never | assumption) ?_ ?_; walk_at "t"; walk_at "b")
  | (refine ds_for (by first | exact PassesOwn.never | assumption) rfl ?_ ?_ ?_; walk_at "i"; walk_at "g"; walk_at "b"))
local macro_rules | `(tactic| walk_at "b") => `(tactic| first
  | exact db_nil
  | (refine db_one ?_; walk_at "s")
  | (refine db_cons ?_ ?_; walk_at "s"; walk_at "b"))
local macro_rules | `(tactic| walk_at "nf") => `(tactic| dsimp only [de_slice, do_none, do_some, ds_swap, dt_inS, de_f_int2, de_isN, dt_isN, de_tupT, dt_tru, de_inC, de_mulT, de_lenK, de_sk, de_funX, de_funX0, ds_raise, ds_tryK, XofX, de_split, de_join, de_part, de_lc2, de_lcI, de_kget, de_kin, de_mk, de_fld, ds_fld, Xof, cxOf, Cx.nox, tInQ, List.map, de_lt2, de_le2, dt_lt2, dt_le2, de_ch, dt_ch, de_chll, dt_chll, de_in, de_nin, dt_in, dt_nin, de_gl, de_strT, de_isi2, de_f_tuple, de_f_list, de_f_sum, de_f_sorted, di_str, di_seq, de_lc, ds_setLc, de_err, de_gX, de_VE, de_f_isi, de_dic0, de_dic1, de_int, de_str, de_bl, de_non, de_v, de_op, de_cmp, de_one, de_and, de_or, de_not, de_neg, de_ifE, da_nil, da_cons, de_tup, de_lst, de_ix, de_callB, de_callT, de_fun, dt_val, dt_cmp, dt_not, dt_w, dw_and1, dw_or1, dw_and, dw_or, dg_name, dgs_nil, dgs_cons, dg_tup, dg_sub, di_list, di_tup, di_range1, di_enum, db_nil, db_one, db_cons, ds_ret, ds_retN, ds_set, ds_asg, ds_if, ds_expr, ds_for, ds_while, ds_break, ds_continue, ds_never, de_bm, de_errF, de_f_len, de_f_int, de_f_abs, de_f_all, de_f_any, de_f_min, de_f_max, de_f_repr, de_add, de_sub, de_mul, de_mod, de_fdiv, de_pow, de_eq, de_ne, de_lt, de_le, de_gt, de_ge, dt_eq, dt_ne, dt_lt, dt_le, dt_gt, dt_ge])
local macro_rules | `(tactic| walk_at "lc3") => `(tactic| (intro _ _ _ _ _; walk_at "g"))
local macro_rules | `(tactic| walk_at "lc4") => `(tactic| (intro _ _ _ _ _; walk_at "e"))
local macro_rules | `(tactic| walk_at "lc5") => `(tactic| (intro _ _ _ _ _; rfl))

/-! ### steps over data -/
local macro_rules | `(tactic| walk_at "x") => `(tactic| first
  | with_reducible refine esm_seq ?_
  | with_reducible refine esm_next ?_
  | with_reducible refine esm_brk ?_
  | with_reducible refine esm_cont ?_
  | with_reducible refine esm_ret ?_
  | with_reducible refine esm_retN ?_
  | with_reducible refine esm_raise (CalE.T (by assumption)) (by assumption) ?_
  | with_reducible refine evm_funTX (by assumption) ?_
  | with_reducible refine evm_funT0 ?_
  | with_reducible refine evm_isi ?_
  | with_reducible refine evm_slice ?_
  | with_reducible refine eom_none ?_
  | with_reducible refine eom_some ?_
  | with_reducible refine esm_swp ?_
  | with_reducible refine evm_popAt rfl ?_
  | with_reducible refine evm_lenO rfl ?_
  | with_reducible refine cw_min2 ?_
  | with_reducible refine esm_asgLN (by decide) ?_
  | with_reducible refine ow_isN rfl ?_
  | with_reducible refine esm_newL ?_
  | (with_reducible refine esm_newD (by exact Nat.le_of_ble_eq_true rfl) ?_; dsimp only [List.set])
  | with_reducible refine esm_asg ?_
  | with_reducible refine esm_if ?_
  | with_reducible refine esm_app rfl ?_
  | with_reducible refine esm_ext rfl ?_
  | with_reducible refine evm_int ?_
  | with_reducible refine evm_str ?_
  | with_reducible refine evm_bl ?_
  | with_reducible refine evm_non ?_
  | with_reducible refine evm_var rfl ?_
  | with_reducible refine evm_c (by assumption) ?_
  | (with_reducible refine evm_own rfl ?_; dsimp only [List.set])
  | (with_reducible refine evm_ownD rfl ?_; dsimp only [List.set])
  | with_reducible refine evm_isStr ?_
  | with_reducible refine evm_ixO rfl ?_
  | with_reducible refine evm_op ?_
  | with_reducible refine evm_chain ?_
  | with_reducible refine evm_fldV (by assumption) rfl (by with_unfolding_all decide) rfl ?_
  | with_reducible refine evm_fldO (by assumption) rfl (by with_unfolding_all decide) rfl ?_
  | with_reducible refine esm_fldN (by assumption) (by with_unfolding_all decide) ?_
  | with_reducible refine evm_if ?_
  | with_reducible refine evm_andV ?_
  | with_reducible refine evm_orV ?_
  | with_reducible refine evm_notV ?_
  | with_reducible refine evm_tup ?_
  | with_reducible refine evm_lst ?_
  | with_reducible refine evm_call ?_
  | with_reducible refine evm_fun ?_
  | with_reducible refine evm_split ?_
  | with_reducible refine evm_join ?_
  | with_reducible refine evm_part ?_
  | with_reducible refine evm_funT ?_
  | with_reducible refine evm_funP rfl ?_
  | with_reducible refine evm_make ?_
  | with_reducible refine eam_nil ?_
  | with_reducible refine eam_cons ?_
  | with_reducible refine etm_test ?_
  | with_reducible refine etm_B ?_
  | with_reducible refine etm_not ?_
  | with_reducible refine etm_and ?_
  | with_reducible refine etm_or ?_
  | with_reducible refine etm_yes ?_
  | with_reducible refine ow_addI ?_
  | with_reducible refine ow_subI ?_
  | with_reducible refine cw_lenL ?_
  | with_reducible refine cw_lenT ?_
  | with_reducible refine cw_int ?_
  | with_reducible refine cw_tupL ?_
  | with_reducible refine cw_lstL ?_
  | with_reducible refine cw_lstT ?_
  | refine br_t (by first | rfl | assumption | exact bnt (by assumption) | exact bnf (by assumption)) ?_
  | refine br_f (by first | rfl | assumption | exact bnt (by assumption) | exact bnf (by assumption)) ?_
  | refine rb_t (by first | rfl | assumption | exact bnt (by assumption) | exact bnf (by assumption)) ?_
  | refine rb_f (by first | rfl | assumption | exact bnt (by assumption) | exact bnf (by assumption)) ?_
  | with_reducible refine eim_varL rfl ?_
  | with_reducible refine eim_varT rfl ?_
  | with_reducible refine eim_varS rfl ?_
  | (with_reducible refine eim_ownL rfl ?_; dsimp only [List.set])
  | with_reducible refine eim_range1 ?_
  | with_reducible refine eim_enum ?_
  | with_reducible refine evm_scrLen rfl ?_
  | with_reducible refine cw_max2 ?_
  | (with_reducible refine lcy ?_; dsimp only [List.set])
  | (with_reducible refine lct ?_; dsimp only [List.set])
  | (with_reducible refine lcy2 ?_; dsimp only [List.set])
  | with_reducible refine esm_forN ?_
  | with_reducible refine esm_forN2 ?_
  | with_reducible refine esm_asg2 ?_
  | with_reducible refine evm_lcY ?_
  | with_reducible refine evm_lcT ?_
  | with_reducible refine evm_lcY2 ?_
  | (with_reducible refine ⟨_, rfl, ?_⟩)
  | (refine ⟨_, _, rfl, (by exact Nat.lt_of_lt_of_le (Nat.lt_succ_self _) (Nat.le_of_ble_eq_true rfl)), ?_⟩; dsimp only [List.set])
  | (refine ⟨Nat.le_of_ble_eq_true rfl, ?_⟩; try dsimp only [List.set]))
local macro_rules | `(tactic| walk_at "xv") => `(tactic| first
  | with_reducible refine ow_ltI ?_
  | with_reducible refine ow_leI ?_
  | with_reducible refine ow_leS ?_
  | with_reducible refine ow_gtI ?_
  | with_reducible refine ow_geI ?_
  | with_reducible refine ow_eqI ?_
  | with_reducible refine ow_eqS ?_
  | with_reducible refine ow_neI ?_
  | with_reducible refine ow_neS ?_)
local macro_rules | `(tactic| walk_at "xo") => `(tactic| first
  | with_reducible refine oc_ltI ?_
  | with_reducible refine oc_leI ?_
  | with_reducible refine oc_leS ?_
  | with_reducible refine oc_gtI ?_
  | with_reducible refine oc_geI ?_
  | with_reducible refine oc_eqI ?_
  | with_reducible refine oc_eqS ?_
  | with_reducible refine oc_neI ?_
  | with_reducible refine oc_neS ?_)
local macro_rules | `(tactic| walk_at "xc") => `(tactic| (walk_at "xo"; intro b hb; cases b <;> walk_at "xs"))
local macro_rules | `(tactic| walk_at "xs") => `(tactic| repeat walk_at "x")
section
variable {P : Program} {w : World} {K : PySem.W.Frag} {mg : Str → Option Value} {base : Heap}
local macro_rules | `(tactic| walk_at "lc") => `(tactic| (refine de_lc [("word", 1)] ‹Shared› ‹Hp› rfl (by assumption) ?_ rfl ?_ ?_ ?_ ?_; walk_at "i"; walk_at "lc3"; walk_at "lc4"; walk_at "lc5"; walk_at "lc5"))
theorem scWords : FnScope ["words", "word"] ["words"] (defScope sLineOfWords) := ⟨rfl, rfl, rfl, by decide +kernel, rfl, by decide +kernel, by decide +kernel⟩
def isCol (w : Str) : Bool := decide (w = "-") || isName w
def wordD (w : Str) : D := if w = "-" then .non else .str w
def lineD (ws : List Str) : D := if decide (7 < (ws.length : Int)) || !ws.all isCol then .non else .tup (ws.map wordD)
abbrev spWords (K : PySem.W.Frag) : Sp := spT K (fun ws : List Str => [.lst (ws.map .str)]) (fun ws => ∀ x ∈ ws, x.length ≤ 1000000) (fun ws r => r = lineD ws)
theorem ok_words {f : Addr} {fd : FuncData} {k : Nat} (F : Fun K "line_of_words" "line_of_words" sLineOfWords f fd) (cN : Cal P w K mg base k "is_name" (spName K)) (gA : mg "all" = none) (gL : mg "len" = none) (gT : mg "tuple" = none) (gM : GlV mg "MOST_THREADS" (.int 7)) (gU : GlV mg "UNKNOWN" (.str "-")) :
    FnG P w K mg base CX0 (k + 1) f fd ["words"] (spWords K) := by
  refine okMT F scWords (fun _ => rfl) (by decide) fun cdv A outer s H E hr gq hu h1 => ?_
  have nd := scWords.nd
  refine ⟨Subtype.val (p := PSs _ _) ?d, Subtype.property ?d, ?r⟩
  case d => walk_at "b"
  case r =>
    walk_at "nf"
    intro ws lw
    show EsM K none Z0 _ [.d (.lst (ws.map .str)), .un] 0 _ _ _ _
    walk_at "xs"
    rw [List.length_map]
    walk_at "xo"
    intro c hc
    refine ⟨_, rfl, ?_⟩
    cases c with
    | true =>
      walk_at "xs"
      unfold lineD
      rw [hc]
      rfl
    | false =>
      have l7 := of_decide_eq_false hc
      walk_at "xs"
      refine ⟨rfl, by rw [List.length_map]; omega, ?_⟩
      refine lcm_on0 (fun x : Str => .str x) (fun x => .bl (isCol x)) (fun x hx κ q => ?_) ?_
      · refine lcy ?_
        dsimp only [List.set]
        unfold isCol at q
        walk_at "xs"
        walk_at "xo"
        intro c2 hc2
        refine ⟨_, rfl, ?_⟩
        rw [hc2] at q
        cases c2 with
        | true =>
          walk_at "xs"
          exact ⟨rfl, q⟩
        | false =>
          walk_at "xs"
          refine ec_name (okd_str (lw x hx)) ?_
          exact ⟨rfl, q⟩
      · walk_at "xs"
        rw [show (fun x => D.bl (isCol x)) = D.bl ∘ isCol from rfl, ← List.map_map]
        refine cw_all ?_
        rw [List.all_map, show (id ∘ isCol) = isCol from rfl]
        refine ⟨_, rfl, ?_⟩
        cases ha : ws.all isCol with
        | false =>
          walk_at "xs"
          unfold lineD
          rw [ha, Bool.not_false, Bool.or_true, if_pos rfl]
        | true =>
          walk_at "xs"
          refine ⟨rfl, by rw [List.length_map]; omega, ?_⟩
          refine lcm_on0 (fun x : Str => .str x) wordD (fun x hx κ q => ?_) ?_
          · refine lcy ?_
            dsimp only [List.set]
            unfold wordD at q
            walk_at "xs"
            walk_at "xo"
            intro c2 hc2
            refine ⟨_, rfl, ?_⟩
            cases c2 with
            | true =>
              rw [if_pos (of_decide_eq_true hc2)] at q
              walk_at "xs"
              exact ⟨rfl, q⟩
            | false =>
              rw [if_neg (of_decide_eq_false hc2)] at q
              walk_at "xs"
              exact ⟨rfl, q⟩
          · walk_at "xs"
            unfold lineD
            rw [hc, ha]
            rfl
/-! ### a text read -/
def badLine (pic : List D) (ws : List Str) : Bool := isN (lineD ws) || (decide ((pic.length : Int) = 7) || (!pic.isEmpty && !decide (((tupLen (lineD ws) : Nat) : Int) = ((tupLen (pic.headD .non) : Nat) : Int))))
def readS : List D → List Str → Except Nat (List D)
  | pic, [] => .ok pic
  | pic, l :: ls => if badLine pic (Txt.split l sp1) then .error (pic.length + 1) else readS (pic ++ [lineD (Txt.split l sp1)]) ls
abbrev spRead (K : PySem.W.Frag) (CT : Addr) : Sp := spTX K (fun d : D => [d]) OkD (fun d r => ∃ x pic, d = .str x ∧ readS [] (Txt.split x nl) = .ok pic ∧ r = .tup pic)
  (fun d C v => C = CT ∧ ((isStrB d = false ∧ v = .int 0) ∨ ∃ x n, d = .str x ∧ readS [] (Txt.split x nl) = .error n ∧ v = .int (n : Nat)))
theorem scRead : FnScope ["text", "picture", "line", "told"] ["text"] (defScope sReadPicture) := ⟨rfl, rfl, rfl, by decide +kernel, rfl, by decide +kernel, by decide +kernel⟩
theorem mem_sum {x : Nat} : ∀ {ys : List Nat}, x ∈ ys → x ≤ ys.sum
  | y :: ys, h => by
    rw [List.sum_cons]
    rcases List.mem_cons.mp h with e | h
    · omega
    · have := mem_sum h
      omega
theorem part_len {x y p : Str} (h : p ∈ Txt.split x y) : p.length ≤ x.length := by
  have h1 := len_join_ge_sum y (Txt.split x y)
  rw [join_eq2, StrLaws.join_split] at h1
  exact Nat.le_trans (mem_sum (List.mem_map_of_mem (f := fun x : Str => x.length) h)) h1
theorem lineD_cases (ws : List Str) : lineD ws = .non ∨ (ws.length ≤ 7 ∧ ws.all isCol = true ∧ lineD ws = .tup (ws.map wordD)) := by
  unfold lineD
  cases h1 : decide (7 < (ws.length : Int)) with
  | true => exact .inl rfl
  | false =>
    cases h2 : ws.all isCol with
    | false => exact .inl rfl
    | true =>
      have := of_decide_eq_false h1
      exact .inr ⟨by omega, rfl, rfl⟩
def TupsD (pic : List D) : Prop := ∀ d ∈ pic, ∃ es, d = .tup es
theorem ok_read {CT : Addr} {f : Addr} {fd : FuncData} {k : Nat} (F : Fun K "read_picture" "read_picture" sReadPicture f fd) (cT : CalE P w K mg base k "BadText" CT) (cL : CalX P w K mg base (k + 1) "lines_of" (spLinesOf K CT)) (cW : Cal P w K mg base (k + 1) "line_of_words" (spWords K))
    (gL : mg "len" = none) (gT : mg "tuple" = none) (gM : GlV mg "MOST_THREADS" (.int 7)) :
    FnG P w K mg base (L2.CX P w) (k + 2) f fd ["text"] (spRead K CT) := by
  refine okMTX F scRead (fun _ => rfl) (by decide) fun cdv A outer s H E W hr gq hu h1 tk po => ?_
  have nd := scRead.nd
  refine ⟨Subtype.val (p := PSs _ _) ?d, Subtype.property ?d, ?r⟩
  case d =>
    refine db_cons ?_ ?_
    · walk_at "s"
    · refine db_cons ?_ ?_
      · refine ds_for (by first | exact PassesOwn.never | assumption) rfl ?_ ?_ ?_
        · walk_at "i"
        · walk_at "g"
        · refine db_cons ?_ ?_
          · walk_at "s"
          · refine db_cons ?_ ?_
            · refine ds_if ?_ ?_ ?_
              · refine dt_w ?_
                refine dw_or ?_ (dw_or ?_ (dw_or1 ?_))
                · walk_at "t"
                · walk_at "t"
                · refine dt_w ?_
                  refine dw_and ?_ (dw_and1 ?_)
                  · refine dt_tru ?_
                    walk_at "e"
                  · walk_at "t"
              · walk_at "b"
              · walk_at "b"
            · walk_at "b"
      · walk_at "b"
  case r =>
    walk_at "nf"
    intro d Z h o
    obtain ⟨t, et⟩ := h.ty
    show EsM K none Z _ [.d d, .un, .un, .un] 0 _ _ _ _
    walk_at "xs"
    refine eim_seqL ?_
    walk_at "xs"
    refine ⟨h, ?_, fun C x z => ⟨z.2.1, .inl ⟨z.1, z.2.2⟩⟩⟩
    intro dl hd
    obtain ⟨x, rfl, rfl⟩ := hd
    refine ⟨_, rfl, ?_⟩
    have lx := h.l x rfl
    have lp : ∀ p ∈ Txt.split x nl, p.length ≤ 1000000 := fun p hp => Nat.le_trans (part_len hp) lx
    refine (?_ : ∀ (ls : List Str) (pic : List D) (u v : Sx), (∀ p ∈ ls, p.length ≤ 1000000) → pic.length ≤ 7 → TupsD pic → readS pic ls = readS [] (Txt.split x nl) → LoopN K none Z _ 2 _ _ (ls.map .str) [.d (.str x), .own (.lst pic), u, v] 0) _ [] .un .un lp (by decide) (fun d hd => nomatch hd) rfl
    intro ls
    induction ls with
    | nil =>
      intro pic u v _ l7 tp er
      show EsM K none Z _ _ _ _ _ _ _
      walk_at "xs"
      exact ⟨x, pic, rfl, er.symm, rfl⟩
    | cons l ls ih =>
      intro pic u v lp l7 tp er
      refine ⟨by exact Nat.le_of_ble_eq_true rfl, ?_⟩
      dsimp only [List.set]
      walk_at "xs"
      refine ⟨rfl, lp l (.head _), ?_⟩
      walk_at "xs"
      refine ⟨fun p hp => Nat.le_trans (part_len hp) (lp l (.head _)), ?_⟩
      intro dr er2
      subst er2
      refine ⟨by exact Nat.le_of_ble_eq_true rfl, ?_⟩
      dsimp only [List.set]
      have er' : (if badLine pic (Txt.split l sp1) then .error (pic.length + 1) else readS (pic ++ [lineD (Txt.split l sp1)]) ls) = readS [] (Txt.split x nl) := er
      have ety : ∃ t, tyN (lineD (Txt.split l sp1)) = some t := by
        rcases lineD_cases (Txt.split l sp1) with e | ⟨_, _, e⟩ <;> rw [e] <;> exact ⟨_, rfl⟩
      obtain ⟨tl, ety⟩ := ety
      have bad : ∀ {q : Bool}, badLine pic (Txt.split l sp1) = q → q = true → CT = CT ∧ ((isStrB (.str x) = false ∧ D.int ((pic.length : Int) + 1) = .int 0) ∨ ∃ y n, D.str x = .str y ∧ readS [] (Txt.split y nl) = .error n ∧ D.int ((pic.length : Int) + 1) = .int (n : Nat)) := fun {q} e eq => by
        rw [eq] at e
        rw [if_pos e] at er'
        exact ⟨rfl, .inr ⟨x, pic.length + 1, rfl, er'.symm, by simp⟩⟩
      walk_at "xs"
      refine ow_isN ety ?_
      refine ⟨_, rfl, ?_⟩
      unfold badLine at bad er'
      cases hn : isN (lineD (Txt.split l sp1)) with
      | true =>
        walk_at "xs"
        exact bad (by rw [hn]; rfl) rfl
      | false =>
        walk_at "xs"
        walk_at "xo"
        intro c7 h7
        refine ⟨_, rfl, ?_⟩
        cases c7 with
        | true =>
          walk_at "xs"
          exact bad (by rw [hn, h7]; rfl) rfl
        | false =>
          walk_at "xs"
          refine etm_truO rfl ?_
          rcases lineD_cases (Txt.split l sp1) with e | ⟨wl, wall, e⟩
          · rw [e] at hn
            cases hn
          have n7 : pic.length < 7 := by
            have := of_decide_eq_false h7
            omega
          have next : badLine pic (Txt.split l sp1) = false → readS (pic ++ [lineD (Txt.split l sp1)]) ls = readS [] (Txt.split x nl) := fun e => by
            have er2 := er
            rw [← er2]
            show _ = if badLine pic (Txt.split l sp1) then _ else _
            rw [if_neg (by rw [e]; exact Bool.false_ne_true)]
          have go : badLine pic (Txt.split l sp1) = false → ∀ (u v : Sx), LoopN K none Z _ 2 _ _ (ls.map .str) [.d (.str x), .own (.lst (pic ++ [lineD (Txt.split l sp1)])), u, v] 0 := fun e2 u v =>
            ih (pic ++ [lineD (Txt.split l sp1)]) u v (fun p hp => lp p (.tail _ hp)) (by rw [List.length_append]; exact n7) (fun d hd => by
              rcases List.mem_append.mp hd with hd | hd
              · exact tp d hd
              · rw [List.mem_singleton.mp hd, e]
                exact ⟨_, rfl⟩) (next e2)
          unfold badLine at go
          cases pic with
          | nil =>
            walk_at "xs"
            exact go (by rw [hn]; rfl) _ _
          | cons d ds =>
            obtain ⟨es, rfl⟩ := tp d (.head _)
            refine br_t rfl ?_
            simp only [show lineD (Txt.split l (Str.ofString " ")) = D.tup ((Txt.split l sp1).map wordD) from e]
            walk_at "xs"
            refine ⟨rfl, 0, _, rfl, atI_zero, ?_⟩
            walk_at "xs"
            walk_at "xo"
            intro cl hcl
            refine ⟨_, rfl, ?_⟩
            cases cl with
            | true =>
              walk_at "xs"
              exact bad (by rw [hn, h7, e]; exact hcl) rfl
            | false =>
              walk_at "xs"
              refine ⟨Nat.lt_trans n7 (by decide), ?_⟩
              have gg := go (by rw [hn, h7, e]; exact hcl) (.d (.str l)) (.d (lineD (Txt.split l sp1)))
              simp only [e] at gg
              exact gg
end
end Tp

namespace Tp
open PySem PySem.Spec PyProof.Rows L2
/-! ### the derivations, by the syntax -/
local macro_rules | `(tactic| walk_at "pv") => `(tactic| first | exact de_v 0 | exact de_v 1 | exact de_v 2 | exact de_v 3 | exact de_v 4 | exact de_v 5 | exact de_v 6 | exact de_v 7 | exact de_v 8 | exact de_v 9 | exact de_v 10 | exact de_v 11)
local macro_rules | `(tactic| walk_at "rm") => `(tactic| first | assumption | exact Room.mono (by assumption) (by decide))
local macro_rules | `(tactic| walk_at "e") => `(tactic| first
  | exact de_int
  | exact de_str
  | exact de_bl
  | exact de_non
  | (refine de_add ?_ ?_ <;> walk_at "e")
  | (refine de_sub ?_ ?_ <;> walk_at "e")
  | (refine de_mul ?_ ?_ <;> walk_at "e")
  | (refine de_mod ?_ ?_ <;> walk_at "e")
  | (refine de_fdiv ?_ ?_ <;> walk_at "e")
  | (refine de_pow ?_ ?_ <;> walk_at "e")
  | (refine de_eq (by assumption) ?_ ?_ <;> walk_at "e")
  | (refine de_ne (by assumption) ?_ ?_ <;> walk_at "e")
  | (refine de_lt ?_ ?_ <;> walk_at "e")
  | (refine de_le ?_ ?_ <;> walk_at "e")
  | (refine de_gt ?_ ?_ <;> walk_at "e")
  | (refine de_ge ?_ ?_ <;> walk_at "e")
  | (refine de_one ?_; walk_at "e")
  | (refine de_and ?_ ?_ <;> walk_at "e")
  | (refine de_or ?_ ?_ <;> walk_at "e")
  | (refine de_not ?_; walk_at "e")
  | (refine de_neg ?_; walk_at "e")
  | (refine de_ifE ?_ ?_ ?_; walk_at "t"; walk_at "e"; walk_at "e")
  | (refine de_tup ?_ (fun _ h => pe_tup h); walk_at "a")
  | (refine de_lst ?_ (fun _ h => pe_lst h); walk_at "a")
  | exact de_dic0
  | (refine de_dic1 ?_; walk_at "e")
  | (refine de_errF ?_; walk_at "e")
  | walk_at "lc"
  | (refine de_ix ix_seq ?_ ?_ (fun _ _ => rfl) <;> walk_at "e")
  | walk_at "c"
  | (refine de_fun (by assumption) (by walk_at "rm") (by assumption) (by rfl) ?_; walk_at "a")
  | (refine de_err (by assumption) (by walk_at "rm") (by assumption) (by rfl) ?_; walk_at "a")
  | walk_at "pv"
  | exact de_gX (by assumption) (by rfl)
  | exact de_VE (by rfl) (by assumption))
local macro_rules | `(tactic| walk_at "c") => `(tactic| first
  | (refine de_f_len (by assumption) (by rfl) ?_; walk_at "a")
  | (refine de_f_int (by assumption) (by rfl) ?_; walk_at "a")
  | (refine de_f_abs (by assumption) (by rfl) ?_; walk_at "a")
  | (refine de_f_all rfl (by assumption) (by rfl) ?_; walk_at "a")
  | (refine de_f_any rfl (by assumption) (by rfl) ?_; walk_at "a")
  | (refine de_f_min rfl (by assumption) (by rfl) ?_; walk_at "a")
  | (refine de_f_max rfl (by assumption) (by rfl) ?_; walk_at "a")
  | (refine de_f_isi (by assumption) (by rfl) ?_; walk_at "a")
  | (refine de_f_repr (by assumption) (by assumption) (by assumption) (by assumption) (by rfl) ?_; walk_at "a"))
local macro_rules | `(tactic| walk_at "a") => `(tactic| first
  | exact da_nil
  | (refine da_cons ?_ ?_; walk_at "e"; walk_at "a"))
local macro_rules | `(tactic| walk_at "t") => `(tactic| first
  | (refine dt_lt ?_ ?_ <;> walk_at "e")
  | (refine dt_le ?_ ?_ <;> walk_at "e")
  | (refine dt_gt ?_ ?_ <;> walk_at "e")
  | (refine dt_ge ?_ ?_ <;> walk_at "e")
  | (refine dt_eq (by assumption) ?_ ?_ <;> walk_at "e")
  | (refine dt_ne (by assumption) ?_ ?_ <;> walk_at "e")
  | (refine dt_not ?_; walk_at "t")
  | (refine dt_w ?_; walk_at "w")
  | (refine dt_val ?_; walk_at "e"))
local macro_rules | `(tactic| walk_at "w") => `(tactic| first
  | (refine dw_and1 ?_; walk_at "t")
  | (refine dw_or1 ?_; walk_at "t")
  | (refine dw_and ?_ ?_; walk_at "t"; walk_at "w")
  | (refine dw_or ?_ ?_; walk_at "t"; walk_at "w"))
local macro_rules | `(tactic| walk_at "set") => `(tactic| first
  | refine ds_set 1 (by assumption) ?_
  | refine ds_set 2 (by assumption) ?_
  | refine ds_set 3 (by assumption) ?_
  | refine ds_set 4 (by assumption) ?_
  | refine ds_set 5 (by assumption) ?_
  | refine ds_set 6 (by assumption) ?_
  | refine ds_set 7 (by assumption) ?_
  | refine ds_set 8 (by assumption) ?_
  | refine ds_set 9 (by assumption) ?_
  | refine ds_set 10 (by assumption) ?_
  | refine ds_set 0 (by assumption) ?_)
local macro_rules | `(tactic| walk_at "g") => `(tactic| first
  | exact dg_name 1 (by assumption)
  | exact dg_name 2 (by assumption)
  | exact dg_name 3 (by assumption)
  | exact dg_name 4 (by assumption)
  | exact dg_name 5 (by assumption)
  | exact dg_name 6 (by assumption)
  | exact dg_name 7 (by assumption)
  | exact dg_name 8 (by assumption)
  | exact dg_name 9 (by assumption)
  | (refine dg_tup 2 rfl ?_; walk_at "gs")
  | (refine dg_tup 3 rfl ?_; walk_at "gs"))
local macro_rules | `(tactic| walk_at "gs") => `(tactic| first
  | exact dgs_nil
  | (refine dgs_cons ?_ ?_; walk_at "g"; walk_at "gs"))
local macro_rules | `(tactic| walk_at "i") => `(tactic| first
  | (refine di_range1 (by rfl) (by assumption) ?_; walk_at "a")
  | (refine di_enum (by rfl) (by assumption) ?_; walk_at "a")
  | (refine di_list ?_; walk_at "e"))
local macro_rules | `(tactic| walk_at "s") => `(tactic| first
  | (refine ds_ret ?_; walk_at "e")
  | (walk_at "set"; walk_at "e")
  | (refine ds_if ?_ ?_ ?_; walk_at "t"; walk_at "b"; walk_at "b")
  | (refine ds_expr (de_bm ?_ ?_ (fun _ _ h k => pe_bm PySem.F.plainAttrs_list PySem.F.slot_list_append PySem.F.type_list_append mt_append h k)); walk_at "e"; walk_at "a")
  | (refine ds_expr (de_bm ?_ ?_ (fun _ _ h k => pe_bm PySem.F.plainAttrs_list PySem.F.slot_list_extend PySem.F.type_list_extend mt_extend h k)); walk_at "e"; walk_at "a")
  | (refine ds_asg ?_ (dg_sub ?_ ?_ set_list); walk_at "e"; walk_at "e"; walk_at "e")
  | (refine ds_for PassesOwn.never rfl ?_ ?_ ?_; walk_at "i"; walk_at "g"; walk_at "b"))
local macro_rules | `(tactic| walk_at "b") => `(tactic| first
  | exact db_nil
  | (refine db_one ?_; walk_at "s")
  | (refine db_cons ?_ ?_; walk_at "s"; walk_at "b"))
local macro_rules | `(tactic| walk_at "nf") => `(tactic| dsimp only [de_lc, ds_setLc, de_err, de_gX, de_VE, de_f_isi, de_dic0, de_dic1, de_int, de_str, de_bl, de_non, de_v, de_op, de_cmp, de_one, de_and, de_or, de_not, de_neg, de_ifE, da_nil, da_cons, de_tup, de_lst, de_ix, de_callB, de_callT, de_fun, dt_val, dt_cmp, dt_not, dt_w, dw_and1, dw_or1, dw_and, dw_or, dg_name, dgs_nil, dgs_cons, dg_tup, dg_sub, di_list, di_tup, di_range1, di_enum, db_nil, db_one, db_cons, ds_ret, ds_retN, ds_set, ds_asg, ds_if, ds_expr, ds_for, ds_while, ds_break, ds_continue, ds_never, de_bm, de_errF, de_f_len, de_f_int, de_f_abs, de_f_all, de_f_any, de_f_min, de_f_max, de_f_repr, de_add, de_sub, de_mul, de_mod, de_fdiv, de_pow, de_eq, de_ne, de_lt, de_le, de_gt, de_ge, dt_eq, dt_ne, dt_lt, dt_le, dt_gt, dt_ge])
local macro_rules | `(tactic| walk_at "k") => `(tactic| first
  | exact ev_int
  | exact ev_str
  | exact ev_bl
  | exact ev_non
  | exact ev_dic0
  | exact ea_nil
  | exact ev_negC
  | exact ev_var rfl
  | exact ev_errC (by assumption) rfl
  | exact ev_isC (by assumption) (fun _ z => z) (by assumption) rfl
  | exact ev_powC ⟨by decide, by decide +kernel⟩
  | (refine ea_c ?_ ?_ <;> walk_at "k")
  | (refine ev_tupC ?_; walk_at "k")
  | (refine ev_lstC ?_; walk_at "k")
  | (refine ev_dicC ?_; walk_at "k"))
local macro_rules | `(tactic| walk_at "lc3") => `(tactic| (intro _ _ _ _ _; walk_at "g"))
local macro_rules | `(tactic| walk_at "lc4") => `(tactic| (intro _ _ _ _ _; walk_at "e"))
local macro_rules | `(tactic| walk_at "lc5") => `(tactic| (intro _ _ _ _ _; rfl))
section
variable {P : Program} {w : World} {K : PySem.W.Frag} {mg : Str → Option Value} {base : Heap}
/-- what a draw promises: an int from 0 to below upto -/
abbrev preTake : List D → Prop := fun ds => ∃ u : Int, ds = [.int u] ∧ 0 < u ∧ u ≤ 1000000
abbrev postTake : List D → D → Prop := fun ds d => ∃ u r : Int, ds = [.int u] ∧ d = .int r ∧ 0 ≤ r ∧ r < u
/-- one of some things -/
abbrev preOf : List D → Prop := fun ds => ∃ xs : List D, ds = [.lst xs] ∧ 0 < xs.length ∧ xs.length ≤ 1000000
abbrev postOf : List D → D → Prop := fun ds d => ∃ xs : List D, ds = [.lst xs] ∧ d ∈ xs
/-! ### values as they are written -/
section
variable {K : PySem.W.Frag} {P : Option Addr} {Z : Bas} {ρ : List Sx} {te : TE} {tr : TA} {d : D} {ds : List D}
theorem ea_c (h : Ev K P Z te ρ 0 (· = d)) (h2 : EvA K P Z tr ρ 0 (· = ds)) : EvA K P Z (tCons te tr) ρ 0 (· = d :: ds) := (ea_cons h h2).imp fun ds p => by
  obtain ⟨d, es, rfl, rfl, rfl⟩ := p
  rfl
theorem ev_tupC (h : EvA K P Z tr ρ 0 (· = ds)) (l : ds.length ≤ 1000000 := by exact Nat.le_of_ble_eq_true rfl) : Ev K P Z (tTup tr) ρ 0 (· = .tup ds) := (ev_tup h fun _ e => e ▸ l).imp fun d p => by
  obtain ⟨ds, rfl, rfl⟩ := p
  rfl
theorem ev_lstC (h : EvA K P Z tr ρ 0 (· = ds)) (l : ds.length ≤ 1000000 := by exact Nat.le_of_ble_eq_true rfl) : Ev K P Z (tLst tr) ρ 0 (· = .lst ds) := (ev_lst h fun _ e => e ▸ l).imp fun d p => by
  obtain ⟨ds, rfl, rfl⟩ := p
  rfl
theorem ev_dicC {z : Str} (h : Ev K P Z te ρ 0 (· = d)) : Ev K P Z (tDisp [(tC (.str z), te)]) ρ 0 (· = .dic [(.inr z, d)]) := (ev_dic1 h).imp fun d p => by
  obtain ⟨ds, rfl, rfl⟩ := p
  rfl
theorem ev_negC {i : Int} : Ev K P Z (tUn (rU fun i => .int (-i)) (tC (.int i))) ρ 0 (· = .int (-i)) := fun M0 σ G M H m Q a l q => ⟨i, rfl, q _ _ G M H (Step.refl a.sep) a rfl (.int _)⟩
theorem ev_powC {i j : Int} (h : CPowW i j) : Ev K P Z (tOp (rI CPowW fun i j => .int (i ^ j.toNat)) (tC (.int i)) (tC (.int j))) ρ 0 (· = .int (i ^ j.toNat)) := ev_op (φ := (· = .int i)) (ψ := (· = .int j)) ev_int ev_int fun a b p q => by
  subst p q
  exact opd_I (K := K) (g := fun i j => .int (i ^ j.toNat)) h fun _ => .int _
end
theorem scTake : FnScope ["pot", "upto", "digit", "prime", "stirred"] ["pot", "upto"] (defScope sTake) := ⟨rfl, rfl, rfl, by decide +kernel, rfl, by decide +kernel, by decide +kernel⟩
theorem ok_take {f : Addr} {fd : FuncData} (F : Fun K "_law_take" "_law_take" sTake f fd) (gI : mg "int" = none) :
    FnG P w K mg base CX0 1 f fd ["pot", "upto"] (spP K 1 preTake postTake) := by
  refine okG0 F scTake (fun vs H Q E h => ?_) (fun cdv A outer s H vs Q E hr gq h => ?_)
  · obtain ⟨p, us, G, M, m, ds, rfl, _, _, _, _, hv, ⟨u, rfl, _⟩, _⟩ := h
    cases hv with
    | cons h1 h2 =>
      cases h2
      rfl
  · have nd := scTake.nd
    refine ⟨Subtype.val (p := PSs _ _) ?d, Subtype.property ?d, ?r⟩
    case d =>
      walk_at "b"
    case r =>
      walk_at "nf"
      refine body_P (N := ["pot", "upto", "digit", "prime", "stirred"]) (fun ds q => ?_) (fun p ds q => ?_) h
      · obtain ⟨u, rfl, _⟩ := q
        exact Nat.le_of_ble_eq_true rfl
      · obtain ⟨u, rfl, u0, u1⟩ := q
        have eu : ∀ a b c : Sx, Ev K (some p) Z0 (tVar 1) ([.pot, .d (.int u), a, b, c] : List Sx) 0 (fun d => ∃ b : Int, d = .int b ∧ 0 < b ∧ b ≤ 1000000) := fun _ _ _ => (ev_var rfl).imp fun d e => ⟨u, e, u0, u1⟩
        have fin : ∀ d, (∃ r : Int, d = .int r ∧ 0 ≤ r ∧ r < u) → postTake [.int u] d := fun d z => by
          obtain ⟨r, rfl, h1, h2⟩ := z
          exact ⟨u, r, rfl, rfl, h1, h2⟩
        have modu : ∀ {A : Int} {ta : TE} (a b c : Sx), Ev K (some p) Z0 ta ([.pot, .d (.int u), a, b, c] : List Sx) 0 (In0 A) → Ev K (some p) Z0 (tOp (rI (fun _ j => 0 < j) fun i j => .int (i % j)) ta (tVar 1)) ([.pot, .d (.int u), a, b, c] : List Sx) 0 (In0 u) := fun a b c ha =>
          ev_modB ha ((ev_var (x := .int u) rfl).imp fun d e => ⟨u, e, u0, Int.le_refl _⟩)
        show Es K (some p) Z0 _ [.pot, .d (.int u), .un, .un, .un] 1 _ _ _ _
        refine q_if (k1 := 0) (k2 := 1) (et_gt0 (ev_pot0 rfl)) (fun _ => ?_) (fun _ => ?_) ?_
        · refine q_asg (k2 := 0) (modu _ _ _ (ev_intB (ea_one (ev_pot0 rfl)))) fun d hd => ?_
          obtain ⟨r, rfl, h1, h2⟩ := hd
          refine q_keep (k2 := 0) (es_pot0 rfl (ev_fdivB (ev_pot0 rfl) (eu _ _ _))) ?_
          exact q_ret (ev_var (x := .int r) rfl) fun d e => fin d ⟨r, e, h1, h2⟩
        · exact q_next rfl
        · refine q_keep (k2 := 0) (es_pot2 rfl) ?_
          refine q_asg (φ := fun d => ∃ b : Int, d = .int b ∧ 0 < b ∧ b ≤ 2147483647) (k2 := 0) (ev_ixL (n := 5) ((ev_lst (ea_cons ev_int (ea_cons ev_int (ea_cons ev_int (ea_cons ev_int (ea_cons ev_int ea_nil))))) fun ds z => ?_).imp fun d z => ?_) (ev_modB (ev_intB (ea_one (ev_pot2 rfl))) pos_c)) fun d hd => ?_
          · obtain ⟨_, _, rfl, rfl, _, _, rfl, rfl, _, _, rfl, rfl, _, _, rfl, rfl, _, _, rfl, rfl, rfl⟩ := z
            exact Nat.le_of_ble_eq_true rfl
          · obtain ⟨_, rfl, _, _, rfl, rfl, _, _, rfl, rfl, _, _, rfl, rfl, _, _, rfl, rfl, _, _, rfl, rfl, rfl⟩ := z
            refine ⟨_, rfl, rfl, fun d hd => ?_⟩
            simp only [List.mem_cons, List.not_mem_nil, or_false] at hd
            rcases hd with rfl | rfl | rfl | rfl | rfl <;> exact ⟨_, rfl, by decide, by decide⟩
          · obtain ⟨pr, rfl, p0, p1⟩ := hd
            refine q_asg (φ := In0 2147483647) (k2 := 0) (ev_modB (ev_intB (ea_one (ev_cubeB (ev_intB (ea_one (ev_addB (ev_addB (ev_pot1 rfl) (ev_mulB (ev_mulB in0_c (ev_pot2 rfl)) (ev_pot2 rfl))) in0_c)))))) ((ev_var (x := .int pr) rfl).imp fun d e => ⟨pr, e, p0, p1⟩)) fun d hd => ?_
            have vs := hd
            refine q_asg (φ := In0 2305843009213693907) (k2 := 0) (ev_modB (ev_intB (ea_one (ev_mulB ((ev_var (x := d) rfl).imp fun d' e => e ▸ vs) (ev_addB (ev_modB (ev_intB (ea_one ((ev_var (x := d) rfl).imp fun d' e => e ▸ vs))) pos_c) (ev_mulB in0_c (ev_pot2 rfl)))))) pos_c) fun d2 hd2 => ?_
            refine q_ret (modu _ _ _ (ev_intB (ea_one (ev_fdivB ((ev_var (x := d2) rfl).imp fun d' e => e ▸ hd2) pos_c)))) fun d z => fin d z
theorem scOf : FnScope ["pot", "some"] ["pot", "some"] (defScope sOf) := ⟨rfl, rfl, rfl, by decide +kernel, rfl, by decide +kernel, by decide +kernel⟩
theorem ok_of {f : Addr} {fd : FuncData} (F : Fun K "_law_of" "_law_of" sOf f fd) (gL : mg "len" = none) {k : Nat} (cTake : Cal P w K mg base k "_law_take" (spP K 1 preTake postTake)) :
    FnG P w K mg base CX0 (k + 1) f fd ["pot", "some"] (spP K 1 preOf postOf) := by
  refine okG0 F scOf (fun vs H Q E h => ?_) (fun cdv A outer s H vs Q E hr gq h => ?_)
  · obtain ⟨p, us, G, M, m, ds, rfl, _, _, _, _, hv, ⟨u, rfl, _⟩, _⟩ := h
    cases hv with
    | cons h1 h2 =>
      cases h2
      rfl
  · have nd := scOf.nd
    refine ⟨Subtype.val (p := PSs _ _) ?d, Subtype.property ?d, ?r⟩
    case d =>
      walk_at "b"
    case r =>
      walk_at "nf"
      refine body_P (N := ["pot", "some"]) (fun ds q => ?_) (fun p ds q => ?_) h
      · obtain ⟨u, rfl, _⟩ := q
        exact Nat.le_of_ble_eq_true rfl
      · obtain ⟨xs, rfl, u0, u1⟩ := q
        show Es K (some p) Z0 _ [.pot, .d (.lst xs)] 1 _ _ _ _
        refine q_ret (k1 := 0 + (0 + 0 + 0 + 1)) (φ := fun d => d ∈ xs) (ev_op (φ := (· = .lst xs)) (ψ := fun d => ∃ r : Int, d = .int r ∧ 0 ≤ r ∧ r < xs.length) (ev_var rfl) ((ev_funP (pre := preTake) (post := postTake) rfl (ea_one (ev_call (χ := (· = .int (xs.length : Nat))) (ea_one (ev_var (x := .lst xs) rfl)) fun ds z => ?_)) fun ds z => ?_).imp fun d z => ?_) fun a b z1 z2 => ?_) fun d z => ⟨xs, rfl, z⟩
        · obtain ⟨d, rfl, rfl⟩ := z
          exact cd_lenL
        · obtain ⟨d, rfl, rfl⟩ := z
          exact ⟨_, rfl, by omega, by omega⟩
        · obtain ⟨ds, ⟨d, rfl, rfl⟩, u, r, e1, rfl, h1, h2⟩ := z
          cases e1
          exact ⟨r, rfl, h1, h2⟩
        · obtain rfl := z1
          obtain ⟨j, rfl, h3, h4⟩ := z2
          have l : j.toNat < xs.length := by omega
          have e : L2.atI xs j = some xs[j.toNat] := by
            unfold L2.atI ixN
            rw [if_pos h3, if_pos (by omega)]
            exact List.getElem?_eq_getElem l
          exact fun x y G M H Q s ha hb f => od_ixL e x y G M H Q s ha hb fun z d G2 H2 st ed dv => f z d G2 H2 st (ed ▸ List.getElem_mem l) dv
theorem scPot : FnScope ["script", "number", "cell", "own", "stirred"] ["script", "number"] (defScope sPot) := ⟨rfl, rfl, rfl, by decide +kernel, rfl, by decide +kernel, by decide +kernel⟩
/-- the draws of a cell: a new list, owned -/
abbrev spPot (K : PySem.W.Frag) : Sp := fun vs H Q _ => ∃ (a : Addr) (ns : List Int) (i : Nat) (G M : Hp), vs = [.ref a, .int i] ∧ Sep G M H ∧ SqL K G a (ns.map V.int) ∧ ns.length ≤ 1000000 ∧ i ≤ 63 ∧
  ∀ p G2 M2 H2, Step G M H G2 M2 H2 → M p = none → PotM (some p) 0 M2 → (∀ b, b ≠ p → M2 b = M b) → (∃ o, M2 p = some o) → Q (.ref p) H2
theorem ev_scrLen {P : Option Addr} {Z : Bas} {ρ : List Sx} {j : Nat} {ns : List Int} (e : ρ[j]? = some (.scr ns)) : Ev K P Z (tCB (rLen1 K) (tCons (tVar j) tNil)) ρ 0 (· = .int (ns.length : Nat)) := fun M0 σ G M H m Q a l q => by
  obtain ⟨b, e1, h⟩ := a.sl j _ e
  exact ⟨.ref b, e1, _, ns.length, rfl, .inl ⟨_, a.sep.g.sqLd h, by simp⟩, q _ _ G M H (Step.refl a.sep) a rfl (.int _)⟩
theorem ev_scrIx {P : Option Addr} {Z : Bas} {ρ : List Sx} {j i : Nat} {ns : List Int} {x : Nat} (e : ρ[j]? = some (.scr ns)) (e2 : ρ[i]? = some (.d (.int (x : Nat)))) (l : x < ns.length) : Ev K P Z (tOp (rIx K) (tVar j) (tVar i)) ρ 0 (fun d => ∃ n : Int, d = .int n) := fun M0 σ G M H m Q a _ q => by
  obtain ⟨b, e1, h⟩ := a.sl j _ e
  obtain ⟨v, e3, h2⟩ := a.sl i _ e2
  cases h2
  refine ⟨.ref b, e1, .int x, e3, .inl ⟨b, _, x, .int ns[x], rfl, rfl, a.sep.g.sqLd h, ?_, q _ _ G M H (Step.refl a.sep) a ⟨_, rfl⟩ (.int _)⟩⟩
  unfold L2.atI ixN
  rw [if_pos (by omega), if_pos (by rw [List.length_map]; omega)]
  show (ns.map V.int)[(x : Int).toNat]? = _
  rw [Int.toNat_natCast, List.getElem?_map, List.getElem?_eq_getElem l]
  rfl
abbrev rAbs1 : List V → Hp → VK → Prop := fun xs H Q => ∃ i, xs = [.int i] ∧ Q (.int (if i < 0 then -i else i)) H
theorem cd_abs {i : Int} : CallD K rAbs1 [.int i] (fun d => ∃ n : Int, d = .int n ∧ 0 ≤ n) := fun vs G M H Q s h q => by
  cases h with
  | cons h k =>
    cases k
    cases h
    exact ⟨i, rfl, q _ _ G H (Step.refl s) ⟨_, rfl, by split <;> omega⟩ (.int _)⟩
theorem ev_intA {P : Option Addr} {Z : Bas} {ρ : List Sx} {tr : TA} {k : Nat} {φ : Int → Prop} (h : EvA K P Z tr ρ k (fun ds => ∃ n : Int, ds = [.int n] ∧ φ n)) : Ev K P Z (tCB rInt1 tr) ρ k (fun d => ∃ n : Int, d = .int n ∧ φ n) := ev_call (χ := fun d => ∃ n : Int, d = .int n ∧ φ n) h fun ds p => by
  obtain ⟨i, rfl, h1⟩ := p
  exact fun vs G M H Q s hv f => cd_int vs G M H Q s hv fun z d G2 H2 st e dv => f z d G2 H2 st ⟨i, e, h1⟩ dv
theorem ea_int {P : Option Addr} {Z : Bas} {ρ : List Sx} {te : TE} {k : Nat} {φ : Int → Prop} (h : Ev K P Z te ρ k (fun d => ∃ n : Int, d = .int n ∧ φ n)) : EvA K P Z (tCons te tNil) ρ k (fun ds => ∃ n : Int, ds = [.int n] ∧ φ n) := (ea_one h).imp fun ds p => by
  obtain ⟨d, rfl, n, rfl, h⟩ := p
  exact ⟨n, rfl, h⟩
theorem ev_absA {P : Option Addr} {Z : Bas} {ρ : List Sx} {te : TE} {k : Nat} {φ : Int → Prop} (h : Ev K P Z te ρ k (fun d => ∃ n : Int, d = .int n ∧ φ n)) : Ev K P Z (tCB rAbs1 (tCons te tNil)) ρ k (fun d => ∃ n : Int, d = .int n ∧ 0 ≤ n) := ev_call (ea_int h) fun ds p => by
  obtain ⟨i, rfl, h1⟩ := p
  exact cd_abs
theorem ev_modA {P : Option Addr} {Z : Bas} {ρ : List Sx} {ta tb : TE} {ka kb : Nat} {B : Int} {φ : Int → Prop} (ha : Ev K P Z ta ρ ka (fun d => ∃ n : Int, d = .int n ∧ φ n)) (hb : Ev K P Z tb ρ kb (· = .int B)) (hB : 0 < B := by decide +kernel) : Ev K P Z (tOp (rI (fun _ j => 0 < j) fun i j => .int (i % j)) ta tb) ρ (ka + kb) (In0 B) := ev_op ha hb fun a b p q => by
  obtain ⟨i, rfl, h1⟩ := p
  subst q
  have m1 := Int.emod_nonneg i (b := B) (by omega)
  have m2 := Int.emod_lt_of_pos i hB
  exact fun x y G M H Q s ha hb f => od_mod hB x y G M H Q s ha hb fun z d G2 H2 st e dv => f z d G2 H2 st ⟨i % B, e, m1, m2⟩ dv
theorem ev_powD {P : Option Addr} {Z : Bas} {ρ : List Sx} {ta : TE} {i j : Int} (ha : Ev K P Z ta ρ 0 (· = .int i)) (h : CPowW i j) : Ev K P Z (tOp (rI CPowW fun i j => .int (i ^ j.toNat)) ta (tC (.int j))) ρ 0 (· = .int (i ^ j.toNat)) := ev_op (φ := (· = .int i)) (ψ := (· = .int j)) ha ev_int fun a b p q => by
  subst p q
  exact opd_I (K := K) (g := fun i j => .int (i ^ j.toNat)) h fun _ => .int _
theorem ev_geB {P : Option Addr} {Z : Bas} {ρ : List Sx} {ta tb : TE} {k : Nat} {φ : Int → Prop} {B : Int} (ha : Ev K P Z ta ρ k (fun d => ∃ n : Int, d = .int n ∧ φ n)) (hb : Ev K P Z tb ρ 0 (· = .int B)) : Ev K P Z (tOp (rI0 fun i j => .bl (decide (j ≤ i))) ta tb) ρ (k + 0) (fun d => ∃ b, d = .bl b) := ev_op ha hb fun a b p q => by
  obtain ⟨i, rfl, _⟩ := p
  subst q
  exact fun x y G M H Q s ha hb f => od_ge x y G M H Q s ha hb fun z d G2 H2 st e dv => f z d G2 H2 st ⟨_, e⟩ dv
theorem ev_intBl {P : Option Addr} {Z : Bas} {ρ : List Sx} {te : TE} {k : Nat} (h : Ev K P Z te ρ k (fun d => ∃ b, d = .bl b)) : Ev K P Z (tCB rInt1 (tCons te tNil)) ρ k (In0 2) := ev_call (χ := In0 2) (ea_one h) fun ds p => by
  obtain ⟨d, rfl, b, rfl⟩ := p
  exact fun vs G M H Q s hv f => cd_intB vs G M H Q s hv fun z d G2 H2 st e dv => f z d G2 H2 st ⟨_, e, by cases b <;> decide, by cases b <;> decide⟩ dv
theorem r_asg {P : Option Addr} {Z : Bas} {ρ : List Sx} {te : TE} {u : TS} {M0 G M H : Hp} {m k i : Nat} {σ : L2.St} {φ : D → Prop} {E : Ends} (a : At K P Z M0 m G M H σ ρ) (h : Ev K P Z te ρ k φ) (q : ∀ v d G2 M2 H2, Step G M H G2 M2 H2 → At K P Z M0 (m + k) G2 M2 H2 (σ.set i (some v)) (ρ.set i (.d d)) → φ d → u E (σ.set i (some v)) H2)
    (l : m + k ≤ BIG := by decide) (li : i < ρ.length := by exact Nat.le_of_ble_eq_true rfl) : tSeq (tAsg te (gName i)) u E σ H :=
  h M0 σ G M H m _ a l fun v d G2 M2 H2 s2 a2 p2 w2 => q v d G2 M2 H2 s2 (a2.set li w2) p2
theorem r_retL {P : Option Addr} {Z : Bas} {ρ : List Sx} {tr : TA} {M0 G M H : Hp} {m k : Nat} {σ : L2.St} {Φ : List D → Prop} {E : Ends} (a : At K P Z M0 m G M H σ ρ) (h : EvA K P Z tr ρ k Φ) (q : ∀ vs ds G2 M2 H2, Step G M H G2 M2 H2 → At K P Z M0 (m + k) G2 M2 H2 σ ρ → Φ ds → DVs K G2 vs ds → vs.length ≤ sizeLine ∧ ∀ p, H2 p = none → E.rt (.ref p) (upd H2 p (.lst vs)))
    (l : m + k ≤ BIG := by decide) : tRet (tLst tr) E σ H := h M0 σ G M H m _ a l q
theorem ok_pot {f : Addr} {fd : FuncData} (F : Fun K "_law_pot" "_law_pot" sPot f fd) (gL : mg "len" = none) (gI : mg "int" = none) (gA : mg "abs" = none) :
    FnG P w K mg base CX0 1 f fd ["script", "number"] (spPot K) := by
  refine okG0 F scPot (fun vs H Q E h => ?_) (fun cdv A outer s H vs Q E hr gq h => ?_)
  · obtain ⟨a, ns, i, G, M, rfl, _⟩ := h
    rfl
  · have nd := scPot.nd
    refine ⟨Subtype.val (p := PSs _ _) ?d, Subtype.property ?d, ?r⟩
    case d =>
      walk_at "b"
    case r =>
      walk_at "nf"
      obtain ⟨b, ns, i, G, M, rfl, s0, hq, ln, li, q⟩ := h
      have a0 : At K none Z0 M 0 G M H [some (.ref b), some (.int i), none, none, none] [.scr ns, .d (.int (i : Nat)), .un, .un, .un] := {
        sep := s0
        pot := PotM.no
        fr := fun _ _ _ z => z
        bm := trivial
        bs := trivial
        len := rfl
        sl := fun j x e => by
          match j, e with
          | 0, e => cases e; exact ⟨b, rfl, hq⟩
          | 1, e => cases e; exact ⟨_, rfl, .int _⟩
          | 2, e => cases e; trivial
          | 3, e => cases e; trivial
          | 4, e => cases e; trivial
        nd := fun j j' b b' e _ _ => by
          match j, e with
          | 0, e => cases e
          | 1, e => cases e
          | 2, e => cases e
          | 3, e => cases e
          | 4, e => cases e }
      have num : ∀ x y z : Sx, Ev K none Z0 (tVar 1) [.scr ns, .d (.int (i : Nat)), x, y, z] 0 (In0 64) := fun _ _ _ => (ev_var rfl).imp fun d e => ⟨i, e, by omega, by omega⟩
      refine r_asg (k := 0) (φ := fun d => ∃ n : Int, d = .int n ∧ True) a0 (ev_if (kc := 0) (k := 0) (et_test (β := fun b => b = decide (i < ns.length)) (ev_op (χ := (· = .bl (decide (i < ns.length)))) (φ := (· = .int (i : Nat))) (ψ := (· = .int (ns.length : Nat))) (ev_var (i := 1) rfl) (ev_scrLen (j := 0) rfl) fun a b z1 z2 => by
        subst z1 z2
        exact fun x y G M H Q s ha hb f => od_lt x y G M H Q s ha hb fun z d G2 H2 st e dv => f z d G2 H2 st (e.trans (by rw [decide_eq_decide.mpr Int.ofNat_lt])) dv) fun d z => ⟨_, z, rfl⟩)
        (fun h => (ev_scrIx (j := 0) (i := 1) rfl rfl (of_decide_eq_true h.symm)).imp fun d z => by
          obtain ⟨n, e⟩ := z
          exact ⟨n, e, trivial⟩) (fun _ => (ev_addB (ev_mulB in0_c (num .un .un .un)) in0_c).imp fun d z => by
          obtain ⟨n, e, _⟩ := z
          exact ⟨n, e, trivial⟩)) fun v1 d1 G1 M1 H1 s1 a1 p1 => ?_
      obtain ⟨c, rfl, _⟩ := p1
      have cell : ∀ y z : Sx, Ev K none Z0 (tVar 2) [.scr ns, .d (.int (i : Nat)), .d (.int c), y, z] 0 (fun d => ∃ n : Int, d = .int n ∧ True) := fun _ _ => (ev_var rfl).imp fun d e => ⟨c, e, trivial⟩
      have h18 : CPowW 10 18 := ⟨by decide, by decide +kernel⟩
      have h60 : CPowW 10 60 := ⟨by decide, by decide +kernel⟩
      have h5 : CPowW (10 ^ 60) 5 := ⟨by decide, by decide +kernel⟩
      refine r_asg (k := 0) (φ := In0 HUGE) a1 (Ev.imp (ψ := In0 HUGE) (ev_mulB (A := HUGE) (B := 2) (ev_modA (B := HUGE) (ev_intA (ea_int (ev_absA (cell .un .un)))) (ev_powD (ev_powC h60) h5)) (ev_intBl (ev_geB (ev_absA (cell .un .un)) (ev_powC h18))) (by decide +kernel)) fun d z => in0_le (a := (HUGE - 1) * (2 - 1) + 1) (by decide +kernel) z) fun v2 d2 G2 M2 H2 s2 a2 p2 => ?_
      refine r_asg (k := 0) (φ := In0 (2 ^ 200)) a2 (Ev.imp (ψ := In0 (2 ^ 200)) (ev_addB (ev_addB (ev_mulB (ev_modA (ev_intA (ea_int (cell _ _))) ev_int) in0_c) (ev_mulB (ev_mulB in0_c (num _ _ _)) (num _ _ _))) in0_c) fun d z => in0_le (by decide +kernel) z) fun v3 d3 G3 M3 H3 s3 a3 p3 => ?_
      obtain ⟨own, rfl, o1, o2⟩ := p2
      obtain ⟨stir, rfl, t1, t2⟩ := p3
      refine r_retL (k := 0) a3 (ea_cons (φ := (· = .int own)) (ev_var (i := 3) rfl) (ea_cons (φ := In0 2305843009213693921) (ev_modA (ev_intA (ea_int (φ := fun _ => True) ((ev_var (i := 4) (x := .int stir) rfl).imp fun d e => ⟨stir, e, trivial⟩))) ev_int) (ea_cons (φ := (· = .int 0)) ev_int ea_nil))) fun vs ds G4 M4 H4 s4 a4 p4 w4 => ?_
      obtain ⟨_, _, rfl, rfl, _, _, rfl, ⟨bb, rfl, b1, b2⟩, _, _, rfl, rfl, rfl⟩ := p4
      cases w4 with
      | cons x1 w4 =>
        cases w4 with
        | cons x2 w4 =>
          cases w4 with
          | cons x3 w4 =>
            cases w4
            cases x1
            cases x2
            cases x3
            refine ⟨szOk (Nat.le_of_ble_eq_true rfl), fun p n => ?_⟩
            have st := Step.drop (M2 := M) (((s1.trans s2).trans s3).trans s4) fun b o e => a4.fr b o (fun z => nomatch z) e
            exact q p G4 _ _ (st.trans (Step.own (o := .lst [.int own, .int bb, .int 0]) st.s n)) (a4.m0 n) (fun p' e => by
              cases e
              exact ⟨own, bb, 0, upd_same, o1, o2, b1, by omega, Int.le_refl _, Int.le_refl _⟩) (fun b h => upd_ne h) ⟨_, upd_same⟩

end
end Tp

namespace Tp
open PySem PySem.Spec PyProof.Rows L2
/-! ### the derivations, by the syntax -/
local macro_rules | `(tactic| walk_at "pv") => `(tactic| first | exact de_v 0 | exact de_v 1 | exact de_v 2 | exact de_v 3 | exact de_v 4 | exact de_v 5 | exact de_v 6 | exact de_v 7 | exact de_v 8 | exact de_v 9 | exact de_v 10 | exact de_v 11)
local macro_rules | `(tactic| walk_at "rm") => `(tactic| first | assumption | exact Room.mono (by assumption) (by omega))
local macro_rules | `(tactic| walk_at "e") => `(tactic| first
  | exact de_int
  | exact de_str
  | exact de_bl
  | exact de_non
  | (refine de_add ?_ ?_ <;> walk_at "e")
  | (refine de_sub ?_ ?_ <;> walk_at "e")
  | (refine de_mul ?_ ?_ <;> walk_at "e")
  | (refine de_mod ?_ ?_ <;> walk_at "e")
  | (refine de_fdiv ?_ ?_ <;> walk_at "e")
  | (refine de_pow ?_ ?_ <;> walk_at "e")
  | (refine de_eq (by assumption) ?_ ?_ <;> walk_at "e")
  | (refine de_ne (by assumption) ?_ ?_ <;> walk_at "e")
  | (refine de_lt2 ?_ ?_ <;> walk_at "e")
  | (refine de_le2 ?_ ?_ <;> walk_at "e")
  | (refine de_gt ?_ ?_ <;> walk_at "e")
  | (refine de_ge ?_ ?_ <;> walk_at "e")
  | (refine de_chll ?_ ?_ ?_ <;> walk_at "e")
  | (refine de_inC ?_; walk_at "e")
  | (refine de_isN ?_ ?_ <;> walk_at "e")
  | (refine de_in (by assumption) ?_ ?_ <;> walk_at "e")
  | (refine de_nin (by assumption) ?_ ?_ <;> walk_at "e")
  | (refine de_one ?_; walk_at "e")
  | (refine de_and ?_ ?_ <;> walk_at "e")
  | (refine de_or ?_ ?_ <;> walk_at "e")
  | (refine de_not ?_; walk_at "e")
  | (refine de_neg ?_; walk_at "e")
  | (refine de_ifE ?_ ?_ ?_; walk_at "t"; walk_at "e"; walk_at "e")
  | (refine de_tup ?_ (fun _ h => pe_tup h); walk_at "a")
  | (refine de_lst ?_ (fun _ h => pe_lst h); walk_at "a")
  | exact de_dic0
  | (refine de_dic1 ?_; walk_at "e")
  | (refine de_fld ?_; walk_at "e")
  | walk_at "lc"
  | (refine de_ix ix_seq ?_ ?_ (fun _ _ => rfl) <;> walk_at "e")
  | walk_at "c"
  | (refine de_fun (by assumption) (by walk_at "rm") (by assumption) (by rfl) ?_; walk_at "a")
  | (refine de_funX _ (by assumption) (by assumption) (by walk_at "rm") (by assumption) (by rfl) ?_; walk_at "a")
  | (refine de_funX0 (by assumption) (by walk_at "rm") (by assumption) (by rfl) ?_; walk_at "a")
  | (refine de_mk (by assumption) (by walk_at "rm") (by assumption) (by rfl) ?_; walk_at "a")
  | (refine de_err (by assumption) (by walk_at "rm") (by assumption) (by rfl) ?_; walk_at "a")
  | walk_at "pv"
  | exact de_gX (by assumption) (by rfl)
  | exact de_gl (by assumption) (by rfl)
  | exact de_strT (by rfl) (by assumption)
  | exact de_tupT (by rfl) (by assumption)
  | (refine de_slice ?_ ?_ ?_; walk_at "e"; walk_at "po"; walk_at "po")
  | (refine de_bm ?_ ?_ (fun _ _ h k => pe_bm PySem.F.plainAttrs_list PySem.F.slot_list_pop PySem.F.type_list_pop mt_popAt h k); walk_at "e"; walk_at "a")
  | walk_at "el"
  | exact de_VE (by rfl) (by assumption))
local macro_rules | `(tactic| walk_at "c") => `(tactic| first
  | (refine de_split ?_ ?_ <;> walk_at "e")
  | (refine de_join ?_ ?_ <;> walk_at "e")
  | (refine de_part ?_ ?_ <;> walk_at "e")
  | (refine de_kget (by assumption) ?_ ?_ ?_ <;> walk_at "e")
  | (refine de_f_len (by assumption) (by rfl) ?_; walk_at "a")
  | (refine de_f_int (by assumption) (by rfl) ?_; walk_at "a")
  | (refine de_f_abs (by assumption) (by rfl) ?_; walk_at "a")
  | (refine de_f_all rfl (by assumption) (by rfl) ?_; walk_at "a")
  | (refine de_f_any rfl (by assumption) (by rfl) ?_; walk_at "a")
  | (refine de_f_min rfl (by assumption) (by rfl) ?_; walk_at "a")
  | (refine de_f_max rfl (by assumption) (by rfl) ?_; walk_at "a")
  | (refine de_isi2 (by assumption) (by rfl) ?_; walk_at "a")
  | (refine de_f_tuple (by assumption) (by rfl) ?_; walk_at "a")
  | (refine de_f_list (by assumption) (by rfl) ?_; walk_at "a")
  | (refine de_f_sum rfl (by assumption) (by rfl) ?_; walk_at "a")
  | (refine de_f_sorted (by assumption) (by rfl) ?_; walk_at "a")
  | (refine de_f_repr (by assumption) (by assumption) (by assumption) (by assumption) (by rfl) ?_; walk_at "a"))
local macro_rules | `(tactic| walk_at "po") => `(tactic| first
  | exact do_none
  | (refine do_some ?_; walk_at "e"))
local macro_rules | `(tactic| walk_at "a") => `(tactic| first
  | exact da_nil
  | (refine da_cons ?_ ?_; walk_at "e"; walk_at "a"))
local macro_rules | `(tactic| walk_at "t") => `(tactic| first
  | (refine dt_lt2 ?_ ?_ <;> walk_at "e")
  | (refine dt_le2 ?_ ?_ <;> walk_at "e")
  | (refine dt_gt ?_ ?_ <;> walk_at "e")
  | (refine dt_ge ?_ ?_ <;> walk_at "e")
  | (refine dt_chll ?_ ?_ ?_ <;> walk_at "e")
  | (refine dt_isN ?_ ?_ <;> walk_at "e")
  | (refine dt_in (by assumption) ?_ ?_ <;> walk_at "e")
  | (refine dt_nin (by assumption) ?_ ?_ <;> walk_at "e")
  | (refine dt_eq (by assumption) ?_ ?_ <;> walk_at "e")
  | (refine dt_ne (by assumption) ?_ ?_ <;> walk_at "e")
  | (refine dt_not ?_; walk_at "t")
  | (refine dt_w ?_; walk_at "w")
  | (refine dt_val ?_; walk_at "e"))
local macro_rules | `(tactic| walk_at "w") => `(tactic| first
  | (refine dw_and1 ?_; walk_at "t")
  | (refine dw_or1 ?_; walk_at "t")
  | (refine dw_and ?_ ?_; walk_at "t"; walk_at "w")
  | (refine dw_or ?_ ?_; walk_at "t"; walk_at "w"))
local macro_rules | `(tactic| walk_at "set") => `(tactic| first
  | refine ds_set 1 (by assumption) ?_
  | refine ds_set 2 (by assumption) ?_
  | refine ds_set 3 (by assumption) ?_
  | refine ds_set 4 (by assumption) ?_
  | refine ds_set 5 (by assumption) ?_
  | refine ds_set 6 (by assumption) ?_
  | refine ds_set 7 (by assumption) ?_
  | refine ds_set 8 (by assumption) ?_
  | refine ds_set 9 (by assumption) ?_
  | refine ds_set 10 (by assumption) ?_
  | refine ds_set 0 (by assumption) ?_)
local macro_rules | `(tactic| walk_at "g") => `(tactic| first
  | exact dg_name 1 (by assumption)
  | exact dg_name 2 (by assumption)
  | exact dg_name 3 (by assumption)
  | exact dg_name 4 (by assumption)
  | exact dg_name 5 (by assumption)
  | exact dg_name 6 (by assumption)
  | exact dg_name 7 (by assumption)
  | exact dg_name 8 (by assumption)
  | exact dg_name 9 (by assumption)
  | (refine dg_tup 2 rfl ?_; walk_at "gs")
  | (refine dg_tup 3 rfl ?_; walk_at "gs"))
local macro_rules | `(tactic| walk_at "gs") => `(tactic| first
  | exact dgs_nil
  | (refine dgs_cons ?_ ?_; walk_at "g"; walk_at "gs"))
local macro_rules | `(tactic| walk_at "i") => `(tactic| first
  | (refine di_range1 (by rfl) (by assumption) ?_; walk_at "a")
  | (refine di_enum (by rfl) (by assumption) ?_; walk_at "a")
  | (refine di_seq ?_; walk_at "e"))
local macro_rules | `(tactic| walk_at "s") => `(tactic| first
  | (refine ds_ret ?_; walk_at "e")
  | (walk_at "set"; walk_at "e")
  | (refine ds_fld ?_ ?_; walk_at "e"; walk_at "e")
  | (refine ds_if ?_ ?_ ?_; walk_at "t"; walk_at "b"; walk_at "b")
  | (refine ds_expr (de_bm ?_ ?_ (fun _ _ h k => pe_bm PySem.F.plainAttrs_list PySem.F.slot_list_append PySem.F.type_list_append mt_append h k)); walk_at "e"; walk_at "a")
  | (refine ds_expr (de_bm ?_ ?_ (fun _ _ h k => pe_bm PySem.F.plainAttrs_list PySem.F.slot_list_extend PySem.F.type_list_extend mt_extend h k)); walk_at "e"; walk_at "a")
  | (refine ds_asg ?_ (dg_tup 2 rfl ?_); walk_at "e"; walk_at "gs")
  | (refine ds_asg ?_ (dg_sub ?_ ?_ set_list); walk_at "e"; walk_at "e"; walk_at "e")
  | (refine ds_raise _ (by assumption) (by assumption) rfl (by walk_at "rm") (by assumption) (by rfl) ?_; walk_at "a")
  | exact ds_break
  | exact ds_continue
  | (refine ds_while (by first | exact PassesOwn.never | assumption) ?_ ?_; walk_at "t"; walk_at "b")
  | (refine ds_for (by first | exact PassesOwn.never | assumption) rfl ?_ ?_ ?_; walk_at "i"; walk_at "g"; walk_at "b"))
local macro_rules | `(tactic| walk_at "b") => `(tactic| first
  | exact db_nil
  | (refine db_one ?_; walk_at "s")
  | (refine db_cons ?_ ?_; walk_at "s"; walk_at "b"))
local macro_rules | `(tactic| walk_at "nf") => `(tactic| dsimp only [de_slice, do_none, do_some, ds_swap, dt_inS, de_f_int2, de_isN, dt_isN, de_tupT, dt_tru, de_inC, de_mulT, de_lenK, de_sk, de_funX, de_funX0, ds_raise, ds_tryK, XofX, de_split, de_join, de_part, de_lc2, de_lcI, de_kget, de_kin, de_mk, de_fld, ds_fld, Xof, cxOf, Cx.nox, tInQ, List.map, de_lt2, de_le2, dt_lt2, dt_le2, de_ch, dt_ch, de_chll, dt_chll, de_in, de_nin, dt_in, dt_nin, de_gl, de_strT, de_isi2, de_f_tuple, de_f_list, de_f_sum, de_f_sorted, di_str, di_seq, de_lc, ds_setLc, de_err, de_gX, de_VE, de_f_isi, de_dic0, de_dic1, de_int, de_str, de_bl, de_non, de_v, de_op, de_cmp, de_one, de_and, de_or, de_not, de_neg, de_ifE, da_nil, da_cons, de_tup, de_lst, de_ix, de_callB, de_callT, de_fun, dt_val, dt_cmp, dt_not, dt_w, dw_and1, dw_or1, dw_and, dw_or, dg_name, dgs_nil, dgs_cons, dg_tup, dg_sub, di_list, di_tup, di_range1, di_enum, db_nil, db_one, db_cons, ds_ret, ds_retN, ds_set, ds_asg, ds_if, ds_expr, ds_for, ds_while, ds_break, ds_continue, ds_never, de_bm, de_errF, de_f_len, de_f_int, de_f_abs, de_f_all, de_f_any, de_f_min, de_f_max, de_f_repr, de_add, de_sub, de_mul, de_mod, de_fdiv, de_pow, de_eq, de_ne, de_lt, de_le, de_gt, de_ge, dt_eq, dt_ne, dt_lt, dt_le, dt_gt, dt_ge])
local macro_rules | `(tactic| walk_at "lc3") => `(tactic| (intro _ _ _ _ _; walk_at "g"))
local macro_rules | `(tactic| walk_at "lc4") => `(tactic| (intro _ _ _ _ _; walk_at "e"))
local macro_rules | `(tactic| walk_at "lc5") => `(tactic| (intro _ _ _ _ _; rfl))

/-! ### steps over data -/
local macro_rules | `(tactic| walk_at "x") => `(tactic| first
  | with_reducible refine esm_seq ?_
  | with_reducible refine esm_next ?_
  | with_reducible refine esm_brk ?_
  | with_reducible refine esm_cont ?_
  | with_reducible refine esm_ret ?_
  | with_reducible refine esm_retN ?_
  | with_reducible refine esm_raise (CalE.T (by assumption)) (by assumption) ?_
  | with_reducible refine evm_funTX (by assumption) ?_
  | with_reducible refine evm_funT0 ?_
  | with_reducible refine evm_isi ?_
  | with_reducible refine evm_slice ?_
  | with_reducible refine eom_none ?_
  | with_reducible refine eom_some ?_
  | with_reducible refine esm_swp ?_
  | with_reducible refine evm_popAt rfl ?_
  | with_reducible refine evm_lenO rfl ?_
  | with_reducible refine cw_min2 ?_
  | with_reducible refine esm_asgLN (by decide) ?_
  | with_reducible refine ow_isN rfl ?_
  | with_reducible refine esm_newL ?_
  | (with_reducible refine esm_newD (by exact Nat.le_of_ble_eq_true rfl) ?_; dsimp only [List.set])
  | with_reducible refine esm_asg ?_
  | with_reducible refine esm_if ?_
  | with_reducible refine esm_app rfl ?_
  | with_reducible refine esm_ext rfl ?_
  | with_reducible refine evm_int ?_
  | with_reducible refine evm_str ?_
  | with_reducible refine evm_bl ?_
  | with_reducible refine evm_non ?_
  | with_reducible refine evm_var rfl ?_
  | with_reducible refine evm_c (by assumption) ?_
  | (with_reducible refine evm_own rfl ?_; dsimp only [List.set])
  | (with_reducible refine evm_ownD rfl ?_; dsimp only [List.set])
  | with_reducible refine evm_isStr ?_
  | with_reducible refine evm_ixO rfl ?_
  | with_reducible refine evm_op ?_
  | with_reducible refine evm_chain ?_
  | with_reducible refine evm_fldV (by assumption) rfl (by with_unfolding_all decide) rfl ?_
  | with_reducible refine evm_fldO (by assumption) rfl (by with_unfolding_all decide) rfl ?_
  | with_reducible refine esm_fldN (by assumption) (by with_unfolding_all decide) ?_
  | with_reducible refine evm_if ?_
  | with_reducible refine evm_andV ?_
  | with_reducible refine evm_orV ?_
  | with_reducible refine evm_notV ?_
  | with_reducible refine evm_tup ?_
  | with_reducible refine evm_lst ?_
  | with_reducible refine evm_call ?_
  | with_reducible refine evm_fun ?_
  | with_reducible refine evm_split ?_
  | with_reducible refine evm_join ?_
  | with_reducible refine evm_part ?_
  | with_reducible refine evm_funT ?_
  | with_reducible refine evm_funP rfl ?_
  | with_reducible refine evm_make ?_
  | with_reducible refine eam_nil ?_
  | with_reducible refine eam_cons ?_
  | with_reducible refine etm_test ?_
  | with_reducible refine etm_B ?_
  | with_reducible refine etm_not ?_
  | with_reducible refine etm_and ?_
  | with_reducible refine etm_or ?_
  | with_reducible refine etm_yes ?_
  | with_reducible refine ow_addI ?_
  | with_reducible refine ow_subI ?_
  | with_reducible refine cw_lenL ?_
  | with_reducible refine cw_lenT ?_
  | with_reducible refine cw_int ?_
  | with_reducible refine cw_tupL ?_
  | with_reducible refine cw_lstL ?_
  | with_reducible refine cw_lstT ?_
  | refine br_t (by first | rfl | assumption | exact bnt (by assumption) | exact bnf (by assumption)) ?_
  | refine br_f (by first | rfl | assumption | exact bnt (by assumption) | exact bnf (by assumption)) ?_
  | refine rb_t (by first | rfl | assumption | exact bnt (by assumption) | exact bnf (by assumption)) ?_
  | refine rb_f (by first | rfl | assumption | exact bnt (by assumption) | exact bnf (by assumption)) ?_
  | with_reducible refine eim_varL rfl ?_
  | with_reducible refine eim_varT rfl ?_
  | with_reducible refine eim_varS rfl ?_
  | (with_reducible refine eim_ownL rfl ?_; dsimp only [List.set])
  | with_reducible refine eim_range1 ?_
  | with_reducible refine eim_enum ?_
  | with_reducible refine evm_scrLen rfl ?_
  | with_reducible refine cw_max2 ?_
  | (with_reducible refine lcy ?_; dsimp only [List.set])
  | (with_reducible refine lct ?_; dsimp only [List.set])
  | (with_reducible refine lcy2 ?_; dsimp only [List.set])
  | with_reducible refine esm_forN ?_
  | with_reducible refine esm_forN2 ?_
  | with_reducible refine esm_asg2 ?_
  | with_reducible refine evm_lcY ?_
  | with_reducible refine evm_lcT ?_
  | with_reducible refine evm_lcY2 ?_
  | (with_reducible refine ⟨_, rfl, ?_⟩)
  | (refine ⟨_, _, rfl, (by exact Nat.lt_of_lt_of_le (Nat.lt_succ_self _) (Nat.le_of_ble_eq_true rfl)), ?_⟩; dsimp only [List.set])
  | (refine ⟨Nat.le_of_ble_eq_true rfl, ?_⟩; try dsimp only [List.set]))
local macro_rules | `(tactic| walk_at "xv") => `(tactic| first
  | with_reducible refine ow_ltI ?_
  | with_reducible refine ow_leI ?_
  | with_reducible refine ow_leS ?_
  | with_reducible refine ow_gtI ?_
  | with_reducible refine ow_geI ?_
  | with_reducible refine ow_eqI ?_
  | with_reducible refine ow_eqS ?_
  | with_reducible refine ow_neI ?_
  | with_reducible refine ow_neS ?_)
local macro_rules | `(tactic| walk_at "xo") => `(tactic| first
  | with_reducible refine oc_ltI ?_
  | with_reducible refine oc_leI ?_
  | with_reducible refine oc_leS ?_
  | with_reducible refine oc_gtI ?_
  | with_reducible refine oc_geI ?_
  | with_reducible refine oc_eqI ?_
  | with_reducible refine oc_eqS ?_
  | with_reducible refine oc_neI ?_
  | with_reducible refine oc_neS ?_)
local macro_rules | `(tactic| walk_at "xc") => `(tactic| (walk_at "xo"; intro b hb; cases b <;> walk_at "xs"))
local macro_rules | `(tactic| walk_at "xs") => `(tactic| repeat walk_at "x")
section
variable {P : Program} {w : World} {K : PySem.W.Frag} {mg : Str → Option Value} {base : Heap}
local macro_rules | `(tactic| walk_at "lc") => `(tactic| first
  | (refine de_lc [("row", 4)] ‹Shared› ‹Hp› rfl (by assumption) ?_ rfl ?_ ?_ ?_ ?_; walk_at "i"; walk_at "lc3"; walk_at "lc4"; walk_at "lc5"; walk_at "lc5")
  | (refine de_lc [("spot", 5)] ‹Shared› ‹Hp› rfl (by assumption) ?_ rfl ?_ ?_ ?_ ?_; walk_at "i"; walk_at "lc3"; walk_at "lc4"; walk_at "lc5"; walk_at "lc5"))
theorem ec_take {u : Int} {φ : D → Prop} (h0 : 0 < u) (h1 : u ≤ 1000000) (q : ∀ r : Nat, (r : Int) < u → φ (.int (r : Nat))) : preTake [.int u] ∧ ∀ d, postTake [.int u] d → φ d := ⟨⟨u, rfl, h0, h1⟩, fun d z => by
  obtain ⟨u', r, e, rfl, h2, h3⟩ := z
  cases e
  have e : ((r.toNat : Nat) : Int) = r := by omega
  rw [← e]
  exact q r.toNat (by omega)⟩
theorem ec_ofD {xs : List D} {φ : D → Prop} (h0 : 0 < xs.length) (h1 : xs.length ≤ 1000000) (q : ∀ x ∈ xs, φ x) : preOf [.lst xs] ∧ ∀ d, postOf [.lst xs] d → φ d := ⟨⟨_, rfl, h0, h1⟩, fun d z => by
  obtain ⟨ys, e, h⟩ := z
  cases e
  exact q d h⟩
theorem ec_ofS {ns : List Str} {φ : D → Prop} (h0 : 0 < ns.length) (h1 : ns.length ≤ 1000000) (q : ∀ x ∈ ns, φ (.str x)) : preOf [.lst (ns.map .str)] ∧ ∀ d, postOf [.lst (ns.map .str)] d → φ d := ec_ofD (by rw [List.length_map]; exact h0) (by rw [List.length_map]; exact h1) fun d hd => by
  obtain ⟨x, hx, rfl⟩ := List.mem_map.mp hd
  exact q x hx
theorem scDrawn : FnScope ["pot", "tall", "wide", "names", "row", "spot"] ["pot"] (defScope sDrawn) := ⟨rfl, rfl, rfl, by decide +kernel, rfl, by decide +kernel, by decide +kernel⟩
def palette : List D := [.str "red", .str "blue", .str "a", .str "zzzzzzzz", .non, .non]
structure GPic (rows : List (List D)) : Prop where
  t1 : 1 ≤ rows.length
  t7 : rows.length ≤ 7
  w : ∃ n, 1 ≤ n ∧ n ≤ 7 ∧ ∀ r ∈ rows, r.length = n
  c : ∀ r ∈ rows, ∀ d ∈ r, d ∈ palette
abbrev picD (rows : List (List D)) : D := .tup (rows.map .tup)
def preDr : List D → Prop := fun ds => ds = []
def postDr : List D → D → Prop := fun _ d => ∃ rows, d = picD rows ∧ GPic rows
theorem ec_drawn {φ : D → Prop} (q : ∀ rows, GPic rows → φ (picD rows)) : preDr [] ∧ ∀ d, postDr [] d → φ d := ⟨rfl, fun d z => by
  obtain ⟨rows, rfl, g⟩ := z
  exact q rows g⟩
theorem all2_rows {n : Nat} : ∀ {ds es : List D}, All2 (fun _ e => ∃ r, e = D.tup r ∧ r.length = n ∧ ∀ d ∈ r, d ∈ palette) ds es → ∃ rows : List (List D), es = rows.map .tup ∧ rows.length = ds.length ∧ ∀ r ∈ rows, r.length = n ∧ ∀ d ∈ r, d ∈ palette
  | _, _, .nil => ⟨[], rfl, rfl, fun r hr => nomatch hr⟩
  | _, _, .cons h t => by
    obtain ⟨r, rfl, h2⟩ := h
    obtain ⟨rows, rfl, l, a⟩ := all2_rows t
    refine ⟨r :: rows, rfl, congrArg (· + 1) l, fun s hs => ?_⟩
    rcases List.mem_cons.mp hs with rfl | hs
    · exact h2
    · exact a s hs
theorem all2_mem {A : List D} : ∀ {ds es : List D}, All2 (fun _ e => e ∈ A) ds es → es.length = ds.length ∧ ∀ d ∈ es, d ∈ A
  | _, _, .nil => ⟨rfl, fun r hr => nomatch hr⟩
  | _, _, .cons h t => by
    obtain ⟨l, a⟩ := all2_mem t
    refine ⟨congrArg (· + 1) l, fun s hs => ?_⟩
    rcases List.mem_cons.mp hs with rfl | hs
    · exact h
    · exact a s hs
theorem ok_drawn {f : Addr} {fd : FuncData} {k : Nat} (F : Fun K "_law_drawn" "_law_drawn" sDrawn f fd) (cTake : Cal P w K mg base k "_law_take" (spP K 1 preTake postTake)) (cOf : Cal P w K mg base k "_law_of" (spP K 1 preOf postOf)) (gR : mg "range" = none) (gT : mg "tuple" = none) :
    FnG P w K mg base CX0 (k + 1) f fd ["pot"] (spP K 51 preDr postDr) := by
  refine okMP F scDrawn (fun ds z => ?_) (by decide) fun cdv A outer s H E hr gq hu h1 => ?_
  · cases z
    rfl
  have nd := scDrawn.nd
  refine ⟨Subtype.val (p := PSs _ _) ?d, Subtype.property ?d, ?r⟩
  case d => walk_at "b"
  case r =>
    walk_at "nf"
    intro p ds m z hm
    cases z
    show EsM K (some p) Z0 _ [.pot, .un, .un, .un, .un, .un] m _ _ _ _
    walk_at "xs"
    refine ec_take (u := 7) (by decide) (by decide) ?_ |>.imp_right (fun h => ⟨by omega, h⟩)
    intro a ha
    walk_at "xs"
    refine ec_take (u := 7) (by decide) (by decide) ?_ |>.imp_right (fun h => ⟨by omega, h⟩)
    intro b hb
    walk_at "xs"
    have ea : (1 + (a : Int)) = ((a + 1 : Nat) : Int) := by omega
    have eb : (1 + (b : Int)) = ((b + 1 : Nat) : Int) := by omega
    rw [ea, eb]
    refine ⟨_, _, rfl, by exact Nat.le_of_ble_eq_true rfl, by exact Nat.le_of_ble_eq_true rfl, ?_⟩
    try dsimp only [List.set]
    refine esm_join (fun r n => r = [.pot, .d (.int ((a + 1 : Nat) : Int)), .d (.int ((b + 1 : Nat) : Int)), .own (.lst palette), .un, .un] ∧ n = m + 1 + 1) ?_ fun r n z => ?_
    · walk_at "xs"
      exact ⟨rfl, rfl⟩
    obtain ⟨rfl, rfl⟩ := z
    refine esm_share (i := 3) rfl ?_
    dsimp only [List.set]
    walk_at "xs"
    refine ⟨by omega, by omega, ?_⟩
    rw [Int.toNat_natCast]
    refine ⟨rfl, by rw [rangeD_len]; omega, ?_⟩
    refine lcm_rel (b + 1) (fun _ e => ∃ r, e = D.tup r ∧ r.length = b + 1 ∧ ∀ d ∈ r, d ∈ palette) (by rw [rangeD_len]; have : (a + 1) * (b + 1) ≤ 7 * 7 := Nat.mul_le_mul (by omega) (by omega); omega) (fun d hd n hn κ q => ?_) fun es he => ?_
    · walk_at "xs"
      refine ⟨by omega, by omega, ?_⟩
      rw [Int.toNat_natCast]
      refine ⟨rfl, by rw [rangeD_len]; omega, ?_⟩
      refine lcm_rel 1 (fun _ e => e ∈ palette) (by rw [rangeD_len]; omega) (fun d2 hd2 n2 hn2 κ2 q2 => ?_) fun es2 he2 => ?_
      · walk_at "xs"
        refine ec_ofD (xs := palette) (by decide) (by decide) ?_ |>.imp_right (fun h => ⟨by omega, h⟩)
        intro x hx
        exact ⟨rfl, q2 x hx⟩
      · obtain ⟨l2, m2⟩ := all2_mem he2
        rw [rangeD_len] at l2 ⊢
        rw [List.nil_append, Nat.mul_one]
        walk_at "xs"
        exact ⟨rfl, q _ ⟨es2, rfl, l2, m2⟩⟩
    · obtain ⟨rows, rfl, lr, all⟩ := all2_rows he
      rw [rangeD_len] at lr ⊢
      rw [List.nil_append]
      walk_at "xs"
      refine ⟨by have : (a + 1) * (b + 1) ≤ 7 * 7 := Nat.mul_le_mul (by omega) (by omega); omega, rows, rfl, by omega, by omega, ⟨b + 1, by omega, by omega, fun r hr => (all r hr).1⟩, fun r hr => (all r hr).2⟩
end
end Tp

namespace Tp
open PySem PySem.Spec PyProof.Rows L2
/-! ### the derivations, by the syntax -/
local macro_rules | `(tactic| walk_at "pv") => `(tactic| first | exact de_v 0 | exact de_v 1 | exact de_v 2 | exact de_v 3 | exact de_v 4 | exact de_v 5 | exact de_v 6 | exact de_v 7 | exact de_v 8 | exact de_v 9 | exact de_v 10 | exact de_v 11)
local macro_rules | `(tactic| walk_at "rm") => `(tactic| first | assumption | exact Room.mono (by assumption) (by omega))
local macro_rules | `(tactic| walk_at "e") => `(tactic| first
  | exact de_int
  | exact de_str
  | exact de_bl
  | exact de_non
  | (refine de_add ?_ ?_ <;> walk_at "e")
  | (refine de_sub ?_ ?_ <;> walk_at "e")
  | (refine de_mul ?_ ?_ <;> walk_at "e")
  | (refine de_mod ?_ ?_ <;> walk_at "e")
  | (refine de_fdiv ?_ ?_ <;> walk_at "e")
  | (refine de_pow ?_ ?_ <;> walk_at "e")
  | (refine de_eq (by assumption) ?_ ?_ <;> walk_at "e")
  | (refine de_ne (by assumption) ?_ ?_ <;> walk_at "e")
  | (refine de_lt2 ?_ ?_ <;> walk_at "e")
  | (refine de_le2 ?_ ?_ <;> walk_at "e")
  | (refine de_gt ?_ ?_ <;> walk_at "e")
  | (refine de_ge ?_ ?_ <;> walk_at "e")
  | (refine de_chll ?_ ?_ ?_ <;> walk_at "e")
  | (refine de_inC ?_; walk_at "e")
  | (refine de_isN ?_ ?_ <;> walk_at "e")
  | (refine de_in (by assumption) ?_ ?_ <;> walk_at "e")
  | (refine de_nin (by assumption) ?_ ?_ <;> walk_at "e")
  | (refine de_one ?_; walk_at "e")
  | (refine de_and ?_ ?_ <;> walk_at "e")
  | (refine de_or ?_ ?_ <;> walk_at "e")
  | (refine de_not ?_; walk_at "e")
  | (refine de_neg ?_; walk_at "e")
  | (refine de_ifE ?_ ?_ ?_; walk_at "t"; walk_at "e"; walk_at "e")
  | (refine de_tup ?_ (fun _ h => pe_tup h); walk_at "a")
  | (refine de_lst ?_ (fun _ h => pe_lst h); walk_at "a")
  | exact de_dic0
  | (refine de_dic1 ?_; walk_at "e")
  | (refine de_fld ?_; walk_at "e")
  | walk_at "lc"
  | (refine de_ix ix_seq ?_ ?_ (fun _ _ => rfl) <;> walk_at "e")
  | walk_at "c"
  | (refine de_fun (by assumption) (by walk_at "rm") (by assumption) (by rfl) ?_; walk_at "a")
  | (refine de_funX _ (by assumption) (by assumption) (by walk_at "rm") (by assumption) (by rfl) ?_; walk_at "a")
  | (refine de_funX0 (by assumption) (by walk_at "rm") (by assumption) (by rfl) ?_; walk_at "a")
  | (refine de_mk (by assumption) (by walk_at "rm") (by assumption) (by rfl) ?_; walk_at "a")
  | (refine de_err (by assumption) (by walk_at "rm") (by assumption) (by rfl) ?_; walk_at "a")
  | walk_at "pv"
  | exact de_gX (by assumption) (by rfl)
  | exact de_gl (by assumption) (by rfl)
  | exact de_strT (by rfl) (by assumption)
  | exact de_tupT (by rfl) (by assumption)
  | (refine de_slice ?_ ?_ ?_; walk_at "e"; walk_at "po"; walk_at "po")
  | (refine de_bm ?_ ?_ (fun _ _ h k => pe_bm PySem.F.plainAttrs_list PySem.F.slot_list_pop PySem.F.type_list_pop mt_popAt h k); walk_at "e"; walk_at "a")
  | walk_at "el"
  | exact de_VE (by rfl) (by assumption))
local macro_rules | `(tactic| walk_at "c") => `(tactic| first
  | (refine de_split ?_ ?_ <;> walk_at "e")
  | (refine de_join ?_ ?_ <;> walk_at "e")
  | (refine de_part ?_ ?_ <;> walk_at "e")
  | (refine de_kget (by assumption) ?_ ?_ ?_ <;> walk_at "e")
  | (refine de_f_len (by assumption) (by rfl) ?_; walk_at "a")
  | (refine de_f_int (by assumption) (by rfl) ?_; walk_at "a")
  | (refine de_f_abs (by assumption) (by rfl) ?_; walk_at "a")
  | (refine de_f_all rfl (by assumption) (by rfl) ?_; walk_at "a")
  | (refine de_f_any rfl (by assumption) (by rfl) ?_; walk_at "a")
  | (refine de_f_min rfl (by assumption) (by rfl) ?_; walk_at "a")
  | (refine de_f_max rfl (by assumption) (by rfl) ?_; walk_at "a")
  | (refine de_isi2 (by assumption) (by rfl) ?_; walk_at "a")
  | (refine de_f_tuple (by assumption) (by rfl) ?_; walk_at "a")
  | (refine de_f_list (by assumption) (by rfl) ?_; walk_at "a")
  | (refine de_f_sum rfl (by assumption) (by rfl) ?_; walk_at "a")
  | (refine de_f_sorted (by assumption) (by rfl) ?_; walk_at "a")
  | (refine de_f_repr (by assumption) (by assumption) (by assumption) (by assumption) (by rfl) ?_; walk_at "a"))
local macro_rules | `(tactic| walk_at "po") => `(tactic| first
  | exact do_none
  | (refine do_some ?_; walk_at "e"))
local macro_rules | `(tactic| walk_at "a") => `(tactic| first
  | exact da_nil
  | (refine da_cons ?_ ?_; walk_at "e"; walk_at "a"))
local macro_rules | `(tactic| walk_at "t") => `(tactic| first
  | (refine dt_lt2 ?_ ?_ <;> walk_at "e")
  | (refine dt_le2 ?_ ?_ <;> walk_at "e")
  | (refine dt_gt ?_ ?_ <;> walk_at "e")
  | (refine dt_ge ?_ ?_ <;> walk_at "e")
  | (refine dt_chll ?_ ?_ ?_ <;> walk_at "e")
  | (refine dt_isN ?_ ?_ <;> walk_at "e")
  | (refine dt_in (by assumption) ?_ ?_ <;> walk_at "e")
  | (refine dt_nin (by assumption) ?_ ?_ <;> walk_at "e")
  | (refine dt_eq (by assumption) ?_ ?_ <;> walk_at "e")
  | (refine dt_ne (by assumption) ?_ ?_ <;> walk_at "e")
  | (refine dt_not ?_; walk_at "t")
  | (refine dt_w ?_; walk_at "w")
  | (refine dt_val ?_; walk_at "e"))
local macro_rules | `(tactic| walk_at "w") => `(tactic| first
  | (refine dw_and1 ?_; walk_at "t")
  | (refine dw_or1 ?_; walk_at "t")
  | (refine dw_and ?_ ?_; walk_at "t"; walk_at "w")
  | (refine dw_or ?_ ?_; walk_at "t"; walk_at "w"))
local macro_rules | `(tactic| walk_at "set") => `(tactic| first
  | refine ds_set 1 (by assumption) ?_
  | refine ds_set 2 (by assumption) ?_
  | refine ds_set 3 (by assumption) ?_
  | refine ds_set 4 (by assumption) ?_
  | refine ds_set 5 (by assumption) ?_
  | refine ds_set 6 (by assumption) ?_
  | refine ds_set 7 (by assumption) ?_
  | refine ds_set 8 (by assumption) ?_
  | refine ds_set 9 (by assumption) ?_
  | refine ds_set 10 (by assumption) ?_
  | refine ds_set 0 (by assumption) ?_)
local macro_rules | `(tactic| walk_at "g") => `(tactic| first
  | exact dg_name 1 (by assumption)
  | exact dg_name 2 (by assumption)
  | exact dg_name 3 (by assumption)
  | exact dg_name 4 (by assumption)
  | exact dg_name 5 (by assumption)
  | exact dg_name 6 (by assumption)
  | exact dg_name 7 (by assumption)
  | exact dg_name 8 (by assumption)
  | exact dg_name 9 (by assumption)
  | (refine dg_tup 2 rfl ?_; walk_at "gs")
  | (refine dg_tup 3 rfl ?_; walk_at "gs"))
local macro_rules | `(tactic| walk_at "gs") => `(tactic| first
  | exact dgs_nil
  | (refine dgs_cons ?_ ?_; walk_at "g"; walk_at "gs"))
local macro_rules | `(tactic| walk_at "i") => `(tactic| first
  | (refine di_range1 (by rfl) (by assumption) ?_; walk_at "a")
  | (refine di_enum (by rfl) (by assumption) ?_; walk_at "a")
  | (refine di_seq ?_; walk_at "e"))
local macro_rules | `(tactic| walk_at "s") => `(tactic| first
  | (refine ds_ret ?_; walk_at "e")
  | (walk_at "set"; walk_at "e")
  | (refine ds_fld ?_ ?_; walk_at "e"; walk_at "e")
  | (refine ds_if ?_ ?_ ?_; walk_at "t"; walk_at "b"; walk_at "b")
  | (refine ds_expr (de_bm ?_ ?_ (fun _ _ h k => pe_bm PySem.F.plainAttrs_list PySem.F.slot_list_append PySem.F.type_list_append mt_append h k)); walk_at "e"; walk_at "a")
  | (refine ds_expr (de_bm ?_ ?_ (fun _ _ h k => pe_bm PySem.F.plainAttrs_list PySem.F.slot_list_extend PySem.F.type_list_extend mt_extend h k)); walk_at "e"; walk_at "a")
  | (refine ds_asg ?_ (dg_tup 2 rfl ?_); walk_at "e"; walk_at "gs")
  | (refine ds_asg ?_ (dg_sub ?_ ?_ set_list); walk_at "e"; walk_at "e"; walk_at "e")
  | (refine ds_raise _ (by assumption) (by assumption) rfl (by walk_at "rm") (by assumption) (by rfl) ?_; walk_at "a")
  | exact ds_break
  | exact ds_continue
  | (refine ds_while (by first | exact PassesOwn.never | assumption) ?_ ?_; walk_at "t"; walk_at "b")
  | (refine ds_for (by first | exact PassesOwn.never | assumption) rfl ?_ ?_ ?_; walk_at "i"; walk_at "g"; walk_at "b"))
local macro_rules | `(tactic| walk_at "b") => `(tactic| first
  | exact db_nil
  | (refine db_one ?_; walk_at "s")
  | (refine db_cons ?_ ?_; walk_at "s"; walk_at "b"))
local macro_rules | `(tactic| walk_at "nf") => `(tactic| dsimp only [de_slice, do_none, do_some, ds_swap, dt_inS, de_f_int2, de_isN, dt_isN, de_tupT, dt_tru, de_inC, de_mulT, de_lenK, de_sk, de_funX, de_funX0, ds_raise, ds_tryK, XofX, de_split, de_join, de_part, de_lc2, de_lcI, de_kget, de_kin, de_mk, de_fld, ds_fld, Xof, cxOf, Cx.nox, tInQ, List.map, de_lt2, de_le2, dt_lt2, dt_le2, de_ch, dt_ch, de_chll, dt_chll, de_in, de_nin, dt_in, dt_nin, de_gl, de_strT, de_isi2, de_f_tuple, de_f_list, de_f_sum, de_f_sorted, di_str, di_seq, de_lc, ds_setLc, de_err, de_gX, de_VE, de_f_isi, de_dic0, de_dic1, de_int, de_str, de_bl, de_non, de_v, de_op, de_cmp, de_one, de_and, de_or, de_not, de_neg, de_ifE, da_nil, da_cons, de_tup, de_lst, de_ix, de_callB, de_callT, de_fun, dt_val, dt_cmp, dt_not, dt_w, dw_and1, dw_or1, dw_and, dw_or, dg_name, dgs_nil, dgs_cons, dg_tup, dg_sub, di_list, di_tup, di_range1, di_enum, db_nil, db_one, db_cons, ds_ret, ds_retN, ds_set, ds_asg, ds_if, ds_expr, ds_for, ds_while, ds_break, ds_continue, ds_never, de_bm, de_errF, de_f_len, de_f_int, de_f_abs, de_f_all, de_f_any, de_f_min, de_f_max, de_f_repr, de_add, de_sub, de_mul, de_mod, de_fdiv, de_pow, de_eq, de_ne, de_lt, de_le, de_gt, de_ge, dt_eq, dt_ne, dt_lt, dt_le, dt_gt, dt_ge])
local macro_rules | `(tactic| walk_at "lc3") => `(tactic| (intro _ _ _ _ _; walk_at "g"))
local macro_rules | `(tactic| walk_at "lc4") => `(tactic| (intro _ _ _ _ _; walk_at "e"))
local macro_rules | `(tactic| walk_at "lc5") => `(tactic| (intro _ _ _ _ _; rfl))

/-! ### steps over data -/
local macro_rules | `(tactic| walk_at "x") => `(tactic| first
  | with_reducible refine esm_seq ?_
  | with_reducible refine esm_next ?_
  | with_reducible refine esm_brk ?_
  | with_reducible refine esm_cont ?_
  | with_reducible refine esm_ret ?_
  | with_reducible refine esm_retN ?_
  | with_reducible refine esm_raise (CalE.T (by assumption)) (by assumption) ?_
  | with_reducible refine evm_funTX (by assumption) ?_
  | with_reducible refine evm_funT0 ?_
  | with_reducible refine evm_isi ?_
  | with_reducible refine evm_slice ?_
  | with_reducible refine eom_none ?_
  | with_reducible refine eom_some ?_
  | with_reducible refine esm_swp ?_
  | with_reducible refine evm_popAt rfl ?_
  | with_reducible refine evm_lenO rfl ?_
  | with_reducible refine cw_min2 ?_
  | with_reducible refine esm_asgLN (by decide) ?_
  | with_reducible refine ow_isN rfl ?_
  | with_reducible refine esm_newL ?_
  | (with_reducible refine esm_newD (by exact Nat.le_of_ble_eq_true rfl) ?_; dsimp only [List.set])
  | with_reducible refine esm_asg ?_
  | with_reducible refine esm_if ?_
  | with_reducible refine esm_app rfl ?_
  | with_reducible refine esm_ext rfl ?_
  | with_reducible refine evm_int ?_
  | with_reducible refine evm_str ?_
  | with_reducible refine evm_bl ?_
  | with_reducible refine evm_non ?_
  | with_reducible refine evm_var rfl ?_
  | with_reducible refine evm_c (by assumption) ?_
  | (with_reducible refine evm_own rfl ?_; dsimp only [List.set])
  | (with_reducible refine evm_ownD rfl ?_; dsimp only [List.set])
  | with_reducible refine evm_isStr ?_
  | with_reducible refine evm_ixO rfl ?_
  | with_reducible refine evm_op ?_
  | with_reducible refine evm_chain ?_
  | with_reducible refine evm_fldV (by assumption) rfl (by with_unfolding_all decide) rfl ?_
  | with_reducible refine evm_fldO (by assumption) rfl (by with_unfolding_all decide) rfl ?_
  | with_reducible refine esm_fldN (by assumption) (by with_unfolding_all decide) ?_
  | with_reducible refine evm_if ?_
  | with_reducible refine evm_andV ?_
  | with_reducible refine evm_orV ?_
  | with_reducible refine evm_notV ?_
  | with_reducible refine evm_tup ?_
  | with_reducible refine evm_lst ?_
  | with_reducible refine evm_call ?_
  | with_reducible refine evm_fun ?_
  | with_reducible refine evm_split ?_
  | with_reducible refine evm_join ?_
  | with_reducible refine evm_part ?_
  | with_reducible refine evm_funT ?_
  | with_reducible refine evm_funP rfl ?_
  | with_reducible refine evm_make ?_
  | with_reducible refine eam_nil ?_
  | with_reducible refine eam_cons ?_
  | with_reducible refine etm_test ?_
  | with_reducible refine etm_B ?_
  | with_reducible refine etm_not ?_
  | with_reducible refine etm_and ?_
  | with_reducible refine etm_or ?_
  | with_reducible refine etm_yes ?_
  | with_reducible refine ow_addI ?_
  | with_reducible refine ow_subI ?_
  | with_reducible refine cw_lenL ?_
  | with_reducible refine cw_lenT ?_
  | with_reducible refine cw_int ?_
  | with_reducible refine cw_tupL ?_
  | with_reducible refine cw_lstL ?_
  | with_reducible refine cw_lstT ?_
  | refine br_t (by first | rfl | assumption | exact bnt (by assumption) | exact bnf (by assumption)) ?_
  | refine br_f (by first | rfl | assumption | exact bnt (by assumption) | exact bnf (by assumption)) ?_
  | refine rb_t (by first | rfl | assumption | exact bnt (by assumption) | exact bnf (by assumption)) ?_
  | refine rb_f (by first | rfl | assumption | exact bnt (by assumption) | exact bnf (by assumption)) ?_
  | with_reducible refine eim_varL rfl ?_
  | with_reducible refine eim_varT rfl ?_
  | with_reducible refine eim_varS rfl ?_
  | (with_reducible refine eim_ownL rfl ?_; dsimp only [List.set])
  | with_reducible refine eim_range1 ?_
  | with_reducible refine eim_enum ?_
  | with_reducible refine evm_scrLen rfl ?_
  | with_reducible refine cw_max2 ?_
  | (with_reducible refine lcy ?_; dsimp only [List.set])
  | (with_reducible refine lct ?_; dsimp only [List.set])
  | (with_reducible refine lcy2 ?_; dsimp only [List.set])
  | with_reducible refine esm_forN ?_
  | with_reducible refine esm_forN2 ?_
  | with_reducible refine esm_asg2 ?_
  | with_reducible refine evm_lcY ?_
  | with_reducible refine evm_lcT ?_
  | with_reducible refine evm_lcY2 ?_
  | (with_reducible refine ⟨_, rfl, ?_⟩)
  | (refine ⟨_, _, rfl, (by exact Nat.lt_of_lt_of_le (Nat.lt_succ_self _) (Nat.le_of_ble_eq_true rfl)), ?_⟩; dsimp only [List.set])
  | (refine ⟨Nat.le_of_ble_eq_true rfl, ?_⟩; try dsimp only [List.set]))
local macro_rules | `(tactic| walk_at "xv") => `(tactic| first
  | with_reducible refine ow_ltI ?_
  | with_reducible refine ow_leI ?_
  | with_reducible refine ow_leS ?_
  | with_reducible refine ow_gtI ?_
  | with_reducible refine ow_geI ?_
  | with_reducible refine ow_eqI ?_
  | with_reducible refine ow_eqS ?_
  | with_reducible refine ow_neI ?_
  | with_reducible refine ow_neS ?_)
local macro_rules | `(tactic| walk_at "xo") => `(tactic| first
  | with_reducible refine oc_ltI ?_
  | with_reducible refine oc_leI ?_
  | with_reducible refine oc_leS ?_
  | with_reducible refine oc_gtI ?_
  | with_reducible refine oc_geI ?_
  | with_reducible refine oc_eqI ?_
  | with_reducible refine oc_eqS ?_
  | with_reducible refine oc_neI ?_
  | with_reducible refine oc_neS ?_)
local macro_rules | `(tactic| walk_at "xc") => `(tactic| (walk_at "xo"; intro b hb; cases b <;> walk_at "xs"))
local macro_rules | `(tactic| walk_at "xs") => `(tactic| repeat walk_at "x")
section
variable {P : Program} {w : World} {K : PySem.W.Frag} {mg : Str → Option Value} {base : Heap}
local macro_rules | `(tactic| walk_at "lc") => `(tactic| first
  | (refine de_lc [("sign", 1)] ‹Shared› ‹Hp› rfl (by assumption) ?_ rfl ?_ ?_ ?_ ?_; walk_at "i"; walk_at "lc3"; walk_at "lc4"; walk_at "lc5"; walk_at "lc5")
  | (refine de_lc [("row", 1)] ‹Shared› ‹Hp› rfl (by assumption) ?_ rfl ?_ ?_ ?_ ?_; walk_at "i"; walk_at "lc3"; walk_at "lc4"; walk_at "lc5"; walk_at "lc5")
  | (refine de_lc [("colour", 2)] ‹Shared› ‹Hp› rfl (by assumption) ?_ rfl ?_ ?_ ?_ ?_; walk_at "i"; walk_at "lc3"; walk_at "lc4"; walk_at "lc5"; walk_at "lc5")
  | (refine de_lc [("word", 5)] ‹Shared› ‹Hp› rfl (by assumption) ?_ rfl ?_ ?_ ?_ ?_; walk_at "i"; walk_at "lc3"; walk_at "lc4"; walk_at "lc5"; walk_at "lc5"))
theorem lt_one {a b : Nat} : ([a] < [b]) ↔ a < b := by
  rw [List.cons_lt_cons_iff]
  exact ⟨fun z => z.elim id fun z => absurd z.2 (by intro h; cases h), .inl⟩
theorem letter_iff (c : Nat) : letterOk c = (decide (97 ≤ c) && decide (c ≤ 122)) := by
  have h1 : decide ((⟨#[c]⟩ : Str).cps.toList < ("a" : Str).cps.toList) = decide (c < 97) := decide_eq_decide.mpr (show [c] < [97] ↔ _ from lt_one)
  have h2 : decide (("z" : Str).cps.toList < (⟨#[c]⟩ : Str).cps.toList) = decide (122 < c) := decide_eq_decide.mpr (show [122] < [c] ↔ _ from lt_one)
  unfold letterOk
  rw [h1, h2, Bool.eq_iff_iff]
  simp only [Bool.and_eq_true, Bool.not_eq_true', decide_eq_false_iff_not, decide_eq_true_eq]
  omega
theorem abc_cps : ("abcdefghijklmnopqrstuvwxyz" : Str).cps.toList = (List.range 26).map (97 + ·) := by decide +kernel
theorem letter_in (c : Nat) : decide (c ∈ ("abcdefghijklmnopqrstuvwxyz" : Str).cps.toList) = letterOk c := by
  rw [letter_iff, abc_cps, Bool.eq_iff_iff, decide_eq_true_eq, Bool.and_eq_true, decide_eq_true_eq, decide_eq_true_eq, List.mem_map]
  constructor
  · rintro ⟨k, hk, rfl⟩
    have := List.mem_range.mp hk
    omega
  · intro h
    exact ⟨c - 97, List.mem_range.mpr (by omega), by omega⟩
theorem scColour : FnScope ["word", "sign"] ["word"] (defScope sIsColour) := ⟨rfl, rfl, rfl, by decide +kernel, rfl, by decide +kernel, by decide +kernel⟩
abbrev spColour (K : PySem.W.Frag) : Sp := spT K (fun x : Str => [.str x]) (fun x => x.length ≤ 1000000) (fun x r => r = .bl (isCol x))
theorem ok_colour {f : Addr} {fd : FuncData} {k : Nat} (F : Fun K "_law_is_colour" "_law_is_colour" sIsColour f fd) (gA : mg "all" = none) (gL : mg "len" = none) : FnG P w K mg base CX0 (k + 1) f fd ["word"] (spColour K) := by
  refine okMT F scColour (fun _ => rfl) (by decide) fun cdv A outer s H E hr gq hu h1 => ?_
  have nd := scColour.nd
  refine ⟨Subtype.val (p := PSs _ _) ?d, Subtype.property ?d, ?r⟩
  case d => walk_at "b"
  case r =>
    walk_at "nf"
    intro x lx
    show EsM K none Z0 _ [.d (.str x), .un] 0 _ _ _ _
    unfold isCol
    walk_at "xs"
    walk_at "xo"
    intro c hc
    refine ⟨_, rfl, ?_⟩
    rw [hc]
    cases c with
    | true =>
      walk_at "xs"
      rfl
    | false =>
      walk_at "xs"
      refine cw_lenS lx ?_
      unfold isName
      walk_at "xs"
      walk_at "xo"
      intro c1 hc1
      rw [hc1]
      refine ⟨_, rfl, ?_⟩
      cases c1 with
      | false =>
        walk_at "xs"
        rfl
      | true =>
        walk_at "xs"
        walk_at "xo"
        intro c2 hc2
        rw [hc2]
        refine ⟨_, rfl, ?_⟩
        cases c2 with
        | false =>
          walk_at "xs"
          rfl
        | true =>
          walk_at "xs"
          refine ⟨rfl, Nat.le_trans (Nat.le_of_eq (by simp [signsD]; rfl)) lx, ?_⟩
          refine lcm_on (fun c => .str ⟨#[c]⟩) (fun c => .bl (letterOk c)) (fun c hc κ q => ?_) ?_
          · refine lcy ?_
            dsimp only [List.set]
            walk_at "xs"
            refine ow_inC ?_
            rw [letter_in]
            exact ⟨rfl, q⟩
          · walk_at "xs"
            rw [List.nil_append, show (fun c => D.bl (letterOk c)) = D.bl ∘ letterOk from rfl, ← List.map_map]
            refine cw_all ?_
            rw [List.all_map]
            rfl
/-! ### a picture's lines -/
theorem scLawLines : FnScope ["picture", "row", "colour"] ["picture"] (defScope sLawLines) := ⟨rfl, rfl, rfl, by decide +kernel, rfl, by decide +kernel, by decide +kernel⟩
abbrev spLawLines (K : PySem.W.Frag) : Sp := spT K (fun ds : List D => [.tup ds]) (fun ds => ds.length ≤ 7 ∧ ds.all isLineD = true) (fun ds r => r = .lst (ds.map fun d => .str (rowT d)))
theorem ok_lawLines {f : Addr} {fd : FuncData} {k : Nat} (F : Fun K "_law_lines_of" "_law_lines_of" sLawLines f fd) : FnG P w K mg base CX0 (k + 1) f fd ["picture"] (spLawLines K) := by
  refine okMT F scLawLines (fun _ => rfl) (by decide) fun cdv A outer s H E hr gq hu h1 => ?_
  have nd := scLawLines.nd
  refine ⟨Subtype.val (p := PSs _ _) ?d, Subtype.property ?d, ?r⟩
  case d => walk_at "b"
  case r =>
    walk_at "nf"
    intro ds g
    obtain ⟨l7, all⟩ := g
    show EsM K none Z0 _ [.d (.tup ds), .un, .un] 0 _ _ _ _
    walk_at "xs"
    refine ⟨rfl, by omega, ?_⟩
    refine lcm_map (fun c => .str (rowT c)) (fun c hc κ q => ?_) ?_
    · have hl := List.all_eq_true.mp all c hc
      obtain ⟨es, rfl, m1, m7, alc⟩ := line_tup hl
      walk_at "xs"
      refine ⟨rfl, by omega, ?_⟩
      refine lcm_map (fun c => .str (colT c)) (fun x hx κ2 q2 => ?_) ?_
      · have hcx := List.all_eq_true.mp alc x hx
        have ex : ∃ t, tyN x = some t := by
          rcases col_cases hcx with rfl | ⟨y, rfl, _⟩ <;> exact ⟨_, rfl⟩
        obtain ⟨tx, ex⟩ := ex
        walk_at "xs"
        refine ow_isN ex ?_
        refine ⟨_, rfl, ?_⟩
        rcases col_cases hcx with rfl | ⟨y, rfl, _⟩
        · walk_at "xs"
          exact ⟨rfl, q2⟩
        · walk_at "xs"
          exact ⟨rfl, q2⟩
      · refine ⟨es.map colT, .inl (by rw [List.nil_append, List.map_map]; rfl), ?_, rfl, q⟩
        have h2 := sum_le (fun x : Str => x.length) 8 (xs := es.map colT) fun x hx => by
          obtain ⟨d, hd, rfl⟩ := List.mem_map.mp hx
          exact col_len (List.all_eq_true.mp alc d hd)
        rw [List.length_map] at h2
        rw [List.length_map]
        have h3 : (" " : Str).length = 1 := rfl
        rw [h3]
        omega
    · rw [List.nil_append]
/-! ### the first wrong line -/
theorem scDue : FnScope ["lines", "many", "number", "line", "words", "word"] ["lines"] (defScope sDue) := ⟨rfl, rfl, rfl, by decide +kernel, rfl, by decide +kernel, by decide +kernel⟩
def badDue (many n : Nat) (ws : List Str) : Bool := decide (6 < (n : Int)) || (!decide ((ws.length : Int) = (many : Int)) || (decide (7 < (many : Int)) || !ws.all isCol))
def dueGo (many : Nat) : Nat → List Str → Nat
  | _, [] => 0
  | n, l :: ls => if badDue many n (Txt.split l sp1) then n + 1 else dueGo many (n + 1) ls
def dueN (ls : List Str) : Nat := dueGo (Txt.split (ls.headD "") sp1).length 0 ls
abbrev spDue (K : PySem.W.Frag) : Sp := spT K (fun ls : List Str => [.lst (ls.map .str)]) (fun ls => ls ≠ [] ∧ ∀ x ∈ ls, x.length ≤ 900000) (fun ls r => r = .int (dueN ls : Nat))
theorem ok_due {f : Addr} {fd : FuncData} {k : Nat} (F : Fun K "_law_due" "_law_due" sDue f fd) (cC : Cal P w K mg base k "_law_is_colour" (spColour K)) (gA : mg "all" = none) (gL : mg "len" = none) (gE : mg "enumerate" = none) : FnG P w K mg base CX0 (k + 1) f fd ["lines"] (spDue K) := by
  refine okMT F scDue (fun _ => rfl) (by decide) fun cdv A outer s H E hr gq hu h1 => ?_
  have nd := scDue.nd
  refine ⟨Subtype.val (p := PSs _ _) ?d, Subtype.property ?d, ?r⟩
  case d => walk_at "b"
  case r =>
    walk_at "nf"
    intro ls g
    obtain ⟨ne, lx⟩ := g
    obtain ⟨l0, rest, rfl⟩ := List.exists_cons_of_ne_nil ne
    show EsM K none Z0 _ [.d (.lst (.str l0 :: rest.map .str)), .un, .un, .un, .un, .un] 0 _ _ _ _
    walk_at "xs"
    refine ow_ixL atI_zero ?_
    refine ⟨_, rfl, ?_⟩
    walk_at "xs"
    refine ⟨rfl, Nat.le_trans (lx l0 (.head _)) (by decide), ?_⟩
    walk_at "xs"
    rw [List.length_map, enumD_eq]
    refine (?_ : ∀ (xs : List Str) (n : Nat) (a b c : Sx), (∀ x ∈ xs, x.length ≤ 900000) → dueGo (Txt.split l0 sp1).length n xs = dueN (l0 :: rest) → LoopN2 K none Z0 _ 2 3 _ _ (enumF n (xs.map .str)) [.d (.lst (.str l0 :: rest.map .str)), .d (.int ((Txt.split l0 sp1).length : Nat)), a, b, c, .un] 0) (l0 :: rest) 0 .un .un .un lx rfl
    intro xs
    induction xs with
    | nil =>
      intro n a b c _ e
      show EsM K none Z0 _ _ _ _ _ _ _
      walk_at "xs"
      rw [← e]
      rfl
    | cons x xs ih =>
      intro n a b c hx e
      refine ⟨_, _, rfl, by exact Nat.le_of_ble_eq_true rfl, by exact Nat.le_of_ble_eq_true rfl, ?_⟩
      dsimp only [List.set]
      walk_at "xs"
      refine ⟨rfl, Nat.le_trans (hx x (.head _)) (by decide), by exact Nat.le_of_ble_eq_true rfl, ?_⟩
      dsimp only [List.set]
      have e' : (if badDue (Txt.split l0 sp1).length n (Txt.split x sp1) then n + 1 else dueGo (Txt.split l0 sp1).length (n + 1) xs) = dueN (l0 :: rest) := e
      have bad : badDue (Txt.split l0 sp1).length n (Txt.split x sp1) = true → D.int ((n : Int) + 1) = .int (dueN (l0 :: rest) : Nat) := fun z => by
        rw [if_pos z] at e'
        rw [← e']
        simp
      have go : badDue (Txt.split l0 sp1).length n (Txt.split x sp1) = false → ∀ (a b c : Sx), LoopN2 K none Z0 _ 2 3 _ _ (enumF (n + 1) (xs.map .str)) [.d (.lst (.str l0 :: rest.map .str)), .d (.int ((Txt.split l0 sp1).length : Nat)), a, b, c, .un] 0 := fun z a b c => by
        rw [if_neg (by rw [z]; exact Bool.false_ne_true)] at e'
        exact ih (n + 1) a b c (fun y hy => hx y (.tail _ hy)) e'
      unfold badDue at bad go
      walk_at "xs"
      walk_at "xo"
      intro c1 hc1
      rw [hc1] at bad go
      refine ⟨_, rfl, ?_⟩
      cases c1 with
      | true =>
        walk_at "xs"
        exact bad rfl
      | false =>
        walk_at "xs"
        rw [List.length_map]
        walk_at "xo"
        intro c2 hc2
        have hc2' : (!decide (((Txt.split x sp1).length : Int) = ((Txt.split l0 sp1).length : Int))) = c2 := hc2
        rw [hc2'] at bad go
        refine ⟨_, rfl, ?_⟩
        cases c2 with
        | true =>
          walk_at "xs"
          exact bad rfl
        | false =>
          walk_at "xs"
          walk_at "xo"
          intro c3 hc3
          rw [hc3] at bad go
          refine ⟨_, rfl, ?_⟩
          cases c3 with
          | true =>
            walk_at "xs"
            exact bad rfl
          | false =>
            have l7 := of_decide_eq_false hc3
            have le : ((Txt.split x sp1).length : Int) = ((Txt.split l0 sp1).length : Int) := by
              rw [Bool.not_eq_false'] at hc2'
              exact of_decide_eq_true hc2'
            walk_at "xs"
            refine ⟨rfl, by rw [List.length_map]; show (Txt.split x sp1).length ≤ _; omega, ?_⟩
            refine lcm_on0 (fun x : Str => .str x) (fun x => .bl (isCol x)) (fun y hy κ q => ?_) ?_
            · refine lcy ?_
              dsimp only [List.set]
              walk_at "xs"
              refine ⟨Nat.le_trans (part_len hy) (Nat.le_trans (hx x (.head _)) (by decide)), fun r er => ?_⟩
              subst er
              exact ⟨rfl, q⟩
            · walk_at "xs"
              rw [show (fun x => D.bl (isCol x)) = D.bl ∘ isCol from rfl, ← List.map_map]
              refine cw_all ?_
              rw [List.all_map, show (id ∘ isCol) = isCol from rfl]
              refine ⟨_, rfl, ?_⟩
              have ea : (Txt.split x sp1).all isCol = (Txt.split x (Str.ofString " ")).all isCol := rfl
              rw [ea] at bad go
              cases ha : (Txt.split x (Str.ofString " ")).all isCol with
              | false =>
                rw [ha] at bad
                walk_at "xs"
                exact bad rfl
              | true =>
                rw [ha] at go
                walk_at "xs"
                exact go rfl _ _ _
end
end Tp

namespace Tp
open PySem PySem.Spec PyProof.Rows L2
/-! ### the derivations, by the syntax -/
local macro_rules | `(tactic| walk_at "pv") => `(tactic| first | exact de_v 0 | exact de_v 1 | exact de_v 2 | exact de_v 3 | exact de_v 4 | exact de_v 5 | exact de_v 6 | exact de_v 7 | exact de_v 8 | exact de_v 9 | exact de_v 10 | exact de_v 11)
local macro_rules | `(tactic| walk_at "rm") => `(tactic| first | assumption | exact Room.mono (by assumption) (by omega))
local macro_rules | `(tactic| walk_at "e") => `(tactic| first
  | exact de_int
  | exact de_str
  | exact de_bl
  | exact de_non
  | (refine de_add ?_ ?_ <;> walk_at "e")
  | (refine de_sub ?_ ?_ <;> walk_at "e")
  | (refine de_mul ?_ ?_ <;> walk_at "e")
  | (refine de_mod ?_ ?_ <;> walk_at "e")
  | (refine de_fdiv ?_ ?_ <;> walk_at "e")
  | (refine de_pow ?_ ?_ <;> walk_at "e")
  | (refine de_eq (by assumption) ?_ ?_ <;> walk_at "e")
  | (refine de_ne (by assumption) ?_ ?_ <;> walk_at "e")
  | (refine de_lt2 ?_ ?_ <;> walk_at "e")
  | (refine de_le2 ?_ ?_ <;> walk_at "e")
  | (refine de_gt ?_ ?_ <;> walk_at "e")
  | (refine de_ge ?_ ?_ <;> walk_at "e")
  | (refine de_chll ?_ ?_ ?_ <;> walk_at "e")
  | (refine de_inC ?_; walk_at "e")
  | (refine de_isN ?_ ?_ <;> walk_at "e")
  | (refine de_in (by assumption) ?_ ?_ <;> walk_at "e")
  | (refine de_nin (by assumption) ?_ ?_ <;> walk_at "e")
  | (refine de_one ?_; walk_at "e")
  | (refine de_and ?_ ?_ <;> walk_at "e")
  | (refine de_or ?_ ?_ <;> walk_at "e")
  | (refine de_not ?_; walk_at "e")
  | (refine de_neg ?_; walk_at "e")
  | (refine de_ifE ?_ ?_ ?_; walk_at "t"; walk_at "e"; walk_at "e")
  | (refine de_tup ?_ (fun _ h => pe_tup h); walk_at "a")
  | (refine de_lst ?_ (fun _ h => pe_lst h); walk_at "a")
  | exact de_dic0
  | (refine de_dic1 ?_; walk_at "e")
  | (refine de_fld ?_; walk_at "e")
  | walk_at "lc"
  | (refine de_ix ix_seq ?_ ?_ (fun _ _ => rfl) <;> walk_at "e")
  | walk_at "c"
  | (refine de_fun (by assumption) (by walk_at "rm") (by assumption) (by rfl) ?_; walk_at "a")
  | (refine de_funX _ (by assumption) (by assumption) (by walk_at "rm") (by assumption) (by rfl) ?_; walk_at "a")
  | (refine de_funX0 (by assumption) (by walk_at "rm") (by assumption) (by rfl) ?_; walk_at "a")
  | (refine de_mk (by assumption) (by walk_at "rm") (by assumption) (by rfl) ?_; walk_at "a")
  | (refine de_err (by assumption) (by walk_at "rm") (by assumption) (by rfl) ?_; walk_at "a")
  | walk_at "pv"
  | exact de_gX (by assumption) (by rfl)
  | exact de_gl (by assumption) (by rfl)
  | exact de_strT (by rfl) (by assumption)
  | exact de_tupT (by rfl) (by assumption)
  | (refine de_slice ?_ ?_ ?_; walk_at "e"; walk_at "po"; walk_at "po")
  | (refine de_bm ?_ ?_ (fun _ _ h k => pe_bm PySem.F.plainAttrs_list PySem.F.slot_list_pop PySem.F.type_list_pop mt_popAt h k); walk_at "e"; walk_at "a")
  | walk_at "el"
  | exact de_VE (by rfl) (by assumption))
local macro_rules | `(tactic| walk_at "c") => `(tactic| first
  | (refine de_split ?_ ?_ <;> walk_at "e")
  | (refine de_join ?_ ?_ <;> walk_at "e")
  | (refine de_part ?_ ?_ <;> walk_at "e")
  | (refine de_kget (by assumption) ?_ ?_ ?_ <;> walk_at "e")
  | (refine de_f_len (by assumption) (by rfl) ?_; walk_at "a")
  | (refine de_f_int (by assumption) (by rfl) ?_; walk_at "a")
  | (refine de_f_abs (by assumption) (by rfl) ?_; walk_at "a")
  | (refine de_f_all rfl (by assumption) (by rfl) ?_; walk_at "a")
  | (refine de_f_any rfl (by assumption) (by rfl) ?_; walk_at "a")
  | (refine de_f_min rfl (by assumption) (by rfl) ?_; walk_at "a")
  | (refine de_f_max rfl (by assumption) (by rfl) ?_; walk_at "a")
  | (refine de_isi2 (by assumption) (by rfl) ?_; walk_at "a")
  | (refine de_f_tuple (by assumption) (by rfl) ?_; walk_at "a")
  | (refine de_f_list (by assumption) (by rfl) ?_; walk_at "a")
  | (refine de_f_sum rfl (by assumption) (by rfl) ?_; walk_at "a")
  | (refine de_f_sorted (by assumption) (by rfl) ?_; walk_at "a")
  | (refine de_f_repr (by assumption) (by assumption) (by assumption) (by assumption) (by rfl) ?_; walk_at "a"))
local macro_rules | `(tactic| walk_at "po") => `(tactic| first
  | exact do_none
  | (refine do_some ?_; walk_at "e"))
local macro_rules | `(tactic| walk_at "a") => `(tactic| first
  | exact da_nil
  | (refine da_cons ?_ ?_; walk_at "e"; walk_at "a"))
local macro_rules | `(tactic| walk_at "t") => `(tactic| first
  | (refine dt_lt2 ?_ ?_ <;> walk_at "e")
  | (refine dt_le2 ?_ ?_ <;> walk_at "e")
  | (refine dt_gt ?_ ?_ <;> walk_at "e")
  | (refine dt_ge ?_ ?_ <;> walk_at "e")
  | (refine dt_chll ?_ ?_ ?_ <;> walk_at "e")
  | (refine dt_isN ?_ ?_ <;> walk_at "e")
  | (refine dt_in (by assumption) ?_ ?_ <;> walk_at "e")
  | (refine dt_nin (by assumption) ?_ ?_ <;> walk_at "e")
  | (refine dt_eq (by assumption) ?_ ?_ <;> walk_at "e")
  | (refine dt_ne (by assumption) ?_ ?_ <;> walk_at "e")
  | (refine dt_not ?_; walk_at "t")
  | (refine dt_w ?_; walk_at "w")
  | (refine dt_val ?_; walk_at "e"))
local macro_rules | `(tactic| walk_at "w") => `(tactic| first
  | (refine dw_and1 ?_; walk_at "t")
  | (refine dw_or1 ?_; walk_at "t")
  | (refine dw_and ?_ ?_; walk_at "t"; walk_at "w")
  | (refine dw_or ?_ ?_; walk_at "t"; walk_at "w"))
local macro_rules | `(tactic| walk_at "set") => `(tactic| first
  | refine ds_set 1 (by assumption) ?_
  | refine ds_set 2 (by assumption) ?_
  | refine ds_set 3 (by assumption) ?_
  | refine ds_set 4 (by assumption) ?_
  | refine ds_set 5 (by assumption) ?_
  | refine ds_set 6 (by assumption) ?_
  | refine ds_set 7 (by assumption) ?_
  | refine ds_set 8 (by assumption) ?_
  | refine ds_set 9 (by assumption) ?_
  | refine ds_set 10 (by assumption) ?_
  | refine ds_set 0 (by assumption) ?_)
local macro_rules | `(tactic| walk_at "g") => `(tactic| first
  | exact dg_name 1 (by assumption)
  | exact dg_name 2 (by assumption)
  | exact dg_name 3 (by assumption)
  | exact dg_name 4 (by assumption)
  | exact dg_name 5 (by assumption)
  | exact dg_name 6 (by assumption)
  | exact dg_name 7 (by assumption)
  | exact dg_name 8 (by assumption)
  | exact dg_name 9 (by assumption)
  | (refine dg_tup 2 rfl ?_; walk_at "gs")
  | (refine dg_tup 3 rfl ?_; walk_at "gs"))
local macro_rules | `(tactic| walk_at "gs") => `(tactic| first
  | exact dgs_nil
  | (refine dgs_cons ?_ ?_; walk_at "g"; walk_at "gs"))
local macro_rules | `(tactic| walk_at "i") => `(tactic| first
  | (refine di_range1 (by rfl) (by assumption) ?_; walk_at "a")
  | (refine di_enum (by rfl) (by assumption) ?_; walk_at "a")
  | (refine di_seq ?_; walk_at "e"))
local macro_rules | `(tactic| walk_at "s") => `(tactic| first
  | (refine ds_ret ?_; walk_at "e")
  | (walk_at "set"; walk_at "e")
  | (refine ds_fld ?_ ?_; walk_at "e"; walk_at "e")
  | (refine ds_if ?_ ?_ ?_; walk_at "t"; walk_at "b"; walk_at "b")
  | (refine ds_expr (de_bm ?_ ?_ (fun _ _ h k => pe_bm PySem.F.plainAttrs_list PySem.F.slot_list_append PySem.F.type_list_append mt_append h k)); walk_at "e"; walk_at "a")
  | (refine ds_expr (de_bm ?_ ?_ (fun _ _ h k => pe_bm PySem.F.plainAttrs_list PySem.F.slot_list_extend PySem.F.type_list_extend mt_extend h k)); walk_at "e"; walk_at "a")
  | (refine ds_asg ?_ (dg_tup 2 rfl ?_); walk_at "e"; walk_at "gs")
  | (refine ds_asg ?_ (dg_sub ?_ ?_ set_list); walk_at "e"; walk_at "e"; walk_at "e")
  | (refine ds_raise _ (by assumption) (by assumption) rfl (by walk_at "rm") (by assumption) (by rfl) ?_; walk_at "a")
  | exact ds_break
  | exact ds_continue
  | (refine ds_while (by first | exact PassesOwn.never | assumption) ?_ ?_; walk_at "t"; walk_at "b")
  | (refine ds_for (by first | exact PassesOwn.never | assumption) rfl ?_ ?_ ?_; walk_at "i"; walk_at "g"; walk_at "b"))
local macro_rules | `(tactic| walk_at "b") => `(tactic| first
  | exact db_nil
  | (refine db_one ?_; walk_at "s")
  | (refine db_cons ?_ ?_; walk_at "s"; walk_at "b"))
local macro_rules | `(tactic| walk_at "nf") => `(tactic| dsimp only [de_slice, do_none, do_some, ds_swap, dt_inS, de_f_int2, de_isN, dt_isN, de_tupT, dt_tru, de_inC, de_mulT, de_lenK, de_sk, de_funX, de_funX0, ds_raise, ds_tryK, XofX, de_split, de_join, de_part, de_lc2, de_lcI, de_kget, de_kin, de_mk, de_fld, ds_fld, Xof, cxOf, Cx.nox, tInQ, List.map, de_lt2, de_le2, dt_lt2, dt_le2, de_ch, dt_ch, de_chll, dt_chll, de_in, de_nin, dt_in, dt_nin, de_gl, de_strT, de_isi2, de_f_tuple, de_f_list, de_f_sum, de_f_sorted, di_str, di_seq, de_lc, ds_setLc, de_err, de_gX, de_VE, de_f_isi, de_dic0, de_dic1, de_int, de_str, de_bl, de_non, de_v, de_op, de_cmp, de_one, de_and, de_or, de_not, de_neg, de_ifE, da_nil, da_cons, de_tup, de_lst, de_ix, de_callB, de_callT, de_fun, dt_val, dt_cmp, dt_not, dt_w, dw_and1, dw_or1, dw_and, dw_or, dg_name, dgs_nil, dgs_cons, dg_tup, dg_sub, di_list, di_tup, di_range1, di_enum, db_nil, db_one, db_cons, ds_ret, ds_retN, ds_set, ds_asg, ds_if, ds_expr, ds_for, ds_while, ds_break, ds_continue, ds_never, de_bm, de_errF, de_f_len, de_f_int, de_f_abs, de_f_all, de_f_any, de_f_min, de_f_max, de_f_repr, de_add, de_sub, de_mul, de_mod, de_fdiv, de_pow, de_eq, de_ne, de_lt, de_le, de_gt, de_ge, dt_eq, dt_ne, dt_lt, dt_le, dt_gt, dt_ge])
local macro_rules | `(tactic| walk_at "lc3") => `(tactic| (intro _ _ _ _ _; walk_at "g"))
local macro_rules | `(tactic| walk_at "lc4") => `(tactic| (intro _ _ _ _ _; walk_at "e"))
local macro_rules | `(tactic| walk_at "lc5") => `(tactic| (intro _ _ _ _ _; rfl))

/-! ### steps over data -/
local macro_rules | `(tactic| walk_at "x") => `(tactic| first
  | with_reducible refine esm_seq ?_
  | with_reducible refine esm_next ?_
  | with_reducible refine esm_brk ?_
  | with_reducible refine esm_cont ?_
  | with_reducible refine esm_ret ?_
  | with_reducible refine esm_retN ?_
  | with_reducible refine esm_raise (CalE.T (by assumption)) (by assumption) ?_
  | with_reducible refine evm_funTX (by assumption) ?_
  | with_reducible refine evm_funT0 ?_
  | with_reducible refine evm_isi ?_
  | with_reducible refine evm_slice ?_
  | with_reducible refine eom_none ?_
  | with_reducible refine eom_some ?_
  | with_reducible refine esm_swp ?_
  | with_reducible refine evm_popAt rfl ?_
  | with_reducible refine evm_lenO rfl ?_
  | with_reducible refine cw_min2 ?_
  | with_reducible refine esm_asgLN (by decide) ?_
  | with_reducible refine ow_isN rfl ?_
  | with_reducible refine esm_newL ?_
  | (with_reducible refine esm_newD (by exact Nat.le_of_ble_eq_true rfl) ?_; dsimp only [List.set])
  | with_reducible refine esm_asg ?_
  | with_reducible refine esm_if ?_
  | with_reducible refine esm_app rfl ?_
  | with_reducible refine esm_ext rfl ?_
  | with_reducible refine evm_int ?_
  | with_reducible refine evm_str ?_
  | with_reducible refine evm_bl ?_
  | with_reducible refine evm_non ?_
  | with_reducible refine evm_var rfl ?_
  | with_reducible refine evm_c (by assumption) ?_
  | (with_reducible refine evm_own rfl ?_; dsimp only [List.set])
  | (with_reducible refine evm_ownD rfl ?_; dsimp only [List.set])
  | with_reducible refine evm_isStr ?_
  | with_reducible refine evm_ixO rfl ?_
  | with_reducible refine evm_op ?_
  | with_reducible refine evm_chain ?_
  | with_reducible refine evm_fldV (by assumption) rfl (by with_unfolding_all decide) rfl ?_
  | with_reducible refine evm_fldO (by assumption) rfl (by with_unfolding_all decide) rfl ?_
  | with_reducible refine esm_fldN (by assumption) (by with_unfolding_all decide) ?_
  | with_reducible refine evm_if ?_
  | with_reducible refine evm_andV ?_
  | with_reducible refine evm_orV ?_
  | with_reducible refine evm_notV ?_
  | with_reducible refine evm_tup ?_
  | with_reducible refine evm_lst ?_
  | with_reducible refine evm_call ?_
  | with_reducible refine evm_fun ?_
  | with_reducible refine evm_split ?_
  | with_reducible refine evm_join ?_
  | with_reducible refine evm_part ?_
  | with_reducible refine evm_funT ?_
  | with_reducible refine evm_funP rfl ?_
  | with_reducible refine evm_make ?_
  | with_reducible refine eam_nil ?_
  | with_reducible refine eam_cons ?_
  | with_reducible refine etm_test ?_
  | with_reducible refine etm_B ?_
  | with_reducible refine etm_not ?_
  | with_reducible refine etm_and ?_
  | with_reducible refine etm_or ?_
  | with_reducible refine etm_yes ?_
  | with_reducible refine ow_addI ?_
  | with_reducible refine ow_subI ?_
  | with_reducible refine cw_lenL ?_
  | with_reducible refine cw_lenT ?_
  | with_reducible refine cw_int ?_
  | with_reducible refine cw_tupL ?_
  | with_reducible refine cw_lstL ?_
  | with_reducible refine cw_lstT ?_
  | refine br_t (by first | rfl | assumption | exact bnt (by assumption) | exact bnf (by assumption)) ?_
  | refine br_f (by first | rfl | assumption | exact bnt (by assumption) | exact bnf (by assumption)) ?_
  | refine rb_t (by first | rfl | assumption | exact bnt (by assumption) | exact bnf (by assumption)) ?_
  | refine rb_f (by first | rfl | assumption | exact bnt (by assumption) | exact bnf (by assumption)) ?_
  | with_reducible refine eim_varL rfl ?_
  | with_reducible refine eim_varT rfl ?_
  | with_reducible refine eim_varS rfl ?_
  | (with_reducible refine eim_ownL rfl ?_; dsimp only [List.set])
  | with_reducible refine eim_range1 ?_
  | with_reducible refine eim_enum ?_
  | with_reducible refine evm_scrLen rfl ?_
  | with_reducible refine cw_max2 ?_
  | (with_reducible refine lcy ?_; dsimp only [List.set])
  | (with_reducible refine lct ?_; dsimp only [List.set])
  | (with_reducible refine lcy2 ?_; dsimp only [List.set])
  | with_reducible refine esm_forN ?_
  | with_reducible refine esm_forN2 ?_
  | with_reducible refine esm_asg2 ?_
  | with_reducible refine evm_lcY ?_
  | with_reducible refine evm_lcT ?_
  | with_reducible refine evm_lcY2 ?_
  | (with_reducible refine ⟨_, rfl, ?_⟩)
  | (refine ⟨_, _, rfl, (by exact Nat.lt_of_lt_of_le (Nat.lt_succ_self _) (Nat.le_of_ble_eq_true rfl)), ?_⟩; dsimp only [List.set])
  | (refine ⟨Nat.le_of_ble_eq_true rfl, ?_⟩; try dsimp only [List.set]))
local macro_rules | `(tactic| walk_at "xv") => `(tactic| first
  | with_reducible refine ow_ltI ?_
  | with_reducible refine ow_leI ?_
  | with_reducible refine ow_leS ?_
  | with_reducible refine ow_gtI ?_
  | with_reducible refine ow_geI ?_
  | with_reducible refine ow_eqI ?_
  | with_reducible refine ow_eqS ?_
  | with_reducible refine ow_neI ?_
  | with_reducible refine ow_neS ?_)
local macro_rules | `(tactic| walk_at "xo") => `(tactic| first
  | with_reducible refine oc_ltI ?_
  | with_reducible refine oc_leI ?_
  | with_reducible refine oc_leS ?_
  | with_reducible refine oc_gtI ?_
  | with_reducible refine oc_geI ?_
  | with_reducible refine oc_eqI ?_
  | with_reducible refine oc_eqS ?_
  | with_reducible refine oc_neI ?_
  | with_reducible refine oc_neS ?_)
local macro_rules | `(tactic| walk_at "xc") => `(tactic| (walk_at "xo"; intro b hb; cases b <;> walk_at "xs"))
local macro_rules | `(tactic| walk_at "xs") => `(tactic| repeat walk_at "x")
section
variable {P : Program} {w : World} {K : PySem.W.Frag} {mg : Str → Option Value} {base : Heap}
local macro_rules | `(tactic| walk_at "s") => `(tactic| (refine ds_swap 2 3 rfl (by assumption) ?_; walk_at "e"))
local macro_rules | `(tactic| walk_at "x") => `(tactic| with_reducible refine slw_lst ?_)
theorem scBent : FnScope ["pot", "lines", "way", "at", "line", "spot", "sign"] ["pot", "lines"] (defScope sBent) := ⟨rfl, rfl, rfl, by decide +kernel, rfl, by decide +kernel, by decide +kernel⟩
/-- a line: short, plain signs, none of them a line feed -/
structure LnOk (L : Nat) (x : Str) : Prop where
  l : x.length ≤ L
  c : ∀ c ∈ x.cps.toList, c < 128 ∧ c ≠ 10
structure LsOk (n L : Nat) (ls : List Str) : Prop where
  e : ls ≠ []
  l : ls.length ≤ n
  a : ∀ x ∈ ls, LnOk L x
theorem LnOk.le {L L' : Nat} {x : Str} (h : LnOk L x) (l : L ≤ L') : LnOk L' x := ⟨Nat.le_trans h.l l, h.c⟩
theorem str_app (x y : Str) : (x ++ y).cps.toList = x.cps.toList ++ y.cps.toList := by
  show (x.cps ++ y.cps).toList = _
  rw [Array.toList_append]
theorem len_app (x y : Str) : (x ++ y).length = x.length + y.length := Str.length_append x y
theorem LnOk.app {L L' : Nat} {x y : Str} (h : LnOk L x) (k : LnOk L' y) : LnOk (L + L') (x ++ y) := ⟨by rw [len_app]; exact Nat.add_le_add h.l k.l, fun c hc => by
  rw [str_app] at hc
  exact (List.mem_append.mp hc).elim (h.c c) (k.c c)⟩
theorem cutS_mem {z : Str} {lo hi : Option Int} {c : Nat} (h : c ∈ (cutS z lo hi).cps.toList) : c ∈ z.cps.toList := by
  have e : (cutS z lo hi).cps.toList = List.take (HT.sIx z.length z.length hi - HT.sIx z.length 0 lo) (List.drop (HT.sIx z.length 0 lo) z.cps.toList) := rfl
  rw [e] at h
  exact List.mem_of_mem_drop (List.mem_of_mem_take h)
theorem cutS_len {z : Str} {lo hi : Option Int} : (cutS z lo hi).length ≤ z.length := by
  have e : (cutS z lo hi).cps.toList = List.take (HT.sIx z.length z.length hi - HT.sIx z.length 0 lo) (List.drop (HT.sIx z.length 0 lo) z.cps.toList) := rfl
  show (cutS z lo hi).cps.size ≤ z.cps.size
  rw [← Array.length_toList, e, List.length_take, List.length_drop, Array.length_toList]
  omega
theorem cutS_lo {z : Str} {n : Nat} : (cutS z none (some ((n : Nat) : Int))).length ≤ n := by
  have e : (cutS z none (some ((n : Nat) : Int))).cps.toList = List.take (HT.sIx z.length z.length (some ((n : Nat) : Int)) - 0) (List.drop 0 z.cps.toList) := rfl
  have e2 : HT.sIx z.length z.length (some ((n : Nat) : Int)) = min n z.length := by
    show (if ((n : Nat) : Int) < 0 then (((n : Nat) : Int) + (z.length : Nat)).toNat else min ((n : Nat) : Int).toNat z.length) = _
    rw [if_neg (by omega), Int.toNat_natCast]
  show (cutS z none (some ((n : Nat) : Int))).cps.size ≤ n
  rw [← Array.length_toList, e, List.length_take, e2]
  omega
theorem cutS_hi {z : Str} {n : Nat} : (cutS z (some ((n : Nat) : Int)) none).length ≤ z.length - n := by
  have e : (cutS z (some ((n : Nat) : Int)) none).cps.toList = List.take (z.length - HT.sIx z.length 0 (some ((n : Nat) : Int))) (List.drop (HT.sIx z.length 0 (some ((n : Nat) : Int))) z.cps.toList) := rfl
  have e2 : HT.sIx z.length 0 (some ((n : Nat) : Int)) = min n z.length := by
    show (if ((n : Nat) : Int) < 0 then (((n : Nat) : Int) + (z.length : Nat)).toNat else min ((n : Nat) : Int).toNat z.length) = _
    rw [if_neg (by omega), Int.toNat_natCast]
  show (cutS z (some ((n : Nat) : Int)) none).cps.size ≤ z.length - n
  rw [← Array.length_toList, e, List.length_take, e2]
  omega
theorem LnOk.mid {L : Nat} {z x : Str} {a b : Nat} (h : LnOk L z) (k : LnOk 10 x) (hab : a ≤ b) (ha : a ≤ z.length) : LnOk (L + 10) (cutS z none (some ((a : Nat) : Int)) ++ x ++ cutS z (some ((b : Nat) : Int)) none) := ⟨by
  have h1 := cutS_lo (z := z) (n := a)
  have h2 := cutS_hi (z := z) (n := b)
  have h3 := h.l
  have h4 := k.l
  rw [len_app, len_app]
  omega, fun c hc => by
  rw [str_app, str_app] at hc
  rcases List.mem_append.mp hc with hc | hc
  · rcases List.mem_append.mp hc with hc | hc
    · exact h.c c (cutS_mem hc)
    · exact k.c c hc
  · exact h.c c (cutS_mem hc)⟩
theorem LnOk.cut {L : Nat} {x : Str} {lo hi : Option Int} (h : LnOk L x) : LnOk L (cutS x lo hi) := ⟨Nat.le_trans cutS_len h.l, fun c hc => h.c c (cutS_mem hc)⟩
theorem cutD_lo (ds : List D) (n : Nat) (h : n ≤ ds.length) : cutD ds none (some ((n : Nat) : Int)) = ds.take n := by
  have e : HT.sIx ds.length ds.length (some ((n : Nat) : Int)) = n := by
    show (if ((n : Nat) : Int) < 0 then (((n : Nat) : Int) + (ds.length : Nat)).toNat else min ((n : Nat) : Int).toNat ds.length) = n
    rw [if_neg (by omega), Int.toNat_natCast]
    omega
  show List.take (HT.sIx ds.length ds.length (some ((n : Nat) : Int)) - 0) (List.drop 0 ds) = _
  rw [e]
  rfl
theorem cutD_hi (ds : List D) (n : Nat) (h : n ≤ ds.length) : cutD ds (some ((n : Nat) : Int)) none = ds.drop n := by
  have e : HT.sIx ds.length 0 (some ((n : Nat) : Int)) = n := by
    show (if ((n : Nat) : Int) < 0 then (((n : Nat) : Int) + (ds.length : Nat)).toNat else min ((n : Nat) : Int).toNat ds.length) = n
    rw [if_neg (by omega), Int.toNat_natCast]
    omega
  show List.take (ds.length - HT.sIx ds.length 0 (some ((n : Nat) : Int))) (List.drop (HT.sIx ds.length 0 (some ((n : Nat) : Int))) ds) = _
  rw [e]
  exact List.take_of_length_le (by rw [List.length_drop]; exact Nat.le_refl _)
theorem cut_take {ls : List Str} {n : Nat} (h : n ≤ ls.length) : cutD (ls.map .str) none (some ((n : Nat) : Int)) = (ls.take n).map .str := by
  rw [cutD_lo _ _ (by rw [List.length_map]; exact h), List.map_take]
theorem cut_drop {ls : List Str} {n : Nat} (h : n ≤ ls.length) : cutD (ls.map .str) (some ((n : Nat) : Int)) none = (ls.drop n).map .str := by
  rw [cutD_hi _ _ (by rw [List.length_map]; exact h), List.map_drop]
theorem atI_nat {α : Type} {xs : List α} {n : Nat} (h : n < xs.length) : L2.atI xs ((n : Nat) : Int) = some xs[n] := by
  unfold L2.atI ixN
  rw [if_pos (by omega), if_pos (by omega), Int.toNat_natCast]
  exact List.getElem?_eq_getElem h
def preBe : List D → Prop := fun ds => ∃ n L ls, ds = [.lst (ls.map .str)] ∧ n ≤ 1000 ∧ L ≤ 1000 ∧ LsOk n L ls
def postBe : List D → D → Prop := fun ds d => ∀ n L ls, ds = [.lst (ls.map .str)] → LsOk n L ls → ∃ ls', d = .lst (ls'.map .str) ∧ LsOk (n + 1) (L + 10) ls'
theorem ec_bent {n L : Nat} {ls : List Str} {φ : D → Prop} (hn : n ≤ 1000) (hL : L ≤ 1000) (h : LsOk n L ls) (q : ∀ ls', LsOk (n + 1) (L + 10) ls' → φ (.lst (ls'.map .str))) : preBe [.lst (ls.map .str)] ∧ ∀ d, postBe [.lst (ls.map .str)] d → φ d := ⟨⟨n, L, ls, rfl, hn, hL, h⟩, fun d z => by
  obtain ⟨ls', rfl, g⟩ := z n L ls rfl h
  exact q ls' g⟩
theorem map_str_inj : ∀ {xs ys : List Str}, xs.map D.str = ys.map D.str → xs = ys
  | [], [], _ => rfl
  | x :: xs, y :: ys, e => by
    injection e with e1 e2
    cases e1
    rw [map_str_inj e2]
theorem lines3 {n L : Nat} {ls : List Str} {a b : Nat} {x : Str} (h : LsOk n L ls) (hx : LnOk (L + 10) x) (hb : b ≤ ls.length) (ha : a ≤ b) (hl : a < b ∨ True) : LsOk (n + 1) (L + 10) (ls.take a ++ [x] ++ ls.drop b) := ⟨by simp, by
  have := h.l
  simp only [List.length_append, List.length_take, List.length_drop, List.length_singleton]
  omega, fun y hy => by
  simp only [List.mem_append, List.mem_singleton] at hy
  rcases hy with (hy | rfl) | hy
  · exact (h.a y (List.mem_of_mem_take hy)).le (by omega)
  · exact hx
  · exact (h.a y (List.mem_of_mem_drop hy)).le (by omega)⟩
theorem ok_bent {f : Addr} {fd : FuncData} {k : Nat} (F : Fun K "_law_bent_lines" "_law_bent_lines" sBent f fd) (cTake : Cal P w K mg base k "_law_take" (spP K 1 preTake postTake)) (cOf : Cal P w K mg base k "_law_of" (spP K 1 preOf postOf)) (gL : mg "len" = none) :
    FnG P w K mg base CX0 (k + 1) f fd ["pot", "lines"] (spP K 5 preBe postBe) := by
  refine okMP F scBent (fun ds z => ?_) (by decide) fun cdv A outer s H E hr gq hu h1 => ?_
  · obtain ⟨_, _, _, rfl, _⟩ := z
    rfl
  have nd := scBent.nd
  refine ⟨Subtype.val (p := PSs _ _) ?d, Subtype.property ?d, ?r⟩
  case d => walk_at "b"
  case r =>
    walk_at "nf"
    intro p ds m z hm
    obtain ⟨n, L, ls, rfl, hn, hL, g⟩ := z
    have fin : ∀ {q : Nat} {ls' : List Str}, q ≤ m + 5 → (∀ n L, LsOk n L ls → LsOk (n + 1) (L + 10) ls') → q ≤ m + 5 ∧ postBe [.lst (ls.map .str)] (.lst (ls'.map .str)) := fun {q ls'} l h => ⟨l, fun n L ls2 e g2 => by
      injection e with e1 e2
      injection e1 with e1
      cases map_str_inj e1
      exact ⟨_, rfl, h n L g2⟩⟩
    have ln := g.l
    have l0 : 0 < ls.length := List.length_pos_iff.mpr g.e
    show EsM K (some p) Z0 _ [.pot, .d (.lst (ls.map .str)), .un, .un, .un, .un, .un] m _ _ _ _
    walk_at "xs"
    refine ec_take (u := 8) (by decide) (by decide) ?_ |>.imp_right (fun h => ⟨by omega, h⟩)
    intro way hw
    walk_at "xs"
    rw [List.length_map]
    refine ec_take (u := ((ls.length : Nat) : Int)) (by omega) (by omega) ?_ |>.imp_right (fun h => ⟨by omega, h⟩)
    intro at' hat
    have hat : at' < ls.length := by omega
    walk_at "xs"
    refine ⟨_, _, rfl, by exact Nat.le_of_ble_eq_true rfl, by exact Nat.le_of_ble_eq_true rfl, ?_⟩
    try dsimp only [List.set]
    have hx : LnOk L ls[at'] := g.a _ (List.getElem_mem hat)
    have small : ∀ {xs : List Str}, xs.length ≤ 3000 → (xs.map D.str).length ≤ 3000 := fun h => by rw [List.length_map]; exact h
    have tk : (ls.take at').length ≤ 1000 := by rw [List.length_take]; omega
    have dr : ∀ b, (ls.drop b).length ≤ 1000 := fun b => by rw [List.length_drop]; omega
    have put : ∀ {x : Str} {b : Nat}, (ls.take at').map D.str ++ [.str x] ++ (ls.drop b).map D.str = (ls.take at' ++ [x] ++ ls.drop b).map .str := fun {x b} => by simp
    walk_at "xs"
    refine ow_ixL (atI_nat (by rw [List.length_map]; exact hat)) ?_
    rw [List.getElem_map]
    obtain ⟨x0, hx0⟩ : ∃ x0, ls[at'] = x0 := ⟨_, rfl⟩
    have hm0 : x0 ∈ ls := hx0 ▸ List.getElem_mem hat
    rw [hx0] at hx ⊢
    refine ⟨by exact Nat.le_of_ble_eq_true rfl, ?_⟩
    try dsimp only [List.set]
    have known : ∀ {ys : List Str}, ys.all (fun y => y.cps.toList.all fun c => decide (c < 128 ∧ c ≠ 10)) = true → ys.all (fun y => decide (y.length ≤ 10)) = true → ∀ y ∈ ys, LnOk 10 y := fun h1 h2 y hy => ⟨of_decide_eq_true (List.all_eq_true.mp h2 y hy), fun c hc => of_decide_eq_true (List.all_eq_true.mp (List.all_eq_true.mp h1 y hy) c hc)⟩
    refine esm_join (fun r q => r = [.pot, .d (.lst (ls.map .str)), .d (.int (way : Nat)), .d (.int (at' : Nat)), .d (.str x0), .un, .un] ∧ q ≤ m + 2) ?_ fun r q z => ?_
    · walk_at "xs"
      walk_at "xo"
      intro c hc
      refine ⟨_, rfl, ?_⟩
      cases c with
      | true =>
        walk_at "xs"
        rw [cut_take (by omega)]
        refine ow_addL (by rw [List.length_map]; show _ + 1 ≤ _; omega) ?_
        walk_at "xs"
        rw [cut_drop (by omega)]
        refine ow_addL (by rw [List.length_append, List.length_map, List.length_map]; have := dr at'; show _ + 1 + _ ≤ _; omega) ?_
        rw [put]
        exact fin (by omega) fun n L g2 => lines3 g2 ((g2.a _ hm0).le (by omega)) (by omega) (Nat.le_refl _) (.inr trivial)
      | false =>
        walk_at "xs"
        exact ⟨rfl, by omega⟩
    obtain ⟨rfl, hq⟩ := z
    refine esm_join (fun r q => r = [.pot, .d (.lst (ls.map .str)), .d (.int (way : Nat)), .d (.int (at' : Nat)), .d (.str x0), .un, .un] ∧ q ≤ m + 2) ?_ fun r q2 z => ?_
    · walk_at "xs"
      walk_at "xo"
      intro c hc
      refine ⟨_, rfl, ?_⟩
      cases c with
      | true =>
        walk_at "xs"
        refine ec_ofS (ns := ["", x0, "-", " "]) (by exact Nat.le_of_ble_eq_true rfl) (by exact Nat.le_of_ble_eq_true rfl) ?_ |>.imp_right (fun h => ⟨by omega, h⟩)
        intro x hx2
        walk_at "xs"
        refine ow_addL (by rw [List.length_map]; show _ + 1 ≤ _; omega) ?_
        rw [show ls.map D.str ++ [.str x] = (ls ++ [x]).map D.str by rw [List.map_append]; rfl]
        refine fin (by omega) fun n L g2 => ⟨by simp, by rw [List.length_append]; exact Nat.succ_le_succ g2.l, fun y hy => ?_⟩
        rcases List.mem_append.mp hy with hy | hy
        · exact (g2.a y hy).le (by omega)
        · rw [List.mem_singleton.mp hy]
          simp only [List.mem_cons, List.not_mem_nil, or_false] at hx2
          have kn := known (ys := ["", "-", " "]) (by decide) (by decide)
          rcases hx2 with rfl | rfl | rfl | rfl
          · exact (kn _ (by decide)).le (by omega)
          · exact (g2.a _ hm0).le (by omega)
          · exact (kn _ (by decide)).le (by omega)
          · exact (kn _ (by decide)).le (by omega)
      | false =>
        walk_at "xs"
        exact ⟨rfl, by omega⟩
    obtain ⟨rfl, hq2⟩ := z
    refine esm_join (fun r q => r = [.pot, .d (.lst (ls.map .str)), .d (.int (way : Nat)), .d (.int (at' : Nat)), .d (.str x0), .un, .un] ∧ q ≤ m + 2) ?_ fun r q3 z => ?_
    · walk_at "xs"
      walk_at "xo"
      intro c hc
      refine ⟨_, rfl, ?_⟩
      cases c with
      | true =>
        walk_at "xs"
        rw [List.length_map]
        refine ow_gtI ?_
        refine ⟨_, rfl, ?_⟩
        cases h2 : decide ((1 : Int) < ((ls.length : Nat) : Int)) with
        | true =>
          have h2 := of_decide_eq_true h2
          walk_at "xs"
          rw [cut_take (by omega)]
          rw [show ((at' : Nat) : Int) + 1 = ((at' + 1 : Nat) : Int) by omega, cut_drop (by omega)]
          refine ow_addL (by rw [List.length_map, List.length_map]; have := dr (at' + 1); omega) ?_
          rw [← List.map_append]
          refine fin (by omega) fun n L g2 => ⟨fun e => ?_, by have := g2.l; rw [List.length_append, List.length_take, List.length_drop]; omega, fun y hy => ?_⟩
          · have z := congrArg List.length e
            rw [List.length_append, List.length_take, List.length_drop] at z
            simp only [List.length_nil] at z
            omega
          · rcases List.mem_append.mp hy with hy | hy
            · exact (g2.a y (List.mem_of_mem_take hy)).le (by omega)
            · exact (g2.a y (List.mem_of_mem_drop hy)).le (by omega)
        | false =>
          walk_at "xs"
          exact ⟨rfl, by omega⟩
      | false =>
        walk_at "xs"
        exact ⟨rfl, by omega⟩
    obtain ⟨rfl, hq3⟩ := z
    refine esm_join (fun r q => r = [.pot, .d (.lst (ls.map .str)), .d (.int (way : Nat)), .d (.int (at' : Nat)), .d (.str x0), .un, .un] ∧ q ≤ m + 2) ?_ fun r q4 z => ?_
    · walk_at "xs"
      walk_at "xo"
      intro c hc
      refine ⟨_, rfl, ?_⟩
      cases c with
      | true =>
        walk_at "xs"
        rw [cut_take (by omega)]
        refine ec_ofS (ns := [" -", " red", " ", " A", " aaaaaaaaa"]) (by decide) (by decide) ?_ |>.imp_right (fun h => ⟨by omega, h⟩)
        intro x hx2
        have kn := known (ys := [" -", " red", " ", " A", " aaaaaaaaa"]) (by decide) (by decide) x hx2
        refine ow_addS (by have := hx.l; have := kn.l; omega) ?_
        walk_at "xs"
        refine ow_addL (by rw [List.length_map]; show _ + 1 ≤ _; omega) ?_
        walk_at "xs"
        rw [show ((at' : Nat) : Int) + 1 = ((at' + 1 : Nat) : Int) by omega, cut_drop (by omega)]
        refine ow_addL (by rw [List.length_append, List.length_map, List.length_map]; have := dr (at' + 1); show _ + 1 + _ ≤ _; omega) ?_
        rw [put]
        exact fin (by omega) fun n L g2 => lines3 g2 ((g2.a _ hm0).app kn) (by omega) (Nat.le_succ _) (.inr trivial)
      | false =>
        walk_at "xs"
        exact ⟨rfl, by omega⟩
    obtain ⟨rfl, hq4⟩ := z
    walk_at "xs"
    refine cw_lenS (Nat.le_trans hx.l (by omega)) ?_
    walk_at "xs"
    refine ec_take (u := ((x0.length : Nat) : Int) + 1) (by omega) (by have := hx.l; omega) ?_ |>.imp_right (fun h => ⟨by omega, h⟩)
    intro spot hs
    walk_at "xs"
    refine ec_ofS (ns := [" ", "-", "a", "A", "0", ""]) (by decide) (by decide) ?_ |>.imp_right (fun h => ⟨by omega, h⟩)
    intro x hx2
    have kn := known (ys := [" ", "-", "a", "A", "0", ""]) (by decide) (by decide) x hx2
    walk_at "xs"
    rw [cut_take (by omega)]
    refine slw_str (Nat.le_trans hx.l (by omega)) ?_
    walk_at "xs"
    refine ow_addS (Nat.le_trans (Nat.add_le_add (cutS_len (z := x0)) kn.l) (by have := hx.l; omega)) ?_
    walk_at "xs"
    refine ec_take (u := 2) (by decide) (by decide) ?_ |>.imp_right (fun h => ⟨by omega, h⟩)
    intro two h2
    walk_at "xs"
    refine slw_str (Nat.le_trans hx.l (by omega)) ?_
    refine ow_addS (by rw [len_app]; exact Nat.le_trans (Nat.add_le_add (Nat.add_le_add (cutS_len (z := x0)) kn.l) (cutS_len (z := x0))) (by have := hx.l; omega)) ?_
    walk_at "xs"
    refine ow_addL (by rw [List.length_map]; show _ + 1 ≤ _; omega) ?_
    walk_at "xs"
    rw [show ((at' : Nat) : Int) + 1 = ((at' + 1 : Nat) : Int) by omega, cut_drop (by omega)]
    refine ow_addL (by rw [List.length_append, List.length_map, List.length_map]; have := dr (at' + 1); show _ + 1 + _ ≤ _; omega) ?_
    rw [put, show (((spot : Nat) : Int) + ((two : Nat) : Int)) = ((spot + two : Nat) : Int) by omega]
    exact fin (by omega) fun n L g2 => lines3 g2 ((g2.a _ hm0).mid kn (by omega) (by omega)) (by omega) (Nat.le_succ _) (.inr trivial)
end
end Tp

namespace Tp
open PySem PySem.Spec PyProof.Rows L2
/-! ### the derivations, by the syntax -/
local macro_rules | `(tactic| walk_at "pv") => `(tactic| first | exact de_v 0 | exact de_v 1 | exact de_v 2 | exact de_v 3 | exact de_v 4 | exact de_v 5 | exact de_v 6 | exact de_v 7 | exact de_v 8 | exact de_v 9 | exact de_v 10 | exact de_v 11)
local macro_rules | `(tactic| walk_at "rm") => `(tactic| first | assumption | exact Room.mono (by assumption) (by omega))
local macro_rules | `(tactic| walk_at "e") => `(tactic| first
  | exact de_int
  | exact de_str
  | exact de_bl
  | exact de_non
  | (refine de_add ?_ ?_ <;> walk_at "e")
  | (refine de_sub ?_ ?_ <;> walk_at "e")
  | (refine de_mul ?_ ?_ <;> walk_at "e")
  | (refine de_mod ?_ ?_ <;> walk_at "e")
  | (refine de_fdiv ?_ ?_ <;> walk_at "e")
  | (refine de_pow ?_ ?_ <;> walk_at "e")
  | (refine de_eq (by assumption) ?_ ?_ <;> walk_at "e")
  | (refine de_ne (by assumption) ?_ ?_ <;> walk_at "e")
  | (refine de_lt2 ?_ ?_ <;> walk_at "e")
  | (refine de_le2 ?_ ?_ <;> walk_at "e")
  | (refine de_gt ?_ ?_ <;> walk_at "e")
  | (refine de_ge ?_ ?_ <;> walk_at "e")
  | (refine de_chll ?_ ?_ ?_ <;> walk_at "e")
  | (refine de_inC ?_; walk_at "e")
  | (refine de_isN ?_ ?_ <;> walk_at "e")
  | (refine de_in (by assumption) ?_ ?_ <;> walk_at "e")
  | (refine de_nin (by assumption) ?_ ?_ <;> walk_at "e")
  | (refine de_one ?_; walk_at "e")
  | (refine de_and ?_ ?_ <;> walk_at "e")
  | (refine de_or ?_ ?_ <;> walk_at "e")
  | (refine de_not ?_; walk_at "e")
  | (refine de_neg ?_; walk_at "e")
  | (refine de_ifE ?_ ?_ ?_; walk_at "t"; walk_at "e"; walk_at "e")
  | (refine de_tup ?_ (fun _ h => pe_tup h); walk_at "a")
  | (refine de_lst ?_ (fun _ h => pe_lst h); walk_at "a")
  | exact de_dic0
  | (refine de_dic1 ?_; walk_at "e")
  | (refine de_fld ?_; walk_at "e")
  | walk_at "lc"
  | (refine de_ix ix_seq ?_ ?_ (fun _ _ => rfl) <;> walk_at "e")
  | walk_at "c"
  | (refine de_fun (by assumption) (by walk_at "rm") (by assumption) (by rfl) ?_; walk_at "a")
  | (refine de_funX _ (by assumption) (by assumption) (by walk_at "rm") (by assumption) (by rfl) ?_; walk_at "a")
  | (refine de_funX0 (by assumption) (by walk_at "rm") (by assumption) (by rfl) ?_; walk_at "a")
  | (refine de_mk (by assumption) (by walk_at "rm") (by assumption) (by rfl) ?_; walk_at "a")
  | (refine de_err (by assumption) (by walk_at "rm") (by assumption) (by rfl) ?_; walk_at "a")
  | walk_at "pv"
  | exact de_gX (by assumption) (by rfl)
  | exact de_gl (by assumption) (by rfl)
  | exact de_strT (by rfl) (by assumption)
  | exact de_tupT (by rfl) (by assumption)
  | (refine de_slice ?_ ?_ ?_; walk_at "e"; walk_at "po"; walk_at "po")
  | (refine de_bm ?_ ?_ (fun _ _ h k => pe_bm PySem.F.plainAttrs_list PySem.F.slot_list_pop PySem.F.type_list_pop mt_popAt h k); walk_at "e"; walk_at "a")
  | walk_at "el"
  | exact de_VE (by rfl) (by assumption))
local macro_rules | `(tactic| walk_at "c") => `(tactic| first
  | (refine de_split ?_ ?_ <;> walk_at "e")
  | (refine de_join ?_ ?_ <;> walk_at "e")
  | (refine de_part ?_ ?_ <;> walk_at "e")
  | (refine de_kget (by assumption) ?_ ?_ ?_ <;> walk_at "e")
  | (refine de_f_len (by assumption) (by rfl) ?_; walk_at "a")
  | (refine de_f_int (by assumption) (by rfl) ?_; walk_at "a")
  | (refine de_f_abs (by assumption) (by rfl) ?_; walk_at "a")
  | (refine de_f_all rfl (by assumption) (by rfl) ?_; walk_at "a")
  | (refine de_f_any rfl (by assumption) (by rfl) ?_; walk_at "a")
  | (refine de_f_min rfl (by assumption) (by rfl) ?_; walk_at "a")
  | (refine de_f_max rfl (by assumption) (by rfl) ?_; walk_at "a")
  | (refine de_isi2 (by assumption) (by rfl) ?_; walk_at "a")
  | (refine de_f_tuple (by assumption) (by rfl) ?_; walk_at "a")
  | (refine de_f_list (by assumption) (by rfl) ?_; walk_at "a")
  | (refine de_f_sum rfl (by assumption) (by rfl) ?_; walk_at "a")
  | (refine de_f_sorted (by assumption) (by rfl) ?_; walk_at "a")
  | (refine de_f_repr (by assumption) (by assumption) (by assumption) (by assumption) (by rfl) ?_; walk_at "a"))
local macro_rules | `(tactic| walk_at "po") => `(tactic| first
  | exact do_none
  | (refine do_some ?_; walk_at "e"))
local macro_rules | `(tactic| walk_at "a") => `(tactic| first
  | exact da_nil
  | (refine da_cons ?_ ?_; walk_at "e"; walk_at "a"))
local macro_rules | `(tactic| walk_at "t") => `(tactic| first
  | (refine dt_lt2 ?_ ?_ <;> walk_at "e")
  | (refine dt_le2 ?_ ?_ <;> walk_at "e")
  | (refine dt_gt ?_ ?_ <;> walk_at "e")
  | (refine dt_ge ?_ ?_ <;> walk_at "e")
  | (refine dt_chll ?_ ?_ ?_ <;> walk_at "e")
  | (refine dt_isN ?_ ?_ <;> walk_at "e")
  | (refine dt_in (by assumption) ?_ ?_ <;> walk_at "e")
  | (refine dt_nin (by assumption) ?_ ?_ <;> walk_at "e")
  | (refine dt_eq (by assumption) ?_ ?_ <;> walk_at "e")
  | (refine dt_ne (by assumption) ?_ ?_ <;> walk_at "e")
  | (refine dt_not ?_; walk_at "t")
  | (refine dt_w ?_; walk_at "w")
  | (refine dt_val ?_; walk_at "e"))
local macro_rules | `(tactic| walk_at "w") => `(tactic| first
  | (refine dw_and1 ?_; walk_at "t")
  | (refine dw_or1 ?_; walk_at "t")
  | (refine dw_and ?_ ?_; walk_at "t"; walk_at "w")
  | (refine dw_or ?_ ?_; walk_at "t"; walk_at "w"))
local macro_rules | `(tactic| walk_at "set") => `(tactic| first
  | refine ds_set 1 (by assumption) ?_
  | refine ds_set 2 (by assumption) ?_
  | refine ds_set 3 (by assumption) ?_
  | refine ds_set 4 (by assumption) ?_
  | refine ds_set 5 (by assumption) ?_
  | refine ds_set 6 (by assumption) ?_
  | refine ds_set 7 (by assumption) ?_
  | refine ds_set 8 (by assumption) ?_
  | refine ds_set 9 (by assumption) ?_
  | refine ds_set 10 (by assumption) ?_
  | refine ds_set 0 (by assumption) ?_)
local macro_rules | `(tactic| walk_at "g") => `(tactic| first
  | exact dg_name 1 (by assumption)
  | exact dg_name 2 (by assumption)
  | exact dg_name 3 (by assumption)
  | exact dg_name 4 (by assumption)
  | exact dg_name 5 (by assumption)
  | exact dg_name 6 (by assumption)
  | exact dg_name 7 (by assumption)
  | exact dg_name 8 (by assumption)
  | exact dg_name 9 (by assumption)
  | (refine dg_tup 2 rfl ?_; walk_at "gs")
  | (refine dg_tup 3 rfl ?_; walk_at "gs"))
local macro_rules | `(tactic| walk_at "gs") => `(tactic| first
  | exact dgs_nil
  | (refine dgs_cons ?_ ?_; walk_at "g"; walk_at "gs"))
local macro_rules | `(tactic| walk_at "i") => `(tactic| first
  | (refine di_range1 (by rfl) (by assumption) ?_; walk_at "a")
  | (refine di_enum (by rfl) (by assumption) ?_; walk_at "a")
  | (refine di_seq ?_; walk_at "e"))
local macro_rules | `(tactic| walk_at "s") => `(tactic| first
  | (refine ds_ret ?_; walk_at "e")
  | (walk_at "set"; walk_at "e")
  | (refine ds_fld ?_ ?_; walk_at "e"; walk_at "e")
  | (refine ds_if ?_ ?_ ?_; walk_at "t"; walk_at "b"; walk_at "b")
  | (refine ds_expr (de_bm ?_ ?_ (fun _ _ h k => pe_bm PySem.F.plainAttrs_list PySem.F.slot_list_append PySem.F.type_list_append mt_append h k)); walk_at "e"; walk_at "a")
  | (refine ds_expr (de_bm ?_ ?_ (fun _ _ h k => pe_bm PySem.F.plainAttrs_list PySem.F.slot_list_extend PySem.F.type_list_extend mt_extend h k)); walk_at "e"; walk_at "a")
  | (refine ds_asg ?_ (dg_tup 2 rfl ?_); walk_at "e"; walk_at "gs")
  | (refine ds_asg ?_ (dg_sub ?_ ?_ set_list); walk_at "e"; walk_at "e"; walk_at "e")
  | (refine ds_raise _ (by assumption) (by assumption) rfl (by walk_at "rm") (by assumption) (by rfl) ?_; walk_at "a")
  | exact ds_break
  | exact ds_continue
  | (refine ds_while (by first | exact PassesOwn.never | assumption) ?_ ?_; walk_at "t"; walk_at "b")
  | (refine ds_for (by first | exact PassesOwn.never | assumption) rfl ?_ ?_ ?_; walk_at "i"; walk_at "g"; walk_at "b"))
local macro_rules | `(tactic| walk_at "b") => `(tactic| first
  | exact db_nil
  | (refine db_one ?_; walk_at "s")
  | (refine db_cons ?_ ?_; walk_at "s"; walk_at "b"))
local macro_rules | `(tactic| walk_at "nf") => `(tactic| dsimp only [de_slice, do_none, do_some, ds_swap, dt_inS, de_f_int2, de_isN, dt_isN, de_tupT, dt_tru, de_inC, de_mulT, de_lenK, de_sk, de_funX, de_funX0, ds_raise, ds_tryK, XofX, de_split, de_join, de_part, de_lc2, de_lcI, de_kget, de_kin, de_mk, de_fld, ds_fld, Xof, cxOf, Cx.nox, tInQ, List.map, de_lt2, de_le2, dt_lt2, dt_le2, de_ch, dt_ch, de_chll, dt_chll, de_in, de_nin, dt_in, dt_nin, de_gl, de_strT, de_isi2, de_f_tuple, de_f_list, de_f_sum, de_f_sorted, di_str, di_seq, de_lc, ds_setLc, de_err, de_gX, de_VE, de_f_isi, de_dic0, de_dic1, de_int, de_str, de_bl, de_non, de_v, de_op, de_cmp, de_one, de_and, de_or, de_not, de_neg, de_ifE, da_nil, da_cons, de_tup, de_lst, de_ix, de_callB, de_callT, de_fun, dt_val, dt_cmp, dt_not, dt_w, dw_and1, dw_or1, dw_and, dw_or, dg_name, dgs_nil, dgs_cons, dg_tup, dg_sub, di_list, di_tup, di_range1, di_enum, db_nil, db_one, db_cons, ds_ret, ds_retN, ds_set, ds_asg, ds_if, ds_expr, ds_for, ds_while, ds_break, ds_continue, ds_never, de_bm, de_errF, de_f_len, de_f_int, de_f_abs, de_f_all, de_f_any, de_f_min, de_f_max, de_f_repr, de_add, de_sub, de_mul, de_mod, de_fdiv, de_pow, de_eq, de_ne, de_lt, de_le, de_gt, de_ge, dt_eq, dt_ne, dt_lt, dt_le, dt_gt, dt_ge])
local macro_rules | `(tactic| walk_at "lc3") => `(tactic| (intro _ _ _ _ _; walk_at "g"))
local macro_rules | `(tactic| walk_at "lc4") => `(tactic| (intro _ _ _ _ _; walk_at "e"))
local macro_rules | `(tactic| walk_at "lc5") => `(tactic| (intro _ _ _ _ _; rfl))

/-! ### steps over data -/
local macro_rules | `(tactic| walk_at "x") => `(tactic| first
  | with_reducible refine esm_seq ?_
  | with_reducible refine esm_next ?_
  | with_reducible refine esm_brk ?_
  | with_reducible refine esm_cont ?_
  | with_reducible refine esm_ret ?_
  | with_reducible refine esm_retN ?_
  | with_reducible refine esm_raise (CalE.T (by assumption)) (by assumption) ?_
  | with_reducible refine evm_funTX (by assumption) ?_
  | with_reducible refine evm_funT0 ?_
  | with_reducible refine evm_isi ?_
  | with_reducible refine evm_slice ?_
  | with_reducible refine eom_none ?_
  | with_reducible refine eom_some ?_
  | with_reducible refine esm_swp ?_
  | with_reducible refine evm_popAt rfl ?_
  | with_reducible refine evm_lenO rfl ?_
  | with_reducible refine cw_min2 ?_
  | with_reducible refine esm_asgLN (by decide) ?_
  | with_reducible refine ow_isN rfl ?_
  | with_reducible refine esm_newL ?_
  | (with_reducible refine esm_newD (by exact Nat.le_of_ble_eq_true rfl) ?_; dsimp only [List.set])
  | with_reducible refine esm_asg ?_
  | with_reducible refine esm_if ?_
  | with_reducible refine esm_app rfl ?_
  | with_reducible refine esm_ext rfl ?_
  | with_reducible refine evm_int ?_
  | with_reducible refine evm_str ?_
  | with_reducible refine evm_bl ?_
  | with_reducible refine evm_non ?_
  | with_reducible refine evm_var rfl ?_
  | with_reducible refine evm_c (by assumption) ?_
  | (with_reducible refine evm_own rfl ?_; dsimp only [List.set])
  | (with_reducible refine evm_ownD rfl ?_; dsimp only [List.set])
  | with_reducible refine evm_isStr ?_
  | with_reducible refine evm_ixO rfl ?_
  | with_reducible refine evm_op ?_
  | with_reducible refine evm_chain ?_
  | with_reducible refine evm_fldV (by assumption) rfl (by with_unfolding_all decide) rfl ?_
  | with_reducible refine evm_fldO (by assumption) rfl (by with_unfolding_all decide) rfl ?_
  | with_reducible refine esm_fldN (by assumption) (by with_unfolding_all decide) ?_
  | with_reducible refine evm_if ?_
  | with_reducible refine evm_andV ?_
  | with_reducible refine evm_orV ?_
  | with_reducible refine evm_notV ?_
  | with_reducible refine evm_tup ?_
  | with_reducible refine evm_lst ?_
  | with_reducible refine evm_call ?_
  | with_reducible refine evm_fun ?_
  | with_reducible refine evm_split ?_
  | with_reducible refine evm_join ?_
  | with_reducible refine evm_part ?_
  | with_reducible refine evm_funT ?_
  | with_reducible refine evm_funP rfl ?_
  | with_reducible refine evm_make ?_
  | with_reducible refine eam_nil ?_
  | with_reducible refine eam_cons ?_
  | with_reducible refine etm_test ?_
  | with_reducible refine etm_B ?_
  | with_reducible refine etm_not ?_
  | with_reducible refine etm_and ?_
  | with_reducible refine etm_or ?_
  | with_reducible refine etm_yes ?_
  | with_reducible refine ow_addI ?_
  | with_reducible refine ow_subI ?_
  | with_reducible refine cw_lenL ?_
  | with_reducible refine cw_lenT ?_
  | with_reducible refine cw_int ?_
  | with_reducible refine cw_tupL ?_
  | with_reducible refine cw_lstL ?_
  | with_reducible refine cw_lstT ?_
  | refine br_t (by first | rfl | assumption | exact bnt (by assumption) | exact bnf (by assumption)) ?_
  | refine br_f (by first | rfl | assumption | exact bnt (by assumption) | exact bnf (by assumption)) ?_
  | refine rb_t (by first | rfl | assumption | exact bnt (by assumption) | exact bnf (by assumption)) ?_
  | refine rb_f (by first | rfl | assumption | exact bnt (by assumption) | exact bnf (by assumption)) ?_
  | with_reducible refine eim_varL rfl ?_
  | with_reducible refine eim_varT rfl ?_
  | with_reducible refine eim_varS rfl ?_
  | (with_reducible refine eim_ownL rfl ?_; dsimp only [List.set])
  | with_reducible refine eim_range1 ?_
  | with_reducible refine eim_enum ?_
  | with_reducible refine evm_scrLen rfl ?_
  | with_reducible refine cw_max2 ?_
  | (with_reducible refine lcy ?_; dsimp only [List.set])
  | (with_reducible refine lct ?_; dsimp only [List.set])
  | (with_reducible refine lcy2 ?_; dsimp only [List.set])
  | with_reducible refine esm_forN ?_
  | with_reducible refine esm_forN2 ?_
  | with_reducible refine esm_asg2 ?_
  | with_reducible refine evm_lcY ?_
  | with_reducible refine evm_lcT ?_
  | with_reducible refine evm_lcY2 ?_
  | (with_reducible refine ⟨_, rfl, ?_⟩)
  | (refine ⟨_, _, rfl, (by exact Nat.lt_of_lt_of_le (Nat.lt_succ_self _) (Nat.le_of_ble_eq_true rfl)), ?_⟩; dsimp only [List.set])
  | (refine ⟨Nat.le_of_ble_eq_true rfl, ?_⟩; try dsimp only [List.set]))
local macro_rules | `(tactic| walk_at "xv") => `(tactic| first
  | with_reducible refine ow_ltI ?_
  | with_reducible refine ow_leI ?_
  | with_reducible refine ow_leS ?_
  | with_reducible refine ow_gtI ?_
  | with_reducible refine ow_geI ?_
  | with_reducible refine ow_eqI ?_
  | with_reducible refine ow_eqS ?_
  | with_reducible refine ow_neI ?_
  | with_reducible refine ow_neS ?_)
local macro_rules | `(tactic| walk_at "xo") => `(tactic| first
  | with_reducible refine oc_ltI ?_
  | with_reducible refine oc_leI ?_
  | with_reducible refine oc_leS ?_
  | with_reducible refine oc_gtI ?_
  | with_reducible refine oc_geI ?_
  | with_reducible refine oc_eqI ?_
  | with_reducible refine oc_eqS ?_
  | with_reducible refine oc_neI ?_
  | with_reducible refine oc_neS ?_)
local macro_rules | `(tactic| walk_at "xc") => `(tactic| (walk_at "xo"; intro b hb; cases b <;> walk_at "xs"))
local macro_rules | `(tactic| walk_at "xs") => `(tactic| repeat walk_at "x")
section
variable {P : Program} {w : World} {K : PySem.W.Frag} {mg : Str → Option Value} {base : Heap}
theorem scMet : FnScope ["value", "error"] ["value"] (defScope sMet) := ⟨rfl, rfl, rfl, by decide +kernel, rfl, by decide +kernel, by decide +kernel⟩
/-- what is met: (False, picture) or (True, the error's value) -/
def metD (d : D) : Option D := match d with
  | .str x => match readS [] (Txt.split x nl) with
    | .ok pic => some (.tup [.bl false, .tup pic])
    | .error n => some (.tup [.bl true, .int (n : Nat)])
  | _ => some (.tup [.bl true, .int 0])
abbrev spMet (K : PySem.W.Frag) : Sp := spT K (fun d : D => [d]) OkD (fun d r => metD d = some r)
theorem metD_no {d : D} (h : isStrB d = false) : metD d = some (.tup [.bl true, .int 0]) := by
  cases d <;> first | rfl | cases h
theorem ok_met {CT : Addr} {f : Addr} {fd : FuncData} {k : Nat} (F : Fun K "_law_met" "_law_met" sMet f fd) (cT : CalE P w K mg base k "BadText" CT) (cR : CalX P w K mg base k "read_picture" (spRead K CT)) (eT : PySem.W.exmOne K (.ref CT) (.ref CT) = some true) :
    FnG P w K mg base CX0 (k + 1) f fd ["value"] (spMet K) := by
  refine okMT F scMet (fun _ => rfl) (by decide) fun cdv A outer s H E hr gq hu h1 => ?_
  have nd := scMet.nd
  refine ⟨Subtype.val (p := PSs _ _) ?d, Subtype.property ?d, ?r⟩
  case d =>
    refine db_one ?_
    refine ds_tryK 1 (fun W => tRet (tTup (tCons (tC (.bl false)) (tCons (tCallS (spRead K CT) (WE W) (tCons (tVar 0) tNil)) tNil)))) (fun _ _ _ _ => False) takes0 (by assumption) (c := .ref CT) ⟨rfl, by decide, .inl cT.m⟩ ?_ ?_ ?_ ?_
    · intro W pn xe tk po
      walk_at "b"
    · intro W pn xe tk po
      rfl
    · intro a pn
      refine db_one (ds_ret (de_tup (da_cons de_bl (da_cons (de_errF (de_v 1)) da_nil)) (fun _ h => pe_tup h)))
    · intro a pn
      rfl
  case r =>
    walk_at "nf"
    intro d h
    show EsM K none Z0 (tTryK _ _ _ _ _ _) [.d d, .un] 0 _ _ _ _
    refine esm_tryK (fun C x r n => C = CT ∧ metD d = some (.tup [.bl true, x]) ∧ r = [.d d, .un]) (Yp := fun _ _ _ _ => False) out0 (fun Z' W o => ?_) fun C x r n z => ?_
    · walk_at "xs"
      refine ⟨h, fun r z => ?_, fun C x z => ?_⟩
      · obtain ⟨x, pic, rfl, e, rfl⟩ := z
        walk_at "xs"
        show (match readS [] (Txt.split x nl) with | .ok pic => some (D.tup [.bl false, .tup pic]) | .error n => some (.tup [.bl true, .int (n : Nat)])) = _
        rw [e]
      · obtain ⟨rfl, ⟨e, rfl⟩ | ⟨y, n, rfl, e, rfl⟩⟩ := z
        · exact ⟨rfl, metD_no e, rfl⟩
        · refine ⟨rfl, ?_, rfl⟩
          show (match readS [] (Txt.split y nl) with | .ok pic => some (D.tup [.bl false, .tup pic]) | .error n => some (.tup [.bl true, .int (n : Nat)])) = _
          rw [e]
    · obtain ⟨rfl, e, rfl⟩ := z
      refine .inl ⟨eT, by exact Nat.le_of_ble_eq_true rfl, ?_⟩
      dsimp only [List.set]
      walk_at "xs"
      refine evm_errF (evm_var rfl ⟨_, _, rfl, cT.T, ?_⟩)
      walk_at "xs"
      exact e
end
end Tp

namespace Tp
open PySem PySem.Spec PyProof.Rows L2
/-! ### the derivations, by the syntax -/
local macro_rules | `(tactic| walk_at "pv") => `(tactic| first | exact de_v 0 | exact de_v 1 | exact de_v 2 | exact de_v 3 | exact de_v 4 | exact de_v 5 | exact de_v 6 | exact de_v 7 | exact de_v 8 | exact de_v 9 | exact de_v 10 | exact de_v 11)
local macro_rules | `(tactic| walk_at "rm") => `(tactic| first | assumption | exact Room.mono (by assumption) (by omega))
local macro_rules | `(tactic| walk_at "e") => `(tactic| first
  | exact de_int
  | exact de_str
  | exact de_bl
  | exact de_non
  | (refine de_add ?_ ?_ <;> walk_at "e")
  | (refine de_sub ?_ ?_ <;> walk_at "e")
  | (refine de_mul ?_ ?_ <;> walk_at "e")
  | (refine de_mod ?_ ?_ <;> walk_at "e")
  | (refine de_fdiv ?_ ?_ <;> walk_at "e")
  | (refine de_pow ?_ ?_ <;> walk_at "e")
  | (refine de_eq (by assumption) ?_ ?_ <;> walk_at "e")
  | (refine de_ne (by assumption) ?_ ?_ <;> walk_at "e")
  | (refine de_lt2 ?_ ?_ <;> walk_at "e")
  | (refine de_le2 ?_ ?_ <;> walk_at "e")
  | (refine de_gt ?_ ?_ <;> walk_at "e")
  | (refine de_ge ?_ ?_ <;> walk_at "e")
  | (refine de_chll ?_ ?_ ?_ <;> walk_at "e")
  | (refine de_inC ?_; walk_at "e")
  | (refine de_isN ?_ ?_ <;> walk_at "e")
  | (refine de_in (by assumption) ?_ ?_ <;> walk_at "e")
  | (refine de_nin (by assumption) ?_ ?_ <;> walk_at "e")
  | (refine de_one ?_; walk_at "e")
  | (refine de_and ?_ ?_ <;> walk_at "e")
  | (refine de_or ?_ ?_ <;> walk_at "e")
  | (refine de_not ?_; walk_at "e")
  | (refine de_neg ?_; walk_at "e")
  | (refine de_ifE ?_ ?_ ?_; walk_at "t"; walk_at "e"; walk_at "e")
  | (refine de_tup ?_ (fun _ h => pe_tup h); walk_at "a")
  | (refine de_lst ?_ (fun _ h => pe_lst h); walk_at "a")
  | exact de_dic0
  | (refine de_dic1 ?_; walk_at "e")
  | (refine de_fld ?_; walk_at "e")
  | walk_at "lc"
  | (refine de_ix ix_seq ?_ ?_ (fun _ _ => rfl) <;> walk_at "e")
  | walk_at "c"
  | (refine de_fun (by assumption) (by walk_at "rm") (by assumption) (by rfl) ?_; walk_at "a")
  | (refine de_funX _ (by assumption) (by assumption) (by walk_at "rm") (by assumption) (by rfl) ?_; walk_at "a")
  | (refine de_funX0 (by assumption) (by walk_at "rm") (by assumption) (by rfl) ?_; walk_at "a")
  | (refine de_mk (by assumption) (by walk_at "rm") (by assumption) (by rfl) ?_; walk_at "a")
  | (refine de_err (by assumption) (by walk_at "rm") (by assumption) (by rfl) ?_; walk_at "a")
  | walk_at "pv"
  | exact de_gX (by assumption) (by rfl)
  | exact de_gl (by assumption) (by rfl)
  | exact de_strT (by rfl) (by assumption)
  | exact de_tupT (by rfl) (by assumption)
  | (refine de_slice ?_ ?_ ?_; walk_at "e"; walk_at "po"; walk_at "po")
  | (refine de_bm ?_ ?_ (fun _ _ h k => pe_bm PySem.F.plainAttrs_list PySem.F.slot_list_pop PySem.F.type_list_pop mt_popAt h k); walk_at "e"; walk_at "a")
  | walk_at "el"
  | exact de_VE (by rfl) (by assumption))
local macro_rules | `(tactic| walk_at "c") => `(tactic| first
  | (refine de_split ?_ ?_ <;> walk_at "e")
  | (refine de_join ?_ ?_ <;> walk_at "e")
  | (refine de_part ?_ ?_ <;> walk_at "e")
  | (refine de_kget (by assumption) ?_ ?_ ?_ <;> walk_at "e")
  | (refine de_f_len (by assumption) (by rfl) ?_; walk_at "a")
  | (refine de_f_int (by assumption) (by rfl) ?_; walk_at "a")
  | (refine de_f_abs (by assumption) (by rfl) ?_; walk_at "a")
  | (refine de_f_all rfl (by assumption) (by rfl) ?_; walk_at "a")
  | (refine de_f_any rfl (by assumption) (by rfl) ?_; walk_at "a")
  | (refine de_f_min rfl (by assumption) (by rfl) ?_; walk_at "a")
  | (refine de_f_max rfl (by assumption) (by rfl) ?_; walk_at "a")
  | (refine de_isi2 (by assumption) (by rfl) ?_; walk_at "a")
  | (refine de_f_tuple (by assumption) (by rfl) ?_; walk_at "a")
  | (refine de_f_list (by assumption) (by rfl) ?_; walk_at "a")
  | (refine de_f_sum rfl (by assumption) (by rfl) ?_; walk_at "a")
  | (refine de_f_sorted (by assumption) (by rfl) ?_; walk_at "a")
  | (refine de_f_repr (by assumption) (by assumption) (by assumption) (by assumption) (by rfl) ?_; walk_at "a"))
local macro_rules | `(tactic| walk_at "po") => `(tactic| first
  | exact do_none
  | (refine do_some ?_; walk_at "e"))
local macro_rules | `(tactic| walk_at "a") => `(tactic| first
  | exact da_nil
  | (refine da_cons ?_ ?_; walk_at "e"; walk_at "a"))
local macro_rules | `(tactic| walk_at "t") => `(tactic| first
  | (refine dt_lt2 ?_ ?_ <;> walk_at "e")
  | (refine dt_le2 ?_ ?_ <;> walk_at "e")
  | (refine dt_gt ?_ ?_ <;> walk_at "e")
  | (refine dt_ge ?_ ?_ <;> walk_at "e")
  | (refine dt_chll ?_ ?_ ?_ <;> walk_at "e")
  | (refine dt_isN ?_ ?_ <;> walk_at "e")
  | (refine dt_in (by assumption) ?_ ?_ <;> walk_at "e")
  | (refine dt_nin (by assumption) ?_ ?_ <;> walk_at "e")
  | (refine dt_eq (by assumption) ?_ ?_ <;> walk_at "e")
  | (refine dt_ne (by assumption) ?_ ?_ <;> walk_at "e")
  | (refine dt_not ?_; walk_at "t")
  | (refine dt_w ?_; walk_at "w")
  | (refine dt_val ?_; walk_at "e"))
local macro_rules | `(tactic| walk_at "w") => `(tactic| first
  | (refine dw_and1 ?_; walk_at "t")
  | (refine dw_or1 ?_; walk_at "t")
  | (refine dw_and ?_ ?_; walk_at "t"; walk_at "w")
  | (refine dw_or ?_ ?_; walk_at "t"; walk_at "w"))
local macro_rules | `(tactic| walk_at "set") => `(tactic| first
  | refine ds_set 1 (by assumption) ?_
  | refine ds_set 2 (by assumption) ?_
  | refine ds_set 3 (by assumption) ?_
  | refine ds_set 4 (by assumption) ?_
  | refine ds_set 5 (by assumption) ?_
  | refine ds_set 6 (by assumption) ?_
  | refine ds_set 7 (by assumption) ?_
  | refine ds_set 8 (by assumption) ?_
  | refine ds_set 9 (by assumption) ?_
  | refine ds_set 10 (by assumption) ?_
  | refine ds_set 0 (by assumption) ?_)
local macro_rules | `(tactic| walk_at "g") => `(tactic| first
  | exact dg_name 1 (by assumption)
  | exact dg_name 2 (by assumption)
  | exact dg_name 3 (by assumption)
  | exact dg_name 4 (by assumption)
  | exact dg_name 5 (by assumption)
  | exact dg_name 6 (by assumption)
  | exact dg_name 7 (by assumption)
  | exact dg_name 8 (by assumption)
  | exact dg_name 9 (by assumption)
  | (refine dg_tup 2 rfl ?_; walk_at "gs")
  | (refine dg_tup 3 rfl ?_; walk_at "gs"))
local macro_rules | `(tactic| walk_at "gs") => `(tactic| first
  | exact dgs_nil
  | (refine dgs_cons ?_ ?_; walk_at "g"; walk_at "gs"))
local macro_rules | `(tactic| walk_at "i") => `(tactic| first
  | (refine di_range1 (by rfl) (by assumption) ?_; walk_at "a")
  | (refine di_enum (by rfl) (by assumption) ?_; walk_at "a")
  | (refine di_seq ?_; walk_at "e"))
local macro_rules | `(tactic| walk_at "s") => `(tactic| first
  | (refine ds_ret ?_; walk_at "e")
  | (walk_at "set"; walk_at "e")
  | (refine ds_fld ?_ ?_; walk_at "e"; walk_at "e")
  | (refine ds_if ?_ ?_ ?_; walk_at "t"; walk_at "b"; walk_at "b")
  | (refine ds_expr (de_bm ?_ ?_ (fun _ _ h k => pe_bm PySem.F.plainAttrs_list PySem.F.slot_list_append PySem.F.type_list_append mt_append h k)); walk_at "e"; walk_at "a")
  | (refine ds_expr (de_bm ?_ ?_ (fun _ _ h k => pe_bm PySem.F.plainAttrs_list PySem.F.slot_list_extend PySem.F.type_list_extend mt_extend h k)); walk_at "e"; walk_at "a")
  | (refine ds_asg ?_ (dg_tup 2 rfl ?_); walk_at "e"; walk_at "gs")
  | (refine ds_asg ?_ (dg_sub ?_ ?_ set_list); walk_at "e"; walk_at "e"; walk_at "e")
  | (refine ds_raise _ (by assumption) (by assumption) rfl (by walk_at "rm") (by assumption) (by rfl) ?_; walk_at "a")
  | exact ds_break
  | exact ds_continue
  | (refine ds_while (by first | exact PassesOwn.never | assumption) ?_ ?_; walk_at "t"; walk_at "b")
  | (refine ds_for (by first | exact PassesOwn.never | assumption) rfl ?_ ?_ ?_; walk_at "i"; walk_at "g"; walk_at "b"))
local macro_rules | `(tactic| walk_at "b") => `(tactic| first
  | exact db_nil
  | (refine db_one ?_; walk_at "s")
  | (refine db_cons ?_ ?_; walk_at "s"; walk_at "b"))
local macro_rules | `(tactic| walk_at "nf") => `(tactic| dsimp only [de_slice, do_none, do_some, ds_swap, dt_inS, de_f_int2, de_isN, dt_isN, de_tupT, dt_tru, de_inC, de_mulT, de_lenK, de_sk, de_funX, de_funX0, ds_raise, ds_tryK, XofX, de_split, de_join, de_part, de_lc2, de_lcI, de_kget, de_kin, de_mk, de_fld, ds_fld, Xof, cxOf, Cx.nox, tInQ, List.map, de_lt2, de_le2, dt_lt2, dt_le2, de_ch, dt_ch, de_chll, dt_chll, de_in, de_nin, dt_in, dt_nin, de_gl, de_strT, de_isi2, de_f_tuple, de_f_list, de_f_sum, de_f_sorted, di_str, di_seq, de_lc, ds_setLc, de_err, de_gX, de_VE, de_f_isi, de_dic0, de_dic1, de_int, de_str, de_bl, de_non, de_v, de_op, de_cmp, de_one, de_and, de_or, de_not, de_neg, de_ifE, da_nil, da_cons, de_tup, de_lst, de_ix, de_callB, de_callT, de_fun, dt_val, dt_cmp, dt_not, dt_w, dw_and1, dw_or1, dw_and, dw_or, dg_name, dgs_nil, dgs_cons, dg_tup, dg_sub, di_list, di_tup, di_range1, di_enum, db_nil, db_one, db_cons, ds_ret, ds_retN, ds_set, ds_asg, ds_if, ds_expr, ds_for, ds_while, ds_break, ds_continue, ds_never, de_bm, de_errF, de_f_len, de_f_int, de_f_abs, de_f_all, de_f_any, de_f_min, de_f_max, de_f_repr, de_add, de_sub, de_mul, de_mod, de_fdiv, de_pow, de_eq, de_ne, de_lt, de_le, de_gt, de_ge, dt_eq, dt_ne, dt_lt, dt_le, dt_gt, dt_ge])
local macro_rules | `(tactic| walk_at "lc3") => `(tactic| (intro _ _ _ _ _; walk_at "g"))
local macro_rules | `(tactic| walk_at "lc4") => `(tactic| (intro _ _ _ _ _; walk_at "e"))
local macro_rules | `(tactic| walk_at "lc5") => `(tactic| (intro _ _ _ _ _; rfl))

/-! ### steps over data -/
local macro_rules | `(tactic| walk_at "x") => `(tactic| first
  | with_reducible refine esm_seq ?_
  | with_reducible refine esm_next ?_
  | with_reducible refine esm_brk ?_
  | with_reducible refine esm_cont ?_
  | with_reducible refine esm_ret ?_
  | with_reducible refine esm_retN ?_
  | with_reducible refine esm_raise (CalE.T (by assumption)) (by assumption) ?_
  | with_reducible refine evm_funTX (by assumption) ?_
  | with_reducible refine evm_funT0 ?_
  | with_reducible refine evm_isi ?_
  | with_reducible refine evm_slice ?_
  | with_reducible refine eom_none ?_
  | with_reducible refine eom_some ?_
  | with_reducible refine esm_swp ?_
  | with_reducible refine evm_popAt rfl ?_
  | with_reducible refine evm_lenO rfl ?_
  | with_reducible refine cw_min2 ?_
  | with_reducible refine esm_asgLN (by decide) ?_
  | with_reducible refine ow_isN rfl ?_
  | with_reducible refine esm_newL ?_
  | (with_reducible refine esm_newD (by exact Nat.le_of_ble_eq_true rfl) ?_; dsimp only [List.set])
  | with_reducible refine esm_asg ?_
  | with_reducible refine esm_if ?_
  | with_reducible refine esm_app rfl ?_
  | with_reducible refine esm_ext rfl ?_
  | with_reducible refine esm_drop ?_
  | with_reducible refine evm_int ?_
  | with_reducible refine evm_str ?_
  | with_reducible refine evm_bl ?_
  | with_reducible refine evm_non ?_
  | with_reducible refine evm_var rfl ?_
  | with_reducible refine evm_c (by assumption) ?_
  | (with_reducible refine evm_own rfl ?_; dsimp only [List.set])
  | (with_reducible refine evm_ownD rfl ?_; dsimp only [List.set])
  | with_reducible refine evm_isStr ?_
  | with_reducible refine evm_ixO rfl ?_
  | with_reducible refine evm_op ?_
  | with_reducible refine evm_chain ?_
  | with_reducible refine evm_fldV (by assumption) rfl (by with_unfolding_all decide) rfl ?_
  | with_reducible refine evm_fldO (by assumption) rfl (by with_unfolding_all decide) rfl ?_
  | with_reducible refine esm_fldN (by assumption) (by with_unfolding_all decide) ?_
  | with_reducible refine evm_if ?_
  | with_reducible refine evm_andV ?_
  | with_reducible refine evm_orV ?_
  | with_reducible refine evm_notV ?_
  | with_reducible refine evm_tup ?_
  | with_reducible refine evm_lst ?_
  | with_reducible refine evm_call ?_
  | with_reducible refine evm_fun ?_
  | with_reducible refine evm_split ?_
  | with_reducible refine evm_join ?_
  | with_reducible refine evm_part ?_
  | with_reducible refine evm_funT ?_
  | with_reducible refine evm_funP rfl ?_
  | with_reducible refine evm_make ?_
  | with_reducible refine eam_nil ?_
  | with_reducible refine eam_cons ?_
  | with_reducible refine etm_test ?_
  | with_reducible refine etm_B ?_
  | with_reducible refine etm_not ?_
  | with_reducible refine etm_and ?_
  | with_reducible refine etm_or ?_
  | with_reducible refine etm_yes ?_
  | with_reducible refine ow_addI ?_
  | with_reducible refine ow_subI ?_
  | with_reducible refine cw_lenL ?_
  | with_reducible refine cw_lenT ?_
  | with_reducible refine cw_int ?_
  | with_reducible refine cw_tupL ?_
  | with_reducible refine cw_lstL ?_
  | with_reducible refine cw_lstT ?_
  | refine br_t (by first | rfl | assumption | exact bnt (by assumption) | exact bnf (by assumption)) ?_
  | refine br_f (by first | rfl | assumption | exact bnt (by assumption) | exact bnf (by assumption)) ?_
  | refine rb_t (by first | rfl | assumption | exact bnt (by assumption) | exact bnf (by assumption)) ?_
  | refine rb_f (by first | rfl | assumption | exact bnt (by assumption) | exact bnf (by assumption)) ?_
  | with_reducible refine eim_varL rfl ?_
  | with_reducible refine eim_varT rfl ?_
  | with_reducible refine eim_varS rfl ?_
  | (with_reducible refine eim_ownL rfl ?_; dsimp only [List.set])
  | with_reducible refine eim_range1 ?_
  | with_reducible refine eim_enum ?_
  | with_reducible refine evm_scrLen rfl ?_
  | with_reducible refine cw_max2 ?_
  | (with_reducible refine lcy ?_; dsimp only [List.set])
  | (with_reducible refine lct ?_; dsimp only [List.set])
  | (with_reducible refine lcy2 ?_; dsimp only [List.set])
  | with_reducible refine esm_forN ?_
  | with_reducible refine esm_forN2 ?_
  | with_reducible refine esm_asg2 ?_
  | with_reducible refine evm_lcY ?_
  | with_reducible refine evm_lcT ?_
  | with_reducible refine evm_lcY2 ?_
  | (with_reducible refine ⟨_, rfl, ?_⟩)
  | (refine ⟨_, _, rfl, (by exact Nat.lt_of_lt_of_le (Nat.lt_succ_self _) (Nat.le_of_ble_eq_true rfl)), ?_⟩; dsimp only [List.set])
  | (refine ⟨Nat.le_of_ble_eq_true rfl, ?_⟩; try dsimp only [List.set]))
local macro_rules | `(tactic| walk_at "xv") => `(tactic| first
  | with_reducible refine ow_ltI ?_
  | with_reducible refine ow_leI ?_
  | with_reducible refine ow_leS ?_
  | with_reducible refine ow_gtI ?_
  | with_reducible refine ow_geI ?_
  | with_reducible refine ow_eqI ?_
  | with_reducible refine ow_eqS ?_
  | with_reducible refine ow_neI ?_
  | with_reducible refine ow_neS ?_)
local macro_rules | `(tactic| walk_at "xo") => `(tactic| first
  | with_reducible refine oc_ltI ?_
  | with_reducible refine oc_leI ?_
  | with_reducible refine oc_leS ?_
  | with_reducible refine oc_gtI ?_
  | with_reducible refine oc_geI ?_
  | with_reducible refine oc_eqI ?_
  | with_reducible refine oc_eqS ?_
  | with_reducible refine oc_neI ?_
  | with_reducible refine oc_neS ?_)
local macro_rules | `(tactic| walk_at "xc") => `(tactic| (walk_at "xo"; intro b hb; cases b <;> walk_at "xs"))
local macro_rules | `(tactic| walk_at "xs") => `(tactic| repeat walk_at "x")
section
variable {P : Program} {w : World} {K : PySem.W.Frag} {mg : Str → Option Value} {base : Heap}
theorem scBadP : FnScope ["value", "caught", "error"] ["value"] (defScope sBadPicture) := ⟨rfl, rfl, rfl, by decide +kernel, rfl, by decide +kernel, by decide +kernel⟩
theorem ow_isNX {C : Addr} {x : D} {ψ : D → Prop} (q : ψ (.bl false)) : OpW K rIsN0 (.err C x) .non ψ := ow (fun u v G M H Q s ha hb f => by
  cases hb
  cases ha
  exact ⟨rfl, f _ _ G H (Step.refl s) rfl (.bl false)⟩) q
abbrev spBadP (K : PySem.W.Frag) : Sp := spT K (fun d : D => [d]) (fun d => OkP d ∧ Sm 1000000 60 d) (fun d r => r = .str (if isPicD d = true then "" else d.py.shown))
theorem ok_badP {CP : Addr} {f : Addr} {fd : FuncData} {k : Nat} (F : Fun K "_law_bad_picture" "_law_bad_picture" sBadPicture f fd) (hs : SysK K) (cP : CalE P w K mg base k "BadPicture" CP) (cS : CalX P w K mg base k "show_picture" (spShow K CP)) (eP : PySem.W.exmOne K (.ref CP) (.ref CP) = some true) (gR : mg "repr" = none) :
    FnG P w K mg base CX0 (k + 1) f fd ["value"] (spBadP K) := by
  refine okMT F scBadP (fun _ => rfl) (by decide) fun cdv A outer s H E hr gq hu h1 => ?_
  have nd := scBadP.nd
  refine ⟨Subtype.val (p := PSs _ _) ?d, Subtype.property ?d, ?r⟩
  case d =>
    refine db_cons ?_ (db_cons ?_ ?_)
    · walk_at "s"
    · refine ds_tryK 2 (fun W => tDrop (tCallS (spShow K CP) (WE W) (tCons (tVar 0) tNil))) (fun _ _ _ _ => False) takes0 (by assumption) (c := .ref CP) ⟨rfl, by decide, .inl cP.m⟩ ?_ ?_ ?_ ?_
      · intro W pn xe tk po
        refine db_one (ds_expr ?_)
        walk_at "e"
      · intro W pn xe tk po
        rfl
      · intro a pn
        walk_at "b"
      · intro a pn
        rfl
    · refine db_one (ds_ret (de_ifE ?_ ?_ ?_))
      · walk_at "t"
      · walk_at "e"
      · refine de_f_repr (by assumption) (by assumption) (by assumption) (by assumption) (by rfl) (da_cons (de_errF (de_v 1)) da_nil)
  case r =>
    walk_at "nf"
    intro d g
    obtain ⟨h, sm⟩ := g
    show EsM K none Z0 (tSeq _ (tSeq (tTryK _ _ _ _ _ _) _)) [.d d, .un, .un] 0 _ _ _ _
    walk_at "xs"
    refine esm_tryK (fun C x r n => C = CP ∧ isPicD d = false ∧ x = d ∧ r = [.d d, .d .non, .un]) (Yp := fun _ _ _ _ => False) out0 (fun Z' W o => ?_) fun C x r n z => ?_
    · walk_at "xs"
      refine ⟨h, fun r z => ?_, fun C x z => ⟨z.2.1, z.1, z.2.2, rfl⟩⟩
      obtain ⟨e, rfl⟩ := z
      walk_at "xs"
      rw [if_pos e]
    · obtain ⟨rfl, e, rfl, rfl⟩ := z
      refine .inl ⟨eP, by exact Nat.le_of_ble_eq_true rfl, ?_⟩
      dsimp only [List.set]
      walk_at "xs"
      refine ow_isNX ?_
      walk_at "xs"
      refine evm_errF (evm_var rfl ⟨_, _, rfl, cP.T, ?_⟩)
      walk_at "xs"
      refine cw_repr sm ?_
      rw [if_neg (by rw [e]; exact Bool.false_ne_true)]
end
end Tp

namespace Tp
open PySem PySem.Spec PyProof.Rows L2
/-! ### the derivations, by the syntax -/
local macro_rules | `(tactic| walk_at "pv") => `(tactic| first | exact de_v 0 | exact de_v 1 | exact de_v 2 | exact de_v 3 | exact de_v 4 | exact de_v 5 | exact de_v 6 | exact de_v 7 | exact de_v 8 | exact de_v 9 | exact de_v 10 | exact de_v 11)
local macro_rules | `(tactic| walk_at "rm") => `(tactic| first | assumption | exact Room.mono (by assumption) (by omega))
local macro_rules | `(tactic| walk_at "e") => `(tactic| first
  | exact de_int
  | exact de_str
  | exact de_bl
  | exact de_non
  | (refine de_add ?_ ?_ <;> walk_at "e")
  | (refine de_sub ?_ ?_ <;> walk_at "e")
  | (refine de_mul ?_ ?_ <;> walk_at "e")
  | (refine de_mod ?_ ?_ <;> walk_at "e")
  | (refine de_fdiv ?_ ?_ <;> walk_at "e")
  | (refine de_pow ?_ ?_ <;> walk_at "e")
  | (refine de_eq (by assumption) ?_ ?_ <;> walk_at "e")
  | (refine de_ne (by assumption) ?_ ?_ <;> walk_at "e")
  | (refine de_lt2 ?_ ?_ <;> walk_at "e")
  | (refine de_le2 ?_ ?_ <;> walk_at "e")
  | (refine de_gt ?_ ?_ <;> walk_at "e")
  | (refine de_ge ?_ ?_ <;> walk_at "e")
  | (refine de_chll ?_ ?_ ?_ <;> walk_at "e")
  | (refine de_inC ?_; walk_at "e")
  | (refine de_isN ?_ ?_ <;> walk_at "e")
  | (refine de_in (by assumption) ?_ ?_ <;> walk_at "e")
  | (refine de_nin (by assumption) ?_ ?_ <;> walk_at "e")
  | (refine de_one ?_; walk_at "e")
  | (refine de_and ?_ ?_ <;> walk_at "e")
  | (refine de_or ?_ ?_ <;> walk_at "e")
  | (refine de_not ?_; walk_at "e")
  | (refine de_neg ?_; walk_at "e")
  | (refine de_ifE ?_ ?_ ?_; walk_at "t"; walk_at "e"; walk_at "e")
  | (refine de_tup ?_ (fun _ h => pe_tup h); walk_at "a")
  | (refine de_lst ?_ (fun _ h => pe_lst h); walk_at "a")
  | exact de_dic0
  | (refine de_dic1 ?_; walk_at "e")
  | (refine de_fld ?_; walk_at "e")
  | walk_at "lc"
  | (refine de_ix ix_seq ?_ ?_ (fun _ _ => rfl) <;> walk_at "e")
  | walk_at "c"
  | (refine de_fun (by assumption) (by walk_at "rm") (by assumption) (by rfl) ?_; walk_at "a")
  | (refine de_funX _ (by assumption) (by assumption) (by walk_at "rm") (by assumption) (by rfl) ?_; walk_at "a")
  | (refine de_funX0 (by assumption) (by walk_at "rm") (by assumption) (by rfl) ?_; walk_at "a")
  | (refine de_mk (by assumption) (by walk_at "rm") (by assumption) (by rfl) ?_; walk_at "a")
  | (refine de_err (by assumption) (by walk_at "rm") (by assumption) (by rfl) ?_; walk_at "a")
  | walk_at "pv"
  | exact de_gX (by assumption) (by rfl)
  | exact de_gl (by assumption) (by rfl)
  | exact de_strT (by rfl) (by assumption)
  | exact de_tupT (by rfl) (by assumption)
  | (refine de_slice ?_ ?_ ?_; walk_at "e"; walk_at "po"; walk_at "po")
  | (refine de_bm ?_ ?_ (fun _ _ h k => pe_bm PySem.F.plainAttrs_list PySem.F.slot_list_pop PySem.F.type_list_pop mt_popAt h k); walk_at "e"; walk_at "a")
  | walk_at "el"
  | exact de_VE (by rfl) (by assumption))
local macro_rules | `(tactic| walk_at "c") => `(tactic| first
  | (refine de_split ?_ ?_ <;> walk_at "e")
  | (refine de_join ?_ ?_ <;> walk_at "e")
  | (refine de_part ?_ ?_ <;> walk_at "e")
  | (refine de_kget (by assumption) ?_ ?_ ?_ <;> walk_at "e")
  | (refine de_f_len (by assumption) (by rfl) ?_; walk_at "a")
  | (refine de_f_int (by assumption) (by rfl) ?_; walk_at "a")
  | (refine de_f_abs (by assumption) (by rfl) ?_; walk_at "a")
  | (refine de_f_all rfl (by assumption) (by rfl) ?_; walk_at "a")
  | (refine de_f_any rfl (by assumption) (by rfl) ?_; walk_at "a")
  | (refine de_f_min rfl (by assumption) (by rfl) ?_; walk_at "a")
  | (refine de_f_max rfl (by assumption) (by rfl) ?_; walk_at "a")
  | (refine de_isi2 (by assumption) (by rfl) ?_; walk_at "a")
  | (refine de_f_tuple (by assumption) (by rfl) ?_; walk_at "a")
  | (refine de_f_list (by assumption) (by rfl) ?_; walk_at "a")
  | (refine de_f_sum rfl (by assumption) (by rfl) ?_; walk_at "a")
  | (refine de_f_sorted (by assumption) (by rfl) ?_; walk_at "a")
  | (refine de_f_repr (by assumption) (by assumption) (by assumption) (by assumption) (by rfl) ?_; walk_at "a"))
local macro_rules | `(tactic| walk_at "po") => `(tactic| first
  | exact do_none
  | (refine do_some ?_; walk_at "e"))
local macro_rules | `(tactic| walk_at "a") => `(tactic| first
  | exact da_nil
  | (refine da_cons ?_ ?_; walk_at "e"; walk_at "a"))
local macro_rules | `(tactic| walk_at "t") => `(tactic| first
  | (refine dt_lt2 ?_ ?_ <;> walk_at "e")
  | (refine dt_le2 ?_ ?_ <;> walk_at "e")
  | (refine dt_gt ?_ ?_ <;> walk_at "e")
  | (refine dt_ge ?_ ?_ <;> walk_at "e")
  | (refine dt_chll ?_ ?_ ?_ <;> walk_at "e")
  | (refine dt_isN ?_ ?_ <;> walk_at "e")
  | (refine dt_in (by assumption) ?_ ?_ <;> walk_at "e")
  | (refine dt_nin (by assumption) ?_ ?_ <;> walk_at "e")
  | (refine dt_eq (by assumption) ?_ ?_ <;> walk_at "e")
  | (refine dt_ne (by assumption) ?_ ?_ <;> walk_at "e")
  | (refine dt_not ?_; walk_at "t")
  | (refine dt_w ?_; walk_at "w")
  | (refine dt_val ?_; walk_at "e"))
local macro_rules | `(tactic| walk_at "w") => `(tactic| first
  | (refine dw_and1 ?_; walk_at "t")
  | (refine dw_or1 ?_; walk_at "t")
  | (refine dw_and ?_ ?_; walk_at "t"; walk_at "w")
  | (refine dw_or ?_ ?_; walk_at "t"; walk_at "w"))
local macro_rules | `(tactic| walk_at "set") => `(tactic| first
  | refine ds_set 1 (by assumption) ?_
  | refine ds_set 2 (by assumption) ?_
  | refine ds_set 3 (by assumption) ?_
  | refine ds_set 4 (by assumption) ?_
  | refine ds_set 5 (by assumption) ?_
  | refine ds_set 6 (by assumption) ?_
  | refine ds_set 7 (by assumption) ?_
  | refine ds_set 8 (by assumption) ?_
  | refine ds_set 9 (by assumption) ?_
  | refine ds_set 10 (by assumption) ?_
  | refine ds_set 0 (by assumption) ?_)
local macro_rules | `(tactic| walk_at "g") => `(tactic| first
  | exact dg_name 1 (by assumption)
  | exact dg_name 2 (by assumption)
  | exact dg_name 3 (by assumption)
  | exact dg_name 4 (by assumption)
  | exact dg_name 5 (by assumption)
  | exact dg_name 6 (by assumption)
  | exact dg_name 7 (by assumption)
  | exact dg_name 8 (by assumption)
  | exact dg_name 9 (by assumption)
  | (refine dg_tup 2 rfl ?_; walk_at "gs")
  | (refine dg_tup 3 rfl ?_; walk_at "gs"))
local macro_rules | `(tactic| walk_at "gs") => `(tactic| first
  | exact dgs_nil
  | (refine dgs_cons ?_ ?_; walk_at "g"; walk_at "gs"))
local macro_rules | `(tactic| walk_at "i") => `(tactic| first
  | (refine di_range1 (by rfl) (by assumption) ?_; walk_at "a")
  | (refine di_enum (by rfl) (by assumption) ?_; walk_at "a")
  | (refine di_seq ?_; walk_at "e"))
local macro_rules | `(tactic| walk_at "s") => `(tactic| first
  | (refine ds_ret ?_; walk_at "e")
  | (walk_at "set"; walk_at "e")
  | (refine ds_fld ?_ ?_; walk_at "e"; walk_at "e")
  | (refine ds_if ?_ ?_ ?_; walk_at "t"; walk_at "b"; walk_at "b")
  | (refine ds_expr (de_bm ?_ ?_ (fun _ _ h k => pe_bm PySem.F.plainAttrs_list PySem.F.slot_list_append PySem.F.type_list_append mt_append h k)); walk_at "e"; walk_at "a")
  | (refine ds_expr (de_bm ?_ ?_ (fun _ _ h k => pe_bm PySem.F.plainAttrs_list PySem.F.slot_list_extend PySem.F.type_list_extend mt_extend h k)); walk_at "e"; walk_at "a")
  | (refine ds_asg ?_ (dg_tup 2 rfl ?_); walk_at "e"; walk_at "gs")
  | (refine ds_asg ?_ (dg_sub ?_ ?_ set_list); walk_at "e"; walk_at "e"; walk_at "e")
  | (refine ds_raise _ (by assumption) (by assumption) rfl (by walk_at "rm") (by assumption) (by rfl) ?_; walk_at "a")
  | exact ds_break
  | exact ds_continue
  | (refine ds_while (by first | exact PassesOwn.never | assumption) ?_ ?_; walk_at "t"; walk_at "b")
  | (refine ds_for (by first | exact PassesOwn.never | assumption) rfl ?_ ?_ ?_; walk_at "i"; walk_at "g"; walk_at "b"))
local macro_rules | `(tactic| walk_at "b") => `(tactic| first
  | exact db_nil
  | (refine db_one ?_; walk_at "s")
  | (refine db_cons ?_ ?_; walk_at "s"; walk_at "b"))
local macro_rules | `(tactic| walk_at "nf") => `(tactic| dsimp only [de_slice, do_none, do_some, ds_swap, dt_inS, de_f_int2, de_isN, dt_isN, de_tupT, dt_tru, de_inC, de_mulT, de_lenK, de_sk, de_funX, de_funX0, ds_raise, ds_tryK, XofX, de_split, de_join, de_part, de_lc2, de_lcI, de_kget, de_kin, de_mk, de_fld, ds_fld, Xof, cxOf, Cx.nox, tInQ, List.map, de_lt2, de_le2, dt_lt2, dt_le2, de_ch, dt_ch, de_chll, dt_chll, de_in, de_nin, dt_in, dt_nin, de_gl, de_strT, de_isi2, de_f_tuple, de_f_list, de_f_sum, de_f_sorted, di_str, di_seq, de_lc, ds_setLc, de_err, de_gX, de_VE, de_f_isi, de_dic0, de_dic1, de_int, de_str, de_bl, de_non, de_v, de_op, de_cmp, de_one, de_and, de_or, de_not, de_neg, de_ifE, da_nil, da_cons, de_tup, de_lst, de_ix, de_callB, de_callT, de_fun, dt_val, dt_cmp, dt_not, dt_w, dw_and1, dw_or1, dw_and, dw_or, dg_name, dgs_nil, dgs_cons, dg_tup, dg_sub, di_list, di_tup, di_range1, di_enum, db_nil, db_one, db_cons, ds_ret, ds_retN, ds_set, ds_asg, ds_if, ds_expr, ds_for, ds_while, ds_break, ds_continue, ds_never, de_bm, de_errF, de_f_len, de_f_int, de_f_abs, de_f_all, de_f_any, de_f_min, de_f_max, de_f_repr, de_add, de_sub, de_mul, de_mod, de_fdiv, de_pow, de_eq, de_ne, de_lt, de_le, de_gt, de_ge, dt_eq, dt_ne, dt_lt, dt_le, dt_gt, dt_ge])
local macro_rules | `(tactic| walk_at "lc3") => `(tactic| (intro _ _ _ _ _; walk_at "g"))
local macro_rules | `(tactic| walk_at "lc4") => `(tactic| (intro _ _ _ _ _; walk_at "e"))
local macro_rules | `(tactic| walk_at "lc5") => `(tactic| (intro _ _ _ _ _; rfl))

/-! ### steps over data -/
local macro_rules | `(tactic| walk_at "x") => `(tactic| first
  | with_reducible refine esm_seq ?_
  | with_reducible refine esm_next ?_
  | with_reducible refine esm_brk ?_
  | with_reducible refine esm_cont ?_
  | with_reducible refine esm_ret ?_
  | with_reducible refine esm_retN ?_
  | with_reducible refine esm_raise (CalE.T (by assumption)) (by assumption) ?_
  | with_reducible refine evm_funTX (by assumption) ?_
  | with_reducible refine evm_funT0 ?_
  | with_reducible refine evm_isi ?_
  | with_reducible refine evm_slice ?_
  | with_reducible refine eom_none ?_
  | with_reducible refine eom_some ?_
  | with_reducible refine esm_swp ?_
  | with_reducible refine evm_popAt rfl ?_
  | with_reducible refine evm_lenO rfl ?_
  | with_reducible refine cw_min2 ?_
  | with_reducible refine esm_asgLN (by decide) ?_
  | with_reducible refine ow_isN rfl ?_
  | with_reducible refine esm_newL ?_
  | (with_reducible refine esm_newD (by exact Nat.le_of_ble_eq_true rfl) ?_; dsimp only [List.set])
  | with_reducible refine esm_asg ?_
  | with_reducible refine esm_if ?_
  | with_reducible refine esm_app rfl ?_
  | with_reducible refine esm_ext rfl ?_
  | with_reducible refine esm_drop ?_
  | with_reducible refine evm_int ?_
  | with_reducible refine evm_str ?_
  | with_reducible refine evm_bl ?_
  | with_reducible refine evm_non ?_
  | with_reducible refine evm_var rfl ?_
  | with_reducible refine evm_c (by assumption) ?_
  | (with_reducible refine evm_own rfl ?_; dsimp only [List.set])
  | (with_reducible refine evm_ownD rfl ?_; dsimp only [List.set])
  | with_reducible refine evm_isStr ?_
  | with_reducible refine evm_ixO rfl ?_
  | with_reducible refine evm_op ?_
  | with_reducible refine evm_chain ?_
  | with_reducible refine evm_fldV (by assumption) rfl (by with_unfolding_all decide) rfl ?_
  | with_reducible refine evm_fldO (by assumption) rfl (by with_unfolding_all decide) rfl ?_
  | with_reducible refine esm_fldN (by assumption) (by with_unfolding_all decide) ?_
  | with_reducible refine evm_if ?_
  | with_reducible refine evm_andV ?_
  | with_reducible refine evm_orV ?_
  | with_reducible refine evm_notV ?_
  | with_reducible refine evm_tup ?_
  | with_reducible refine evm_lst ?_
  | with_reducible refine evm_call ?_
  | with_reducible refine evm_fun ?_
  | with_reducible refine evm_split ?_
  | with_reducible refine evm_join ?_
  | with_reducible refine evm_part ?_
  | with_reducible refine evm_funT ?_
  | with_reducible refine evm_funP rfl ?_
  | with_reducible refine evm_make ?_
  | with_reducible refine eam_nil ?_
  | with_reducible refine eam_cons ?_
  | with_reducible refine etm_test ?_
  | with_reducible refine etm_B ?_
  | with_reducible refine etm_not ?_
  | with_reducible refine etm_and ?_
  | with_reducible refine etm_or ?_
  | with_reducible refine etm_yes ?_
  | with_reducible refine ow_addI ?_
  | with_reducible refine ow_subI ?_
  | with_reducible refine cw_lenL ?_
  | with_reducible refine cw_lenT ?_
  | with_reducible refine cw_int ?_
  | with_reducible refine cw_tupL ?_
  | with_reducible refine cw_lstL ?_
  | with_reducible refine cw_lstT ?_
  | refine br_t (by first | rfl | assumption | exact bnt (by assumption) | exact bnf (by assumption)) ?_
  | refine br_f (by first | rfl | assumption | exact bnt (by assumption) | exact bnf (by assumption)) ?_
  | refine rb_t (by first | rfl | assumption | exact bnt (by assumption) | exact bnf (by assumption)) ?_
  | refine rb_f (by first | rfl | assumption | exact bnt (by assumption) | exact bnf (by assumption)) ?_
  | with_reducible refine eim_varL rfl ?_
  | with_reducible refine eim_varT rfl ?_
  | with_reducible refine eim_varS rfl ?_
  | (with_reducible refine eim_ownL rfl ?_; dsimp only [List.set])
  | with_reducible refine eim_range1 ?_
  | with_reducible refine eim_enum ?_
  | with_reducible refine evm_scrLen rfl ?_
  | with_reducible refine cw_max2 ?_
  | (with_reducible refine lcy ?_; dsimp only [List.set])
  | (with_reducible refine lct ?_; dsimp only [List.set])
  | (with_reducible refine lcy2 ?_; dsimp only [List.set])
  | with_reducible refine esm_forN ?_
  | with_reducible refine esm_forN2 ?_
  | with_reducible refine esm_asg2 ?_
  | with_reducible refine evm_lcY ?_
  | with_reducible refine evm_lcT ?_
  | with_reducible refine evm_lcY2 ?_
  | (with_reducible refine ⟨_, rfl, ?_⟩)
  | (refine ⟨_, _, rfl, (by exact Nat.lt_of_lt_of_le (Nat.lt_succ_self _) (Nat.le_of_ble_eq_true rfl)), ?_⟩; dsimp only [List.set])
  | (refine ⟨Nat.le_of_ble_eq_true rfl, ?_⟩; try dsimp only [List.set]))
local macro_rules | `(tactic| walk_at "xv") => `(tactic| first
  | with_reducible refine ow_ltI ?_
  | with_reducible refine ow_leI ?_
  | with_reducible refine ow_leS ?_
  | with_reducible refine ow_gtI ?_
  | with_reducible refine ow_geI ?_
  | with_reducible refine ow_eqI ?_
  | with_reducible refine ow_eqS ?_
  | with_reducible refine ow_neI ?_
  | with_reducible refine ow_neS ?_)
local macro_rules | `(tactic| walk_at "xo") => `(tactic| first
  | with_reducible refine oc_ltI ?_
  | with_reducible refine oc_leI ?_
  | with_reducible refine oc_leS ?_
  | with_reducible refine oc_gtI ?_
  | with_reducible refine oc_geI ?_
  | with_reducible refine oc_eqI ?_
  | with_reducible refine oc_eqS ?_
  | with_reducible refine oc_neI ?_
  | with_reducible refine oc_neS ?_)
local macro_rules | `(tactic| walk_at "xc") => `(tactic| (walk_at "xo"; intro b hb; cases b <;> walk_at "xs"))
local macro_rules | `(tactic| walk_at "xs") => `(tactic| repeat walk_at "x")
section
variable {P : Program} {w : World} {K : PySem.W.Frag} {mg : Str → Option Value} {base : Heap}
/-! ### what the lines tell -/
theorem pal_ok : ∀ d ∈ palette, isColD d = true ∧ wordD (colT d) = d ∧ isCol (colT d) = true ∧ (∀ c ∈ (colT d).cps.toList, c < 128 ∧ c ≠ 10 ∧ c ≠ 32) ∧ (colT d).length ≤ 8 := by
  intro d hd
  simp only [palette, List.mem_cons, List.not_mem_nil, or_false] at hd
  rcases hd with rfl | rfl | rfl | rfl | rfl | rfl <;> exact ⟨by decide +kernel, by first | rfl | (unfold wordD colT; rw [if_neg (by decide)]), by decide +kernel, by decide +kernel, by decide +kernel⟩
theorem join_cps (s : Nat) : ∀ {ws : List Str} {c : Nat}, c ∈ (Txt.join ⟨#[s]⟩ ws).cps.toList → c = s ∨ ∃ x ∈ ws, c ∈ x.cps.toList
  | [], c, h => by
    rw [join_eq2] at h
    cases h
  | [x], c, h => by
    rw [join_eq2] at h
    exact .inr ⟨x, .head _, h⟩
  | x :: y :: r, c, h => by
    rw [join_eq2] at h
    have e : (Str.join ⟨#[s]⟩ (x :: y :: r)).cps.toList = x.cps.toList ++ [s] ++ (Str.join ⟨#[s]⟩ (y :: r)).cps.toList := by
      show ((x ++ (⟨#[s]⟩ : Str)) ++ Str.join ⟨#[s]⟩ (y :: r)).cps.toList = _
      rw [str_app, str_app]
    rw [e] at h
    rcases List.mem_append.mp h with h | h
    · rcases List.mem_append.mp h with h | h
      · exact .inr ⟨x, .head _, h⟩
      · exact .inl (List.mem_singleton.mp h)
    · rw [← join_eq2] at h
      rcases join_cps s h with h | ⟨z, hz, h⟩
      · exact .inl h
      · exact .inr ⟨z, .tail _ hz, h⟩
theorem nl_eq : nl = (⟨#[10]⟩ : Str) := rfl
theorem sp_eq : sp1 = (⟨#[32]⟩ : Str) := rfl
theorem row_words {r : List D} (h : ∀ d ∈ r, d ∈ palette) (ne : r ≠ []) : Txt.split (rowT (.tup r)) sp1 = r.map colT := by
  show Txt.split (Txt.join sp1 (r.map colT)) sp1 = _
  rw [sp_eq]
  refine split_words (by decide) (by simpa using ne) fun w hw hc => ?_
  obtain ⟨d, hd, rfl⟩ := List.mem_map.mp hw
  exact ((pal_ok d (h d hd)).2.2.2.1 32 hc).2.2 rfl
theorem row_lineD {r : List D} (h : ∀ d ∈ r, d ∈ palette) (ne : r ≠ []) (l7 : r.length ≤ 7) : lineD (Txt.split (rowT (.tup r)) sp1) = .tup r := by
  rw [row_words h ne]
  have ha : (r.map colT).all isCol = true := by
    rw [List.all_map]
    exact List.all_eq_true.mpr fun d hd => (pal_ok d (h d hd)).2.2.1
  have e : (r.map colT).map wordD = r := by
    rw [List.map_map]
    have : ∀ {r : List D}, (∀ d ∈ r, d ∈ palette) → r.map (wordD ∘ colT) = r := by
      intro r
      induction r with
      | nil => exact fun _ => rfl
      | cons d r ih =>
        intro h
        rw [List.map_cons, ih fun x hx => h x (.tail _ hx)]
        exact congrArg (· :: r) (pal_ok d (h d (.head _))).2.1
    exact this h
  unfold lineD
  rw [ha, decide_eq_false (by rw [List.length_map]; omega), e]
  rfl
theorem row_ok {r : List D} (h : ∀ d ∈ r, d ∈ palette) (ne : r ≠ []) (l7 : r.length ≤ 7) : LnOk 100 (rowT (.tup r)) ∧ isLineD (.tup r) = true := by
  have hl : isLineD (.tup r) = true := by
    show (decide (1 ≤ (r.length : Int)) && (decide ((r.length : Int) ≤ 7) && r.all isColD)) = true
    have := List.length_pos_iff.mpr ne
    rw [decide_eq_true (by omega), decide_eq_true (by omega), Bool.true_and, Bool.true_and]
    exact List.all_eq_true.mpr fun d hd => (pal_ok d (h d hd)).1
  refine ⟨⟨row_len hl, fun c hc => ?_⟩, hl⟩
  rcases join_cps 32 (ws := r.map colT) hc with rfl | ⟨x, hx, hc⟩
  · decide
  · obtain ⟨d, hd, rfl⟩ := List.mem_map.mp hx
    have z := (pal_ok d (h d hd)).2.2.2.1 c hc
    exact ⟨z.1, z.2.1⟩
/-- the picture's lines read again -/
theorem rows_read {n : Nat} (h1 : 1 ≤ n) (h7 : n ≤ 7) : ∀ (rows pic : List (List D)), (∀ r ∈ rows, r.length = n ∧ ∀ d ∈ r, d ∈ palette) → (∀ r ∈ pic, r.length = n) → pic.length + rows.length ≤ 7 → readS (pic.map .tup) (rows.map fun r => rowT (.tup r)) = .ok ((pic ++ rows).map .tup)
  | [], pic, _, _, _ => by rw [List.append_nil]; rfl
  | r :: rows, pic, h, hp, l => by
    obtain ⟨lr, pr⟩ := h r (.head _)
    rw [List.length_cons] at l
    have e := row_lineD pr (fun z => by rw [z] at lr; simp at lr; omega) (by omega)
    show (if badLine (pic.map .tup) (Txt.split (rowT (.tup r)) sp1) then _ else readS (pic.map .tup ++ [lineD (Txt.split (rowT (.tup r)) sp1)]) (rows.map fun r => rowT (.tup r))) = _
    have bad : badLine (pic.map .tup) (Txt.split (rowT (.tup r)) sp1) = false := by
      unfold badLine
      rw [e, decide_eq_false (by rw [List.length_map]; omega)]
      cases pic with
      | nil => rfl
      | cons p pic =>
        show (false || (false || (true && !decide (((r.length : Nat) : Int) = ((p.length : Nat) : Int))))) = false
        rw [lr, hp p (.head _)]
        simp
    rw [if_neg (by rw [bad]; exact Bool.false_ne_true), e]
    have z := rows_read h1 h7 rows (pic ++ [r]) (fun s hs => h s (.tail _ hs)) (fun s hs => (List.mem_append.mp hs).elim (hp s) fun hs => by rw [List.mem_singleton.mp hs]; exact lr) (by rw [List.length_append]; show pic.length + 1 + rows.length ≤ 7; omega)
    rw [List.map_append] at z
    rw [show pic ++ r :: rows = pic ++ [r] ++ rows by simp]
    exact z
/-! ### lines that were bent -/
theorem lineD_text {ws : List Str} (h : ws.all isCol = true) : ws.map (fun w => colT (wordD w)) = ws := by
  induction ws with
  | nil => rfl
  | cons w ws ih =>
    rw [List.all_cons, Bool.and_eq_true] at h
    rw [List.map_cons, ih h.2]
    have e : colT (wordD w) = w := by
      unfold wordD
      by_cases q : w = "-"
      · rw [if_pos q, q]
        rfl
      · rw [if_neg q]
        rfl
    rw [e]
theorem dash_no : isName "-" = false := by decide +kernel
theorem word_col {w : Str} (h : isCol w = true) : isColD (wordD w) = true := by
  unfold isCol at h
  unfold wordD
  by_cases q : w = "-"
  · rw [if_pos q]
    rfl
  · rw [if_neg q]
    rw [decide_eq_false q, Bool.false_or] at h
    exact h
theorem split_ne {x y : Str} (hy : y = sp1 ∨ y = nl) : Txt.split x y ≠ [] := fun e => by
  have z := StrLaws.join_split x y
  rw [e] at z
  have ex : x = (⟨#[]⟩ : Str) := z.symm
  subst ex
  rcases hy with rfl | rfl <;> exact absurd e (by decide +kernel)
theorem line_back {l : Str} {ws : List Str} (e : Txt.split l sp1 = ws) (h : ws.all isCol = true) (l7 : ws.length ≤ 7) : rowT (.tup (ws.map wordD)) = l ∧ isLineD (.tup (ws.map wordD)) = true := by
  constructor
  · show Txt.join sp1 ((ws.map wordD).map colT) = l
    rw [List.map_map, show (colT ∘ wordD) = fun w => colT (wordD w) from rfl, lineD_text h, ← e, join_eq2, StrLaws.join_split]
  · have ne : ws ≠ [] := e ▸ split_ne (.inl rfl)
    have l1 := List.length_pos_iff.mpr ne
    show (decide (1 ≤ ((ws.map wordD).length : Int)) && (decide (((ws.map wordD).length : Int) ≤ 7) && (ws.map wordD).all isColD)) = true
    rw [List.length_map, decide_eq_true (by omega), decide_eq_true (by omega), Bool.true_and, Bool.true_and, List.all_map]
    exact List.all_eq_true.mpr fun w hw => word_col (List.all_eq_true.mp h w hw)
/-- the program's reading and the law's own go together -/
theorem read_due {many : Nat} : ∀ (ls : List Str) (pic : List D), (∀ d ∈ pic, isLineD d = true ∧ tupLen d = many) → pic.length ≤ 7 → (pic = [] → many = (Txt.split (ls.headD "") sp1).length) → (pic ≠ [] → many ≤ 7) →
    (dueGo many pic.length ls = 0 → ∃ more, readS pic ls = .ok (pic ++ more) ∧ (pic ++ more).length ≤ 7 ∧ (∀ d ∈ more, isLineD d = true) ∧ more.map rowT = ls) ∧
    (0 < dueGo many pic.length ls → readS pic ls = .error (dueGo many pic.length ls))
  | [], pic, _, l7, _, _ => ⟨fun _ => ⟨[], by rw [List.append_nil]; rfl, by rw [List.append_nil]; exact l7, (fun d hd => nomatch hd), rfl⟩, fun h => absurd h (by show ¬ 0 < 0; omega)⟩
  | l :: ls, pic, hp, l7, h0, h1 => by
    have bd : badDue many pic.length (Txt.split l sp1) = badLine pic (Txt.split l sp1) := by
      unfold badDue badLine
      rcases lineD_cases (Txt.split l sp1) with e | ⟨wl, wall, e⟩
      · rw [e]
        show _ = (true || _)
        rw [Bool.true_or]
        unfold lineD at e
        cases hc : (decide (7 < ((Txt.split l sp1).length : Int)) || !(Txt.split l sp1).all isCol) with
        | false =>
          rw [hc] at e
          cases e
        | true =>
          rcases (Bool.or_eq_true _ _).mp hc with z | z
          · have z := of_decide_eq_true z
            by_cases q : ((Txt.split l sp1).length : Int) = (many : Int)
            · rw [decide_eq_true (show (7 : Int) < (many : Int) by omega)]
              simp
            · rw [decide_eq_false q]
              simp
          · rw [z]
            simp
      · rw [e, wall]
        show _ = (false || (_ || (_ && !decide ((((Txt.split l sp1).map wordD).length : Int) = _))))
        rw [List.length_map, Bool.not_true, Bool.or_false, Bool.false_or]
        cases pic with
        | nil =>
          have em := h0 rfl
          have em2 : many = (Txt.split l sp1).length := em
          rw [← em2]
          simp
          omega
        | cons p pic =>
          have m7 := h1 (fun z => nomatch z)
          have lp := (hp p (.head _)).2
          rw [decide_eq_false (show ¬ (7 : Int) < (many : Int) by omega), Bool.or_false]
          show _ = (decide (((p :: pic).length : Int) = 7) || (true && !decide (((Txt.split l sp1).length : Int) = ((tupLen p : Nat) : Int))))
          rw [lp, Bool.true_and]
          congr 1
          refine decide_eq_decide.mpr ?_
          omega
    have e1 : dueGo many pic.length (l :: ls) = if badLine pic (Txt.split l sp1) then pic.length + 1 else dueGo many (pic.length + 1) ls := by
      rw [← bd]
      rfl
    have e2 : readS pic (l :: ls) = if badLine pic (Txt.split l sp1) then .error (pic.length + 1) else readS (pic ++ [lineD (Txt.split l sp1)]) ls := rfl
    rw [e1, e2]
    cases hb : badLine pic (Txt.split l sp1) with
    | true =>
      rw [if_pos rfl, if_pos rfl]
      exact ⟨fun z => absurd z (by omega), fun _ => rfl⟩
    | false =>
      rw [if_neg Bool.false_ne_true, if_neg Bool.false_ne_true]
      have hb2 := hb
      unfold badLine at hb2
      rw [Bool.or_eq_false_iff, Bool.or_eq_false_iff] at hb2
      rcases lineD_cases (Txt.split l sp1) with e | ⟨wl, wall, e⟩
      · rw [e] at hb2
        cases hb2.1
      · have n7 : pic.length < 7 := by
          have := of_decide_eq_false hb2.2.1
          omega
        have em : (Txt.split l sp1).length = many := by
          cases pic with
          | nil => exact (h0 rfl).symm
          | cons p pic =>
            have z := hb2.2.2
            rw [e] at z
            have z2 : (true && !decide ((((Txt.split l sp1).map wordD).length : Int) = ((tupLen p : Nat) : Int))) = false := z
            rw [Bool.true_and, Bool.not_eq_false', List.length_map, (hp p (.head _)).2] at z2
            have := of_decide_eq_true z2
            omega
        obtain ⟨rb, lb⟩ := line_back rfl wall wl
        have ih := read_due (many := many) ls (pic ++ [lineD (Txt.split l sp1)]) (fun d hd => by
          rcases List.mem_append.mp hd with hd | hd
          · exact hp d hd
          · rw [List.mem_singleton.mp hd, e]
            exact ⟨lb, by show ((Txt.split l sp1).map wordD).length = many; rw [List.length_map]; exact em⟩) (by rw [List.length_append]; exact n7) (fun z => absurd z (by simp)) (fun _ => by omega)
        rw [List.length_append] at ih
        refine ⟨fun z => ?_, ih.2⟩
        obtain ⟨more, f1, f2, f3, f4⟩ := ih.1 z
        refine ⟨lineD (Txt.split l sp1) :: more, by rw [f1]; simp, by simpa using f2, fun d hd => ?_, ?_⟩
        · rcases List.mem_cons.mp hd with rfl | hd
          · rw [e]
            exact lb
          · exact f3 d hd
        · rw [List.map_cons, f4, e, rb]
theorem met_of {ls : List Str} (ne : ls ≠ []) (hl : ∀ x ∈ ls, ∀ c ∈ x.cps.toList, c ≠ 10) :
    (dueN ls = 0 → ∃ pic, metD (.str (Txt.join nl ls)) = some (.tup [.bl false, .tup pic]) ∧ pic.length ≤ 7 ∧ pic.all isLineD = true ∧ pic.map rowT = ls) ∧ (0 < dueN ls → metD (.str (Txt.join nl ls)) = some (.tup [.bl true, .int (dueN ls : Nat)])) := by
  have es : Txt.split (Txt.join nl ls) nl = ls := by
    rw [nl_eq]
    exact split_words (by decide) ne fun w hw hc => hl w hw 10 hc rfl
  have em : metD (.str (Txt.join nl ls)) = match readS [] ls with
    | .ok pic => some (.tup [.bl false, .tup pic])
    | .error n => some (.tup [.bl true, .int (n : Nat)]) := by
    show (match readS [] (Txt.split (Txt.join nl ls) nl) with | .ok pic => some (D.tup [.bl false, .tup pic]) | .error n => some (.tup [.bl true, .int (n : Nat)])) = _
    rw [es]
  obtain ⟨h1, h2⟩ := read_due (many := (Txt.split (ls.headD "") sp1).length) ls [] (fun d hd => nomatch hd) (by decide) (fun _ => rfl) (fun z => absurd rfl z)
  constructor
  · intro z
    obtain ⟨more, f1, f2, f3, f4⟩ := h1 z
    rw [List.nil_append] at f1 f2
    exact ⟨more, by rw [em, f1], f2, List.all_eq_true.mpr f3, f4⟩
  · intro z
    rw [em, h2 z]
    rfl
end
end Tp

namespace Tp
open PySem PySem.Spec PyProof.Rows L2
/-! ### the derivations, by the syntax -/
local macro_rules | `(tactic| walk_at "pv") => `(tactic| first | exact de_v 0 | exact de_v 1 | exact de_v 2 | exact de_v 3 | exact de_v 4 | exact de_v 5 | exact de_v 6 | exact de_v 7 | exact de_v 8 | exact de_v 9 | exact de_v 10 | exact de_v 11)
local macro_rules | `(tactic| walk_at "rm") => `(tactic| first | assumption | exact Room.mono (by assumption) (by omega))
local macro_rules | `(tactic| walk_at "e") => `(tactic| first
  | exact de_int
  | exact de_str
  | exact de_bl
  | exact de_non
  | (refine de_add ?_ ?_ <;> walk_at "e")
  | (refine de_sub ?_ ?_ <;> walk_at "e")
  | (refine de_mul ?_ ?_ <;> walk_at "e")
  | (refine de_mod ?_ ?_ <;> walk_at "e")
  | (refine de_fdiv ?_ ?_ <;> walk_at "e")
  | (refine de_pow ?_ ?_ <;> walk_at "e")
  | (refine de_eq (by assumption) ?_ ?_ <;> walk_at "e")
  | (refine de_ne (by assumption) ?_ ?_ <;> walk_at "e")
  | (refine de_lt2 ?_ ?_ <;> walk_at "e")
  | (refine de_le2 ?_ ?_ <;> walk_at "e")
  | (refine de_gt ?_ ?_ <;> walk_at "e")
  | (refine de_ge ?_ ?_ <;> walk_at "e")
  | (refine de_chll ?_ ?_ ?_ <;> walk_at "e")
  | (refine de_inC ?_; walk_at "e")
  | (refine de_isN ?_ ?_ <;> walk_at "e")
  | (refine de_in (by assumption) ?_ ?_ <;> walk_at "e")
  | (refine de_nin (by assumption) ?_ ?_ <;> walk_at "e")
  | (refine de_one ?_; walk_at "e")
  | (refine de_and ?_ ?_ <;> walk_at "e")
  | (refine de_or ?_ ?_ <;> walk_at "e")
  | (refine de_not ?_; walk_at "e")
  | (refine de_neg ?_; walk_at "e")
  | (refine de_ifE ?_ ?_ ?_; walk_at "t"; walk_at "e"; walk_at "e")
  | (refine de_tup ?_ (fun _ h => pe_tup h); walk_at "a")
  | (refine de_lst ?_ (fun _ h => pe_lst h); walk_at "a")
  | exact de_dic0
  | (refine de_dic1 ?_; walk_at "e")
  | (refine de_fld ?_; walk_at "e")
  | walk_at "lc"
  | (refine de_ix ix_seq ?_ ?_ (fun _ _ => rfl) <;> walk_at "e")
  | walk_at "c"
  | (refine de_fun (by assumption) (by walk_at "rm") (by assumption) (by rfl) ?_; walk_at "a")
  | (refine de_funX _ (by assumption) (by assumption) (by walk_at "rm") (by assumption) (by rfl) ?_; walk_at "a")
  | (refine de_funX0 (by assumption) (by walk_at "rm") (by assumption) (by rfl) ?_; walk_at "a")
  | (refine de_mk (by assumption) (by walk_at "rm") (by assumption) (by rfl) ?_; walk_at "a")
  | (refine de_err (by assumption) (by walk_at "rm") (by assumption) (by rfl) ?_; walk_at "a")
  | walk_at "pv"
  | exact de_gX (by assumption) (by rfl)
  | exact de_gl (by assumption) (by rfl)
  | exact de_strT (by rfl) (by assumption)
  | exact de_tupT (by rfl) (by assumption)
  | (refine de_slice ?_ ?_ ?_; walk_at "e"; walk_at "po"; walk_at "po")
  | (refine de_bm ?_ ?_ (fun _ _ h k => pe_bm PySem.F.plainAttrs_list PySem.F.slot_list_pop PySem.F.type_list_pop mt_popAt h k); walk_at "e"; walk_at "a")
  | walk_at "el"
  | exact de_VE (by rfl) (by assumption))
local macro_rules | `(tactic| walk_at "c") => `(tactic| first
  | (refine de_split ?_ ?_ <;> walk_at "e")
  | (refine de_join ?_ ?_ <;> walk_at "e")
  | (refine de_part ?_ ?_ <;> walk_at "e")
  | (refine de_kget (by assumption) ?_ ?_ ?_ <;> walk_at "e")
  | (refine de_f_len (by assumption) (by rfl) ?_; walk_at "a")
  | (refine de_f_int (by assumption) (by rfl) ?_; walk_at "a")
  | (refine de_f_abs (by assumption) (by rfl) ?_; walk_at "a")
  | (refine de_f_all rfl (by assumption) (by rfl) ?_; walk_at "a")
  | (refine de_f_any rfl (by assumption) (by rfl) ?_; walk_at "a")
  | (refine de_f_min rfl (by assumption) (by rfl) ?_; walk_at "a")
  | (refine de_f_max rfl (by assumption) (by rfl) ?_; walk_at "a")
  | (refine de_isi2 (by assumption) (by rfl) ?_; walk_at "a")
  | (refine de_f_tuple (by assumption) (by rfl) ?_; walk_at "a")
  | (refine de_f_list (by assumption) (by rfl) ?_; walk_at "a")
  | (refine de_f_sum rfl (by assumption) (by rfl) ?_; walk_at "a")
  | (refine de_f_sorted (by assumption) (by rfl) ?_; walk_at "a")
  | (refine de_f_repr (by assumption) (by assumption) (by assumption) (by assumption) (by rfl) ?_; walk_at "a"))
local macro_rules | `(tactic| walk_at "po") => `(tactic| first
  | exact do_none
  | (refine do_some ?_; walk_at "e"))
local macro_rules | `(tactic| walk_at "a") => `(tactic| first
  | exact da_nil
  | (refine da_cons ?_ ?_; walk_at "e"; walk_at "a"))
local macro_rules | `(tactic| walk_at "t") => `(tactic| first
  | (refine dt_lt2 ?_ ?_ <;> walk_at "e")
  | (refine dt_le2 ?_ ?_ <;> walk_at "e")
  | (refine dt_gt ?_ ?_ <;> walk_at "e")
  | (refine dt_ge ?_ ?_ <;> walk_at "e")
  | (refine dt_chll ?_ ?_ ?_ <;> walk_at "e")
  | (refine dt_isN ?_ ?_ <;> walk_at "e")
  | (refine dt_in (by assumption) ?_ ?_ <;> walk_at "e")
  | (refine dt_nin (by assumption) ?_ ?_ <;> walk_at "e")
  | (refine dt_eq (by assumption) ?_ ?_ <;> walk_at "e")
  | (refine dt_ne (by assumption) ?_ ?_ <;> walk_at "e")
  | (refine dt_not ?_; walk_at "t")
  | (refine dt_w ?_; walk_at "w")
  | (refine dt_val ?_; walk_at "e"))
local macro_rules | `(tactic| walk_at "w") => `(tactic| first
  | (refine dw_and1 ?_; walk_at "t")
  | (refine dw_or1 ?_; walk_at "t")
  | (refine dw_and ?_ ?_; walk_at "t"; walk_at "w")
  | (refine dw_or ?_ ?_; walk_at "t"; walk_at "w"))
local macro_rules | `(tactic| walk_at "set") => `(tactic| first
  | refine ds_set 1 (by assumption) ?_
  | refine ds_set 2 (by assumption) ?_
  | refine ds_set 3 (by assumption) ?_
  | refine ds_set 4 (by assumption) ?_
  | refine ds_set 5 (by assumption) ?_
  | refine ds_set 6 (by assumption) ?_
  | refine ds_set 7 (by assumption) ?_
  | refine ds_set 8 (by assumption) ?_
  | refine ds_set 9 (by assumption) ?_
  | refine ds_set 10 (by assumption) ?_
  | refine ds_set 0 (by assumption) ?_)
local macro_rules | `(tactic| walk_at "g") => `(tactic| first
  | exact dg_name 1 (by assumption)
  | exact dg_name 2 (by assumption)
  | exact dg_name 3 (by assumption)
  | exact dg_name 4 (by assumption)
  | exact dg_name 5 (by assumption)
  | exact dg_name 6 (by assumption)
  | exact dg_name 7 (by assumption)
  | exact dg_name 8 (by assumption)
  | exact dg_name 9 (by assumption)
  | (refine dg_tup 2 rfl ?_; walk_at "gs")
  | (refine dg_tup 3 rfl ?_; walk_at "gs"))
local macro_rules | `(tactic| walk_at "gs") => `(tactic| first
  | exact dgs_nil
  | (refine dgs_cons ?_ ?_; walk_at "g"; walk_at "gs"))
local macro_rules | `(tactic| walk_at "i") => `(tactic| first
  | (refine di_range1 (by rfl) (by assumption) ?_; walk_at "a")
  | (refine di_enum (by rfl) (by assumption) ?_; walk_at "a")
  | (refine di_seq ?_; walk_at "e"))
local macro_rules | `(tactic| walk_at "s") => `(tactic| first
  | (refine ds_ret ?_; walk_at "e")
  | (walk_at "set"; walk_at "e")
  | (refine ds_fld ?_ ?_; walk_at "e"; walk_at "e")
  | (refine ds_if ?_ ?_ ?_; walk_at "t"; walk_at "b"; walk_at "b")
  | (refine ds_expr (de_bm ?_ ?_ (fun _ _ h k => pe_bm PySem.F.plainAttrs_list PySem.F.slot_list_append PySem.F.type_list_append mt_append h k)); walk_at "e"; walk_at "a")
  | (refine ds_expr (de_bm ?_ ?_ (fun _ _ h k => pe_bm PySem.F.plainAttrs_list PySem.F.slot_list_extend PySem.F.type_list_extend mt_extend h k)); walk_at "e"; walk_at "a")
  | (refine ds_asg ?_ (dg_tup 2 rfl ?_); walk_at "e"; walk_at "gs")
  | (refine ds_asg ?_ (dg_sub ?_ ?_ set_list); walk_at "e"; walk_at "e"; walk_at "e")
  | (refine ds_raise _ (by assumption) (by assumption) rfl (by walk_at "rm") (by assumption) (by rfl) ?_; walk_at "a")
  | exact ds_break
  | exact ds_continue
  | (refine ds_while (by first | exact PassesOwn.never | assumption) ?_ ?_; walk_at "t"; walk_at "b")
  | (refine ds_for (by first | exact PassesOwn.never | assumption) rfl ?_ ?_ ?_; walk_at "i"; walk_at "g"; walk_at "b"))
local macro_rules | `(tactic| walk_at "b") => `(tactic| first
  | exact db_nil
  | (refine db_one ?_; walk_at "s")
  | (refine db_cons ?_ ?_; walk_at "s"; walk_at "b"))
local macro_rules | `(tactic| walk_at "nf") => `(tactic| dsimp only [de_slice, do_none, do_some, ds_swap, dt_inS, de_f_int2, de_isN, dt_isN, de_tupT, dt_tru, de_inC, de_mulT, de_lenK, de_sk, de_funX, de_funX0, ds_raise, ds_tryK, XofX, de_split, de_join, de_part, de_lc2, de_lcI, de_kget, de_kin, de_mk, de_fld, ds_fld, Xof, cxOf, Cx.nox, tInQ, List.map, de_lt2, de_le2, dt_lt2, dt_le2, de_ch, dt_ch, de_chll, dt_chll, de_in, de_nin, dt_in, dt_nin, de_gl, de_strT, de_isi2, de_f_tuple, de_f_list, de_f_sum, de_f_sorted, di_str, di_seq, de_lc, ds_setLc, de_err, de_gX, de_VE, de_f_isi, de_dic0, de_dic1, de_int, de_str, de_bl, de_non, de_v, de_op, de_cmp, de_one, de_and, de_or, de_not, de_neg, de_ifE, da_nil, da_cons, de_tup, de_lst, de_ix, de_callB, de_callT, de_fun, dt_val, dt_cmp, dt_not, dt_w, dw_and1, dw_or1, dw_and, dw_or, dg_name, dgs_nil, dgs_cons, dg_tup, dg_sub, di_list, di_tup, di_range1, di_enum, db_nil, db_one, db_cons, ds_ret, ds_retN, ds_set, ds_asg, ds_if, ds_expr, ds_for, ds_while, ds_break, ds_continue, ds_never, de_bm, de_errF, de_f_len, de_f_int, de_f_abs, de_f_all, de_f_any, de_f_min, de_f_max, de_f_repr, de_add, de_sub, de_mul, de_mod, de_fdiv, de_pow, de_eq, de_ne, de_lt, de_le, de_gt, de_ge, dt_eq, dt_ne, dt_lt, dt_le, dt_gt, dt_ge])
local macro_rules | `(tactic| walk_at "lc3") => `(tactic| (intro _ _ _ _ _; walk_at "g"))
local macro_rules | `(tactic| walk_at "lc4") => `(tactic| (intro _ _ _ _ _; walk_at "e"))
local macro_rules | `(tactic| walk_at "lc5") => `(tactic| (intro _ _ _ _ _; rfl))

/-! ### steps over data -/
local macro_rules | `(tactic| walk_at "x") => `(tactic| first
  | with_reducible refine esm_seq ?_
  | with_reducible refine esm_next ?_
  | with_reducible refine esm_brk ?_
  | with_reducible refine esm_cont ?_
  | with_reducible refine esm_ret ?_
  | with_reducible refine esm_retN ?_
  | with_reducible refine esm_raise (CalE.T (by assumption)) (by assumption) ?_
  | with_reducible refine evm_funTX (by assumption) ?_
  | with_reducible refine evm_funT0 ?_
  | with_reducible refine evm_isi ?_
  | with_reducible refine evm_slice ?_
  | with_reducible refine eom_none ?_
  | with_reducible refine eom_some ?_
  | with_reducible refine esm_swp ?_
  | with_reducible refine evm_popAt rfl ?_
  | with_reducible refine evm_lenO rfl ?_
  | with_reducible refine cw_min2 ?_
  | with_reducible refine esm_asgLN (by decide) ?_
  | with_reducible refine ow_isN rfl ?_
  | with_reducible refine esm_newL ?_
  | (with_reducible refine esm_newD (by exact Nat.le_of_ble_eq_true rfl) ?_; dsimp only [List.set])
  | with_reducible refine esm_asg ?_
  | with_reducible refine esm_if ?_
  | with_reducible refine esm_app rfl ?_
  | with_reducible refine esm_ext rfl ?_
  | with_reducible refine esm_drop ?_
  | with_reducible refine evm_int ?_
  | with_reducible refine evm_str ?_
  | with_reducible refine evm_bl ?_
  | with_reducible refine evm_non ?_
  | with_reducible refine evm_var rfl ?_
  | with_reducible refine evm_c (by assumption) ?_
  | (with_reducible refine evm_own rfl ?_; dsimp only [List.set])
  | (with_reducible refine evm_ownD rfl ?_; dsimp only [List.set])
  | with_reducible refine evm_isStr ?_
  | with_reducible refine evm_ixO rfl ?_
  | with_reducible refine evm_op ?_
  | with_reducible refine evm_chain ?_
  | with_reducible refine evm_fldV (by assumption) rfl (by with_unfolding_all decide) rfl ?_
  | with_reducible refine evm_fldO (by assumption) rfl (by with_unfolding_all decide) rfl ?_
  | with_reducible refine esm_fldN (by assumption) (by with_unfolding_all decide) ?_
  | with_reducible refine evm_if ?_
  | with_reducible refine evm_andV ?_
  | with_reducible refine evm_orV ?_
  | with_reducible refine evm_notV ?_
  | with_reducible refine evm_tup ?_
  | with_reducible refine evm_lst ?_
  | with_reducible refine evm_call ?_
  | with_reducible refine evm_fun ?_
  | with_reducible refine evm_split ?_
  | with_reducible refine evm_join ?_
  | with_reducible refine evm_part ?_
  | with_reducible refine evm_funT ?_
  | with_reducible refine evm_funP rfl ?_
  | with_reducible refine evm_make ?_
  | with_reducible refine eam_nil ?_
  | with_reducible refine eam_cons ?_
  | with_reducible refine etm_test ?_
  | with_reducible refine etm_B ?_
  | with_reducible refine etm_not ?_
  | with_reducible refine etm_and ?_
  | with_reducible refine etm_or ?_
  | with_reducible refine etm_yes ?_
  | with_reducible refine ow_addI ?_
  | with_reducible refine ow_subI ?_
  | with_reducible refine cw_lenL ?_
  | with_reducible refine cw_lenT ?_
  | with_reducible refine cw_int ?_
  | with_reducible refine cw_tupL ?_
  | with_reducible refine cw_lstL ?_
  | with_reducible refine cw_lstT ?_
  | refine br_t (by first | rfl | assumption | exact bnt (by assumption) | exact bnf (by assumption)) ?_
  | refine br_f (by first | rfl | assumption | exact bnt (by assumption) | exact bnf (by assumption)) ?_
  | refine rb_t (by first | rfl | assumption | exact bnt (by assumption) | exact bnf (by assumption)) ?_
  | refine rb_f (by first | rfl | assumption | exact bnt (by assumption) | exact bnf (by assumption)) ?_
  | with_reducible refine eim_varL rfl ?_
  | with_reducible refine eim_varT rfl ?_
  | with_reducible refine eim_varS rfl ?_
  | (with_reducible refine eim_ownL rfl ?_; dsimp only [List.set])
  | with_reducible refine eim_range1 ?_
  | with_reducible refine eim_enum ?_
  | with_reducible refine evm_scrLen rfl ?_
  | with_reducible refine cw_max2 ?_
  | (with_reducible refine lcy ?_; dsimp only [List.set])
  | (with_reducible refine lct ?_; dsimp only [List.set])
  | (with_reducible refine lcy2 ?_; dsimp only [List.set])
  | with_reducible refine esm_forN ?_
  | with_reducible refine esm_forN2 ?_
  | with_reducible refine esm_asg2 ?_
  | with_reducible refine evm_lcY ?_
  | with_reducible refine evm_lcT ?_
  | with_reducible refine evm_lcY2 ?_
  | (with_reducible refine ⟨_, rfl, ?_⟩)
  | (refine ⟨_, _, rfl, (by exact Nat.lt_of_lt_of_le (Nat.lt_succ_self _) (Nat.le_of_ble_eq_true rfl)), ?_⟩; dsimp only [List.set])
  | (refine ⟨Nat.le_of_ble_eq_true rfl, ?_⟩; try dsimp only [List.set]))
local macro_rules | `(tactic| walk_at "xv") => `(tactic| first
  | with_reducible refine ow_ltI ?_
  | with_reducible refine ow_leI ?_
  | with_reducible refine ow_leS ?_
  | with_reducible refine ow_gtI ?_
  | with_reducible refine ow_geI ?_
  | with_reducible refine ow_eqI ?_
  | with_reducible refine ow_eqS ?_
  | with_reducible refine ow_neI ?_
  | with_reducible refine ow_neS ?_)
local macro_rules | `(tactic| walk_at "xo") => `(tactic| first
  | with_reducible refine oc_ltI ?_
  | with_reducible refine oc_leI ?_
  | with_reducible refine oc_leS ?_
  | with_reducible refine oc_gtI ?_
  | with_reducible refine oc_geI ?_
  | with_reducible refine oc_eqI ?_
  | with_reducible refine oc_eqS ?_
  | with_reducible refine oc_neI ?_
  | with_reducible refine oc_neS ?_)
local macro_rules | `(tactic| walk_at "xc") => `(tactic| (walk_at "xo"; intro b hb; cases b <;> walk_at "xs"))
local macro_rules | `(tactic| walk_at "xs") => `(tactic| repeat walk_at "x")
section
variable {P : Program} {w : World} {K : PySem.W.Frag} {mg : Str → Option Value} {base : Heap}
theorem scRight : FnScope ["pot", "picture", "lines", "turn", "some", "due", "met", "more", "odd", "large"] ["pot"] (defScope sRight) := ⟨rfl, rfl, rfl, by decide +kernel, rfl, by decide +kernel, by decide +kernel⟩
theorem sm_pal {d : D} (h : d ∈ palette) : Sm 10 0 d := by
  have z := List.all_eq_true.mp (show (palette.all fun d => d.plain && (d.py.showable && (d.py.leavesShort 13 && (decide (d.py.weight ≤ 10) && decide (d.py.depth ≤ 0))))) = true by decide +kernel) d h
  simp only [Bool.and_eq_true, decide_eq_true_eq] at z
  exact ⟨z.1, z.2.1, z.2.2.1, z.2.2.2.1, z.2.2.2.2⟩
theorem okd_pal {d : D} (h : d ∈ palette) : OkD d := by
  simp only [palette, List.mem_cons, List.not_mem_nil, or_false] at h
  rcases h with rfl | rfl | rfl | rfl | rfl | rfl <;> exact ⟨rfl, fun x e => by cases e <;> decide⟩
theorem gp_sm {rows : List (List D)} (g : GPic rows) : Sm 1000 2 (picD rows) := by
  obtain ⟨n, n1, n7, hn⟩ := g.w
  have h := sm_tup (n := 77) (dp := 1) (ds := rows.map .tup) fun d hd => by
    obtain ⟨r, hr, rfl⟩ := List.mem_map.mp hd
    refine (sm_tup (n := 10) (dp := 0) fun d hd => sm_pal (g.c r hr d hd)).le ?_ (Nat.le_refl _)
    rw [hn r hr]
    omega
  refine h.le ?_ (Nat.le_refl _)
  rw [List.length_map]
  have := g.t7
  omega
theorem gp_line {rows : List (List D)} (g : GPic rows) {r : List D} (h : r ∈ rows) : LnOk 100 (rowT (.tup r)) ∧ isLineD (.tup r) = true := by
  obtain ⟨n, n1, n7, hn⟩ := g.w
  have l := hn r h
  exact row_ok (g.c r h) (fun z => by rw [z] at l; simp at l; omega) (by omega)
abbrev linesOf (rows : List (List D)) : List Str := rows.map fun r => rowT (.tup r)
theorem gp_lines {rows : List (List D)} (g : GPic rows) : LsOk 7 100 (linesOf rows) := ⟨fun z => by
  have := g.t1
  rw [List.map_eq_nil_iff] at z
  rw [z] at this
  simp at this, by rw [List.length_map]; exact g.t7, fun x hx => by
  obtain ⟨r, hr, rfl⟩ := List.mem_map.mp hx
  exact (gp_line g hr).1⟩
theorem setK_same {n : Int} : ∀ {ks : List L2.Key}, (∀ k ∈ ks, k = .inl n) → ks ≠ [] → (setK ks).length = 1 := by
  have go : ∀ {ks : List L2.Key}, (∀ k ∈ ks, k = .inl n) → ks.foldl insK [.inl n] = [.inl n] := by
    intro ks
    induction ks with
    | nil => exact fun _ => rfl
    | cons k ks ih =>
      intro h
      rw [List.foldl_cons, h k (.head _)]
      have e : insK [(.inl n : L2.Key)] (.inl n) = [.inl n] := by
        unfold insK
        rw [if_pos (memK_iff.mpr (.head _))]
      rw [e]
      exact ih fun k hk => h k (.tail _ hk)
  intro ks h ne
  cases ks with
  | nil => exact absurd rfl ne
  | cons k ks =>
    unfold setK
    rw [List.foldl_cons, h k (.head _)]
    have e : insK [] (.inl n : L2.Key) = [.inl n] := by
      unfold insK
      rw [if_neg (by simp [memK])]
      rfl
    rw [e, go fun k hk => h k (.tail _ hk)]
    rfl
theorem gp_pic {rows : List (List D)} (g : GPic rows) : isPicD (picD rows) = true := by
  obtain ⟨n, n1, n7, hn⟩ := g.w
  have h1 := g.t1
  have h7 := g.t7
  have ea : rows.all (isLineD ∘ D.tup) = true := List.all_eq_true.mpr fun r hr => (gp_line g hr).2
  show (decide (1 ≤ ((rows.map D.tup).length : Int)) && (decide (((rows.map D.tup).length : Int) ≤ 7) && ((rows.map D.tup).all isLineD && decide (((setK ((rows.map D.tup).map lenK)).length : Int) = 1)))) = true
  rw [List.length_map, decide_eq_true (by omega), decide_eq_true (by omega), List.all_map, ea, setK_same (n := (n : Int)) ?_ ?_]
  · rfl
  · intro k hk
    rw [List.map_map] at hk
    obtain ⟨r, hr, rfl⟩ := List.mem_map.mp hk
    show (Sum.inl ((r.length : Nat) : Int) : L2.Key) = _
    rw [hn r hr]
  · intro z
    rw [List.map_map, List.map_eq_nil_iff] at z
    rw [z] at h1
    simp at h1
theorem gp_ok {rows : List (List D)} (g : GPic rows) : OkP (picD rows) := ⟨rfl, fun ds e => by
  cases e
  have := g.t7
  refine ⟨by rw [List.length_map]; omega, fun x hx => ?_⟩
  obtain ⟨r, hr, rfl⟩ := List.mem_map.mp hx
  refine ⟨rfl, fun es e => ?_⟩
  cases e
  obtain ⟨n, n1, n7, hn⟩ := g.w
  exact ⟨by rw [hn r hr]; omega, fun d hd => okd_pal (g.c r hr d hd)⟩⟩
theorem ow_neB {K : PySem.W.Frag} {x y : Bool} {ψ : D → Prop} (q : ψ (.bl (!decide (x = y)))) : OpW K (rNe1 K) (.bl x) (.bl y) ψ := ow ((opd_neV dvB dvB rfl (by rw [decB])).inl) q
theorem join_small {n L : Nat} {ls : List Str} (h : LsOk n L ls) (hn : n ≤ 100) (hL : L ≤ 1000) : (Txt.join nl ls).length ≤ 110000 ∧ (ls.map fun x => x.length).sum + ls.length * nl.length ≤ 16777216 := by
  have h1 := join_len nl ls
  have h2 := sum_le (fun x : Str => x.length) L (xs := ls) fun x hx => (h.a x hx).l
  have h3 := h.l
  have h4 : nl.length = 1 := rfl
  have h5 : ls.length * L ≤ 100 * 1000 := Nat.mul_le_mul (by omega) hL
  rw [h4] at h1 ⊢
  omega
theorem sm_text {n L : Nat} {ls : List Str} (h : LsOk n L ls) (hn : n ≤ 100) (hL : L ≤ 1000) : Sm 1000000 60 (.str (Txt.join nl ls)) := sm_str (fun c hc => by
  rcases join_cps 10 hc with rfl | ⟨x, hx, hc⟩
  · decide
  · exact Nat.lt_trans ((h.a x hx).c c hc).1 (by decide)) (Nat.le_trans (join_small h hn hL).1 (by decide))
theorem sm_int {n dp : Nat} {i : Nat} (h : i ≤ 1000) (l : 10 ≤ n := by decide) : Sm n dp (.int (i : Nat)) := by
  have z : ∀ i : Fin 1001, (PyData.showable (.int ((i.1 : Nat) : Int)) && (PyData.leavesShort 13 (.int ((i.1 : Nat) : Int)) && decide (PyData.weight (.int ((i.1 : Nat) : Int)) ≤ 10))) = true := by decide +kernel
  have z2 := z ⟨i, by omega⟩
  simp only [Bool.and_eq_true, decide_eq_true_eq] at z2
  exact ⟨rfl, z2.1, z2.2.1, Nat.le_trans z2.2.2 l, Nat.zero_le _⟩
theorem due_le {many : Nat} : ∀ {ls : List Str} {n : Nat}, dueGo many n ls ≤ n + ls.length
  | [], n => Nat.zero_le _
  | l :: ls, n => by
    have ih := due_le (many := many) (ls := ls) (n := n + 1)
    show (if badDue many n (Txt.split l sp1) then n + 1 else dueGo many (n + 1) ls) ≤ _
    rw [List.length_cons]
    split <;> omega
def okDB (d : D) : Bool := (tyN d).isSome && (match d with | .str x => decide (x.length ≤ 1000000) | _ => true)
def okLB (d : D) : Bool := (tyN d).isSome && (match d with | .tup ds => decide (ds.length ≤ 1000000) && ds.all okDB | _ => true)
def okPB (d : D) : Bool := (tyN d).isSome && (match d with | .tup ds => decide (ds.length ≤ 1000000) && ds.all okLB | _ => true)
theorem okD_of {d : D} (h : okDB d = true) : OkD d := by
  unfold okDB at h
  rw [Bool.and_eq_true] at h
  refine ⟨h.1, fun x e => ?_⟩
  subst e
  exact of_decide_eq_true h.2
theorem okL_of {d : D} (h : okLB d = true) : OkL d := by
  unfold okLB at h
  rw [Bool.and_eq_true] at h
  refine ⟨h.1, fun ds e => ?_⟩
  subst e
  have z := (Bool.and_eq_true_iff.mp h.2)
  exact ⟨of_decide_eq_true z.1, fun x hx => okD_of (List.all_eq_true.mp z.2 x hx)⟩
theorem okP_of {d : D} (h : okPB d = true) : OkP d := by
  unfold okPB at h
  rw [Bool.and_eq_true] at h
  refine ⟨h.1, fun ds e => ?_⟩
  subst e
  have z := (Bool.and_eq_true_iff.mp h.2)
  exact ⟨of_decide_eq_true z.1, fun x hx => okL_of (List.all_eq_true.mp z.2 x hx)⟩
theorem okDB_pal {d : D} (h : d ∈ palette) : okDB d = true := List.all_eq_true.mp (show palette.all okDB = true by decide +kernel) d h
/-- no picture, and what goes with it -/
structure NoPic (d : D) : Prop where
  o : OkP d
  n : isPicD d = false
  s : Sm 1000000 60 d
theorem noPic_of {d : D} (h : (okPB d && (!isPicD d && (d.plain && (d.py.showable && (d.py.leavesShort 13 && (decide (d.py.weight ≤ 1000000) && decide (d.py.depth ≤ 60))))))) = true) : NoPic d := by
  simp only [Bool.and_eq_true, decide_eq_true_eq, Bool.not_eq_true'] at h
  exact ⟨okP_of h.1, h.2.1, h.2.2.1, h.2.2.2.1, h.2.2.2.2.1, h.2.2.2.2.2.1, h.2.2.2.2.2.2⟩
def oddsL (rows : List (List D)) (r0 : List D) : List D := [.tup [], .tup [.tup []], .non, .str "-", .lst (rows.map .tup), .tup [.lst r0], .tup [.tup r0, .tup (r0 ++ [.str "red"])]]
def odds2 : List D := [.tup [.tup [.int 0]], .tup [.tup [.bl true]]]
theorem gp_okP {rows : List (List D)} (g : GPic rows) : okPB (picD rows) = true := by
  have h7 := g.t7
  obtain ⟨n, n1, n7, hn⟩ := g.w
  show (true && (decide ((rows.map D.tup).length ≤ 1000000) && (rows.map D.tup).all okLB)) = true
  rw [List.length_map, decide_eq_true (by omega), List.all_map, Bool.true_and, Bool.true_and]
  refine List.all_eq_true.mpr fun r hr => ?_
  show (true && (decide (r.length ≤ 1000000) && r.all okDB)) = true
  rw [hn r hr, decide_eq_true (by omega), Bool.true_and, Bool.true_and]
  exact List.all_eq_true.mpr fun d hd => okDB_pal (g.c r hr d hd)
theorem sm_row {r : List D} (h : ∀ d ∈ r, d ∈ palette) (l : r.length ≤ 8) (dp : Nat) (hd : 1 ≤ dp) : Sm 100 dp (.tup r) ∧ Sm 100 dp (.lst r) := by
  have e : r.length * (10 + 1) ≤ 100 := by omega
  exact ⟨(sm_tup (n := 10) (dp := 0) fun d hd => sm_pal (h d hd)).le e hd, (sm_lst (n := 10) (dp := 0) fun d hd => sm_pal (h d hd)).le e hd⟩
theorem red_pal : (D.str "red") ∈ palette := .head _
theorem odd_no {rows : List (List D)} {r0 : List D} (g : GPic rows) (h0 : r0 ∈ rows) : ∀ d ∈ oddsL rows r0 ++ odds2, NoPic d := by
  obtain ⟨n, n1, n7, hn⟩ := g.w
  have l0 := hn r0 h0
  have c0 := g.c r0 h0
  have c1 : ∀ d ∈ r0 ++ [.str "red"], d ∈ palette := fun d hd => (List.mem_append.mp hd).elim (c0 d) fun hd => by
    rw [List.mem_singleton.mp hd]
    exact red_pal
  intro d hd
  simp only [oddsL, odds2, List.cons_append, List.nil_append, List.mem_cons, List.not_mem_nil, or_false] at hd
  rcases hd with rfl | rfl | rfl | rfl | rfl | rfl | rfl | rfl | rfl
  · exact noPic_of (by decide +kernel)
  · exact noPic_of (by decide +kernel)
  · exact noPic_of (by decide +kernel)
  · exact noPic_of (by decide +kernel)
  · refine ⟨⟨rfl, fun ds e => nomatch e⟩, rfl, ?_⟩
    refine (sm_lst (n := 100) (dp := 1) fun d hd => ?_).le ?_ (by decide)
    · obtain ⟨r, hr, rfl⟩ := List.mem_map.mp hd
      exact (sm_row (g.c r hr) (by rw [hn r hr]; omega) 1 (by decide)).1
    · rw [List.length_map]
      have := g.t7
      omega
  · refine ⟨okP_of ?_, rfl, ?_⟩
    · show (true && (decide ([D.lst r0].length ≤ 1000000) && ([D.lst r0].all okLB))) = true
      rfl
    · refine (sm_tup (n := 100) (dp := 1) fun d hd => ?_).le (by show 1 * 101 ≤ 1000000; decide) (by decide)
      rw [List.mem_singleton.mp hd]
      exact (sm_row c0 (by omega) 1 (by decide)).2
  · refine ⟨okP_of ?_, ?_, ?_⟩
    · have e : ∀ r : List D, r.length ≤ 8 → (∀ d ∈ r, d ∈ palette) → okLB (.tup r) = true := fun r l h => by
        show (true && (decide (r.length ≤ 1000000) && r.all okDB)) = true
        rw [decide_eq_true (by omega), Bool.true_and, Bool.true_and]
        exact List.all_eq_true.mpr fun d hd => okDB_pal (h d hd)
      show (true && (decide ([D.tup r0, D.tup (r0 ++ [.str "red"])].length ≤ 1000000) && (okLB (.tup r0) && (okLB (.tup (r0 ++ [.str "red"])) && true)))) = true
      rw [e r0 (by omega) c0, e _ (by rw [List.length_append]; show _ + 1 ≤ 8; omega) c1]
      rfl
    · cases h : isPicD (.tup [.tup r0, .tup (r0 ++ [.str "red"])]) with
      | false => rfl
      | true =>
        obtain ⟨ds, e, _, _, _, z⟩ := pic_tup h
        cases e
        have ne : ¬ (memK [lenK (.tup r0)] (lenK (.tup (r0 ++ [.str "red"]))) = true) := fun z => by
          have z := List.mem_singleton.mp (memK_iff.mp z)
          have z2 : (((r0 ++ [D.str "red"]).length : Nat) : Int) = ((r0.length : Nat) : Int) := Sum.inl.inj z
          rw [List.length_append, List.length_singleton] at z2
          omega
        have e2 : setK ([D.tup r0, D.tup (r0 ++ [.str "red"])].map lenK) = [lenK (.tup r0), lenK (.tup (r0 ++ [.str "red"]))] := by
          show insK (insK [] (lenK (.tup r0))) (lenK (.tup (r0 ++ [.str "red"]))) = _
          have e3 : insK [] (lenK (.tup r0)) = [lenK (.tup r0)] := rfl
          rw [e3]
          unfold insK
          rw [if_neg ne]
          rfl
        rw [e2] at z
        cases z
    · refine (sm_tup (n := 100) (dp := 1) fun d hd => ?_).le (by show 2 * 101 ≤ 1000000; decide) (by decide)
      simp only [List.mem_cons, List.not_mem_nil, or_false] at hd
      rcases hd with rfl | rfl
      · exact (sm_row c0 (by omega) 1 (by decide)).1
      · exact (sm_row c1 (by rw [List.length_append]; show _ + 1 ≤ 8; omega) 1 (by decide)).1
  · exact noPic_of (by decide +kernel)
  · exact noPic_of (by decide +kernel)
def largeL (rows : List (List D)) : List D := [.tup [.tup (List.replicate 8 D.non)], .tup (List.replicate 8 (D.tup [.non])), .tup [.tup [.str "A"]], .tup [.tup [.str "-"]], .tup [.tup [.str "aaaaaaaaa"]], .tup (rows.map .tup ++ [D.non])]
theorem large_no {rows : List (List D)} (g : GPic rows) : ∀ d ∈ largeL rows, NoPic d := by
  obtain ⟨n, n1, n7, hn⟩ := g.w
  have h7 := g.t7
  intro d hd
  simp only [largeL, List.mem_cons, List.not_mem_nil, or_false] at hd
  rcases hd with rfl | rfl | rfl | rfl | rfl | rfl
  · exact noPic_of (by decide +kernel)
  · exact noPic_of (by decide +kernel)
  · exact noPic_of (by decide +kernel)
  · exact noPic_of (by decide +kernel)
  · exact noPic_of (by decide +kernel)
  · have z := gp_okP g
    refine ⟨okP_of ?_, ?_, ?_⟩
    · have z2 : (true && (decide ((rows.map D.tup).length ≤ 1000000) && (rows.map D.tup).all okLB)) = true := z
      rw [Bool.true_and, Bool.and_eq_true] at z2
      show (true && (decide ((rows.map D.tup ++ [D.non]).length ≤ 1000000) && (rows.map D.tup ++ [D.non]).all okLB)) = true
      rw [List.all_append, z2.2, List.length_append, List.length_map, decide_eq_true (by show _ + 1 ≤ _; omega)]
      rfl
    · cases h : isPicD (.tup (rows.map .tup ++ [D.non])) with
      | false => rfl
      | true =>
        obtain ⟨ds, e, _, _, al, _⟩ := pic_tup h
        cases e
        have z3 := List.all_eq_true.mp al .non (by simp)
        cases z3
    · refine (sm_tup (n := 100) (dp := 1) fun d hd => ?_).le ?_ (by decide)
      · rcases List.mem_append.mp hd with hd | hd
        · obtain ⟨r, hr, rfl⟩ := List.mem_map.mp hd
          exact (sm_row (g.c r hr) (by rw [hn r hr]; omega) 1 (by decide)).1
        · rw [List.mem_singleton.mp hd]
          exact sm_non
      · rw [List.length_append, List.length_map]
        show (rows.length + 1) * 101 ≤ _
        omega
end
end Tp

namespace Tp
open PySem PySem.Spec PyProof.Rows L2
/-! ### the derivations, by the syntax -/
local macro_rules | `(tactic| walk_at "pv") => `(tactic| first | exact de_v 0 | exact de_v 1 | exact de_v 2 | exact de_v 3 | exact de_v 4 | exact de_v 5 | exact de_v 6 | exact de_v 7 | exact de_v 8 | exact de_v 9 | exact de_v 10 | exact de_v 11)
local macro_rules | `(tactic| walk_at "rm") => `(tactic| first | assumption | exact Room.mono (by assumption) (by omega))
local macro_rules | `(tactic| walk_at "e") => `(tactic| first
  | exact de_int
  | exact de_str
  | exact de_bl
  | exact de_non
  | (refine de_add ?_ ?_ <;> walk_at "e")
  | (refine de_sub ?_ ?_ <;> walk_at "e")
  | (refine de_mul ?_ ?_ <;> walk_at "e")
  | (refine de_mod ?_ ?_ <;> walk_at "e")
  | (refine de_fdiv ?_ ?_ <;> walk_at "e")
  | (refine de_pow ?_ ?_ <;> walk_at "e")
  | (refine de_eq (by assumption) ?_ ?_ <;> walk_at "e")
  | (refine de_ne (by assumption) ?_ ?_ <;> walk_at "e")
  | (refine de_lt2 ?_ ?_ <;> walk_at "e")
  | (refine de_le2 ?_ ?_ <;> walk_at "e")
  | (refine de_gt ?_ ?_ <;> walk_at "e")
  | (refine de_ge ?_ ?_ <;> walk_at "e")
  | (refine de_chll ?_ ?_ ?_ <;> walk_at "e")
  | (refine de_inC ?_; walk_at "e")
  | (refine de_isN ?_ ?_ <;> walk_at "e")
  | (refine de_in (by assumption) ?_ ?_ <;> walk_at "e")
  | (refine de_nin (by assumption) ?_ ?_ <;> walk_at "e")
  | (refine de_one ?_; walk_at "e")
  | (refine de_and ?_ ?_ <;> walk_at "e")
  | (refine de_or ?_ ?_ <;> walk_at "e")
  | (refine de_not ?_; walk_at "e")
  | (refine de_neg ?_; walk_at "e")
  | (refine de_ifE ?_ ?_ ?_; walk_at "t"; walk_at "e"; walk_at "e")
  | (refine de_tup ?_ (fun _ h => pe_tup h); walk_at "a")
  | (refine de_lst ?_ (fun _ h => pe_lst h); walk_at "a")
  | exact de_dic0
  | (refine de_dic1 ?_; walk_at "e")
  | (refine de_fld ?_; walk_at "e")
  | walk_at "lc"
  | (refine de_ix ix_seq ?_ ?_ (fun _ _ => rfl) <;> walk_at "e")
  | walk_at "c"
  | (refine de_fun (by assumption) (by walk_at "rm") (by assumption) (by rfl) ?_; walk_at "a")
  | (refine de_funX _ (by assumption) (by assumption) (by walk_at "rm") (by assumption) (by rfl) ?_; walk_at "a")
  | (refine de_funX0 (by assumption) (by walk_at "rm") (by assumption) (by rfl) ?_; walk_at "a")
  | (refine de_mk (by assumption) (by walk_at "rm") (by assumption) (by rfl) ?_; walk_at "a")
  | (refine de_err (by assumption) (by walk_at "rm") (by assumption) (by rfl) ?_; walk_at "a")
  | walk_at "pv"
  | exact de_gX (by assumption) (by rfl)
  | exact de_gl (by assumption) (by rfl)
  | exact de_strT (by rfl) (by assumption)
  | exact de_tupT (by rfl) (by assumption)
  | (refine de_slice ?_ ?_ ?_; walk_at "e"; walk_at "po"; walk_at "po")
  | (refine de_bm ?_ ?_ (fun _ _ h k => pe_bm PySem.F.plainAttrs_list PySem.F.slot_list_pop PySem.F.type_list_pop mt_popAt h k); walk_at "e"; walk_at "a")
  | walk_at "el"
  | exact de_VE (by rfl) (by assumption))
local macro_rules | `(tactic| walk_at "c") => `(tactic| first
  | (refine de_split ?_ ?_ <;> walk_at "e")
  | (refine de_join ?_ ?_ <;> walk_at "e")
  | (refine de_part ?_ ?_ <;> walk_at "e")
  | (refine de_kget (by assumption) ?_ ?_ ?_ <;> walk_at "e")
  | (refine de_f_len (by assumption) (by rfl) ?_; walk_at "a")
  | (refine de_f_int (by assumption) (by rfl) ?_; walk_at "a")
  | (refine de_f_abs (by assumption) (by rfl) ?_; walk_at "a")
  | (refine de_f_all rfl (by assumption) (by rfl) ?_; walk_at "a")
  | (refine de_f_any rfl (by assumption) (by rfl) ?_; walk_at "a")
  | (refine de_f_min rfl (by assumption) (by rfl) ?_; walk_at "a")
  | (refine de_f_max rfl (by assumption) (by rfl) ?_; walk_at "a")
  | (refine de_isi2 (by assumption) (by rfl) ?_; walk_at "a")
  | (refine de_f_tuple (by assumption) (by rfl) ?_; walk_at "a")
  | (refine de_f_list (by assumption) (by rfl) ?_; walk_at "a")
  | (refine de_f_sum rfl (by assumption) (by rfl) ?_; walk_at "a")
  | (refine de_f_sorted (by assumption) (by rfl) ?_; walk_at "a")
  | (refine de_f_repr (by assumption) (by assumption) (by assumption) (by assumption) (by rfl) ?_; walk_at "a"))
local macro_rules | `(tactic| walk_at "po") => `(tactic| first
  | exact do_none
  | (refine do_some ?_; walk_at "e"))
local macro_rules | `(tactic| walk_at "a") => `(tactic| first
  | exact da_nil
  | (refine da_cons ?_ ?_; walk_at "e"; walk_at "a"))
local macro_rules | `(tactic| walk_at "t") => `(tactic| first
  | (refine dt_lt2 ?_ ?_ <;> walk_at "e")
  | (refine dt_le2 ?_ ?_ <;> walk_at "e")
  | (refine dt_gt ?_ ?_ <;> walk_at "e")
  | (refine dt_ge ?_ ?_ <;> walk_at "e")
  | (refine dt_chll ?_ ?_ ?_ <;> walk_at "e")
  | (refine dt_isN ?_ ?_ <;> walk_at "e")
  | (refine dt_in (by assumption) ?_ ?_ <;> walk_at "e")
  | (refine dt_nin (by assumption) ?_ ?_ <;> walk_at "e")
  | (refine dt_eq (by assumption) ?_ ?_ <;> walk_at "e")
  | (refine dt_ne (by assumption) ?_ ?_ <;> walk_at "e")
  | (refine dt_not ?_; walk_at "t")
  | (refine dt_w ?_; walk_at "w")
  | (refine dt_val ?_; walk_at "e"))
local macro_rules | `(tactic| walk_at "w") => `(tactic| first
  | (refine dw_and1 ?_; walk_at "t")
  | (refine dw_or1 ?_; walk_at "t")
  | (refine dw_and ?_ ?_; walk_at "t"; walk_at "w")
  | (refine dw_or ?_ ?_; walk_at "t"; walk_at "w"))
local macro_rules | `(tactic| walk_at "set") => `(tactic| first
  | refine ds_set 1 (by assumption) ?_
  | refine ds_set 2 (by assumption) ?_
  | refine ds_set 3 (by assumption) ?_
  | refine ds_set 4 (by assumption) ?_
  | refine ds_set 5 (by assumption) ?_
  | refine ds_set 6 (by assumption) ?_
  | refine ds_set 7 (by assumption) ?_
  | refine ds_set 8 (by assumption) ?_
  | refine ds_set 9 (by assumption) ?_
  | refine ds_set 10 (by assumption) ?_
  | refine ds_set 0 (by assumption) ?_)
local macro_rules | `(tactic| walk_at "g") => `(tactic| first
  | exact dg_name 1 (by assumption)
  | exact dg_name 2 (by assumption)
  | exact dg_name 3 (by assumption)
  | exact dg_name 4 (by assumption)
  | exact dg_name 5 (by assumption)
  | exact dg_name 6 (by assumption)
  | exact dg_name 7 (by assumption)
  | exact dg_name 8 (by assumption)
  | exact dg_name 9 (by assumption)
  | (refine dg_tup 2 rfl ?_; walk_at "gs")
  | (refine dg_tup 3 rfl ?_; walk_at "gs"))
local macro_rules | `(tactic| walk_at "gs") => `(tactic| first
  | exact dgs_nil
  | (refine dgs_cons ?_ ?_; walk_at "g"; walk_at "gs"))
local macro_rules | `(tactic| walk_at "i") => `(tactic| first
  | (refine di_range1 (by rfl) (by assumption) ?_; walk_at "a")
  | (refine di_enum (by rfl) (by assumption) ?_; walk_at "a")
  | (refine di_seq ?_; walk_at "e"))
local macro_rules | `(tactic| walk_at "s") => `(tactic| first
  | (refine ds_ret ?_; walk_at "e")
  | (walk_at "set"; walk_at "e")
  | (refine ds_fld ?_ ?_; walk_at "e"; walk_at "e")
  | (refine ds_if ?_ ?_ ?_; walk_at "t"; walk_at "b"; walk_at "b")
  | (refine ds_expr (de_bm ?_ ?_ (fun _ _ h k => pe_bm PySem.F.plainAttrs_list PySem.F.slot_list_append PySem.F.type_list_append mt_append h k)); walk_at "e"; walk_at "a")
  | (refine ds_expr (de_bm ?_ ?_ (fun _ _ h k => pe_bm PySem.F.plainAttrs_list PySem.F.slot_list_extend PySem.F.type_list_extend mt_extend h k)); walk_at "e"; walk_at "a")
  | (refine ds_asg ?_ (dg_tup 2 rfl ?_); walk_at "e"; walk_at "gs")
  | (refine ds_asg ?_ (dg_sub ?_ ?_ set_list); walk_at "e"; walk_at "e"; walk_at "e")
  | (refine ds_raise _ (by assumption) (by assumption) rfl (by walk_at "rm") (by assumption) (by rfl) ?_; walk_at "a")
  | exact ds_break
  | exact ds_continue
  | (refine ds_while (by first | exact PassesOwn.never | assumption) ?_ ?_; walk_at "t"; walk_at "b")
  | (refine ds_for (by first | exact PassesOwn.never | assumption) rfl ?_ ?_ ?_; walk_at "i"; walk_at "g"; walk_at "b"))
local macro_rules | `(tactic| walk_at "b") => `(tactic| first
  | exact db_nil
  | (refine db_one ?_; walk_at "s")
  | (refine db_cons ?_ ?_; walk_at "s"; walk_at "b"))
local macro_rules | `(tactic| walk_at "nf") => `(tactic| dsimp only [de_slice, do_none, do_some, ds_swap, dt_inS, de_f_int2, de_isN, dt_isN, de_tupT, dt_tru, de_inC, de_mulT, de_lenK, de_sk, de_funX, de_funX0, ds_raise, ds_tryK, XofX, de_split, de_join, de_part, de_lc2, de_lcI, de_kget, de_kin, de_mk, de_fld, ds_fld, Xof, cxOf, Cx.nox, tInQ, List.map, de_lt2, de_le2, dt_lt2, dt_le2, de_ch, dt_ch, de_chll, dt_chll, de_in, de_nin, dt_in, dt_nin, de_gl, de_strT, de_isi2, de_f_tuple, de_f_list, de_f_sum, de_f_sorted, di_str, di_seq, de_lc, ds_setLc, de_err, de_gX, de_VE, de_f_isi, de_dic0, de_dic1, de_int, de_str, de_bl, de_non, de_v, de_op, de_cmp, de_one, de_and, de_or, de_not, de_neg, de_ifE, da_nil, da_cons, de_tup, de_lst, de_ix, de_callB, de_callT, de_fun, dt_val, dt_cmp, dt_not, dt_w, dw_and1, dw_or1, dw_and, dw_or, dg_name, dgs_nil, dgs_cons, dg_tup, dg_sub, di_list, di_tup, di_range1, di_enum, db_nil, db_one, db_cons, ds_ret, ds_retN, ds_set, ds_asg, ds_if, ds_expr, ds_for, ds_while, ds_break, ds_continue, ds_never, de_bm, de_errF, de_f_len, de_f_int, de_f_abs, de_f_all, de_f_any, de_f_min, de_f_max, de_f_repr, de_add, de_sub, de_mul, de_mod, de_fdiv, de_pow, de_eq, de_ne, de_lt, de_le, de_gt, de_ge, dt_eq, dt_ne, dt_lt, dt_le, dt_gt, dt_ge])
local macro_rules | `(tactic| walk_at "lc3") => `(tactic| (intro _ _ _ _ _; walk_at "g"))
local macro_rules | `(tactic| walk_at "lc4") => `(tactic| (intro _ _ _ _ _; walk_at "e"))
local macro_rules | `(tactic| walk_at "lc5") => `(tactic| (intro _ _ _ _ _; rfl))

/-! ### steps over data -/
local macro_rules | `(tactic| walk_at "x") => `(tactic| first
  | with_reducible refine esm_seq ?_
  | with_reducible refine esm_next ?_
  | with_reducible refine esm_brk ?_
  | with_reducible refine esm_cont ?_
  | with_reducible refine esm_ret ?_
  | with_reducible refine esm_retN ?_
  | with_reducible refine esm_raise (CalE.T (by assumption)) (by assumption) ?_
  | with_reducible refine evm_funTX (by assumption) ?_
  | with_reducible refine evm_funT0 ?_
  | with_reducible refine evm_isi ?_
  | with_reducible refine evm_slice ?_
  | with_reducible refine eom_none ?_
  | with_reducible refine eom_some ?_
  | with_reducible refine esm_swp ?_
  | with_reducible refine evm_popAt rfl ?_
  | with_reducible refine evm_lenO rfl ?_
  | with_reducible refine cw_min2 ?_
  | with_reducible refine esm_asgLN (by decide) ?_
  | with_reducible refine ow_isN rfl ?_
  | with_reducible refine esm_newL ?_
  | (with_reducible refine esm_newD (by exact Nat.le_of_ble_eq_true rfl) ?_; dsimp only [List.set])
  | with_reducible refine esm_asg ?_
  | with_reducible refine esm_if ?_
  | with_reducible refine esm_app rfl ?_
  | with_reducible refine esm_ext rfl ?_
  | with_reducible refine esm_drop ?_
  | with_reducible refine evm_int ?_
  | with_reducible refine evm_str ?_
  | with_reducible refine evm_bl ?_
  | with_reducible refine evm_non ?_
  | with_reducible refine evm_var rfl ?_
  | with_reducible refine evm_c (by assumption) ?_
  | (with_reducible refine evm_own rfl ?_; dsimp only [List.set])
  | (with_reducible refine evm_ownD rfl ?_; dsimp only [List.set])
  | with_reducible refine evm_isStr ?_
  | with_reducible refine evm_ixO rfl ?_
  | with_reducible refine evm_op ?_
  | with_reducible refine evm_chain ?_
  | with_reducible refine evm_fldV (by assumption) rfl (by with_unfolding_all decide) rfl ?_
  | with_reducible refine evm_fldO (by assumption) rfl (by with_unfolding_all decide) rfl ?_
  | with_reducible refine esm_fldN (by assumption) (by with_unfolding_all decide) ?_
  | with_reducible refine evm_if ?_
  | with_reducible refine evm_andV ?_
  | with_reducible refine evm_orV ?_
  | with_reducible refine evm_notV ?_
  | with_reducible refine evm_tup ?_
  | with_reducible refine evm_lst ?_
  | with_reducible refine evm_call ?_
  | with_reducible refine evm_fun ?_
  | with_reducible refine evm_split ?_
  | with_reducible refine evm_join ?_
  | with_reducible refine evm_part ?_
  | with_reducible refine evm_funT ?_
  | with_reducible refine evm_funP rfl ?_
  | with_reducible refine evm_make ?_
  | with_reducible refine eam_nil ?_
  | with_reducible refine eam_cons ?_
  | with_reducible refine etm_test ?_
  | with_reducible refine etm_B ?_
  | with_reducible refine etm_not ?_
  | with_reducible refine etm_and ?_
  | with_reducible refine etm_or ?_
  | with_reducible refine etm_yes ?_
  | with_reducible refine ow_addI ?_
  | with_reducible refine ow_subI ?_
  | with_reducible refine cw_lenL ?_
  | with_reducible refine cw_lenT ?_
  | with_reducible refine cw_int ?_
  | with_reducible refine cw_tupL ?_
  | with_reducible refine cw_lstL ?_
  | with_reducible refine cw_lstT ?_
  | refine br_t (by first | rfl | assumption | exact bnt (by assumption) | exact bnf (by assumption)) ?_
  | refine br_f (by first | rfl | assumption | exact bnt (by assumption) | exact bnf (by assumption)) ?_
  | refine rb_t (by first | rfl | assumption | exact bnt (by assumption) | exact bnf (by assumption)) ?_
  | refine rb_f (by first | rfl | assumption | exact bnt (by assumption) | exact bnf (by assumption)) ?_
  | with_reducible refine eim_varL rfl ?_
  | with_reducible refine eim_varT rfl ?_
  | with_reducible refine eim_varS rfl ?_
  | (with_reducible refine eim_ownL rfl ?_; dsimp only [List.set])
  | with_reducible refine eim_range1 ?_
  | with_reducible refine eim_enum ?_
  | with_reducible refine evm_scrLen rfl ?_
  | with_reducible refine cw_max2 ?_
  | (with_reducible refine lcy ?_; dsimp only [List.set])
  | (with_reducible refine lct ?_; dsimp only [List.set])
  | (with_reducible refine lcy2 ?_; dsimp only [List.set])
  | with_reducible refine esm_forN ?_
  | with_reducible refine esm_forN2 ?_
  | with_reducible refine esm_asg2 ?_
  | with_reducible refine evm_lcY ?_
  | with_reducible refine evm_lcT ?_
  | with_reducible refine evm_lcY2 ?_
  | (with_reducible refine ⟨_, rfl, ?_⟩)
  | (refine ⟨_, _, rfl, (by exact Nat.lt_of_lt_of_le (Nat.lt_succ_self _) (Nat.le_of_ble_eq_true rfl)), ?_⟩; dsimp only [List.set])
  | (refine ⟨Nat.le_of_ble_eq_true rfl, ?_⟩; try dsimp only [List.set]))
local macro_rules | `(tactic| walk_at "xv") => `(tactic| first
  | with_reducible refine ow_ltI ?_
  | with_reducible refine ow_leI ?_
  | with_reducible refine ow_leS ?_
  | with_reducible refine ow_gtI ?_
  | with_reducible refine ow_geI ?_
  | with_reducible refine ow_eqI ?_
  | with_reducible refine ow_eqS ?_
  | with_reducible refine ow_neI ?_
  | with_reducible refine ow_neS ?_)
local macro_rules | `(tactic| walk_at "xo") => `(tactic| first
  | with_reducible refine oc_ltI ?_
  | with_reducible refine oc_leI ?_
  | with_reducible refine oc_leS ?_
  | with_reducible refine oc_gtI ?_
  | with_reducible refine oc_geI ?_
  | with_reducible refine oc_eqI ?_
  | with_reducible refine oc_eqS ?_
  | with_reducible refine oc_neI ?_
  | with_reducible refine oc_neS ?_)
local macro_rules | `(tactic| walk_at "xc") => `(tactic| (walk_at "xo"; intro b hb; cases b <;> walk_at "xs"))
local macro_rules | `(tactic| walk_at "xs") => `(tactic| repeat walk_at "x")
section
variable {P : Program} {w : World} {K : PySem.W.Frag} {mg : Str → Option Value} {base : Heap}
local macro_rules | `(tactic| walk_at "s") => `(tactic| (refine ds_swap 5 6 rfl (by assumption) ?_; walk_at "e"))
local macro_rules | `(tactic| walk_at "e") => `(tactic| (refine de_mulT ?_ ?_ <;> walk_at "e"))
abbrev preR : List D → Prop := (· = [])
abbrev postR : List D → D → Prop := fun _ d => d = .bl true
theorem ok_right {f : Addr} {fd : FuncData} {k : Nat} {CT CP : Addr} (F : Fun K "_law_right" "_law_right" sRight f fd) (hs : SysK K) (gP : mg "repr" = none) (gR : mg "range" = none) (gS : mg "list" = none)
    (cOf : Cal P w K mg base k "_law_of" (spP K 1 preOf postOf)) (cDr : Cal P w K mg base k "_law_drawn" (spP K 51 preDr postDr)) (cBe : Cal P w K mg base k "_law_bent_lines" (spP K 5 preBe postBe)) (cLi : Cal P w K mg base k "_law_lines_of" (spLawLines K)) (cDu : Cal P w K mg base k "_law_due" (spDue K)) (cMe : Cal P w K mg base k "_law_met" (spMet K)) (cBa : Cal P w K mg base k "_law_bad_picture" (spBadP K))
    (cSh : CalX P w K mg base k "show_picture" (spShow K CP)) (cRe : CalX P w K mg base k "read_picture" (spRead K CT)) :
    FnG P w K mg base CX0 (k + 1) f fd ["pot"] (spP K 140 preR postR) := by
  refine okMP F scRight (fun ds z => ?_) (by decide) fun cdv A outer s H E hr gq hu h1 => ?_
  · cases z
    rfl
  have nd := scRight.nd
  refine ⟨Subtype.val (p := PSs _ _) ?d, Subtype.property ?d, ?r⟩
  case d =>
    refine db_cons ?_ (db_cons ?_ (db_cons ?_ (db_cons ?_ ?_)))
    · walk_at "s"
    · walk_at "s"
    · walk_at "s"
    · walk_at "s"
    · walk_at "b"
  case r =>
    walk_at "nf"
    intro p ds m z hm
    cases z
    show EsM K (some p) Z0 _ [.pot, .un, .un, .un, .un, .un, .un, .un, .un, .un] m _ _ _ _
    walk_at "xs"
    refine ec_drawn ?_ |>.imp_right (fun h => ⟨by omega, h⟩)
    intro rows g
    walk_at "xs"
    refine ⟨⟨by rw [List.length_map]; exact g.t7, by rw [List.all_map]; exact List.all_eq_true.mpr fun r hr => (gp_line g hr).2⟩, ?_⟩
    intro dl el
    subst el
    have el : (List.map D.tup rows).map (fun d => D.str (rowT d)) = (linesOf rows).map .str := by
      rw [List.map_map, List.map_map]
      rfl
    rw [el]
    refine ⟨by exact Nat.le_of_ble_eq_true rfl, ?_⟩
    dsimp only [List.set]
    have gl := gp_lines g
    have js := join_small gl (by decide) (by decide)
    have st := sm_text gl (by decide) (by decide)
    have et : picT (picD rows) = Txt.join nl (linesOf rows) := by
      show Txt.join nl ((rows.map D.tup).map rowT) = _
      rw [List.map_map]
      rfl
    have es : readS [] (Txt.split (Txt.join nl (linesOf rows)) nl) = .ok (rows.map .tup) := by
      obtain ⟨n, n1, n7, hn⟩ := g.w
      have e1 : Txt.split (Txt.join nl (linesOf rows)) nl = linesOf rows := by
        rw [nl_eq]
        exact split_words (by decide) gl.e fun w hw hc => ((gl.a w hw).c 10 hc).2 rfl
      rw [e1]
      have z := rows_read n1 n7 rows [] (fun r hr => ⟨hn r hr, g.c r hr⟩) (fun r hr => nomatch hr) (by rw [List.length_nil, Nat.zero_add]; exact g.t7)
      exact z
    refine esm_join (fun r q => r = [.pot, .d (picD rows), .d (.lst ((linesOf rows).map .str)), .un, .un, .un, .un, .un, .un, .un] ∧ q ≤ m + 51) ?_ fun r q z => ?_
    · walk_at "xs"
      refine ⟨gp_ok g, fun d z => ?_, fun C x z => by rw [gp_pic g] at z; cases z.1⟩
      obtain ⟨_, rfl⟩ := z
      walk_at "xs"
      rw [et]
      refine cw_repr st ?_
      walk_at "xs"
      refine ⟨linesOf rows, .inl rfl, js.2, ?_⟩
      walk_at "xs"
      refine cw_repr st ?_
      refine ow_neS ?_
      rw [show decide (PyData.shown (D.str (Txt.join nl (linesOf rows))).py = PyData.shown (D.str (Txt.join (Str.ofString "\n") (linesOf rows))).py) = true from decide_eq_true rfl]
      refine ⟨_, rfl, ?_⟩
      walk_at "xs"
      refine ⟨linesOf rows, .inl rfl, js.2, ?_⟩
      walk_at "xs"
      refine ⟨okd_str (Nat.le_trans js.1 (by decide)), fun d z => ?_, fun C x z => ?_⟩
      · obtain ⟨x, pic, ex, e2, rfl⟩ := z
        cases ex
        have e3 : Except.ok (rows.map D.tup) = (Except.ok pic : Except Nat (List D)) := es.symm.trans e2
        cases e3
        walk_at "xs"
        refine cw_repr ((gp_sm g).le (by decide) (by decide)) ?_
        walk_at "xs"
        refine cw_repr ((gp_sm g).le (by decide) (by decide)) ?_
        refine ow_neS ?_
        rw [decide_eq_true rfl]
        refine ⟨_, rfl, ?_⟩
        walk_at "xs"
        exact ⟨rfl, by omega⟩
      · obtain ⟨_, ⟨e2, _⟩ | ⟨x, n, ex, e2, _⟩⟩ := z
        · cases e2
        · cases ex
          have e3 : Except.ok (rows.map D.tup) = (Except.error n : Except Nat (List D)) := es.symm.trans e2
          cases e3
    obtain ⟨rfl, hq⟩ := z
    refine esm_join (fun r q => ∃ a b c e, r = [.pot, .d (picD rows), .d (.lst ((linesOf rows).map .str)), a, b, c, e, .un, .un, .un] ∧ q ≤ m + 131) ?_ fun r q z => ?_
    · walk_at "xs"
      refine ⟨by decide, by decide, ?_⟩
      refine (?_ : ∀ (ks : List Nat) (q : Nat) (a b c e : Sx), q + 10 * ks.length ≤ m + 131 → LoopN K (some p) Z0 _ 3 _ _ (ks.map fun i => D.int (i : Nat)) [.pot, .d (picD rows), .d (.lst ((linesOf rows).map .str)), a, b, c, e, .un, .un, .un] q) (List.range 8) q .un .un .un .un (by show q + 80 ≤ _; omega)
      intro ks
      induction ks with
      | nil =>
        intro q a b c e hq
        exact ⟨a, b, c, e, rfl, by simpa using hq⟩
      | cons i ks ih =>
        intro q a b c e hq
        rw [List.length_cons] at hq
        refine ⟨by exact Nat.le_of_ble_eq_true rfl, ?_⟩
        dsimp only [List.set]
        refine esm_join (fun r n => ∃ ls, r = [.pot, .d (picD rows), .d (.lst ((linesOf rows).map .str)), .d (.int (i : Nat)), .d (.lst (ls.map .str)), c, e, .un, .un, .un] ∧ LsOk 8 110 ls ∧ n = q + 5) ?_ fun r n z => ?_
        · walk_at "xs"
          refine ec_bent (n := 7) (L := 100) (by decide) (by decide) gl ?_ |>.imp_right (fun h => ⟨by omega, h⟩)
          intro ls g2
          exact ⟨by exact Nat.le_of_ble_eq_true rfl, ls, rfl, g2, rfl⟩
        obtain ⟨ls, rfl, g2, rfl⟩ := z
        refine esm_join (fun r n => ∃ ls, r = [.pot, .d (picD rows), .d (.lst ((linesOf rows).map .str)), .d (.int (i : Nat)), .d (.lst (ls.map .str)), c, e, .un, .un, .un] ∧ LsOk 9 120 ls ∧ n ≤ q + 10) ?_ fun r n z => ?_
        · walk_at "xs"
          walk_at "xo"
          intro cc hcc
          refine ⟨_, rfl, ?_⟩
          cases cc with
          | true =>
            walk_at "xs"
            refine ec_bent (n := 8) (L := 110) (by decide) (by decide) g2 ?_ |>.imp_right (fun h => ⟨by omega, h⟩)
            intro ls3 g3
            exact ⟨by exact Nat.le_of_ble_eq_true rfl, ls3, rfl, g3, by omega⟩
          | false =>
            walk_at "xs"
            exact ⟨⟨g2.e, Nat.le_succ_of_le g2.l, fun x hx => (g2.a x hx).le (by decide)⟩, by omega⟩
        obtain ⟨ls3, rfl, g3, hn⟩ := z
        have j3 := join_small g3 (by decide) (by decide)
        obtain ⟨m0, m1⟩ := met_of g3.e fun x hx c hc => ((g3.a x hx).c c hc).2
        refine esm_join (fun r n2 => ∃ d, r = [.pot, .d (picD rows), .d (.lst ((linesOf rows).map .str)), .d (.int (i : Nat)), .d (.lst (ls3.map .str)), .d (.int (dueN ls3 : Nat)), .d d, .un, .un, .un] ∧ metD (.str (Txt.join nl ls3)) = some d ∧ n2 = n) ?_ fun r n2 z => ?_
        · walk_at "xs"
          refine ⟨⟨g3.e, fun x hx => Nat.le_trans (g3.a x hx).l (by decide)⟩, fun d ed => ?_⟩
          subst ed
          walk_at "xs"
          refine ⟨ls3, .inl rfl, j3.2, ?_⟩
          walk_at "xs"
          refine ⟨okd_str (Nat.le_trans j3.1 (by decide)), fun d ed => ?_⟩
          walk_at "xs"
          refine ⟨_, _, rfl, by exact Nat.le_of_ble_eq_true rfl, by exact Nat.le_of_ble_eq_true rfl, ?_⟩
          exact ⟨d, rfl, ed, rfl⟩
        obtain ⟨dm, rfl, em, rfl⟩ := z
        rcases Nat.eq_zero_or_pos (dueN ls3) with d0 | dpos
        · obtain ⟨pic, e2, l7, all, back⟩ := m0 d0
          cases em.symm.trans e2
          rw [d0]
          have next : LoopN K (some p) Z0 _ 3 _ _ (ks.map fun i => D.int (i : Nat)) [.pot, .d (picD rows), .d (.lst ((linesOf rows).map .str)), .d (.int (i : Nat)), .d (.lst (ls3.map .str)), .d (.int ((0 : Nat) : Int)), .d (.tup [.bl false, .tup pic]), .un, .un, .un] n2 := ih n2 _ _ _ _ (by omega)
          walk_at "xs"
          refine ow_ixT rfl ?_
          walk_at "xs"
          refine ow_gtI ?_
          refine ow_neB ?_
          refine ⟨_, rfl, rb_f rfl ?_⟩
          walk_at "xs"
          refine ow_ixT rfl ?_
          walk_at "xs"
          refine ow_ixT rfl ?_
          walk_at "xs"
          refine ow_ixT rfl ?_
          walk_at "xs"
          refine ⟨⟨l7, all⟩, fun r er => ?_⟩
          subst er
          walk_at "xs"
          rw [show pic.map (fun d => D.str (rowT d)) = (pic.map rowT).map .str by rw [List.map_map]; rfl, back]
          have ok3 : ∀ x ∈ ls3, PyData.strOk x = true := fun x hx => strOk_lt fun c hc => ((g3.a x hx).c c hc).1
          refine ow_neL ok3 ok3 ?_
          rw [decide_eq_true rfl]
          refine ⟨_, rfl, ?_⟩
          walk_at "xs"
          exact next
        · cases em.symm.trans (m1 dpos)
          have l9 : dueN ls3 ≤ 1000 := by
            have z := due_le (many := (Txt.split (ls3.headD "") sp1).length) (ls := ls3) (n := 0)
            have := g3.l
            show dueGo _ 0 ls3 ≤ 1000
            omega
          have next : LoopN K (some p) Z0 _ 3 _ _ (ks.map fun i => D.int (i : Nat)) [.pot, .d (picD rows), .d (.lst ((linesOf rows).map .str)), .d (.int (i : Nat)), .d (.lst (ls3.map .str)), .d (.int (dueN ls3 : Nat)), .d (.tup [.bl true, .int (dueN ls3 : Nat)]), .un, .un, .un] n2 := ih n2 _ _ _ _ (by omega)
          walk_at "xs"
          refine ow_ixT rfl ?_
          walk_at "xs"
          refine ow_gtI ?_
          refine ow_neB ?_
          rw [decide_eq_true (show (0 : Int) < (dueN ls3 : Nat) by omega)]
          refine ⟨_, rfl, rb_f rfl ?_⟩
          walk_at "xs"
          refine ow_ixT rfl ?_
          walk_at "xs"
          refine ow_ixT rfl ?_
          walk_at "xs"
          refine cw_repr (sm_int l9) ?_
          walk_at "xs"
          refine cw_repr (sm_int l9) ?_
          refine ow_neS ?_
          rw [decide_eq_true rfl]
          refine ⟨_, rfl, br_f rfl ?_⟩
          walk_at "xs"
          refine ow_ixT rfl ?_
          walk_at "xs"
          exact next
    obtain ⟨a, b, c, e, rfl, hq2⟩ := z
    walk_at "xs"
    obtain ⟨r0, rest, rfl⟩ : ∃ r0 rest, rows = r0 :: rest := by
      cases rows with
      | nil => exact absurd g.t1 (by decide)
      | cons r0 rest => exact ⟨r0, rest, rfl⟩
    have gn := odd_no g (.head _)
    have gl2 := large_no g
    obtain ⟨nw, nw1, nw7, hnw⟩ := g.w
    have l0 := hnw r0 (.head _)
    have t7 := g.t7
    refine ow_ixT atI_zero ?_
    walk_at "xs"
    refine ow_addT (by rw [l0]; show nw + 1 ≤ _; omega) ?_
    refine ⟨by exact Nat.le_of_ble_eq_true rfl, ?_⟩
    try dsimp only [List.set]
    refine esm_join (fun r n => r = [.pot, .d (picD (r0 :: rest)), .d (.lst ((linesOf (r0 :: rest)).map .str)), a, .own (.lst (oddsL (r0 :: rest) r0)), c, e, .d (.tup (r0 ++ [.str "red"])), .un, .un] ∧ n = q) ?_ fun r n z => ?_
    · walk_at "xs"
      refine ow_ixT atI_zero ?_
      walk_at "xs"
      refine ow_ixT atI_zero ?_
      walk_at "xs"
      exact ⟨rfl, rfl⟩
    obtain ⟨rfl, rfl⟩ := z
    walk_at "xs"
    refine ow_addL (by exact Nat.le_of_ble_eq_true rfl) ?_
    walk_at "xs"
    refine ec_ofD (xs := oddsL (r0 :: rest) r0 ++ odds2) (by exact Nat.le_of_ble_eq_true rfl) (by exact Nat.le_of_ble_eq_true rfl) ?_ |>.imp_right (fun h => ⟨by omega, h⟩)
    intro od hod
    have no := gn od hod
    refine ⟨by exact Nat.le_of_ble_eq_true rfl, ?_⟩
    try dsimp only [List.set]
    walk_at "xs"
    refine ow_repT (List.cons_ne_nil _ _) (by decide) (by decide) (by decide) ?_
    walk_at "xs"
    refine ow_repT (List.cons_ne_nil _ _) (by decide) (by decide) (by decide) ?_
    walk_at "xs"
    refine ow_addT (by rw [List.length_map]; show _ + 1 ≤ _; omega) ?_
    walk_at "xs"
    refine ec_ofD (xs := largeL (r0 :: rest)) (by exact Nat.le_of_ble_eq_true rfl) (by exact Nat.le_of_ble_eq_true rfl) ?_ |>.imp_right (fun h => ⟨by omega, h⟩)
    intro ld hld
    have nl' := gl2 ld hld
    refine ⟨by exact Nat.le_of_ble_eq_true rfl, ?_⟩
    try dsimp only [List.set]
    walk_at "xs"
    refine ⟨⟨no.o, no.s⟩, fun r er => ?_⟩
    subst er
    rw [if_neg (by rw [no.n]; exact Bool.false_ne_true)]
    walk_at "xs"
    refine cw_repr no.s ?_
    refine ow_neS ?_
    rw [decide_eq_true rfl]
    refine ⟨_, rfl, rb_f rfl ?_⟩
    walk_at "xs"
    refine ⟨⟨nl'.o, nl'.s⟩, fun r er => ?_⟩
    subst er
    rw [if_neg (by rw [nl'.n]; exact Bool.false_ne_true)]
    walk_at "xs"
    refine cw_repr nl'.s ?_
    refine ow_neS ?_
    rw [decide_eq_true rfl]
    refine ⟨_, rfl, ?_⟩
    walk_at "xs"
    refine evm_of0 ev_dic0 fun d ed => ?_
    subst ed
    walk_at "xs"
    refine ec_ofD (xs := [.non, .int 0, picD (r0 :: rest), .lst [], .dic []]) (by exact Nat.le_of_ble_eq_true rfl) (by exact Nat.le_of_ble_eq_true rfl) ?_ |>.imp_right (fun h => ⟨by omega, h⟩)
    intro x hx
    have hx2 : OkD x ∧ metD x = some (.tup [.bl true, .int 0]) := by
      simp only [List.mem_cons, List.not_mem_nil, or_false] at hx
      rcases hx with rfl | rfl | rfl | rfl | rfl <;> exact ⟨⟨rfl, fun y e => nomatch e⟩, rfl⟩
    walk_at "xs"
    refine ⟨hx2.1, fun r er => ?_⟩
    cases er.symm.trans hx2.2
    walk_at "xs"
    have sm : Sm 1000000 60 (.tup [.bl true, .int 0]) := by
      refine (sm_tup (n := 10) (dp := 0) fun d hd => ?_).le (by decide) (by decide)
      simp only [List.mem_cons, List.not_mem_nil, or_false] at hd
      rcases hd with rfl | rfl
      · exact sm_bl
      · exact sm_int (i := 0) (by decide)
    refine cw_repr sm ?_
    walk_at "xs"
    refine cw_repr sm ?_
    refine ow_eqS ?_
    rw [decide_eq_true rfl]
    exact ⟨by omega, rfl⟩
end
end Tp

namespace Tp
open PySem PySem.Spec PyProof.Rows L2
/-! ### the derivations, by the syntax -/
local macro_rules | `(tactic| walk_at "pv") => `(tactic| first | exact de_v 0 | exact de_v 1 | exact de_v 2 | exact de_v 3 | exact de_v 4 | exact de_v 5 | exact de_v 6 | exact de_v 7 | exact de_v 8 | exact de_v 9 | exact de_v 10 | exact de_v 11)
local macro_rules | `(tactic| walk_at "rm") => `(tactic| first | assumption | exact Room.mono (by assumption) (by omega))
local macro_rules | `(tactic| walk_at "e") => `(tactic| first
  | exact de_int
  | exact de_str
  | exact de_bl
  | exact de_non
  | (refine de_add ?_ ?_ <;> walk_at "e")
  | (refine de_sub ?_ ?_ <;> walk_at "e")
  | (refine de_mul ?_ ?_ <;> walk_at "e")
  | (refine de_mod ?_ ?_ <;> walk_at "e")
  | (refine de_fdiv ?_ ?_ <;> walk_at "e")
  | (refine de_pow ?_ ?_ <;> walk_at "e")
  | (refine de_eq (by assumption) ?_ ?_ <;> walk_at "e")
  | (refine de_ne (by assumption) ?_ ?_ <;> walk_at "e")
  | (refine de_lt2 ?_ ?_ <;> walk_at "e")
  | (refine de_le2 ?_ ?_ <;> walk_at "e")
  | (refine de_gt ?_ ?_ <;> walk_at "e")
  | (refine de_ge ?_ ?_ <;> walk_at "e")
  | (refine de_chll ?_ ?_ ?_ <;> walk_at "e")
  | (refine de_inC ?_; walk_at "e")
  | (refine de_isN ?_ ?_ <;> walk_at "e")
  | (refine de_in (by assumption) ?_ ?_ <;> walk_at "e")
  | (refine de_nin (by assumption) ?_ ?_ <;> walk_at "e")
  | (refine de_one ?_; walk_at "e")
  | (refine de_and ?_ ?_ <;> walk_at "e")
  | (refine de_or ?_ ?_ <;> walk_at "e")
  | (refine de_not ?_; walk_at "e")
  | (refine de_neg ?_; walk_at "e")
  | (refine de_ifE ?_ ?_ ?_; walk_at "t"; walk_at "e"; walk_at "e")
  | (refine de_tup ?_ (fun _ h => pe_tup h); walk_at "a")
  | (refine de_lst ?_ (fun _ h => pe_lst h); walk_at "a")
  | exact de_dic0
  | (refine de_dic1 ?_; walk_at "e")
  | (refine de_fld ?_; walk_at "e")
  | walk_at "lc"
  | (refine de_ix ix_seq ?_ ?_ (fun _ _ => rfl) <;> walk_at "e")
  | walk_at "c"
  | (refine de_fun (by assumption) (by walk_at "rm") (by assumption) (by rfl) ?_; walk_at "a")
  | (refine de_funX _ (by assumption) (by assumption) (by walk_at "rm") (by assumption) (by rfl) ?_; walk_at "a")
  | (refine de_funX0 (by assumption) (by walk_at "rm") (by assumption) (by rfl) ?_; walk_at "a")
  | (refine de_mk (by assumption) (by walk_at "rm") (by assumption) (by rfl) ?_; walk_at "a")
  | (refine de_err (by assumption) (by walk_at "rm") (by assumption) (by rfl) ?_; walk_at "a")
  | walk_at "pv"
  | exact de_gX (by assumption) (by rfl)
  | exact de_gl (by assumption) (by rfl)
  | exact de_strT (by rfl) (by assumption)
  | exact de_tupT (by rfl) (by assumption)
  | (refine de_slice ?_ ?_ ?_; walk_at "e"; walk_at "po"; walk_at "po")
  | (refine de_bm ?_ ?_ (fun _ _ h k => pe_bm PySem.F.plainAttrs_list PySem.F.slot_list_pop PySem.F.type_list_pop mt_popAt h k); walk_at "e"; walk_at "a")
  | walk_at "el"
  | exact de_VE (by rfl) (by assumption))
local macro_rules | `(tactic| walk_at "c") => `(tactic| first
  | (refine de_split ?_ ?_ <;> walk_at "e")
  | (refine de_join ?_ ?_ <;> walk_at "e")
  | (refine de_part ?_ ?_ <;> walk_at "e")
  | (refine de_kget (by assumption) ?_ ?_ ?_ <;> walk_at "e")
  | (refine de_f_len (by assumption) (by rfl) ?_; walk_at "a")
  | (refine de_f_int (by assumption) (by rfl) ?_; walk_at "a")
  | (refine de_f_abs (by assumption) (by rfl) ?_; walk_at "a")
  | (refine de_f_all rfl (by assumption) (by rfl) ?_; walk_at "a")
  | (refine de_f_any rfl (by assumption) (by rfl) ?_; walk_at "a")
  | (refine de_f_min rfl (by assumption) (by rfl) ?_; walk_at "a")
  | (refine de_f_max rfl (by assumption) (by rfl) ?_; walk_at "a")
  | (refine de_isi2 (by assumption) (by rfl) ?_; walk_at "a")
  | (refine de_f_tuple (by assumption) (by rfl) ?_; walk_at "a")
  | (refine de_f_list (by assumption) (by rfl) ?_; walk_at "a")
  | (refine de_f_sum rfl (by assumption) (by rfl) ?_; walk_at "a")
  | (refine de_f_sorted (by assumption) (by rfl) ?_; walk_at "a")
  | (refine de_f_repr (by assumption) (by assumption) (by assumption) (by assumption) (by rfl) ?_; walk_at "a"))
local macro_rules | `(tactic| walk_at "po") => `(tactic| first
  | exact do_none
  | (refine do_some ?_; walk_at "e"))
local macro_rules | `(tactic| walk_at "a") => `(tactic| first
  | exact da_nil
  | (refine da_cons ?_ ?_; walk_at "e"; walk_at "a"))
local macro_rules | `(tactic| walk_at "t") => `(tactic| first
  | (refine dt_lt2 ?_ ?_ <;> walk_at "e")
  | (refine dt_le2 ?_ ?_ <;> walk_at "e")
  | (refine dt_gt ?_ ?_ <;> walk_at "e")
  | (refine dt_ge ?_ ?_ <;> walk_at "e")
  | (refine dt_chll ?_ ?_ ?_ <;> walk_at "e")
  | (refine dt_isN ?_ ?_ <;> walk_at "e")
  | (refine dt_in (by assumption) ?_ ?_ <;> walk_at "e")
  | (refine dt_nin (by assumption) ?_ ?_ <;> walk_at "e")
  | (refine dt_eq (by assumption) ?_ ?_ <;> walk_at "e")
  | (refine dt_ne (by assumption) ?_ ?_ <;> walk_at "e")
  | (refine dt_not ?_; walk_at "t")
  | (refine dt_w ?_; walk_at "w")
  | (refine dt_val ?_; walk_at "e"))
local macro_rules | `(tactic| walk_at "w") => `(tactic| first
  | (refine dw_and1 ?_; walk_at "t")
  | (refine dw_or1 ?_; walk_at "t")
  | (refine dw_and ?_ ?_; walk_at "t"; walk_at "w")
  | (refine dw_or ?_ ?_; walk_at "t"; walk_at "w"))
local macro_rules | `(tactic| walk_at "set") => `(tactic| first
  | refine ds_set 1 (by assumption) ?_
  | refine ds_set 2 (by assumption) ?_
  | refine ds_set 3 (by assumption) ?_
  | refine ds_set 4 (by assumption) ?_
  | refine ds_set 5 (by assumption) ?_
  | refine ds_set 6 (by assumption) ?_
  | refine ds_set 7 (by assumption) ?_
  | refine ds_set 8 (by assumption) ?_
  | refine ds_set 9 (by assumption) ?_
  | refine ds_set 10 (by assumption) ?_
  | refine ds_set 0 (by assumption) ?_)
local macro_rules | `(tactic| walk_at "g") => `(tactic| first
  | exact dg_name 1 (by assumption)
  | exact dg_name 2 (by assumption)
  | exact dg_name 3 (by assumption)
  | exact dg_name 4 (by assumption)
  | exact dg_name 5 (by assumption)
  | exact dg_name 6 (by assumption)
  | exact dg_name 7 (by assumption)
  | exact dg_name 8 (by assumption)
  | exact dg_name 9 (by assumption)
  | (refine dg_tup 2 rfl ?_; walk_at "gs")
  | (refine dg_tup 3 rfl ?_; walk_at "gs"))
local macro_rules | `(tactic| walk_at "gs") => `(tactic| first
  | exact dgs_nil
  | (refine dgs_cons ?_ ?_; walk_at "g"; walk_at "gs"))
local macro_rules | `(tactic| walk_at "i") => `(tactic| first
  | (refine di_range1 (by rfl) (by assumption) ?_; walk_at "a")
  | (refine di_enum (by rfl) (by assumption) ?_; walk_at "a")
  | (refine di_seq ?_; walk_at "e"))
local macro_rules | `(tactic| walk_at "s") => `(tactic| first
  | (refine ds_ret ?_; walk_at "e")
  | (walk_at "set"; walk_at "e")
  | (refine ds_fld ?_ ?_; walk_at "e"; walk_at "e")
  | (refine ds_if ?_ ?_ ?_; walk_at "t"; walk_at "b"; walk_at "b")
  | (refine ds_expr (de_bm ?_ ?_ (fun _ _ h k => pe_bm PySem.F.plainAttrs_list PySem.F.slot_list_append PySem.F.type_list_append mt_append h k)); walk_at "e"; walk_at "a")
  | (refine ds_expr (de_bm ?_ ?_ (fun _ _ h k => pe_bm PySem.F.plainAttrs_list PySem.F.slot_list_extend PySem.F.type_list_extend mt_extend h k)); walk_at "e"; walk_at "a")
  | (refine ds_asg ?_ (dg_tup 2 rfl ?_); walk_at "e"; walk_at "gs")
  | (refine ds_asg ?_ (dg_sub ?_ ?_ set_list); walk_at "e"; walk_at "e"; walk_at "e")
  | (refine ds_raise _ (by assumption) (by assumption) rfl (by walk_at "rm") (by assumption) (by rfl) ?_; walk_at "a")
  | exact ds_break
  | exact ds_continue
  | (refine ds_while (by first | exact PassesOwn.never | assumption) ?_ ?_; walk_at "t"; walk_at "b")
  | (refine ds_for (by first | exact PassesOwn.never | assumption) rfl ?_ ?_ ?_; walk_at "i"; walk_at "g"; walk_at "b"))
local macro_rules | `(tactic| walk_at "b") => `(tactic| first
  | exact db_nil
  | (refine db_one ?_; walk_at "s")
  | (refine db_cons ?_ ?_; walk_at "s"; walk_at "b"))
local macro_rules | `(tactic| walk_at "nf") => `(tactic| dsimp only [de_slice, do_none, do_some, ds_swap, dt_inS, de_f_int2, de_isN, dt_isN, de_tupT, dt_tru, de_inC, de_mulT, de_lenK, de_sk, de_funX, de_funX0, ds_raise, ds_tryK, XofX, de_split, de_join, de_part, de_lc2, de_lcI, de_kget, de_kin, de_mk, de_fld, ds_fld, Xof, cxOf, Cx.nox, tInQ, List.map, de_lt2, de_le2, dt_lt2, dt_le2, de_ch, dt_ch, de_chll, dt_chll, de_in, de_nin, dt_in, dt_nin, de_gl, de_strT, de_isi2, de_f_tuple, de_f_list, de_f_sum, de_f_sorted, di_str, di_seq, de_lc, ds_setLc, de_err, de_gX, de_VE, de_f_isi, de_dic0, de_dic1, de_int, de_str, de_bl, de_non, de_v, de_op, de_cmp, de_one, de_and, de_or, de_not, de_neg, de_ifE, da_nil, da_cons, de_tup, de_lst, de_ix, de_callB, de_callT, de_fun, dt_val, dt_cmp, dt_not, dt_w, dw_and1, dw_or1, dw_and, dw_or, dg_name, dgs_nil, dgs_cons, dg_tup, dg_sub, di_list, di_tup, di_range1, di_enum, db_nil, db_one, db_cons, ds_ret, ds_retN, ds_set, ds_asg, ds_if, ds_expr, ds_for, ds_while, ds_break, ds_continue, ds_never, de_bm, de_errF, de_f_len, de_f_int, de_f_abs, de_f_all, de_f_any, de_f_min, de_f_max, de_f_repr, de_add, de_sub, de_mul, de_mod, de_fdiv, de_pow, de_eq, de_ne, de_lt, de_le, de_gt, de_ge, dt_eq, dt_ne, dt_lt, dt_le, dt_gt, dt_ge])
local macro_rules | `(tactic| walk_at "lc3") => `(tactic| (intro _ _ _ _ _; walk_at "g"))
local macro_rules | `(tactic| walk_at "lc4") => `(tactic| (intro _ _ _ _ _; walk_at "e"))
local macro_rules | `(tactic| walk_at "lc5") => `(tactic| (intro _ _ _ _ _; rfl))

/-! ### steps over data -/
local macro_rules | `(tactic| walk_at "x") => `(tactic| first
  | with_reducible refine esm_seq ?_
  | with_reducible refine esm_next ?_
  | with_reducible refine esm_brk ?_
  | with_reducible refine esm_cont ?_
  | with_reducible refine esm_ret ?_
  | with_reducible refine esm_retN ?_
  | with_reducible refine esm_raise (CalE.T (by assumption)) (by assumption) ?_
  | with_reducible refine evm_funTX (by assumption) ?_
  | with_reducible refine evm_funT0 ?_
  | with_reducible refine evm_isi ?_
  | with_reducible refine evm_slice ?_
  | with_reducible refine eom_none ?_
  | with_reducible refine eom_some ?_
  | with_reducible refine esm_swp ?_
  | with_reducible refine evm_popAt rfl ?_
  | with_reducible refine evm_lenO rfl ?_
  | with_reducible refine evm_scrLen rfl ?_
  | with_reducible refine cw_min2 ?_
  | with_reducible refine esm_asgLN (by decide) ?_
  | with_reducible refine ow_isN rfl ?_
  | with_reducible refine esm_newL ?_
  | (with_reducible refine esm_newD (by exact Nat.le_of_ble_eq_true rfl) ?_; dsimp only [List.set])
  | with_reducible refine esm_asg ?_
  | with_reducible refine esm_if ?_
  | with_reducible refine esm_app rfl ?_
  | with_reducible refine esm_ext rfl ?_
  | with_reducible refine esm_drop ?_
  | with_reducible refine evm_int ?_
  | with_reducible refine evm_str ?_
  | with_reducible refine evm_bl ?_
  | with_reducible refine evm_non ?_
  | with_reducible refine evm_var rfl ?_
  | with_reducible refine evm_c (by assumption) ?_
  | (with_reducible refine evm_own rfl ?_; dsimp only [List.set])
  | (with_reducible refine evm_ownD rfl ?_; dsimp only [List.set])
  | with_reducible refine evm_isStr ?_
  | with_reducible refine evm_ixO rfl ?_
  | with_reducible refine evm_op ?_
  | with_reducible refine evm_chain ?_
  | with_reducible refine evm_fldV (by assumption) rfl (by with_unfolding_all decide) rfl ?_
  | with_reducible refine evm_fldO (by assumption) rfl (by with_unfolding_all decide) rfl ?_
  | with_reducible refine esm_fldN (by assumption) (by with_unfolding_all decide) ?_
  | with_reducible refine evm_if ?_
  | with_reducible refine evm_andV ?_
  | with_reducible refine evm_orV ?_
  | with_reducible refine evm_notV ?_
  | with_reducible refine evm_tup ?_
  | with_reducible refine evm_lst ?_
  | with_reducible refine evm_call ?_
  | with_reducible refine evm_fun ?_
  | with_reducible refine evm_split ?_
  | with_reducible refine evm_join ?_
  | with_reducible refine evm_part ?_
  | with_reducible refine evm_funT ?_
  | with_reducible refine evm_funP rfl ?_
  | with_reducible refine evm_make ?_
  | with_reducible refine eam_nil ?_
  | with_reducible refine eam_cons ?_
  | with_reducible refine etm_test ?_
  | with_reducible refine etm_B ?_
  | with_reducible refine etm_not ?_
  | with_reducible refine etm_and ?_
  | with_reducible refine etm_or ?_
  | with_reducible refine etm_yes ?_
  | with_reducible refine ow_addI ?_
  | with_reducible refine ow_subI ?_
  | with_reducible refine cw_lenL ?_
  | with_reducible refine cw_lenT ?_
  | with_reducible refine cw_int ?_
  | with_reducible refine cw_tupL ?_
  | with_reducible refine cw_lstL ?_
  | with_reducible refine cw_lstT ?_
  | refine br_t (by first | rfl | assumption | exact bnt (by assumption) | exact bnf (by assumption)) ?_
  | refine br_f (by first | rfl | assumption | exact bnt (by assumption) | exact bnf (by assumption)) ?_
  | refine rb_t (by first | rfl | assumption | exact bnt (by assumption) | exact bnf (by assumption)) ?_
  | refine rb_f (by first | rfl | assumption | exact bnt (by assumption) | exact bnf (by assumption)) ?_
  | with_reducible refine eim_varL rfl ?_
  | with_reducible refine eim_varT rfl ?_
  | with_reducible refine eim_varS rfl ?_
  | (with_reducible refine eim_ownL rfl ?_; dsimp only [List.set])
  | with_reducible refine eim_range1 ?_
  | with_reducible refine eim_enum ?_
  | with_reducible refine cw_max2 ?_
  | (with_reducible refine lcy ?_; dsimp only [List.set])
  | (with_reducible refine lct ?_; dsimp only [List.set])
  | (with_reducible refine lcy2 ?_; dsimp only [List.set])
  | with_reducible refine esm_forN ?_
  | with_reducible refine esm_forN2 ?_
  | with_reducible refine esm_asg2 ?_
  | with_reducible refine evm_lcY ?_
  | with_reducible refine evm_lcT ?_
  | with_reducible refine evm_lcY2 ?_
  | (with_reducible refine ⟨_, rfl, ?_⟩)
  | (refine ⟨_, _, rfl, (by exact Nat.lt_of_lt_of_le (Nat.lt_succ_self _) (Nat.le_of_ble_eq_true rfl)), ?_⟩; dsimp only [List.set])
  | (refine ⟨Nat.le_of_ble_eq_true rfl, ?_⟩; try dsimp only [List.set]))
local macro_rules | `(tactic| walk_at "xv") => `(tactic| first
  | with_reducible refine ow_ltI ?_
  | with_reducible refine ow_leI ?_
  | with_reducible refine ow_leS ?_
  | with_reducible refine ow_gtI ?_
  | with_reducible refine ow_geI ?_
  | with_reducible refine ow_eqI ?_
  | with_reducible refine ow_eqS ?_
  | with_reducible refine ow_neI ?_
  | with_reducible refine ow_neS ?_)
local macro_rules | `(tactic| walk_at "xo") => `(tactic| first
  | with_reducible refine oc_ltI ?_
  | with_reducible refine oc_leI ?_
  | with_reducible refine oc_leS ?_
  | with_reducible refine oc_gtI ?_
  | with_reducible refine oc_geI ?_
  | with_reducible refine oc_eqI ?_
  | with_reducible refine oc_eqS ?_
  | with_reducible refine oc_neI ?_
  | with_reducible refine oc_neS ?_)
local macro_rules | `(tactic| walk_at "xc") => `(tactic| (walk_at "xo"; intro b hb; cases b <;> walk_at "xs"))
local macro_rules | `(tactic| walk_at "xs") => `(tactic| repeat walk_at "x")
section
variable {P : Program} {w : World} {K : PySem.W.Frag} {mg : Str → Option Value} {base : Heap}
theorem scLaw : FnScope ["script", "number", "pot", "turn"] ["script"] (defScope sLaw) := ⟨rfl, rfl, rfl, by decide +kernel, rfl, by decide +kernel, by decide +kernel⟩
theorem max_min (n : Nat) (b : Nat) (hb : 1 ≤ b) : ∃ j : Nat, j ≤ b ∧ (if (if (n : Int) < (b : Nat) then (n : Int) else (b : Nat)) > 1 then (if (n : Int) < (b : Nat) then (n : Int) else (b : Nat)) else 1) = (j : Int) := by
  by_cases h1 : (n : Int) < (b : Nat)
  · rw [if_pos h1]
    by_cases h2 : (n : Int) > 1
    · rw [if_pos h2]
      exact ⟨n, by omega, rfl⟩
    · rw [if_neg h2]
      exact ⟨1, hb, rfl⟩
  · rw [if_neg h1]
    by_cases h2 : ((b : Nat) : Int) > 1
    · rw [if_pos h2]
      exact ⟨b, Nat.le_refl _, rfl⟩
    · rw [if_neg h2]
      exact ⟨1, hb, rfl⟩
theorem ok_law {f : Addr} {fd : FuncData} {k : Nat} (F : Fun K "law" "law" sLaw f fd) (gR : mg "range" = none) (gL : mg "len" = none) (gMa : mg "max" = none) (gMi : mg "min" = none)
    (cPot : Cal P w K mg base k "_law_pot" (spPt K)) (cRight : Cal P w K mg base k "_law_right" (spP K 140 preR postR)) : FnG P w K mg base CX0 (k + 1) f fd ["script"] (spLw K) := by
  refine okML F scLaw (by decide) fun cdv A outer s H E hr gq hu h1 => ?_
  have nd := scLaw.nd
  refine ⟨Subtype.val (p := PSs _ _) ?d, Subtype.property ?d, ?r⟩
  case d => walk_at "b"
  case r =>
    walk_at "nf"
    intro ns ln
    show EsM K none Z0 _ [.scr ns, .un, .un, .un] 0 _ _ _ _
    walk_at "xs"
    obtain ⟨j, hj, ej⟩ := max_min ns.length 3 (by decide)
    have ej : (if (if ((ns.length : Nat) : Int) < 3 then ((ns.length : Nat) : Int) else 3) > 1 then (if ((ns.length : Nat) : Int) < 3 then ((ns.length : Nat) : Int) else 3) else 1) = (j : Int) := ej
    rw [ej]
    refine ⟨by omega, by omega, ?_⟩
    rw [Int.toNat_natCast]
    refine (?_ : ∀ (ks : List Nat) (x y z : Sx), (∀ k ∈ ks, k ≤ 63) → (x = .un ∨ ∃ i : Nat, x = .d (.int (i : Nat))) → (y = .un) → (z = .un ∨ ∃ d, z = .d d) → LoopN K none Z0 _ 1 _ _ (ks.map fun i => D.int (i : Nat)) [.scr ns, x, y, z] 0) (List.range j) .un .un .un (fun k hk => by have := List.mem_range.mp hk; omega) (.inl rfl) rfl (.inl rfl)
    intro ks
    induction ks with
    | nil =>
      intro x y z _ _ _ _
      show EsM K none Z0 _ _ _ _ _ _ _
      walk_at "xs"
      rfl
    | cons i ks ih =>
      intro x y z hk hx hy hz
      subst hy
      refine ⟨by exact Nat.le_of_ble_eq_true rfl, ?_⟩
      dsimp only [List.set]
      refine esm_withPot (i := 2) (j := 1) (x := i) rfl rfl (by omega) (hk i (.head _)) (by exact Nat.le_of_ble_eq_true rfl) (by decide) (fun k e => ?_) fun p => ?_
      · match k, e with
        | 0, e => cases e
        | 1, e => cases e
        | 2, e => cases e
        | 3, e =>
          rcases hz with rfl | ⟨d, rfl⟩ <;> cases e
      · dsimp only [List.set]
        walk_at "xs"
        refine ⟨by decide, by decide, ?_⟩
        refine (?_ : ∀ (ts : List Nat) (m : Nat) (t : Sx), m + 140 * ts.length ≤ 420 → (t = .un ∨ ∃ d, t = .d d) → LoopN K (some p) Z0 _ 3 _ _ (ts.map fun i => D.int (i : Nat)) [.scr ns, .d (.int (i : Nat)), .pot, t] m) (List.range 3) 0 z (by decide) hz
        intro ts
        induction ts with
        | nil =>
          intro m t lm ht
          refine ih (.d (.int (i : Nat))) .un t (fun k hk' => hk k (.tail _ hk')) (.inr ⟨i, rfl⟩) rfl ht |> fun z => ?_
          rcases ht with rfl | ⟨d, rfl⟩ <;> exact z
        | cons t0 ts ih2 =>
          intro m t lm ht
          rw [List.length_cons] at lm
          refine ⟨by exact Nat.le_of_ble_eq_true rfl, ?_⟩
          dsimp only [List.set]
          walk_at "xs"
          refine ⟨rfl, (by show _ ≤ 1048576; omega), fun d ed => ?_⟩
          subst ed
          walk_at "xs"
          exact ih2 _ _ (by omega) (.inr ⟨_, rfl⟩)
end
end Tp

namespace Tp
open PySem PySem.Spec PyProof.Rows L2
/-! ### the derivations, by the syntax -/
local macro_rules | `(tactic| walk_at "pv") => `(tactic| first | exact de_v 0 | exact de_v 1 | exact de_v 2 | exact de_v 3 | exact de_v 4 | exact de_v 5 | exact de_v 6 | exact de_v 7 | exact de_v 8 | exact de_v 9 | exact de_v 10 | exact de_v 11)
local macro_rules | `(tactic| walk_at "rm") => `(tactic| first | assumption | exact Room.mono (by assumption) (by decide))
local macro_rules | `(tactic| walk_at "e") => `(tactic| first
  | exact de_int
  | exact de_str
  | exact de_bl
  | exact de_non
  | (refine de_add ?_ ?_ <;> walk_at "e")
  | (refine de_sub ?_ ?_ <;> walk_at "e")
  | (refine de_mul ?_ ?_ <;> walk_at "e")
  | (refine de_mod ?_ ?_ <;> walk_at "e")
  | (refine de_fdiv ?_ ?_ <;> walk_at "e")
  | (refine de_pow ?_ ?_ <;> walk_at "e")
  | (refine de_eq (by assumption) ?_ ?_ <;> walk_at "e")
  | (refine de_ne (by assumption) ?_ ?_ <;> walk_at "e")
  | (refine de_lt ?_ ?_ <;> walk_at "e")
  | (refine de_le ?_ ?_ <;> walk_at "e")
  | (refine de_gt ?_ ?_ <;> walk_at "e")
  | (refine de_ge ?_ ?_ <;> walk_at "e")
  | (refine de_one ?_; walk_at "e")
  | (refine de_and ?_ ?_ <;> walk_at "e")
  | (refine de_or ?_ ?_ <;> walk_at "e")
  | (refine de_not ?_; walk_at "e")
  | (refine de_neg ?_; walk_at "e")
  | (refine de_ifE ?_ ?_ ?_; walk_at "t"; walk_at "e"; walk_at "e")
  | (refine de_tup ?_ (fun _ h => pe_tup h); walk_at "a")
  | (refine de_lst ?_ (fun _ h => pe_lst h); walk_at "a")
  | exact de_dic0
  | (refine de_dic1 ?_; walk_at "e")
  | (refine de_errF ?_; walk_at "e")
  | walk_at "lc"
  | (refine de_ix ix_seq ?_ ?_ (fun _ _ => rfl) <;> walk_at "e")
  | walk_at "c"
  | (refine de_fun (by assumption) (by walk_at "rm") (by assumption) (by rfl) ?_; walk_at "a")
  | (refine de_err (by assumption) (by walk_at "rm") (by assumption) (by rfl) ?_; walk_at "a")
  | walk_at "pv"
  | exact de_gX (by assumption) (by rfl)
  | exact de_VE (by rfl) (by assumption))
local macro_rules | `(tactic| walk_at "c") => `(tactic| first
  | (refine de_f_len (by assumption) (by rfl) ?_; walk_at "a")
  | (refine de_f_int (by assumption) (by rfl) ?_; walk_at "a")
  | (refine de_f_abs (by assumption) (by rfl) ?_; walk_at "a")
  | (refine de_f_all rfl (by assumption) (by rfl) ?_; walk_at "a")
  | (refine de_f_any rfl (by assumption) (by rfl) ?_; walk_at "a")
  | (refine de_f_min rfl (by assumption) (by rfl) ?_; walk_at "a")
  | (refine de_f_max rfl (by assumption) (by rfl) ?_; walk_at "a")
  | (refine de_f_isi (by assumption) (by rfl) ?_; walk_at "a")
  | (refine de_f_repr (by assumption) (by assumption) (by assumption) (by assumption) (by rfl) ?_; walk_at "a"))
local macro_rules | `(tactic| walk_at "a") => `(tactic| first
  | exact da_nil
  | (refine da_cons ?_ ?_; walk_at "e"; walk_at "a"))
local macro_rules | `(tactic| walk_at "t") => `(tactic| first
  | (refine dt_lt ?_ ?_ <;> walk_at "e")
  | (refine dt_le ?_ ?_ <;> walk_at "e")
  | (refine dt_gt ?_ ?_ <;> walk_at "e")
  | (refine dt_ge ?_ ?_ <;> walk_at "e")
  | (refine dt_eq (by assumption) ?_ ?_ <;> walk_at "e")
  | (refine dt_ne (by assumption) ?_ ?_ <;> walk_at "e")
  | (refine dt_not ?_; walk_at "t")
  | (refine dt_w ?_; walk_at "w")
  | (refine dt_val ?_; walk_at "e"))
local macro_rules | `(tactic| walk_at "w") => `(tactic| first
  | (refine dw_and1 ?_; walk_at "t")
  | (refine dw_or1 ?_; walk_at "t")
  | (refine dw_and ?_ ?_; walk_at "t"; walk_at "w")
  | (refine dw_or ?_ ?_; walk_at "t"; walk_at "w"))
local macro_rules | `(tactic| walk_at "set") => `(tactic| first
  | refine ds_set 1 (by assumption) ?_
  | refine ds_set 2 (by assumption) ?_
  | refine ds_set 3 (by assumption) ?_
  | refine ds_set 4 (by assumption) ?_
  | refine ds_set 5 (by assumption) ?_
  | refine ds_set 6 (by assumption) ?_
  | refine ds_set 7 (by assumption) ?_
  | refine ds_set 8 (by assumption) ?_
  | refine ds_set 9 (by assumption) ?_
  | refine ds_set 10 (by assumption) ?_
  | refine ds_set 0 (by assumption) ?_)
local macro_rules | `(tactic| walk_at "g") => `(tactic| first
  | exact dg_name 1 (by assumption)
  | exact dg_name 2 (by assumption)
  | exact dg_name 3 (by assumption)
  | exact dg_name 4 (by assumption)
  | exact dg_name 5 (by assumption)
  | exact dg_name 6 (by assumption)
  | exact dg_name 7 (by assumption)
  | exact dg_name 8 (by assumption)
  | exact dg_name 9 (by assumption)
  | (refine dg_tup 2 rfl ?_; walk_at "gs")
  | (refine dg_tup 3 rfl ?_; walk_at "gs"))
local macro_rules | `(tactic| walk_at "gs") => `(tactic| first
  | exact dgs_nil
  | (refine dgs_cons ?_ ?_; walk_at "g"; walk_at "gs"))
local macro_rules | `(tactic| walk_at "i") => `(tactic| first
  | (refine di_range1 (by rfl) (by assumption) ?_; walk_at "a")
  | (refine di_enum (by rfl) (by assumption) ?_; walk_at "a")
  | (refine di_list ?_; walk_at "e"))
local macro_rules | `(tactic| walk_at "s") => `(tactic| first
  | (refine ds_ret ?_; walk_at "e")
  | (walk_at "set"; walk_at "e")
  | (refine ds_if ?_ ?_ ?_; walk_at "t"; walk_at "b"; walk_at "b")
  | (refine ds_expr (de_bm ?_ ?_ (fun _ _ h k => pe_bm PySem.F.plainAttrs_list PySem.F.slot_list_append PySem.F.type_list_append mt_append h k)); walk_at "e"; walk_at "a")
  | (refine ds_expr (de_bm ?_ ?_ (fun _ _ h k => pe_bm PySem.F.plainAttrs_list PySem.F.slot_list_extend PySem.F.type_list_extend mt_extend h k)); walk_at "e"; walk_at "a")
  | (refine ds_asg ?_ (dg_sub ?_ ?_ set_list); walk_at "e"; walk_at "e"; walk_at "e")
  | (refine ds_for PassesOwn.never rfl ?_ ?_ ?_; walk_at "i"; walk_at "g"; walk_at "b"))
local macro_rules | `(tactic| walk_at "b") => `(tactic| first
  | exact db_nil
  | (refine db_one ?_; walk_at "s")
  | (refine db_cons ?_ ?_; walk_at "s"; walk_at "b"))
local macro_rules | `(tactic| walk_at "nf") => `(tactic| dsimp only [de_lc, ds_setLc, de_err, de_gX, de_VE, de_f_isi, de_dic0, de_dic1, de_int, de_str, de_bl, de_non, de_v, de_op, de_cmp, de_one, de_and, de_or, de_not, de_neg, de_ifE, da_nil, da_cons, de_tup, de_lst, de_ix, de_callB, de_callT, de_fun, dt_val, dt_cmp, dt_not, dt_w, dw_and1, dw_or1, dw_and, dw_or, dg_name, dgs_nil, dgs_cons, dg_tup, dg_sub, di_list, di_tup, di_range1, di_enum, db_nil, db_one, db_cons, ds_ret, ds_retN, ds_set, ds_asg, ds_if, ds_expr, ds_for, ds_while, ds_break, ds_continue, ds_never, de_bm, de_errF, de_f_len, de_f_int, de_f_abs, de_f_all, de_f_any, de_f_min, de_f_max, de_f_repr, de_add, de_sub, de_mul, de_mod, de_fdiv, de_pow, de_eq, de_ne, de_lt, de_le, de_gt, de_ge, dt_eq, dt_ne, dt_lt, dt_le, dt_gt, dt_ge])
local macro_rules | `(tactic| walk_at "k") => `(tactic| first
  | exact ev_int
  | exact ev_str
  | exact ev_bl
  | exact ev_non
  | exact ev_dic0
  | exact ea_nil
  | exact ev_negC
  | exact ev_var rfl
  | exact ev_errC (by assumption) rfl
  | exact ev_isC (by assumption) (fun _ z => z) (by assumption) rfl
  | exact ev_powC ⟨by decide, by decide +kernel⟩
  | (refine ea_c ?_ ?_ <;> walk_at "k")
  | (refine ev_tupC ?_; walk_at "k")
  | (refine ev_lstC ?_; walk_at "k")
  | (refine ev_dicC ?_; walk_at "k"))
local macro_rules | `(tactic| walk_at "lc3") => `(tactic| (intro _ _ _ _ _; walk_at "g"))
local macro_rules | `(tactic| walk_at "lc4") => `(tactic| (intro _ _ _ _ _; walk_at "e"))
local macro_rules | `(tactic| walk_at "lc5") => `(tactic| (intro _ _ _ _ _; rfl))
section
variable {P : Program} {w : World} {K : PySem.W.Frag} {mg : Str → Option Value} {base : Heap}
theorem scInit : FnScope ["self", "value"] ["self", "value"] (defScope sInit) := ⟨rfl, rfl, rfl, by decide +kernel, rfl, by decide +kernel, by decide +kernel⟩
theorem ok_init {f : Addr} {fd : FuncData} (F : Fun K "__init__" "WeaveError.__init__" sInit f fd) : FnG P w K mg base CX0 1 f fd ["self", "value"] (spErr K) := by
  refine okG0 F scInit (fun vs H Q E h => ?_) (fun cdv A outer s H vs Q E hr gq h => ?_)
  · obtain ⟨e, C, v, rfl, _⟩ := h
    rfl
  · obtain ⟨e, C, v, rfl, T, nf, he, q⟩ := h
    refine ⟨_, pss_one (ps_ost (pv 0) (pv 1)), ?_⟩
    refine ⟨v, rfl, .ref e, rfl, e, C, rfl, T, nf, .inl ⟨he, fun d n ne => q d _ n (fun b o z => ?_) ⟨upd_same, ?_⟩⟩⟩
    · have z : (if b = e then none else H b) = some o := z
      by_cases hb : b = e
      · rw [if_pos hb] at z
        cases z
      · rw [if_neg hb] at z
        rw [upd_ne hb, upd_ne (some_ne z n)]
        exact z
    · rw [upd_ne ne]
      exact upd_same
end
end Tp

namespace Tp
open PySem PySem.Spec PyProof.Rows L2
abbrev R0 : PySem.W.OpenRow := PySem.W.OpenLaw.row PySem.Challenge.rw_treadplans_k61_pictures_as_texts
def fn0 : List He.DefD := [dG "is_name" sIsName, dG "is_line" sIsLine, dG "is_picture" sIsPicture, dG "lines_of" sLinesOf, dG "show_picture" sShowPicture, dG "line_of_words" sLineOfWords, dG "read_picture" sReadPicture,
  dG "_law_pot" sPot, dG "_law_take" sTake, dG "_law_of" sOf, dG "_law_drawn" sDrawn, dG "_law_is_colour" sIsColour, dG "_law_due" sDue, dG "_law_bent_lines" sBent, dG "_law_met" sMet, dG "_law_lines_of" sLawLines, dG "_law_bad_picture" sBadPicture, dG "_law_right" sRight, dG "law" sLaw,
  ⟨("WeaveError", some "__init__"), "__init__", "WeaveError.__init__", defArgs sInit, defBody sInit, defScope sInit, [], []⟩]
def free0 : List Str := ["isinstance", "str", "all", "len", "tuple", "range", "repr", "list", "enumerate", "max", "min", "int", "abs"]
def glo0 : List Str := ["law", "BadPicture", "BadText", "is_name", "is_line", "is_picture", "lines_of", "show_picture", "line_of_words", "read_picture", "_law_pot", "_law_take", "_law_of", "_law_drawn", "_law_is_colour", "_law_due", "_law_bent_lines", "_law_met", "_law_lines_of", "_law_bad_picture", "_law_right"]
def val0 : List He.Fa := [.int "LONGEST_NAME" 8, .int "MOST_THREADS" 7, .str "UNKNOWN" "-", .exm "BadText" "BadText" true, .exm "BadPicture" "BadPicture" true]
def fa0 : List He.Fa := glo0.map .glo ++ (free0.map .free ++ val0)
abbrev fI0 (K : PySem.W.Frag) : Addr := He.fAd K ("WeaveError", some "__init__")
def errI (K : PySem.W.Frag) (C : Addr) : Bool := errB K C && He.eqO (PySem.W.findIn K (.ref C) "__init__") (some (some (.ref (fI0 K))))
def ex0 (K : PySem.W.Frag) : Bool := sysB K && (decide (PySem.W.typeIn K (.ref (fI0 K)) = some (.type "function")) && (errI K (He.ga K "BadText") && errI K (He.ga K "BadPicture")))
abbrev hk0 : PySem.W.Hook := hookK 4 fa0 fn0 ex0
def ob0 (s : PySem.W.SharedT) : AlK := obsK 4 fa0 fn0 ex0 (HandSHeadRun.getT s)
theorem ob0_eq (s : PySem.W.SharedT) : ob0 s = hk0.obs s.abs := obsK_eq (HandSHeadRun.getT_eq s)
def loose0 : List PySem.Str := ["WeaveError", "BadPicture", "BadText", "LONGEST_NAME", "is_name", "MOST_THREADS", "is_line", "is_picture", "UNKNOWN", "lines_of", "show_picture", "line_of_words", "read_picture", "_law_pot", "_law_take", "_law_of", "_law_drawn", "_law_is_colour", "_law_due", "_law_bent_lines", "_law_met", "_law_lines_of", "_law_bad_picture", "_law_right"]
theorem run0 (w : World) : HandSHeadRun.RunEq R0 (PySem.W.view R0.prog [29]) hk0 ob0 8000 loose0 w := by
  intro os
  kernel_rfl
end Tp

namespace Tp
open PySem PySem.Spec PyProof.Rows L2
theorem says_fa {fa : List He.Fa} {fn : List He.DefD} {K : PySem.W.Frag} (c : He.SaysD fa fn K) {f : He.Fa} (h : f ∈ fa) : f.ok K = true := by
  obtain ⟨i, hi, e⟩ := List.mem_iff_getElem.mp h
  exact c.fact i (f := f) (by rw [List.getElem?_eq_getElem hi, e])
theorem facts0 {P : Program} {w : World} {K : PySem.W.Frag} {h : Heap} {mg : Str → Option Value} {f : Addr} (X : K.In h) (G : h.Ns mainGlobals mg) (hfa : mg ("law" : Str) = some (.ref f)) (c : He.SaysD fa0 fn0 K) (e : ex0 K = true) :
    ∃ fd : FuncData, (∀ (s : Shared) (v : Value), BindsTo s fd ⟨[v], []⟩ [("script", v)]) ∧ ∀ base : Heap, K.In base → base.Ns mainGlobals mg → FnG P w K mg base CX0 9 f fd ["script"] (spLw K) := by
  have hg : ∀ x ∈ glo0, mg x = some (.ref (He.ga K x)) := fun x hx => He.glo_ok X G (says_fa c (List.mem_append_left _ (List.mem_map_of_mem hx)))
  have hf : ∀ x ∈ free0, mg x = none := fun x hx => He.free_ok X G (says_fa c (List.mem_append_right _ (List.mem_append_left _ (List.mem_map_of_mem hx))))
  have hv : ∀ x ∈ val0, x.ok K = true := fun x hx => says_fa c (List.mem_append_right _ (List.mem_append_right _ hx))
  have vN : GlV mg "LONGEST_NAME" (.int 8) := by
    obtain ⟨t, e⟩ := He.int_ok X G (hv (.int "LONGEST_NAME" 8) (.head _))
    exact ⟨_, e, t, rfl⟩
  have vT : GlV mg "MOST_THREADS" (.int 7) := by
    obtain ⟨t, e⟩ := He.int_ok X G (hv (.int "MOST_THREADS" 7) (.tail _ (.head _)))
    exact ⟨_, e, t, rfl⟩
  have vU : GlV mg "UNKNOWN" (.str "-") := by
    obtain ⟨t, e⟩ := He.str_ok X G (hv (.str "UNKNOWN" "-") (.tail _ (.tail _ (.head _))))
    exact ⟨_, e, t, rfl⟩
  have eT : PySem.W.exmOne K (.ref (He.ga K "BadText")) (.ref (He.ga K "BadText")) = some true := He.exm_ok (hv (.exm "BadText" "BadText" true) (.tail _ (.tail _ (.tail _ (.head _)))))
  have eP : PySem.W.exmOne K (.ref (He.ga K "BadPicture")) (.ref (He.ga K "BadPicture")) = some true := He.exm_ok (hv (.exm "BadPicture" "BadPicture" true) (.tail _ (.tail _ (.tail _ (.tail _ (.head _))))))
  obtain ⟨fdN, FN⟩ := c.def_ 0 (d := dG "is_name" sIsName) rfl
  obtain ⟨fdLi, FLi⟩ := c.def_ 1 (d := dG "is_line" sIsLine) rfl
  obtain ⟨fdPi, FPi⟩ := c.def_ 2 (d := dG "is_picture" sIsPicture) rfl
  obtain ⟨fdLs, FLs⟩ := c.def_ 3 (d := dG "lines_of" sLinesOf) rfl
  obtain ⟨fdSh, FSh⟩ := c.def_ 4 (d := dG "show_picture" sShowPicture) rfl
  obtain ⟨fdWo, FWo⟩ := c.def_ 5 (d := dG "line_of_words" sLineOfWords) rfl
  obtain ⟨fdRe, FRe⟩ := c.def_ 6 (d := dG "read_picture" sReadPicture) rfl
  obtain ⟨fdP, FP⟩ := c.def_ 7 (d := dG "_law_pot" sPot) rfl
  obtain ⟨fdT, FT⟩ := c.def_ 8 (d := dG "_law_take" sTake) rfl
  obtain ⟨fdO, FO⟩ := c.def_ 9 (d := dG "_law_of" sOf) rfl
  obtain ⟨fdD, FD⟩ := c.def_ 10 (d := dG "_law_drawn" sDrawn) rfl
  obtain ⟨fdC, FC⟩ := c.def_ 11 (d := dG "_law_is_colour" sIsColour) rfl
  obtain ⟨fdDu, FDu⟩ := c.def_ 12 (d := dG "_law_due" sDue) rfl
  obtain ⟨fdB, FB⟩ := c.def_ 13 (d := dG "_law_bent_lines" sBent) rfl
  obtain ⟨fdM, FM⟩ := c.def_ 14 (d := dG "_law_met" sMet) rfl
  obtain ⟨fdLl, FLl⟩ := c.def_ 15 (d := dG "_law_lines_of" sLawLines) rfl
  obtain ⟨fdBp, FBp⟩ := c.def_ 16 (d := dG "_law_bad_picture" sBadPicture) rfl
  obtain ⟨fdR, FR⟩ := c.def_ 17 (d := dG "_law_right" sRight) rfl
  obtain ⟨fdL, FL⟩ := c.def_ 18 (d := dG "law" sLaw) rfl
  obtain ⟨fdI, FI⟩ := c.def_ 19 (d := ⟨("WeaveError", some "__init__"), "__init__", "WeaveError.__init__", defArgs sInit, defBody sInit, defScope sInit, [], []⟩) rfl
  unfold ex0 at e
  simp only [Bool.and_eq_true, decide_eq_true_eq] at e
  obtain ⟨e1, e2, e3, e4⟩ := e
  have hs := sysB_ok e1
  have e0 := hfa.symm.trans (hg "law" (by decide))
  cases e0
  have b := FunD.bindsA (ps := ["script"]) FL fun _ _ _ _ _ _ us hl => match us, hl with | [_], _ => rfl
  refine ⟨fdL, fun s v => b s [v] rfl, fun base _ _ => ?_⟩
  have gI : FnG P w K mg base CX0 1 (fI0 K) fdI ["self", "value"] (spErr K) := ok_init (fun_ofD FI)
  have bI : Binds K fdI ["self", "value"] [] := FI.bindsN fun _ _ _ _ _ _ us hl => match us, hl with | [_, _], _ => rfl
  have mk : ∀ (x : Str) (C : Addr) (j : Nat), 1 ≤ j → mg x = some (.ref C) → errI K C = true → CalE P w K mg base j x C := fun x C j hj hm he => by
    unfold errI at he
    simp only [Bool.and_eq_true] at he
    exact ⟨errB_ok he.1, ⟨_, _, _, gI.mono hj, He.eqO_ok he.2, e2, bI⟩, hm⟩
  have qT : ∀ j, 1 ≤ j → CalE P w K mg base j "BadText" (He.ga K "BadText") := fun j hj => mk _ _ j hj (hg "BadText" (by decide)) e3
  have qP : ∀ j, 1 ≤ j → CalE P w K mg base j "BadPicture" (He.ga K "BadPicture") := fun j hj => mk _ _ j hj (hg "BadPicture" (by decide)) e4
  have nS := hf "isinstance" (by decide)
  have nL := hf "len" (by decide)
  have nA := hf "all" (by decide)
  have nT := hf "tuple" (by decide)
  have nR := hf "range" (by decide)
  have nP := hf "repr" (by decide)
  have nX := hf "str" (by decide)
  -- is_name .. read_picture
  have cN : ∀ j, 1 ≤ j → Cal P w K mg base j "is_name" (spName K) := fun j hj => ⟨⟨_, _, _, _, .inl rfl, (ok_isName (fun_ofD FN) nS nX nA nL vN).mono hj, hg "is_name" (by decide), FN.kp, FN.bindsN fun _ _ _ _ _ _ us hl => match us, hl with | [_], _ => rfl⟩⟩
  have cLi : ∀ j, 2 ≤ j → Cal P w K mg base j "is_line" (spLine K) := fun j hj => ⟨⟨_, _, _, _, .inl rfl, (ok_isLine (fun_ofD FLi) (cN 1 (by decide)) nS nT nA nL vT).mono hj, hg "is_line" (by decide), FLi.kp, FLi.bindsN fun _ _ _ _ _ _ us hl => match us, hl with | [_], _ => rfl⟩⟩
  have cPi : ∀ j, 3 ≤ j → Cal P w K mg base j "is_picture" (spPic K) := fun j hj => ⟨⟨_, _, _, _, .inl rfl, (ok_isPic (fun_ofD FPi) (cLi 2 (by decide)) nS nT nA nL vT).mono hj, hg "is_picture" (by decide), FPi.kp, FPi.bindsN fun _ _ _ _ _ _ us hl => match us, hl with | [_], _ => rfl⟩⟩
  have cLs : CalX P w K mg base 3 "lines_of" (spLinesOf K (He.ga K "BadText")) := ⟨⟨_, _, _, ok_linesOf (fun_ofD FLs) (qT 1 (by decide)) nS nX, hg "lines_of" (by decide), FLs.kp, FLs.bindsN fun _ _ _ _ _ _ us hl => match us, hl with | [_], _ => rfl⟩⟩
  have cSh : ∀ j, 4 ≤ j → CalX P w K mg base j "show_picture" (spShow K (He.ga K "BadPicture")) := fun j hj => ⟨⟨_, _, _, (ok_show (fun_ofD FSh) (qP 2 (by decide)) (cPi 3 (by decide)) vU).mono hj, hg "show_picture" (by decide), FSh.kp, FSh.bindsN fun _ _ _ _ _ _ us hl => match us, hl with | [_], _ => rfl⟩⟩
  have cWo : Cal P w K mg base 3 "line_of_words" (spWords K) := ⟨⟨_, _, _, _, .inl rfl, ok_words (fun_ofD FWo) (cN 2 (by decide)) nA nL nT vT vU, hg "line_of_words" (by decide), FWo.kp, FWo.bindsN fun _ _ _ _ _ _ us hl => match us, hl with | [_], _ => rfl⟩⟩
  have cRe : ∀ j, 4 ≤ j → CalX P w K mg base j "read_picture" (spRead K (He.ga K "BadText")) := fun j hj => ⟨⟨_, _, _, (ok_read (fun_ofD FRe) (qT 2 (by decide)) cLs cWo nL nT vT).mono hj, hg "read_picture" (by decide), FRe.kp, FRe.bindsN fun _ _ _ _ _ _ us hl => match us, hl with | [_], _ => rfl⟩⟩
  -- the law's own
  have cTake : Cal P w K mg base 1 "_law_take" (spP K 1 preTake postTake) := ⟨⟨_, _, _, _, .inl rfl, ok_take (fun_ofD FT) (hf "int" (by decide)), hg "_law_take" (by decide), FT.kp, FT.bindsN fun _ _ _ _ _ _ us hl => match us, hl with | [_, _], _ => rfl⟩⟩
  have cTake2 : Cal P w K mg base 2 "_law_take" (spP K 1 preTake postTake) := ⟨⟨_, _, _, _, .inl rfl, (ok_take (fun_ofD FT) (hf "int" (by decide))).mono (by decide), hg "_law_take" (by decide), FT.kp, FT.bindsN fun _ _ _ _ _ _ us hl => match us, hl with | [_, _], _ => rfl⟩⟩
  have cOf : ∀ j, 2 ≤ j → Cal P w K mg base j "_law_of" (spP K 1 preOf postOf) := fun j hj => ⟨⟨_, _, _, _, .inl rfl, (ok_of (fun_ofD FO) nL cTake).mono hj, hg "_law_of" (by decide), FO.kp, FO.bindsN fun _ _ _ _ _ _ us hl => match us, hl with | [_, _], _ => rfl⟩⟩
  have cPot : Cal P w K mg base 7 "_law_pot" (spPt K) := ⟨⟨_, _, _, _, .inl rfl, (ok_pot (fun_ofD FP) nL (hf "int" (by decide)) (hf "abs" (by decide))).mono (by decide), hg "_law_pot" (by decide), FP.kp, FP.bindsN fun _ _ _ _ _ _ us hl => match us, hl with | [_, _], _ => rfl⟩⟩
  have cDr : Cal P w K mg base 6 "_law_drawn" (spP K 51 preDr postDr) := ⟨⟨_, _, _, _, .inl rfl, (ok_drawn (fun_ofD FD) cTake2 (cOf 2 (by decide)) nR nT).mono (by decide), hg "_law_drawn" (by decide), FD.kp, FD.bindsN fun _ _ _ _ _ _ us hl => match us, hl with | [_], _ => rfl⟩⟩
  have cCo : Cal P w K mg base 4 "_law_is_colour" (spColour K) := ⟨⟨_, _, _, _, .inl rfl, ok_colour (k := 3) (fun_ofD FC) nA nL, hg "_law_is_colour" (by decide), FC.kp, FC.bindsN fun _ _ _ _ _ _ us hl => match us, hl with | [_], _ => rfl⟩⟩
  have cDu : Cal P w K mg base 6 "_law_due" (spDue K) := ⟨⟨_, _, _, _, .inl rfl, (ok_due (fun_ofD FDu) cCo nA nL (hf "enumerate" (by decide))).mono (by decide), hg "_law_due" (by decide), FDu.kp, FDu.bindsN fun _ _ _ _ _ _ us hl => match us, hl with | [_], _ => rfl⟩⟩
  have cBe : Cal P w K mg base 6 "_law_bent_lines" (spP K 5 preBe postBe) := ⟨⟨_, _, _, _, .inl rfl, (ok_bent (fun_ofD FB) cTake2 (cOf 2 (by decide)) nL).mono (by decide), hg "_law_bent_lines" (by decide), FB.kp, FB.bindsN fun _ _ _ _ _ _ us hl => match us, hl with | [_, _], _ => rfl⟩⟩
  have cMe : Cal P w K mg base 6 "_law_met" (spMet K) := ⟨⟨_, _, _, _, .inl rfl, ok_met (k := 5) (fun_ofD FM) (qT 5 (by decide)) (cRe 5 (by decide)) eT, hg "_law_met" (by decide), FM.kp, FM.bindsN fun _ _ _ _ _ _ us hl => match us, hl with | [_], _ => rfl⟩⟩
  have cLl : Cal P w K mg base 6 "_law_lines_of" (spLawLines K) := ⟨⟨_, _, _, _, .inl rfl, ok_lawLines (k := 5) (fun_ofD FLl), hg "_law_lines_of" (by decide), FLl.kp, FLl.bindsN fun _ _ _ _ _ _ us hl => match us, hl with | [_], _ => rfl⟩⟩
  have cBp : Cal P w K mg base 6 "_law_bad_picture" (spBadP K) := ⟨⟨_, _, _, _, .inl rfl, ok_badP (k := 5) (fun_ofD FBp) hs (qP 5 (by decide)) (cSh 5 (by decide)) eP nP, hg "_law_bad_picture" (by decide), FBp.kp, FBp.bindsN fun _ _ _ _ _ _ us hl => match us, hl with | [_], _ => rfl⟩⟩
  have cR : Cal P w K mg base 7 "_law_right" (spP K 140 preR postR) := ⟨⟨_, _, _, _, .inl rfl, ok_right (k := 6) (fun_ofD FR) hs nP nR (hf "list" (by decide)) (cOf 6 (by decide)) cDr cBe cLl cDu cMe cBp (cSh 6 (by decide)) (cRe 6 (by decide)), hg "_law_right" (by decide), FR.kp, FR.bindsN fun _ _ _ _ _ _ us hl => match us, hl with | [_], _ => rfl⟩⟩
  exact (ok_law (k := 7) (fun_ofD FL) nR nL (hf "max" (by decide)) (hf "min" (by decide)) cPot cR).mono (by decide)
end Tp
open PySem PySem.W PySem.Calls PyProof.Rows
theorem PySem.Challenge.cw_treadplans_k61_pictures_as_texts_holds : PySem.Challenge.rw_treadplans_k61_pictures_as_texts.Holds := by
  w_on; o_law
  refine HandSHeadRun.head_any (r := OpenLaw.row PySem.Challenge.rw_treadplans_k61_pictures_as_texts) (q := view (OpenLaw.row PySem.Challenge.rw_treadplans_k61_pictures_as_texts).prog [29]) (H := Tp.hk0) (ob := Tp.ob0) (M := 8000) (loose := Tp.loose0) (d := HandSHeadRun.topDef (OpenLaw.row PySem.Challenge.rw_treadplans_k61_pictures_as_texts).prog 29) (kwd := []) Tp.ob0_eq
    (by kernel_rfl) (fun s => by kernel_rfl) Tp.run0 (by kernel_rfl) (by kernel_rfl) (by kernel_rfl) (by rfl) (by first | assumption | decide +kernel) (by decide +kernel) ⟨rfl, rfl, rfl, rfl, rfl, by decide +kernel⟩ ?hw ?hc
  case hw => w_witness2
  case hc =>
    refine Tp.walkG (l := PySem.Challenge.rw_treadplans_k61_pictures_as_texts) (n := 63) (k := 9) (x := "script") (CX := L2.CX0) rfl (by decide) (by kernel_rfl) ⟨rfl, by decide, by decide⟩ ?F (fun _ _ _ _ z => z)
    intro w mg fa h Y G hmg0
    obtain ⟨K, KX, c, e⟩ := Y
    have hmg : mg ("law" : PySem.Str) = some (.ref fa) := by
      have e : (HandSHeadRun.topDef (OpenLaw.row PySem.Challenge.rw_treadplans_k61_pictures_as_texts).prog 29).name = ("law" : PySem.Str) := by kernel_rfl
      rw [← e]
      exact hmg0
    obtain ⟨fd, hb, hF⟩ := Tp.facts0 (P := (PySem.Challenge.rw_treadplans_k61_pictures_as_texts).prog) (w := w) KX G hmg c e
    exact ⟨K, fd, Tp.spLw K, KX, hb, fun H a ns hl _ hS => ⟨a, ns, rfl, hS, hl, fun _ => rfl⟩, hF⟩
