import PyProof.Rows.All
import Wide.All
import OpenK.AllK
import Wide.FinOn
import PyProof.EqAt
import PyProof.EqKinds
import PyProof.TupleCall
import PyProof.ReprReads
import PyProof.ReprRoads
import KE.KStateDown
import KE.KExcIs
import KE.KIsAll
import HandS.ForMost
import HandS.Exc
import HandS.ExcInit
import HandS.More
import HandS.DictEq
import HandS.DeepEq
import HandS.Defaults
import HandS.Wide
import HandS.Flow
import HandS.Head0
import HandS.Head1
import HandS.Head2
import HandS.HeadEnd
import HandS.HeadHook1
import HandS.HeadHook2
import HandS.ExcIs
import HandS.ExcValue
import HandS.Walk
import HandS.TupAny
import HandS.IsInst
import PyProof.Rows.RuleB_pow
import Lean
import HandS.Ends
import HandS.Words
import HandS.WordsExc
import PySem.Challenge.RW_treadplans_k00_errors_keep_their_value
set_option Elab.async false
set_option linter.all false
set_option maxRecDepth 100000
set_option maxHeartbeats 0
/-! # Calls that know which reprs run: none -/
namespace Tp
open PySem PySem.Spec PyProof.Rows L2
abbrev Quiet (A : Around) : Prop := A.guards = some []
/-- a def's promise, kept wherever no repr runs -/
structure FnG (P : Program) (w : World) (K : PySem.W.Frag) (mg : Str → Option Value) (base : Heap) (CX : CXT)
    (k : Nat) (f : Addr) (fd : FuncData) (ps : List Str) (sp : Sp) : Prop where
  len : ∀ vs H Q E, sp vs H Q E → vs.length = ps.length
  run : ∀ (A : Around) (outer : List Env) (s : Shared) (H : Hp) (args : Args) (us : List Value) (vs : List V) (Q : VK) (E : XK),
    Room k A → Quiet A → Env0 P w K mg base A outer s H → BindsTo s fd args (ps.zip us) → Vals vs us → sp vs H Q E →
    codeAny (model P w) A (.call (.ref f) args) (CR CX outer P w H s Q E) s
section
variable {P : Program} {w : World} {K : PySem.W.Frag} {mg : Str → Option Value} {base : Heap} {CX : CXT} {j k : Nat} {f : Addr} {fd : FuncData} {ps : List Str} {sp sp' : Sp}
theorem FnG.mono (F : FnG P w K mg base CX j f fd ps sp) (h : j ≤ k) : FnG P w K mg base CX k f fd ps sp :=
  ⟨F.len, fun A outer s H args us vs Q E hr => F.run A outer s H args us vs Q E (hr.mono h)⟩
theorem FnG.of (F : FnOk P w K mg base CX k f fd ps sp) : FnG P w K mg base CX k f fd ps sp :=
  ⟨F.len, fun A outer s H args us vs Q E hr _ => F.run A outer s H args us vs Q E hr⟩
theorem FnG.imp (F : FnG P w K mg base CX k f fd ps sp) (h : ∀ vs H Q E, sp' vs H Q E → sp vs H Q E) : FnG P w K mg base CX k f fd ps sp' :=
  ⟨fun vs H Q E q => F.len vs H Q E (h _ _ _ _ q), fun A outer s H args us vs Q E hr hq he hb hv hs => F.run A outer s H args us vs Q E hr hq he hb hv (h _ _ _ _ hs)⟩
end
section
variable {X : Cx} {CX : CXT} {k : Nat} {f C : Addr} {fd : FuncData} {ps : List Str} {sp : Sp} {dvs : List V} {ds : List Value} {E : XK} {x m : Str} {p pos apos : Pos} {e o : Expr} {es : List Expr} {ta : TE} {t : TA}
theorem runG {pins : List (Addr × Obj)} {σ : L2.St} {H : Hp} {s : Shared} {Q : VK} {us : List Value} {vs : List V}
    (F : FnG X.prog X.w X.K X.mg X.base CX k f fd ps sp) (hr : Room k X.A) (gq : Quiet X.A) (hb : Binds X.K fd ps ds) (hd : Vals dvs ds) (hx : Passes CX X E)
    (I : Inv X pins σ H s) (r : Vals vs us) (h : sp (vs ++ dvs) H Q E) : wpAny (model X.prog X.w) X.A (call (.ref f) us) (EP X pins σ Q) X.xe s := by
  have both := r.append hd
  have len : (us ++ ds).length = ps.length := both.length.symm.trans (F.len _ _ _ _ h)
  have body := F.run X.A X.stack s H ⟨us, []⟩ (us ++ ds) (vs ++ dvs) Q E hr gq I.env0 (hb s us I.kIn len) both h
  refine wpAny_call (codeAny_mono body fun res s' out => ?_)
  rcases res with er | fl
  · exact hx pins σ H s er s' I out
  · cases fl
    case ret u => exact I.after out
    all_goals exact False.elim out
theorem pg_call (F : FnG X.prog X.w X.K X.mg X.base CX k f fd ps sp) (hr : Room k X.A) (gq : Quiet X.A) (hg : Gl X x) (hm : X.mg x = some (.ref f))
    (hk : PySem.W.keepIn X.K (.ref f) = true) (hb : Binds X.K fd ps ds) (hd : Vals dvs ds) (hx : Passes CX X E)
    (ha : PA X (e :: es) t) (hdb : (x == ("__debug__" : Str)) = false := by decide)
    (he : starEach (e :: es) X.env = (false, eval e X.env) :: starEach es X.env := by rfl) (hpl : (backTo pos (starEach es X.env)).any (·.1) = false := by rfl) :
    PE X (.Call (.Name x p) (e :: es) [] pos) (tCall sp dvs E t) :=
  ⟨fun pins s σ H Q I h => wpAny_Call_Name_kw (ld_glob I hg hm (PySem.W.callWith_K (h₀ := X.base) I.ok.mod.kin hk
    (thn (ha.run pos pins s σ H _ I h) fun us s1 ⟨vs, H1, I1, r, q⟩ => ⟨I1.kIn, runG F hr gq hb hd hx I1 r q⟩) he hpl) hdb)⟩
theorem pg_call0 (F : FnG X.prog X.w X.K X.mg X.base CX k f fd ps sp) (hr : Room k X.A) (gq : Quiet X.A) (hg : Gl X x) (hm : X.mg x = some (.ref f))
    (hk : PySem.W.keepIn X.K (.ref f) = true) (hb : Binds X.K fd ps ds) (hd : Vals dvs ds) (hx : Passes CX X E) (hdb : (x == ("__debug__" : Str)) = false := by decide) :
    PE X (.Call (.Name x p) [] [] pos) (tCall sp dvs E tNil) :=
  ⟨fun pins s σ H Q I h => wpAny_Call_Name_kw (ld_glob I hg hm (PySem.W.callWith_K0 I.kIn hk (runG (us := []) F hr gq hb hd hx I .nil h)) hdb)⟩
end
theorem quiet_deeper {A : Around} {env : Env} (h : Quiet A) : Quiet (A.deeper env) := h
theorem quiet_make {A : Around} {C : Addr} {us : List Value} {kw : List (Str × Value)} (h : Quiet A) : Quiet (A.under (.builtin "type.__call__" ⟨.ref C :: us, kw⟩)) := by
  unfold Quiet at h ⊢
  first
    | rfl
    | (simp [Around.under, Code.guards, Code.isGuard, guardIds, pushGuards, h])
section
variable {P : Program} {w : World} {K : PySem.W.Frag} {mg : Str → Option Value} {base : Heap}
/-- a def, by its body -/
theorem fnG_of {CX : CXT} {k : Nat} {f : Addr} {name qual : Str} {params : Arguments} {body : List Stmt} {scope : Scope} {dV kV doc pm cdv ct oc : Value} {an od : Option Addr}
    {osl : Array (Option Value)} {N ps : List Str} {sp : Sp} (lk : K.lookup f = some ⟨oc, od, .func (PySem.W.fnOf name qual params body scope dV kV doc pm an cdv ct), osl⟩)
    (hcd : PySem.W.codeIn K cdv qual = true) (S : FnScope N ps scope) (len : ∀ vs H Q E, sp vs H Q E → vs.length = ps.length)
    (hbody : ∀ (A : Around) (outer : List Env) (s : Shared) (H : Hp) (vs : List V) (Q : VK) (E : XK),
      Room k (A.deeper (envOfC qual scope s.heap.objs.size f cdv)) → Quiet A → sp vs H Q E →
      ∃ t, PSs (cxOf CX P w K mg base N qual scope f cdv A outer s H E) body t ∧ t { nx := fun _ H' => Q .non H', rt := Q } (start N vs) H) :
    FnG P w K mg base CX (k + 1) f (PySem.W.fnOf name qual params body scope dV kV doc pm an cdv ct) ps sp where
  len := len
  run := fun A outer s H args us vs Q E hr gq e0 hb r hsp => by
    have old : ∀ b o, base.get? b = some o → s.heap.get? b = some o := fun b o e => (e0.bs b o e).1
    have KX : K.In s.heap := e0.mod.kin.keeps old
    have kinds : ∀ y ∈ ps.zip us, scope.names.lookup y.1 = some .local ∨
        (scope.names.lookup y.1 = some .cell ∧ ((cellsFrom (s.heap.objs.size + 1) scope.names []).lookup y.1).isSome = true) := by
      rintro ⟨n, v⟩ hy
      exact (S.par n (List.of_mem_zip hy).1).imp id fun q => ⟨q, PySem.W.cellsFrom_some _ _ _ (.inl q)⟩
    refine codeAny_call_function hr.depth (KX _ _ lk) rfl S.co S.gen rfl (PySem.W.codeRec_of KX hcd) (hb _ _ _ _ ?_)
    refine wpAny_newFunctionEnv_cells S.kind kinds fun env he s1 x => ?_
    subst he
    refine ⟨(e0.mod.nolimit.keeps old).keeps x.toInCall.keep, codeAny_func ?_⟩
    obtain ⟨t, ht, hq⟩ := hbody A outer s H vs Q E (hr.deeper _) gq hsp
    have I := inv_start (CX := CX) (E := E) (N := N) (f := f) (cd := cdv) (qual := qual) S hr.hd e0 (len _ _ _ _ hsp) r x
    refine wpAny_mono (ht.run [] s1 (start N vs) H _ I hq) (fun fl s' hs => ?_) fun _ _ z => z
    cases fl
    case ret u =>
      obtain ⟨v, _, H', J, rv, q⟩ := hs
      exact ⟨v, H', J.os, J.bare, J.base, J.hok, rv, q⟩
    case next =>
      obtain ⟨_, H', J, q⟩ := hs
      exact ⟨V.non, H', J.os, J.bare, J.base, J.hok, rfl, q⟩
    all_goals
      obtain ⟨_, _, _, q⟩ := hs
      exact False.elim q
end
end Tp
/-! # A def of the text, by name -/
namespace Tp
open PySem PySem.Spec PyProof.Rows L2
section
variable {P : Program} {w : World} {K : PySem.W.Frag} {mg : Str → Option Value} {base : Heap}
theorem okG {CX : CXT} {x qual : Str} {st : Stmt} {f : Addr} {fd : FuncData} {N ps : List Str} {k : Nat} {sp : Sp} (F : Fun K x qual st f fd) (S : FnScope N ps (defScope st))
    (len : ∀ vs H Q E, sp vs H Q E → vs.length = ps.length)
    (hbody : ∀ (cdv : Value) (A : Around) (outer : List Env) (s : Shared) (H : Hp) (vs : List V) (Q : VK) (E : XK),
      Room k (A.deeper (envOfC qual (defScope st) s.heap.objs.size f cdv)) → Quiet A → sp vs H Q E →
      ∃ t, PSs (cxOf CX P w K mg base N qual (defScope st) f cdv A outer s H E) (defBody st) t ∧ t { nx := fun _ H' => Q .non H', rt := Q } (start N vs) H) :
    FnG P w K mg base CX (k + 1) f fd ps sp := by
  obtain ⟨oc, od, kV, doc, pm, an, cdv, ct, osl, rfl, lk, hcd⟩ := F.ex
  exact fnG_of lk hcd S len fun A outer s H vs Q E hr gq hsp => hbody cdv A outer s H vs Q E hr gq hsp
/-- from the function object that a Hook tells -/
theorem fun_ofD {x qual : Str} {st : Stmt} {f : Addr} {fd : FuncData} (F : FunD K x qual (defArgs st) (defBody st) (defScope st) [] [] f fd) : Fun K x qual st f fd := by
  obtain ⟨⟨oc, od, dV, kV, doc, pm, an, cdv, ct, osl, e, lk, hcd, dfl, kwd⟩, kp⟩ := F
  have ed : dV = .none := by
    rcases dfl with z | z
    · exact z.2
    · exact absurd rfl z.1
  subst ed
  exact ⟨⟨oc, od, kV, doc, pm, an, cdv, ct, osl, e, lk, hcd⟩, kp⟩
/-! ### the law's call -/
theorem callG {mb : Str → Option Value} {CX : CXT} {k : Nat} {fa a : Addr} {fd : FuncData} {x : Str} {sp : Sp} {s₁ : Shared} {vs : List Value} {ns : List Int}
    (KX : K.In s₁.heap) (hns : s₁.heap.Ns mainGlobals mg) (hb : s₁.heap.Ns builtinsNs mb) (hbb : ∀ x : Str, x ≠ "__name__" → mb x = bootBuiltins x) (hlim : s₁.heap.NoLimit) (hg : s₁.gens = #[])
    (ha : s₁.heap.get? a = some { cls := .type "list", data := .seq vs.toArray }) (hi : IntsAre vs ns) (hl : ns.length ≤ sizeLine) (hr : Room k callerA)
    (F : ∀ base : Heap, K.In base → base.Ns mainGlobals mg → FnG P w K mg base CX k fa fd [x] sp) (hbind : ∀ (s : Shared) (u : Value), BindsTo s fd ⟨[u], []⟩ [(x, u)])
    (hsp : ∀ H : Hp, Only H → SqL K H a (ns.map V.int) → sp [.ref a] H (fun v _ => v = .bl true) fun _ _ _ => False)
    (hCX : ∀ H e s', CX [] H s₁ (fun _ _ _ => False) e s' → False) :
    codeAny (model P w) callerA (.call (.ref fa) ⟨[.ref a], []⟩) (fun r s' => r = .ok (.ret (.bool true)) ∧ OldK s₁.heap s'.heap ∧ s'.os = s₁.os ∧ AllBare s'.gens) s₁ := by
  have lenV := hi.length
  -- what the call does from an abstract heap that tracks at most the script
  suffices core : ∀ H : Hp, Only H → SqL K H a (ns.map V.int) → HOk P w H s₁.heap → (∀ b u, H b = some u → b = a) → (∀ u, H a = some u → K.lookup a = none) →
      codeAny (model P w) callerA (.call (.ref fa) ⟨[.ref a], []⟩) (fun r s' => r = .ok (.ret (.bool true)) ∧ OldK s₁.heap s'.heap ∧ s'.os = s₁.os ∧ AllBare s'.gens) s₁ by
    cases hk : K.lookup a with
    | some o =>
      have e := KX a o hk
      rw [ha] at e
      cases e
      refine core (fun _ => none) (fun _ => .inl rfl) (.inr ⟨_, vs.toArray, _, hk, rfl, rfl, rfl, ?_, ?_⟩) ?_ ?_ ?_
      · rw [List.size_toArray, lenV]
        exact hl
      · rw [List.toList_toArray]
        exact vals_ints hi
      · exact fun b u z => nomatch (show (none : Option HO) = some u from z)
      · exact fun b u z => nomatch (show (none : Option HO) = some u from z)
      · exact fun u z => nomatch (show (none : Option HO) = some u from z)
    | none =>
      let H : Hp := upd (fun _ => none) a (.frz { cls := .type "list", data := .seq vs.toArray } (.lst (ns.map V.int)))
      have only : ∀ b u, H b = some u → b = a ∧ u = .frz { cls := .type "list", data := .seq vs.toArray } (.lst (ns.map V.int)) := by
        intro b u z
        by_cases q : b = a
        · rw [q, show H a = _ from upd_same] at z
          exact ⟨q, (Option.some.inj z).symm⟩
        · rw [show H b = _ from upd_ne q] at z
          cases z
      refine core H (fun b => ?_) (.inl (.inr ⟨_, upd_same⟩)) (fun b u z => ?_) (fun b u z => (only b u z).1) fun _ _ => hk
      · cases z : H b with
        | none => exact .inl rfl
        | some u => exact .inr ⟨_, _, by rw [(only b u z).2]⟩
      · obtain ⟨rfl, rfl⟩ := only b u z
        exact ⟨ha, by rw [List.length_map]; exact hl, vs, _, vals_ints hi, ha⟩
  intro H hO hS hok hA hK
  have free : ∀ {b : Addr} {o : Obj}, s₁.heap.get? b = some o → (b = a → False) → H b = none := fun {b o} _ n => by
    cases q : H b with
    | none => rfl
    | some u => exact (n (hA b u q)).elim
  have isD : ∀ {b : Addr} {o : Obj} {es : Array DictEntry} {ep : Nat}, s₁.heap.get? b = some o → o.data = .dict es ep → H b = none := fun {b o es ep} e d => free e fun q => by
    rw [q, ha] at e
    cases e
    exact nomatch (show Data.seq vs.toArray _ = Data.dict es ep from d)
  have ns2 : ∀ {b : Addr} {m : Str → Option Value}, s₁.heap.Ns b m → (hidT s₁.heap H).Ns b m := by
    rintro b m ⟨o, es, ep, e, d, r⟩
    exact ⟨o, es, ep, hidT_get e (isD e d), d, r⟩
  have kin : K.In (hidT s₁.heap H) := fun b o e => by
    refine hidT_get (KX b o e) ?_
    cases q : H b with
    | none => rfl
    | some u =>
      have z := hA b u q
      rw [z] at q e
      rw [hK u q] at e
      cases e
  obtain ⟨mc, h1, h2⟩ := hlim
  have env : Env0 P w K mg (hidT s₁.heap H) callerA [] s₁ H :=
    ⟨rfl, ⟨kin, ns2 hns, ⟨mb, ns2 hb, hbb⟩, ⟨mc, ns2 h1, h2⟩⟩, fun b o e => of_hidT e, Nat.le_of_eq (hidT_size _ _), trivial, fun b z => absurd z List.not_mem_nil, hok, .of_eq hg⟩
  have go := (F _ kin (ns2 hns)).run callerA [] s₁ H ⟨[.ref a], []⟩ [.ref a] [.ref a] _ _ hr rfl env (hbind s₁ (.ref a)) (.cons rfl .nil) (hsp H hO hS)
  refine codeAny_mono go fun r s' h => ?_
  rcases r with er | fl
  · exact (hCX H er s' h).elim
  · cases fl
    case ret u =>
      obtain ⟨v, H', os, bare, un, hok', r', q⟩ := h
      cases (show v = .bl true from q)
      cases (show u = Value.bool true from r')
      refine ⟨rfl, OldK.of_keep fun b o e => ?_, os, bare⟩
      cases q : H b with
      | none => exact un.keep b o e q (fun z => absurd z List.not_mem_nil) List.not_mem_nil
      | some u =>
        rcases hO b with z | ⟨ob, xs, z⟩
        · rw [q] at z
          cases z
        · obtain ⟨e1, _⟩ := hok b _ z
          obtain ⟨e2, _⟩ := hok' b _ (un.frzs b ob _ z)
          rw [e] at e1
          cases e1
          exact e2
    all_goals exact False.elim h
theorem walkG {l : PySem.W.OpenLaw} {n k : Nat} {q : Program} {loose : List Str} {XP : (Str → Option Value) → Heap → Prop} {YP : World → Heap → Prop} {d : DefRec} {CX : CXT} {x : Str}
    (hn : l.most = some n) (hn2 : n ≤ sizeLine) (hdf : d.params.defaults = []) (hr : Room k callerA)
    (F : ∀ (w : World) (mg : Str → Option Value) (fa : Addr) (h : Heap), YP w h → h.Ns mainGlobals mg → mg d.name = some (.ref fa) →
      ∃ (K : PySem.W.Frag) (fd : FuncData) (sp : Sp), K.In h ∧ (∀ (s : Shared) (u : Value), BindsTo s fd ⟨[u], []⟩ [(x, u)]) ∧
        (∀ (H : Hp) (a : Addr) (ns : List Int), ns.length ≤ n → Only H → SqL K H a (ns.map V.int) → sp [.ref a] H (fun v _ => v = .bl true) fun _ _ _ => False) ∧
        ∀ base : Heap, K.In base → base.Ns mainGlobals mg → FnG l.prog w K mg base CX k fa fd [x] sp)
    (hCX : ∀ (H : Hp) (s : Shared) (e : Value) (s' : Shared), CX [] H s (fun _ _ _ => False) e s' → False) :
    PySem.W.WalkO q loose XP YP l.row.toRowW d [] (fun f vs => PySem.call f vs) := by
  refine Att.attach_call hn hdf fun w _ s₁ mg _ fa o pm cd doc a vs ns G Y ho hd hcd hmg hobj hints hlen hg => ?_
  obtain ⟨K, fd, sp, KX, hb, hsp, hF⟩ := F w mg fa _ Y G.T.g hmg
  exact callG KX G.T.g G.T.b G.T.builtins G.T.nolimit hg hobj hints (Nat.le_trans hlen hn2) hr hF hb (fun H hO hS => hsp H a ns hlen hO hS) (fun H e s' => hCX H s₁ e s')
end
end Tp

/-! # Data: None, bools, ints, texts, lists, tuples, dicts with int and text keys -/
namespace Tp
open PySem PySem.Spec PyProof.Rows L2
def kD : L2.Key → PyData
  | .inl i => .int i
  | .inr x => .str x
mutual
inductive Dt (K : PySem.W.Frag) (H : Hp) : V → PyData → Prop
  | non : Dt K H .non .none
  | bl (b : Bool) : Dt K H (.bl b) (.bool b)
  | int (i : Int) : Dt K H (.int i) (.int i)
  | str (x : Str) : Dt K H (.str x) (.str x)
  | lst {a : Addr} {xs : List V} {ds : List PyData} : SqL K H a xs → DtAll K H xs ds → Dt K H (.ref a) (.list ds)
  | tup {a : Addr} {xs : List V} {ds : List PyData} : SqT K H a xs → DtAll K H xs ds → Dt K H (.ref a) (.tuple ds)
  | dic {a : Addr} {kvs : List (L2.Key × V)} {ds : List (PyData × PyData)} : Rd H a (.dK kvs) → DtKv K H kvs ds → Dt K H (.ref a) (.dict ds)
inductive DtAll (K : PySem.W.Frag) (H : Hp) : List V → List PyData → Prop
  | nil : DtAll K H [] []
  | cons {v : V} {vs : List V} {d : PyData} {ds : List PyData} : Dt K H v d → DtAll K H vs ds → DtAll K H (v :: vs) (d :: ds)
inductive DtKv (K : PySem.W.Frag) (H : Hp) : List (L2.Key × V) → List (PyData × PyData) → Prop
  | nil : DtKv K H [] []
  | cons {k : L2.Key} {v : V} {vs : List (L2.Key × V)} {d : PyData} {ds : List (PyData × PyData)} : Dt K H v d → DtKv K H vs ds → DtKv K H ((k, v) :: vs) ((kD k, d) :: ds)
end
theorem _root_.L2.Same.rdd {H H' : Hp} (e : Same H H') {a : Addr} {u : HO} (h : Rd H a u) : Rd H' a u := h.imp (e _ _) fun ⟨o, q⟩ => ⟨o, e _ _ q⟩
theorem _root_.L2.Same.sqLd {K : PySem.W.Frag} {H H' : Hp} (e : Same H H') {a : Addr} {xs : List V} (h : SqL K H a xs) : SqL K H' a xs := h.imp e.rdd id
theorem _root_.L2.Same.sqTd {K : PySem.W.Frag} {H H' : Hp} (e : Same H H') {a : Addr} {xs : List V} (h : SqT K H a xs) : SqT K H' a xs := h.imp e.rdd id
section
variable {K : PySem.W.Frag} {H H' : Hp}
mutual
theorem Dt.mono (e : Same H H') : ∀ {d : PyData} {v : V}, Dt K H v d → Dt K H' v d
  | .none, _, h => by
    cases h
    exact .non
  | .bool b, _, h => by
    cases h
    exact .bl b
  | .int i, _, h => by
    cases h
    exact .int i
  | .str x, _, h => by
    cases h
    exact .str x
  | .list ds, _, h => by
    cases h with
    | lst hs ha => exact .lst (e.sqLd hs) (DtAll.mono e ha)
  | .tuple ds, _, h => by
    cases h with
    | tup hs ha => exact .tup (e.sqTd hs) (DtAll.mono e ha)
  | .dict ds, _, h => by
    cases h with
    | dic hs ha => exact .dic (e.rdd hs) (DtKv.mono e ha)
theorem DtAll.mono (e : Same H H') : ∀ {ds : List PyData} {vs : List V}, DtAll K H vs ds → DtAll K H' vs ds
  | [], _, h => by
    cases h
    exact .nil
  | d :: ds, _, h => by
    cases h with
    | cons h1 h2 => exact .cons (Dt.mono e h1) (DtAll.mono e h2)
theorem DtKv.mono (e : Same H H') : ∀ {ds : List (PyData × PyData)} {vs : List (L2.Key × V)}, DtKv K H vs ds → DtKv K H' vs ds
  | [], _, h => by
    cases h
    exact .nil
  | (_, d) :: ds, _, h => by
    cases h with
    | cons h1 h2 => exact .cons (Dt.mono e h1) (DtKv.mono e h2)
end
theorem DtAll.length : ∀ {ds : List PyData} {vs : List V}, DtAll K H vs ds → vs.length = ds.length
  | [], _, h => by
    cases h
    rfl
  | d :: ds, _, h => by
    cases h with
    | cons h1 h2 => rw [List.length_cons, List.length_cons, DtAll.length h2]
theorem DtAll.at : ∀ {ds : List PyData} {vs : List V} {i : Nat} {v : V}, DtAll K H vs ds → vs[i]? = some v → ∃ d, ds[i]? = some d ∧ Dt K H v d
  | [], _, i, v, h, e => by
    cases h
    cases e
  | d :: ds, _, i, v, h, e => by
    cases h with
    | cons h1 h2 =>
      cases i with
      | zero =>
        cases e
        exact ⟨d, rfl, h1⟩
      | succ i => exact DtAll.at (i := i) h2 e
theorem DtAll.back : ∀ {ds : List PyData} {vs : List V} {i : Nat} {d : PyData}, DtAll K H vs ds → ds[i]? = some d → ∃ v, vs[i]? = some v ∧ Dt K H v d
  | [], _, i, v, h, e => by cases e
  | d :: ds, _, i, v, h, e => by
    cases h with
    | cons h1 h2 =>
      cases i with
      | zero =>
        cases e
        exact ⟨_, rfl, h1⟩
      | succ i => exact DtAll.back (i := i) h2 e
theorem DtAll.append : ∀ {ds es : List PyData} {vs us : List V}, DtAll K H vs ds → DtAll K H us es → DtAll K H (vs ++ us) (ds ++ es)
  | [], _, _, _, h, k => by
    cases h
    exact k
  | d :: ds, _, _, _, h, k => by
    cases h with
    | cons h1 h2 => exact .cons h1 (DtAll.append h2 k)
theorem DtAll.snoc {ds : List PyData} {vs : List V} {d : PyData} {v : V} (h : DtAll K H vs ds) (k : Dt K H v d) : DtAll K H (vs ++ [v]) (ds ++ [d]) := h.append (.cons k .nil)
end
/-- the module table's place is taken by a dict of the interpreter -/
def SysK (K : PySem.W.Frag) : Prop := ∃ o, K.lookup sysModules = some o ∧ o.cls = .type "dict"
def sysB (K : PySem.W.Frag) : Bool := match K.lookup sysModules with
  | some o => o.cls == .type "dict"
  | none => false
theorem sysB_ok {K : PySem.W.Frag} (h : sysB K = true) : SysK K := by
  unfold sysB at h
  cases e : K.lookup sysModules with
  | none =>
    rw [e] at h
    cases h
  | some o =>
    rw [e] at h
    exact ⟨o, e, eq_of_beq h⟩
section
variable {X : Cx} {pins : List (Addr × Obj)} {σ : L2.St} {H : Hp} {s : Shared}
theorem key_reads {k : L2.Key} {v : Value} {h : Heap} (e : keyIs k v = true) : Reads h v (kD k) [] := by
  rcases keyIs_shape e with ⟨i, t, rfl, rfl⟩ | ⟨x, t, rfl, rfl⟩
  · exact Reads.int i t
  · exact Reads.str x t
theorem keys_read {P : Program} {w : World} {h : Heap} : ∀ {es : List DictEntry} {kvs : List (L2.Key × Value)}, Pairs (mixKind P w) es kvs → ReadsAll h (es.map (·.key)) (kvs.map fun q => kD q.1) []
  | _, _, .nil => .nil
  | _, _, .cons h1 _ h3 => .cons (bs := []) (as := []) (key_reads h1) (keys_read h3)
theorem vals_of_pairs {P : Program} {w : World} : ∀ {es : List DictEntry} {kvs : List (L2.Key × Value)}, Pairs (mixKind P w) es kvs → es.map (·.val) = kvs.map (·.2)
  | _, _, .nil => rfl
  | _, _, .cons _ h2 h3 => by
    rw [List.map_cons, List.map_cons, h2, vals_of_pairs h3]
theorem kv_split {K : PySem.W.Frag} {H : Hp} : ∀ {ds : List (PyData × PyData)} {kvs : List (L2.Key × V)} {vs : List (L2.Key × Value)}, DtKv K H kvs ds → KV kvs vs →
    ds.map (·.1) = vs.map (fun q => kD q.1) ∧ DtAll K H (kvs.map (·.2)) (ds.map (·.2)) ∧ Vals (kvs.map (·.2)) (vs.map (·.2))
  | [], _, _, h, r => by
    cases h
    cases r
    exact ⟨rfl, .nil, .nil⟩
  | (_, d) :: ds, _, _, h, r => by
    cases h with
    | cons h1 h2 =>
      cases r with
      | cons q1 q2 =>
        obtain ⟨a, b, c⟩ := kv_split h2 q2
        refine ⟨?_, .cons h1 b, .cons q1.2 c⟩
        rw [List.map_cons, List.map_cons, a]
        exact congrArg (fun z => kD z :: _) q1.1
mutual
theorem Dt.reads (hs : SysK X.K) (I : Inv X pins σ H s) : ∀ (d : PyData) (v : V) (u : Value), Dt X.K H v d → RelV v u → ∃ as, Reads s.heap u d as ∧ sysModules ∉ as
  | .none, _, _, h, r => by
    cases h
    cases r
    exact ⟨_, Reads.none, List.not_mem_nil⟩
  | .bool b, _, _, h, r => by
    cases h
    cases r
    exact ⟨_, Reads.bool b, List.not_mem_nil⟩
  | .int i, _, _, h, r => by
    cases h
    obtain ⟨t, rfl⟩ := r
    exact ⟨_, Reads.int i t, List.not_mem_nil⟩
  | .str x, _, _, h, r => by
    cases h
    obtain ⟨t, rfl⟩ := r
    exact ⟨_, Reads.str x t, List.not_mem_nil⟩
  | .list ds, _, _, h, r => by
    cases h with
    | @lst a _ _ hq ha =>
      cases r
      obtain ⟨its, rv, ⟨o, n, ho, hc, _, hd⟩, _⟩ := I.list hq
      obtain ⟨as, hr, na⟩ := DtAll.reads hs I ds _ its ha rv
      refine ⟨_, Reads.list ho hc hd hr, fun z => ?_⟩
      rcases List.mem_cons.mp z with z | z
      · obtain ⟨o', e, c⟩ := hs
        have q := I.kIn _ _ e
        rw [z, ho] at q
        cases q
        rw [hc] at c
        exact absurd (Value.type.inj c) (by decide)
      · exact na z
  | .tuple ds, _, _, h, r => by
    cases h with
    | tup hq ha =>
      cases r
      obtain ⟨its, rv, ⟨o, ho, hc, n, hd⟩, _⟩ := I.tuple hq
      obtain ⟨as, hr, na⟩ := DtAll.reads hs I ds _ its ha rv
      exact ⟨_, Reads.tuple ho hc hd hr, na⟩
  | .dict ds, _, _, h, r => by
    cases h with
    | @dic a kvs _ hq ha =>
      cases r
      obtain ⟨_, ne, vs, kv, o, es, ep, ho, hx, hd, _, hp, _⟩ := (show ObjOk X.prog X.w H s.heap a (.dK kvs) from hq.ok I.hok)
      obtain ⟨e1, e2, e3⟩ := kv_split ha kv
      obtain ⟨bs, hr, nb⟩ := DtKv.reads hs I ds _ _ e2 e3
      refine ⟨_, Reads.dict ho hx.1 hd (by rw [e1]; exact keys_read hp) (by rw [vals_of_pairs hp]; exact hr), fun z => ?_⟩
      rcases List.mem_append.mp z with z | z
      · have e : sysModules = a := by simpa using z
        rw [e] at ne
        simp at ne
      · exact nb z
theorem DtAll.reads (hs : SysK X.K) (I : Inv X pins σ H s) : ∀ (ds : List PyData) (vs : List V) (us : List Value), DtAll X.K H vs ds → Vals vs us → ∃ as, ReadsAll s.heap us ds as ∧ sysModules ∉ as
  | [], _, _, h, r => by
    cases h
    cases r
    exact ⟨_, ReadsAll.nil, List.not_mem_nil⟩
  | d :: ds, _, _, h, r => by
    cases h with
    | cons h1 h2 =>
      cases r with
      | cons r1 r2 =>
        obtain ⟨as, q1, n1⟩ := Dt.reads hs I d _ _ h1 r1
        obtain ⟨bs, q2, n2⟩ := DtAll.reads hs I ds _ _ h2 r2
        exact ⟨_, ReadsAll.cons q1 q2, fun z => (List.mem_append.mp z).elim n1 n2⟩
theorem DtKv.reads (hs : SysK X.K) (I : Inv X pins σ H s) : ∀ (ds : List (PyData × PyData)) (vs : List V) (us : List Value), DtAll X.K H vs (ds.map (·.2)) → Vals vs us → ∃ as, ReadsAll s.heap us (ds.map (·.2)) as ∧ sysModules ∉ as
  | [], _, _, h, r => by
    cases h
    cases r
    exact ⟨_, ReadsAll.nil, List.not_mem_nil⟩
  | (_, d) :: ds, _, _, h, r => by
    cases h with
    | cons h1 h2 =>
      cases r with
      | cons r1 r2 =>
        obtain ⟨as, q1, n1⟩ := Dt.reads hs I d _ _ h1 r1
        obtain ⟨bs, q2, n2⟩ := DtKv.reads hs I ds _ _ h2 r2
        exact ⟨_, ReadsAll.cons q1 q2, fun z => (List.mem_append.mp z).elim n1 n2⟩
end
end
/-! ### repr -/
section
variable {X : Cx}
def rRepr (K : PySem.W.Frag) : List V → Hp → VK → Prop := fun xs H Q => ∃ v d, xs = [v] ∧ Dt K H v d ∧ d.showable = true ∧ d.depth ≤ 60 ∧ d.shown.length ≤ sizeLine ∧ Q (.str d.shown) H
theorem cr_repr (hs : SysK X.K) (gq : Quiet X.A) (hu : X.A.units + 64 < cLine) : CallR X (.builtin "repr") (rRepr X.K) := by
  intro pins s σ H xs us Q I r h
  obtain ⟨v, d, rfl, hd, sh, dp, sz, q⟩ := h
  cases r with
  | cons rv rn =>
    rename_i u us'
    cases rn
    obtain ⟨as, hr, na⟩ := Dt.reads hs I d v u hd rv
    have fin : ∀ (h' : Heap) (t tk : Nat), (∀ b o, s.heap.get? b = some o → h'.get? b = some o) → EP X pins σ Q (.str d.shown t) { s with heap := h', toks := tk } := fun h' t tk k =>
      ⟨.str d.shown, H, I.kept (t' := tk) k, ⟨t, rfl⟩, q⟩
    cases hr with
    | none =>
      have f := fin s.heap s.toks (s.toks + 1) fun _ _ z => z
      simp only [PyData.shown] at f
      exact PySem.P.repr_of_none f
    | bool b =>
      have f := fin s.heap s.toks (s.toks + 1) fun _ _ z => z
      simp only [PyData.shown] at f
      exact PySem.P.repr_of_bool f
    | int i t =>
      have f := fin s.heap s.toks (s.toks + 1) fun _ _ z => z
      simp only [PyData.shown] at f
      exact PySem.P.repr_of_int (by simpa only [PyData.showable, decide_eq_true_eq] using sh) f
    | str x t =>
      have f := fin s.heap s.toks (s.toks + 1) fun _ _ z => z
      simp only [PyData.shown] at f sz
      exact PySem.P.repr_of_str f sz
    | list h1 h2 h3 h4 => exact repr_of_reads' (Reads.list h1 h2 h3 h4) sh (fun _ => na) gq (by omega) (fun _ _ z => z) fin sz
    | tuple h1 h2 h3 h4 => exact repr_of_reads' (Reads.tuple h1 h2 h3 h4) sh (fun _ => na) gq (by omega) (fun _ _ z => z) fin sz
    | dict h1 h2 h3 h4 h5 => exact repr_of_reads' (Reads.dict h1 h2 h3 h4 h5) sh (fun _ => na) gq (by omega) (fun _ _ z => z) fin sz
end
end Tp

/-! # == of one value with itself; errors of own classes as values -/
namespace Tp
open PySem PySem.Spec PyProof.Rows L2
section
variable {X : Cx} {pins : List (Addr × Obj)} {σ : L2.St} {H : Hp} {s : Shared}
theorem same_at {A : Around} {K : PySem.W.Frag} {d : PyData} {v : V} {u u' : Value} (h : Dt K H v d) (r : RelV v u) (r' : RelV v u') : SeqAt.EqAt A s u u' true := by
  cases h with
  | lst _ _ =>
    cases r
    cases r'
    exact SeqAt.EqAt.same _
  | tup _ _ =>
    cases r
    cases r'
    exact SeqAt.EqAt.same _
  | dic _ _ =>
    cases r
    cases r'
    exact SeqAt.EqAt.same _
  | _ => exact eqAt_same r r' rfl
theorem all_same {A : Around} {K : PySem.W.Frag} : ∀ {ds : List PyData} {vs : List V} {us us' : List Value}, DtAll K H vs ds → Vals vs us → Vals vs us' → ∀ j (h1 : j < us.length) (h2 : j < us'.length), SeqAt.EqAt A s us[j] us'[j] true
  | [], _, _, _, h, r, r', j, h1, _ => by
    cases h
    cases r
    exact absurd h1 (Nat.not_lt_zero j)
  | d :: ds, _, _, _, h, r, r', j, h1, h2 => by
    cases h with
    | cons q1 q2 =>
      cases r with
      | cons a1 a2 =>
        cases r' with
        | cons b1 b2 =>
          cases j with
          | zero => exact same_at q1 a1 b1
          | succ j => exact all_same q2 a2 b2 j (Nat.lt_of_succ_lt_succ h1) (Nat.lt_of_succ_lt_succ h2)
theorem all_range1 (n : Nat) : ((List.range n).all fun _ => true) = true := List.all_eq_true.mpr fun _ _ => rfl
/-- a value beside itself -/
def rEqS (K : PySem.W.Frag) : R2 := fun x y H Q => x = y ∧ (∃ d, Dt K H x d) ∧ Q (.bl true) H
theorem dict_same {P : Program} {w : World} {A : Around} {vb : List (L2.Key × Value)} {ls : List (L2.Key × V)} (rb : KV ls vb) (nd : (ls.map (·.1)).Nodup) (dt : ∀ p ∈ ls, ∃ d, Dt X.K H p.2 d) :
    ∀ {ks : List (L2.Key × V)} {va : List (L2.Key × Value)}, KV ks va → (∀ p ∈ ks, p ∈ ls) → PySem.W.KeqHitsP P w A s vb va true
  | [], _, ra, _ => by
    cases ra
    exact .nil
  | p :: ps, _, ra, hp => by
    cases ra with
    | @cons _ q _ qs h t =>
      obtain ⟨key, v⟩ := q
      obtain ⟨h1, h2⟩ := h
      have m := hp p List.mem_cons_self
      have e : valV ls p.1 = some p.2 := val_nodup nd p m
      have rr : RelO (some p.2) (valueAt vb p.1) := by
        rw [← e]
        exact rb.val p.1
      obtain ⟨y, hy, ry⟩ := rr.some_of
      obtain ⟨d, hd⟩ := dt p m
      rw [show p.1 = key from h1] at hy
      show PySem.W.KeqHitsP P w A s vb ((key, v) :: qs) (true && true)
      exact .hit hy (same_at hd h2 ry).eqP (dict_same rb nd dt t fun p' z => hp p' (List.mem_cons_of_mem _ z))
theorem kv_dt {K : PySem.W.Frag} {H : Hp} : ∀ {ds : List (PyData × PyData)} {kvs : List (L2.Key × V)}, DtKv K H kvs ds → ∀ p ∈ kvs, ∃ d, Dt K H p.2 d
  | [], _, h, p, m => by
    cases h
    cases m
  | (_, d) :: ds, _, h, p, m => by
    cases h with
    | cons h1 h2 =>
      rcases List.mem_cons.mp m with z | z
      · rw [z]
        exact ⟨_, h1⟩
      · exact kv_dt h2 p z
theorem kv_keys : ∀ {kvs : List (L2.Key × V)} {vs : List (L2.Key × Value)}, KV kvs vs → kvs.map (·.1) = vs.map (·.1)
  | _, _, .nil => rfl
  | _, _, .cons h t => by
    rw [List.map_cons, List.map_cons, kv_keys t, h.1]
theorem op_eqS (hu : X.A.units + 64 < cLine) : OpR X (compareOp .Eq) (rEqS X.K) := by
  intro pins s σ H x y v u Q I rx ry h
  obtain ⟨rfl, ⟨d, hd⟩, q⟩ := h
  have fin : EP X pins σ Q (.bool true) s := ⟨.bl true, H, I, rfl, q⟩
  have hu1 : X.A.units < cLine := by omega
  have sc : ∀ z : V, x = z → scal z z = true → wpAny (model X.prog X.w) X.A (compareOp .Eq v u) (EP X pins σ Q) X.xe s := by
    rintro z rfl hz
    refine op_eq pins s σ H x x v u Q I rx ry ⟨hz, ?_⟩
    rw [decide_eq_true rfl]
    exact q
  cases hd with
  | non => exact sc _ rfl rfl
  | bl b => exact sc _ rfl rfl
  | int i => exact sc _ rfl rfl
  | str z => exact sc _ rfl rfl
  | @lst a xs ds hq ha =>
    cases rx
    cases ry
    obtain ⟨its, rv, p, _⟩ := I.list hq
    refine SeqAt.RcAt.lists (e := fun _ => true) p.isList p.isList rfl hu1 (fun j h1 h2 => ?_) X.prog X.w X.xe _ ?_
    · have k := all_same (A := X.A.in1) (s := s) ha rv rv j (by simpa using h1) (by simpa using h2)
      simpa using k
    · rw [all_range1]
      exact fin
  | @tup a xs ds hq ha =>
    cases rx
    cases ry
    obtain ⟨its, rv, p, _⟩ := I.tuple hq
    refine SeqAt.RcAt.tuples (e := fun _ => true) p p hu1 (fun j h1 h2 => ?_) X.prog X.w X.xe _ ?_
    · have k := all_same (A := X.A.in1) (s := s) ha rv rv j (by simpa using h1) (by simpa using h2)
      simpa using k
    · rw [all_range1, Bool.true_and, beq_self_eq_true]
      exact fin
  | @dic a kvs ds hq ha =>
    cases rx
    cases ry
    obtain ⟨_, ne, vs, kv, dv⟩ := (show ObjOk X.prog X.w H s.heap a (.dK kvs) from hq.ok I.hok)
    obtain ⟨_, _, _, _, _, _, _, _, nd⟩ := id dv
    have nk : (kvs.map (·.1)).Nodup := by
      rw [kv_keys kv]
      exact nd
    refine PySem.W.rcP_dicts (knd := mixKind X.prog X.w) (r := true) ne ne dv dv hu1 (fun _ => dict_same (X := X) (H := H) kv nk (kv_dt ha) kv fun _ z => z) X.xe _ ?_
    rw [beq_self_eq_true, Bool.true_and]
    exact fin
end
end Tp

/-! # Errors of own classes, held as values: made, a field read, isinstance asked -/
namespace Tp
open PySem PySem.Spec PyProof.Rows L2
/-- what the written part says of such a class, beyond OexC -/
structure ErrC (K : PySem.W.Frag) (C : Addr) : Prop where
  ox : OexC K C
  ga : PySem.W.findIn K (.ref C) "__getattribute__" = some (some (.builtin "BaseException.__getattribute__"))
  gg : PySem.W.findIn K (.ref C) "__getattr__" = some none
  hd : PySem.W.hasDictIn K C = true
  ac : PySem.W.findIn K (.ref C) "__class__" = some (some (.builtin "object.__class__"))
  gc : PySem.W.specialIn K (.builtin "object.__class__") "__get__" = some (some (.builtin "getset_descriptor.__get__"))
  tc : PySem.W.takesIn K (.builtin "object.__class__") = some true
  mo : PySem.W.mroIn K C (.type "object") = some true
  nv : PySem.W.findIn K (.ref C) "value" = some none
/-- at e an error of the class at C whose own dict, at d, holds the fields fs -/
def ErrAt (H : Hp) (e C d : Addr) (fs : List (Str × V)) : Prop := H e = some (exo e C (some d)) ∧ H d = some (exd d fs)
theorem ErrAt.mono {H H' : Hp} {e C d : Addr} {fs : List (Str × V)} (z : Same H H') (h : ErrAt H e C d fs) : ErrAt H' e C d fs := ⟨z _ _ h.1, z _ _ h.2⟩
section
variable {X : Cx} {pins : List (Addr × Obj)} {σ : L2.St} {H : Hp} {s : Shared} {e C d : Addr} {fs : List (Str × V)}
theorem ErrAt.inst (I : Inv X pins σ H s) (h : ErrAt H e C d fs) : ∃ (oe od : Obj) (mA : Str → Option Value), PySem.W.InstAt s.heap e oe C (some od) ∧ (∀ f, PySem.W.lookIn f od = some (mA f)) ∧ ∀ f, RelO (fs.lookup f) (mA f) := by
  obtain ⟨t1, ho⟩ := exo_at I.hok h.1
  obtain ⟨mA, hns, rel⟩ := exd_at I.hok h.2
  obtain ⟨od, hd, hl⟩ := lookIn_ns hns
  exact ⟨_, od, mA, ⟨ho, rfl, rfl, hd⟩, hl, rel⟩
end
/-- e.f -/
def tErrF (K : PySem.W.Frag) (f : Str) (te : TE) : TE := fun σ H Q => te σ H fun x H1 => ∃ (e C d : Addr) (fs : List (Str × V)) (v : V), x = .ref e ∧ ErrC K C ∧ PySem.W.findIn K (.ref C) f = some none ∧ ErrAt H1 e C d fs ∧ fs.lookup f = some v ∧ Q v H1
/-- isinstance(e, c) -/
def rIsX (K : PySem.W.Frag) : List V → Hp → VK → Prop := fun xs H Q => ∃ (e C d : Addr) (fs : List (Str × V)) (c : V) (cv : Value) (b : Bool), xs = [.ref e, c] ∧ ErrC K C ∧ ErrAt H e C d fs ∧ (∀ u, RelV c u → u = cv) ∧ PySem.W.kitOne K (.ref C) cv = some b ∧ Q (.bl b) H
/-- C(a, ..), the error kept as a value; sp: what __init__ promises -/
def tErrM (C : Addr) (sp : Sp) (dvs : List V) (ta : TA) : TE := fun σ H Q => ta σ H fun vs H1 => vs.length ≤ 1000 ∧ ∀ e, H1 e = none → sp (.ref e :: (vs ++ dvs)) (upd H1 e (exo e C none)) (fun v H2 => v = .non ∧ Q (.ref e) H2) (fun _ _ _ => False)
section
variable {X : Cx} {o e : Expr} {es : List Expr} {te : TE} {ta : TA} {f : Str} {p pos : Pos}
theorem pe_errF (he : PE X e te) (hb : attributeBase e f X.env (eval e X.env) = eval e X.env := by rfl) : PE X (.Attribute e f pos) (tErrF X.K f te) := by
  refine ⟨fun pins s σ H Q I h => attr_of hb (thn (he.run pins s σ H _ I h) fun u s1 hh => ?_)⟩
  obtain ⟨x, H1, I1, rx, a, C, d, fs, v, ex, T, nf, at_, lk, q⟩ := hh
  subst ex
  cases (show u = Value.ref a from rx)
  obtain ⟨oe, od, mA, J, hl, rel⟩ := at_.inst I1
  obtain ⟨w, hw, rw'⟩ := RelO.some_of (v := v) (o := mA f) (by
    rw [← lk]
    exact rel f)
  exact HandSPX.exc_get I1.kIn J T.ga T.gg T.ox.exC (PySem.W.findObj_own T.hd nf rfl (by rw [hl, hw])) (handed_of rw') ⟨v, H1, I1.tok _, rw', q⟩
theorem cr_isX : CallR X (.builtin "isinstance") (rIsX X.K) := by
  intro pins s σ H xs us Q I r h
  obtain ⟨a, C, d, fs, c, cv, b, rfl, T, at_, hc, hk, q⟩ := h
  cases r with
  | cons rx rr =>
    cases rr with
    | cons rt rr =>
      cases rr
      cases rx
      have ec := hc _ rt
      subst ec
      obtain ⟨oe, od, mA, J, _, _⟩ := at_.inst I
      have cl : (PySem.W.clsIn X.K C).isSome = true := by
        obtain ⟨cd, z, _⟩ := PySem.W.any_some T.hd
        rw [z]
        rfl
      exact PySem.W.kia_one (PySem.W.kitx_exc cl T.ga T.gg T.ox.exC T.ac T.gc T.tc T.mo) I.kIn J hk (fun z => nomatch z) fun tk => ⟨.bl b, H, I.kept (t' := tk) fun _ _ z => z, rfl, q⟩
theorem pe_errM {CX : CXT} {x : Str} {C fI : Addr} {k : Nat} {fd : FuncData} {ps : List Str} {sp : Sp} {ds : List Value} {dvs : List V} (T : OexC X.K C)
    (iC : PySem.W.findIn X.K (.ref C) "__init__" = some (some (.ref fI))) (tI : PySem.W.typeIn X.K (.ref fI) = some (.type "function"))
    (GI : FnG X.prog X.w X.K X.mg X.base CX k fI fd ps sp) (hr : Room (k + 1) X.A) (gq : Quiet X.A) (hb : Binds X.K fd ps ds) (hd : Vals dvs ds) (hx : Passes CX X (fun _ _ _ => False))
    (hg : Gl X x) (hm : X.mg x = some (.ref C)) (ha : PA X (e :: es) ta) (hdb : (x == ("__debug__" : Str)) = false := by decide)
    (he : starEach (e :: es) X.env = (false, eval e X.env) :: starEach es X.env := by rfl) (hpl : (backTo pos (starEach es X.env)).any (·.1) = false := by rfl) :
    PE X (.Call (.Name x p) (e :: es) [] pos) (tErrM C sp dvs ta) := by
  refine ⟨fun pins s σ H Q I h => ?_⟩
  obtain ⟨nm, q, N, bs, bm, sn, sub, ab, col, dd, k0, k1, k2, k3, k5, hC, hbm⟩ := T.cls
  refine wpAny_Call_Name_kw (ld_glob I hg hm ?_ hdb)
  refine PySem.W.callWith_K (h₀ := X.base) I.ok.mod.kin T.kC (thn (ha.run pos pins s σ H _ I h) fun us s1 ⟨vs, H1, I1, r1, hz, q1⟩ => ⟨I1.kIn, ?_⟩) he hpl
  show wpAny _ _ (call (.ref C) us) _ _ _
  obtain ⟨hp, g, dr, tk, os⟩ := s1
  let a : Addr := hp.objs.size + 1
  have big : hp.objs.size ≤ a := Nat.le_succ _
  have hq := q1 a (I1.hok.fresh big)
  let h2 : Heap := (hp.push (PySem.W.kdv_tup us)).push (PySem.HandSPX.excO C hp.objs.size)
  have old : ∀ b o, hp.get? b = some o → h2.get? b = some o := fun b o z => Heap.get?_push_of_some _ (Heap.get?_push_of_some _ z)
  have at_ : h2.get? a = some (PySem.HandSPX.excO C hp.objs.size) := by
    show ((hp.push (PySem.W.kdv_tup us)).push (PySem.HandSPX.excO C hp.objs.size)).get? (hp.objs.size + 1) = _
    heap_get
  have I2 : Inv X pins σ (upd H1 a (exo a C none)) ⟨h2, g, dr, tk, os⟩ := I1.laid (t' := tk) (a := a) (o := exo a C none) (h' := h2) old big (exo_ok at_)
  have r2 : Vals (V.ref a :: (vs ++ dvs)) (Value.ref a :: (us ++ ds)) := .cons rfl (r1.append hd)
  have hl : (Value.ref a :: us ++ ds).length = ps.length := r2.length.symm.trans (GI.len _ _ _ _ hq)
  have few : us.length ≤ sizeLine := by
    rw [← Paired.length r1, sizeLine_eq]
    omega
  have run := GI.run _ X.stack _ _ ⟨Value.ref a :: us, []⟩ (Value.ref a :: (us ++ ds)) _ _ (fun _ _ _ => False) (hr.make C us []) (quiet_make gq) (I2.env0.make C us []) (hb _ (Value.ref a :: us) I2.kIn hl) r2 hq
  refine wpAny_call (PySem.HandSPX.call_own PySem.F.excBase_ValueError (fun Y => PySem.HandSPX.refsVE_contains Y bm hbm) (I1.kIn _ _ hC) (PySem.W.looks_findIn I1.kIn iC) (fun self => PySem.W.bind_fn I1.kIn self tI) few
    (codeAny_mono run fun res s' out => ?_))
  rcases res with er | fl
  · exact hx pins σ _ _ er s' I2 out
  · cases fl
    case ret u =>
      obtain ⟨v, H', I3, rv, ev, q3⟩ := I2.after out
      subst ev
      exact ⟨rv, ⟨V.ref a, H', I3, rfl, q3⟩⟩
    all_goals exact False.elim out
end
/-- __init__ of the base class: it stores the value -/
def spErr (K : PySem.W.Frag) : Sp := fun vs H Q _ => ∃ (e C : Addr) (v : V), vs = [.ref e, v] ∧ OexC K C ∧ PySem.W.findIn K (.ref C) "value" = some none ∧ H e = some (exo e C none) ∧
  ∀ (d : Addr) (H' : Hp), H d = none → Same (fun b => if b = e then none else H b) H' → ErrAt H' e C d [("value", v)] → Q .non H'
end Tp

/-! # Data with objects; what is shared (G) and what is owned (M) of a heap; steps -/
namespace Tp
open PySem PySem.Spec PyProof.Rows L2
inductive D where
  | non
  | bl (b : Bool)
  | int (i : Int)
  | str (x : Str)
  | lst (xs : List D)
  | tup (xs : List D)
  | dic (kvs : List (L2.Key × D))
  | ins (C : Addr) (fs : List (Str × D))
  | err (C : Addr) (v : D)
  /-- the very value v -/
  | sam (v : V) (d : D)
mutual
inductive DV (K : PySem.W.Frag) (G : Hp) : V → D → Prop
  | non : DV K G .non .non
  | bl (b : Bool) : DV K G (.bl b) (.bl b)
  | int (i : Int) : DV K G (.int i) (.int i)
  | str (x : Str) : DV K G (.str x) (.str x)
  | lst {a : Addr} {xs : List V} {ds : List D} : G a = some (.lst xs) → DVs K G xs ds → DV K G (.ref a) (.lst ds)
  | tup {a : Addr} {xs : List V} {ds : List D} : SqT K G a xs → DVs K G xs ds → DV K G (.ref a) (.tup ds)
  | dic {a : Addr} {kvs : List (L2.Key × V)} {ds : List (L2.Key × D)} : Rd G a (.dK kvs) → DVk K G kvs ds → DV K G (.ref a) (.dic ds)
  | ins {a C dx : Addr} {fs : List (Str × V)} {ds : List (Str × D)} : G a = some (.ins C dx fs) → DVf K G fs ds → DV K G (.ref a) (.ins C ds)
  | err {a C dx : Addr} {v : V} {d : D} : ErrAt G a C dx [("value", v)] → DV K G v d → DV K G (.ref a) (.err C d)
  | sam {v : V} {d : D} : DV K G v d → DV K G v (.sam v d)
inductive DVs (K : PySem.W.Frag) (G : Hp) : List V → List D → Prop
  | nil : DVs K G [] []
  | cons {v : V} {vs : List V} {d : D} {ds : List D} : DV K G v d → DVs K G vs ds → DVs K G (v :: vs) (d :: ds)
inductive DVk (K : PySem.W.Frag) (G : Hp) : List (L2.Key × V) → List (L2.Key × D) → Prop
  | nil : DVk K G [] []
  | cons {k : L2.Key} {v : V} {vs : List (L2.Key × V)} {d : D} {ds : List (L2.Key × D)} : DV K G v d → DVk K G vs ds → DVk K G ((k, v) :: vs) ((k, d) :: ds)
inductive DVf (K : PySem.W.Frag) (G : Hp) : List (Str × V) → List (Str × D) → Prop
  | nil : DVf K G [] []
  | cons {k : Str} {v : V} {vs : List (Str × V)} {d : D} {ds : List (Str × D)} : DV K G v d → DVf K G vs ds → DVf K G ((k, v) :: vs) ((k, d) :: ds)
end
section
variable {K : PySem.W.Frag} {G G' : Hp}
mutual
theorem DV.mono (e : Same G G') : ∀ {v : V} {d : D}, DV K G v d → DV K G' v d
  | _, _, .non => .non
  | _, _, .bl b => .bl b
  | _, _, .int i => .int i
  | _, _, .str x => .str x
  | _, _, .lst h k => .lst (e _ _ h) (DVs.mono e k)
  | _, _, .tup h k => .tup (e.sqTd h) (DVs.mono e k)
  | _, _, .dic h k => .dic (e.rdd h) (DVk.mono e k)
  | _, _, .ins h k => .ins (e _ _ h) (DVf.mono e k)
  | _, _, .err h k => .err (h.mono e) (DV.mono e k)
  | _, _, .sam h => .sam (DV.mono e h)
theorem DVs.mono (e : Same G G') : ∀ {v : List V} {d : List D}, DVs K G v d → DVs K G' v d
  | _, _, .nil => .nil
  | _, _, .cons h k => .cons (DV.mono e h) (DVs.mono e k)
theorem DVk.mono (e : Same G G') : ∀ {v : List (L2.Key × V)} {d : List (L2.Key × D)}, DVk K G v d → DVk K G' v d
  | _, _, .nil => .nil
  | _, _, .cons h k => .cons (DV.mono e h) (DVk.mono e k)
theorem DVf.mono (e : Same G G') : ∀ {v : List (Str × V)} {d : List (Str × D)}, DVf K G v d → DVf K G' v d
  | _, _, .nil => .nil
  | _, _, .cons h k => .cons (DV.mono e h) (DVf.mono e k)
end
theorem DVs.length : ∀ {vs : List V} {ds : List D}, DVs K G vs ds → vs.length = ds.length
  | _, _, .nil => rfl
  | _, _, .cons _ k => congrArg (· + 1) k.length
theorem DVs.at : ∀ {vs : List V} {ds : List D} {i : Nat} {v : V}, DVs K G vs ds → vs[i]? = some v → ∃ d, ds[i]? = some d ∧ DV K G v d
  | _, _, _, _, .nil, e => by cases e
  | _, _, 0, _, .cons h _, e => by
    cases e
    exact ⟨_, rfl, h⟩
  | _, _, i + 1, _, .cons _ k, e => DVs.at (i := i) k e
theorem DVs.back : ∀ {vs : List V} {ds : List D} {i : Nat} {d : D}, DVs K G vs ds → ds[i]? = some d → ∃ v, vs[i]? = some v ∧ DV K G v d
  | _, _, _, _, .nil, e => by cases e
  | _, _, 0, _, .cons h _, e => by
    cases e
    exact ⟨_, rfl, h⟩
  | _, _, i + 1, _, .cons _ k, e => DVs.back (i := i) k e
theorem DVs.append : ∀ {vs us : List V} {ds es : List D}, DVs K G vs ds → DVs K G us es → DVs K G (vs ++ us) (ds ++ es)
  | _, _, _, _, .nil, k => k
  | _, _, _, _, .cons h t, k => .cons h (DVs.append t k)
theorem DVs.snoc {vs : List V} {ds : List D} {v : V} {d : D} (h : DVs K G vs ds) (k : DV K G v d) : DVs K G (vs ++ [v]) (ds ++ [d]) := h.append (.cons k .nil)
theorem DVs.take (n : Nat) : ∀ {vs : List V} {ds : List D}, DVs K G vs ds → DVs K G (vs.take n) (ds.take n) := by
  induction n with
  | zero => exact fun _ => .nil
  | succ n ih =>
    intro vs ds h
    cases h with
    | nil => exact .nil
    | cons h k => exact .cons h (ih k)
theorem DVs.drop (n : Nat) : ∀ {vs : List V} {ds : List D}, DVs K G vs ds → DVs K G (vs.drop n) (ds.drop n) := by
  induction n with
  | zero => exact fun h => h
  | succ n ih =>
    intro vs ds h
    cases h with
    | nil => exact .nil
    | cons h k => exact ih k
theorem DVs.reverse : ∀ {vs : List V} {ds : List D}, DVs K G vs ds → DVs K G vs.reverse ds.reverse
  | _, _, .nil => .nil
  | _, _, .cons h k => by
    rw [List.reverse_cons, List.reverse_cons]
    exact k.reverse.snoc h
theorem DVs.ints : ∀ {vs : List V} {is : List Int}, DVs K G vs (is.map D.int) → vs = is.map V.int
  | _, [], .nil => rfl
  | _, i :: is, .cons h k => by
    cases h
    rw [List.map_cons, DVs.ints k]
theorem DVs.strs : ∀ {vs : List V} {is : List Str}, DVs K G vs (is.map D.str) → vs = is.map V.str
  | _, [], .nil => rfl
  | _, i :: is, .cons h k => by
    cases h
    rw [List.map_cons, DVs.strs k]
theorem DVs.bls : ∀ {vs : List V} {is : List Bool}, DVs K G vs (is.map D.bl) → vs = is.map V.bl
  | _, [], .nil => rfl
  | _, i :: is, .cons h k => by
    cases h
    rw [List.map_cons, DVs.bls k]
theorem DVs.of_ints : ∀ {is : List Int}, DVs K G (is.map V.int) (is.map D.int)
  | [] => .nil
  | i :: is => .cons (.int i) DVs.of_ints
theorem DVs.of_strs : ∀ {is : List Str}, DVs K G (is.map V.str) (is.map D.str)
  | [] => .nil
  | i :: is => .cons (.str i) DVs.of_strs
theorem DVs.of_bls : ∀ {is : List Bool}, DVs K G (is.map V.bl) (is.map D.bl)
  | [] => .nil
  | i :: is => .cons (.bl i) DVs.of_bls
theorem lookup_putD {α : Type} {f g : Str} {y : α} {fs : List (Str × α)} : ((f, y) :: fs).lookup g = if g = f then some y else fs.lookup g := by
  by_cases h : g = f
  · subst h
    simp [List.lookup]
  · have e : (g == f) = false := by simpa using h
    rw [if_neg h]
    simp [List.lookup, e]
theorem DVf.look : ∀ {fs : List (Str × V)} {ds : List (Str × D)} {f : Str} {d : D}, DVf K G fs ds → ds.lookup f = some d → ∃ v, fs.lookup f = some v ∧ DV K G v d
  | _, _, _, _, .nil, e => by cases e
  | _, _, f, d, .cons (k := k) h t, e => by
    rw [lookup_putD] at e
    rw [lookup_put]
    by_cases q : f = k
    · rw [if_pos q] at e ⊢
      cases e
      exact ⟨_, rfl, h⟩
    · rw [if_neg q] at e ⊢
      exact DVf.look t e
end
/-! ### plain data -/
mutual
def D.py : D → PyData
  | .non => .none
  | .bl b => .bool b
  | .int i => .int i
  | .str x => .str x
  | .lst xs => .list (D.pys xs)
  | .tup xs => .tuple (D.pys xs)
  | .dic kvs => .dict (D.pyk kvs)
  | .ins _ _ => .none
  | .err _ _ => .none
  | .sam _ d => d.py
def D.pys : List D → List PyData
  | [] => []
  | d :: ds => d.py :: D.pys ds
def D.pyk : List (L2.Key × D) → List (PyData × PyData)
  | [] => []
  | (k, d) :: ds => (kD k, d.py) :: D.pyk ds
end
mutual
def D.plain : D → Bool
  | .non | .bl _ | .int _ | .str _ => true
  | .lst xs | .tup xs => D.plains xs
  | .dic kvs => D.plaink kvs
  | .ins _ _ => false
  | .err _ _ => false
  | .sam _ d => d.plain
def D.plains : List D → Bool
  | [] => true
  | d :: ds => d.plain && D.plains ds
def D.plaink : List (L2.Key × D) → Bool
  | [] => true
  | (_, d) :: ds => d.plain && D.plaink ds
end
section
variable {K : PySem.W.Frag} {G : Hp}
mutual
theorem DV.dt : ∀ {d : D} {v : V}, DV K G v d → d.plain = true → Dt K G v d.py
  | .non, _, h, _ => by
    cases h
    exact .non
  | .bl b, _, h, _ => by
    cases h
    exact .bl b
  | .int i, _, h, _ => by
    cases h
    exact .int i
  | .str x, _, h, _ => by
    cases h
    exact .str x
  | .lst xs, _, h, p => by
    cases h with
    | lst h k => exact .lst (.inl (.inl h)) (DVs.dt k p)
  | .tup xs, _, h, p => by
    cases h with
    | tup h k => exact .tup h (DVs.dt k p)
  | .dic xs, _, h, p => by
    cases h with
    | dic h k => exact .dic h (DVk.dt k p)
  | .ins _ _, _, _, p => by cases p
  | .err _ _, _, _, p => by cases p
  | .sam _ d, _, h, p => by
    cases h with
    | sam h2 => exact DV.dt (d := d) h2 p
theorem DVs.dt : ∀ {d : List D} {v : List V}, DVs K G v d → D.plains d = true → DtAll K G v (D.pys d)
  | [], _, h, _ => by
    cases h
    exact .nil
  | d :: ds, _, h, p => by
    cases h with
    | cons h k =>
      have q : d.plain = true ∧ D.plains ds = true := Bool.and_eq_true_iff.mp p
      exact .cons (DV.dt h q.1) (DVs.dt k q.2)
theorem DVk.dt : ∀ {d : List (L2.Key × D)} {v : List (L2.Key × V)}, DVk K G v d → D.plaink d = true → DtKv K G v (D.pyk d)
  | [], _, h, _ => by
    cases h
    exact .nil
  | (_, d) :: ds, _, h, p => by
    cases h with
    | cons h k =>
      have q : d.plain = true ∧ D.plaink ds = true := Bool.and_eq_true_iff.mp p
      exact .cons (DV.dt h q.1) (DVk.dt k q.2)
end
theorem pys_map : ∀ ds : List D, D.pys ds = ds.map D.py
  | [] => rfl
  | d :: ds => congrArg (d.py :: ·) (pys_map ds)
theorem plains_all : ∀ ds : List D, D.plains ds = ds.all D.plain
  | [] => rfl
  | d :: ds => by
    rw [List.all_cons, ← plains_all ds]
    rfl
end
/-! ### what is shared, what is owned -/
structure Sep (G M H : Hp) : Prop where
  g : Same G H
  m : Same M H
  d : ∀ a o, M a = some o → G a = none
theorem Sep.free {G M H : Hp} (s : Sep G M H) {p : Addr} (h : H p = none) : G p = none ∧ M p = none := ⟨s.g.free h, s.m.free h⟩
/-- from one heap to a later one: what was shared stays, what was neither shared nor owned stays as it was and is not shared now -/
structure Step (G M H G' M' H' : Hp) : Prop where
  s : Sep G' M' H'
  gg : Same G G'
  keep : ∀ a o, M a = none → H a = some o → H' a = some o
  out : ∀ a o, M a = none → G a = none → H a = some o → G' a = none
  old : ∀ a o, M a = none → H a = some o → M' a = none
section
variable {G M H G1 M1 H1 G2 M2 H2 : Hp} {p : Addr} {o : HO}
theorem Step.refl (s : Sep G M H) : Step G M H G M H := ⟨s, Same.refl _, fun _ _ _ z => z, fun _ _ _ z _ => z, fun _ _ z _ => z⟩
theorem Step.trans (a : Step G M H G1 M1 H1) (b : Step G1 M1 H1 G2 M2 H2) : Step G M H G2 M2 H2 where
  s := b.s
  gg := a.gg.trans b.gg
  keep := fun c o m h => b.keep c o (a.old c o m h) (a.keep c o m h)
  out := fun c o m g h => b.out c o (a.old c o m h) (a.out c o m g h) (a.keep c o m h)
  old := fun c o m h => b.old c o (a.old c o m h) (a.keep c o m h)
theorem some_ne {H : Hp} {a p : Addr} {o : HO} (h : H a = some o) (n : H p = none) : a ≠ p := fun z => by
  rw [z, n] at h
  cases h
theorem same_new {A B : Hp} (s : Same A B) (n : B p = none) : Same A (upd B p o) := fun b u z => by
  rw [upd_ne (some_ne (s b u z) n)]
  exact s b u z
theorem same_both {A B : Hp} (s : Same A B) : Same (upd A p o) (upd B p o) := fun b u z => by
  by_cases q : b = p
  · rw [q] at z ⊢
    rw [upd_same] at z ⊢
    exact z
  · rw [upd_ne q] at z ⊢
    exact s b u z
/-- a new object, shared from the start -/
theorem Step.new (s : Sep G M H) (n : H p = none) : Step G M H (upd G p o) M (upd H p o) where
  s := ⟨same_both s.g, same_new s.m n, fun a u z => by
    rw [upd_ne (some_ne z (s.free n).2)]
    exact s.d a u z⟩
  gg := fun b u z => by
    rw [upd_ne (some_ne z (s.free n).1)]
    exact z
  keep := fun a u _ h => by
    rw [upd_ne (some_ne h n)]
    exact h
  out := fun a u _ g h => by
    rw [upd_ne (some_ne h n)]
    exact g
  old := fun _ _ z _ => z
/-- a new object, owned -/
theorem Step.own (s : Sep G M H) (n : H p = none) : Step G M H G (upd M p o) (upd H p o) where
  s := ⟨same_new s.g n, same_both s.m, fun a u z => by
    by_cases q : a = p
    · rw [q]
      exact (s.free n).1
    · rw [upd_ne q] at z
      exact s.d a u z⟩
  gg := Same.refl _
  keep := fun a u _ h => by
    rw [upd_ne (some_ne h n)]
    exact h
  out := fun _ _ _ g _ => g
  old := fun a u z h => by
    rw [upd_ne (some_ne h n)]
    exact z
/-- an owned object changed -/
theorem Step.put {u : HO} (s : Sep G M H) (n : M p = some u) : Step G M H G (upd M p o) (upd H p o) where
  s := ⟨fun b w z => by
      rw [upd_ne (some_ne z (s.d p u n))]
      exact s.g b w z, same_both s.m, fun a w z => by
    by_cases q : a = p
    · rw [q]
      exact s.d p u n
    · rw [upd_ne q] at z
      exact s.d a w z⟩
  gg := Same.refl _
  keep := fun a w z h => by
    rw [upd_ne fun q => by rw [q, n] at z; cases z]
    exact h
  out := fun _ _ _ g _ => g
  old := fun a w z h => by
    rw [upd_ne fun q => by rw [q, n] at z; cases z]
    exact z
def dele (M : Hp) (p : Addr) : Hp := fun a => if a = p then none else M a
theorem dele_same : dele M p p = none := if_pos rfl
theorem dele_ne {a : Addr} (h : a ≠ p) : dele M p a = M a := if_neg h
/-- an owned object is shared from now on -/
theorem Step.share (s : Sep G M H) (n : M p = some o) : Step G M H (upd G p o) (dele M p) H where
  s := ⟨fun b w z => by
      by_cases q : b = p
      · rw [q, upd_same] at z
        rw [q, ← z]
        exact s.m p o n
      · rw [upd_ne q] at z
        exact s.g b w z, fun b w z => by
      by_cases q : b = p
      · rw [q, dele_same] at z
        cases z
      · rw [dele_ne q] at z
        exact s.m b w z, fun a w z => by
    by_cases q : a = p
    · rw [q, dele_same] at z
      cases z
    · rw [dele_ne q] at z
      rw [upd_ne q]
      exact s.d a w z⟩
  gg := fun b w z => by
    rw [upd_ne (some_ne z (s.d p o n))]
    exact z
  keep := fun _ _ _ h => h
  out := fun a w z g _ => by
    rw [upd_ne fun q => by rw [q, n] at z; cases z]
    exact g
  old := fun a w z _ => by
    by_cases q : a = p
    · rw [q]
      exact dele_same
    · rw [dele_ne q]
      exact z
/-- what is owned beside is let go -/
theorem Step.drop (a : Step G M H G1 M1 H1) (k : Same M2 M1) : Step G M H G1 M2 H1 where
  s := ⟨a.s.g, fun b w z => a.s.m b w (k b w z), fun b w z => a.s.d b w (k b w z)⟩
  gg := a.gg
  keep := a.keep
  out := a.out
  old := fun c o m h => k.free (a.old c o m h)
end
end Tp

/-! # Readings over data: what an expression, a statement does to the slots, told by data -/
namespace Tp
open PySem PySem.Spec PyProof.Rows L2
abbrev BIG : Nat := 1048576
abbrev HUGE : Int := 10 ^ 300
/-- a pot of draws at P (where there is one), from which at most m were taken so far -/
def PotM (P : Option Addr) (m : Nat) (M : Hp) : Prop := ∀ p, P = some p → ∃ a b c : Int, M p = some (.lst [.int a, .int b, .int c]) ∧ 0 ≤ a ∧ a < HUGE ∧ 0 ≤ b ∧ b < 2305843009213693951 ∧ 0 ≤ c ∧ c ≤ m
theorem PotM.mono {P : Option Addr} {m n : Nat} {M : Hp} (h : PotM P m M) (l : m ≤ n) : PotM P n M := fun p e => by
  obtain ⟨a, b, c, h1, h2, h3, h4, h5, h6, h7⟩ := h p e
  exact ⟨a, b, c, h1, h2, h3, h4, h5, h6, by omega⟩
theorem PotM.no {m : Nat} {M : Hp} : PotM none m M := fun _ e => nomatch e
/-- an owned object's content -/
inductive Ob where
  | lst (ds : List D)
  | dic (kvs : List (L2.Key × D))
/-- what is known of a slot -/
inductive Sx where
  | un
  | d (x : D)
  | pot
  | own (o : Ob)
  | scr (ns : List Int)
def OwnO (K : PySem.W.Frag) (G : Hp) (u : HO) : Ob → Prop
  | .lst ds => ∃ vs, u = .lst vs ∧ DVs K G vs ds
  | .dic kvs => ∃ vs, u = .dK vs ∧ DVk K G vs kvs
theorem OwnO.mono {K : PySem.W.Frag} {G G' : Hp} (e : Same G G') {u : HO} : ∀ {o : Ob}, OwnO K G u o → OwnO K G' u o
  | .lst _, ⟨vs, a, b⟩ => ⟨vs, a, b.mono e⟩
  | .dic _, ⟨vs, a, b⟩ => ⟨vs, a, b.mono e⟩
def Sl1 (K : PySem.W.Frag) (P : Option Addr) (M0 G M : Hp) (o : Option (Option V)) : Sx → Prop
  | .un => True
  | .d x => ∃ v, o = some (some v) ∧ DV K G v x
  | .pot => ∃ p, P = some p ∧ o = some (some (.ref p))
  | .own b => ∃ l u, o = some (some (.ref l)) ∧ M0 l = none ∧ P ≠ some l ∧ M l = some u ∧ OwnO K G u b
  | .scr ns => ∃ a, o = some (some (.ref a)) ∧ SqL K G a (ns.map V.int)
structure At (K : PySem.W.Frag) (P : Option Addr) (M0 : Hp) (m : Nat) (G M H : Hp) (σ : L2.St) (ρ : List Sx) : Prop where
  sep : Sep G M H
  pot : PotM P m M
  fr : ∀ a o, P ≠ some a → M0 a = some o → M a = some o
  len : σ.length = ρ.length
  sl : ∀ (i : Nat) (x : Sx), ρ[i]? = some x → Sl1 K P M0 G M σ[i]? x
  nd : ∀ (i j : Nat) (b b' : Ob), ρ[i]? = some (.own b) → ρ[j]? = some (.own b') → i ≠ j → σ[i]? ≠ σ[j]?
section
variable {K : PySem.W.Frag} {P : Option Addr} {M0 G M H G1 M1 H1 : Hp} {m n : Nat} {σ : L2.St} {ρ : List Sx}
/-- the state moved on: owned objects off the pot as they were -/
theorem At.go (a : At K P M0 m G M H σ ρ) (s : Step G M H G1 M1 H1) (p : PotM P n M1) (off : ∀ b o, P ≠ some b → M b = some o → M1 b = some o) : At K P M0 n G1 M1 H1 σ ρ where
  sep := s.s
  pot := p
  fr := fun b o h z => off b o h (a.fr b o h z)
  len := a.len
  sl := fun i x e => by
    have q := a.sl i x e
    cases x with
    | un => trivial
    | d x =>
      obtain ⟨v, e1, e2⟩ := q
      exact ⟨v, e1, e2.mono s.gg⟩
    | pot => exact q
    | own b =>
      obtain ⟨l, u, e1, e2, e3, e4, e5⟩ := q
      exact ⟨l, u, e1, e2, e3, off l u e3 e4, e5.mono s.gg⟩
    | scr ns =>
      obtain ⟨l, e1, e2⟩ := q
      exact ⟨l, e1, s.gg.sqLd e2⟩
  nd := a.nd
theorem At.more (a : At K P M0 m G M H σ ρ) (h : m ≤ n) : At K P M0 n G M H σ ρ := a.go (Step.refl a.sep) (a.pot.mono h) fun _ _ _ z => z
/-- M untouched -/
theorem At.pure (a : At K P M0 m G M H σ ρ) (s : Step G M H G1 M H1) : At K P M0 m G1 M H1 σ ρ := a.go s a.pot fun _ _ _ z => z
theorem getset {α : Type} {xs : List α} {i j : Nat} {v : α} (h : i < xs.length) : (xs.set i v)[j]? = if i = j then some v else xs[j]? := by
  by_cases q : i = j
  · subst q
    rw [if_pos rfl, List.getElem?_set_self h]
  · rw [if_neg q, List.getElem?_set_ne q]
theorem At.set (a : At K P M0 m G M H σ ρ) {i : Nat} {v : V} {x : D} (h : i < ρ.length) (hv : DV K G v x) : At K P M0 m G M H (σ.set i (some v)) (ρ.set i (.d x)) where
  sep := a.sep
  pot := a.pot
  fr := a.fr
  len := by rw [List.length_set, List.length_set, a.len]
  sl := fun j y e => by
    rw [getset h] at e
    rw [getset (by rw [a.len]; exact h)]
    by_cases q : i = j
    · rw [if_pos q] at e ⊢
      cases e
      exact ⟨v, rfl, hv⟩
    · rw [if_neg q] at e ⊢
      exact a.sl j y e
  nd := fun j k b b' e1 e2 ne => by
    rw [getset h] at e1 e2
    rw [getset (by rw [a.len]; exact h), getset (by rw [a.len]; exact h)]
    by_cases q : i = j
    · rw [if_pos q] at e1
      cases e1
    · rw [if_neg q] at e1 ⊢
      by_cases q' : i = k
      · rw [if_pos q'] at e2
        cases e2
      · rw [if_neg q'] at e2 ⊢
        exact a.nd j k b b' e1 e2 ne
/-- slots forgotten -/
theorem At.weak (a : At K P M0 m G M H σ ρ) {ρ' : List Sx} (l : ρ'.length = ρ.length) (h : ∀ i : Nat, ρ'[i]? = ρ[i]? ∨ ρ'[i]? = some .un) : At K P M0 m G M H σ ρ' where
  sep := a.sep
  pot := a.pot
  fr := a.fr
  len := a.len.trans l.symm
  sl := fun i x e => by
    rcases h i with z | z
    · exact a.sl i x (z.symm.trans e)
    · rw [e] at z
      cases z
      trivial
  nd := fun i j b b' e1 e2 ne => by
    rcases h i with z | z
    · rcases h j with z' | z'
      · exact a.nd i j b b' (z.symm.trans e1) (z'.symm.trans e2) ne
      · rw [e2] at z'
        cases z'
    · rw [e1] at z
      cases z
theorem At.slot (a : At K P M0 m G M H σ ρ) {i : Nat} {x : D} (e : ρ[i]? = some (.d x)) : ∃ v, σ[i]? = some (some v) ∧ DV K G v x := a.sl i _ e
end
/-! ### judgements -/
section
variable (K : PySem.W.Frag) (P : Option Addr)
/-- an expression: its value is some d with φ d; k draws at most -/
def Ev (te : TE) (ρ : List Sx) (k : Nat) (φ : D → Prop) : Prop := ∀ (M0 : Hp) (σ : L2.St) (G M H : Hp) (m : Nat) (Q : VK), At K P M0 m G M H σ ρ → m + k ≤ BIG →
  (∀ v d G2 M2 H2, Step G M H G2 M2 H2 → At K P M0 (m + k) G2 M2 H2 σ ρ → φ d → DV K G2 v d → Q v H2) → te σ H Q
def EvT (tt : TT) (ρ : List Sx) (k : Nat) (φ : Bool → Prop) : Prop := ∀ (M0 : Hp) (σ : L2.St) (G M H : Hp) (m : Nat) (Q : Bool → Hp → Prop), At K P M0 m G M H σ ρ → m + k ≤ BIG →
  (∀ b G2 M2 H2, Step G M H G2 M2 H2 → At K P M0 (m + k) G2 M2 H2 σ ρ → φ b → Q b H2) → tt σ H Q
def EvA (ta : TA) (ρ : List Sx) (k : Nat) (φ : List D → Prop) : Prop := ∀ (M0 : Hp) (σ : L2.St) (G M H : Hp) (m : Nat) (Q : List V → Hp → Prop), At K P M0 m G M H σ ρ → m + k ≤ BIG →
  (∀ vs ds G2 M2 H2, Step G M H G2 M2 H2 → At K P M0 (m + k) G2 M2 H2 σ ρ → φ ds → DVs K G2 vs ds → Q vs H2) → ta σ H Q
/-- an operation on data -/
def OpD (r : R2) (a b : D) (χ : D → Prop) : Prop := ∀ (x y : V) (G M H : Hp) (Q : VK), Sep G M H → DV K G x a → DV K G y b → (∀ z d G2 H2, Step G M H G2 M H2 → χ d → DV K G2 z d → Q z H2) → r x y H Q
def CallD (r : List V → Hp → VK → Prop) (as : List D) (χ : D → Prop) : Prop := ∀ (xs : List V) (G M H : Hp) (Q : VK), Sep G M H → DVs K G xs as → (∀ z d G2 H2, Step G M H G2 M H2 → χ d → DV K G2 z d → Q z H2) → r xs H Q
def MethD (r : V → List V → Hp → VK → Prop) (a : D) (as : List D) (χ : D → Prop) : Prop := ∀ (x : V) (xs : List V) (G M H : Hp) (Q : VK), Sep G M H → DV K G x a → DVs K G xs as → (∀ z d G2 H2, Step G M H G2 M H2 → χ d → DV K G2 z d → Q z H2) → r x xs H Q
def OpE (r : R2) (a b c : D) : Prop := OpD K r a b (· = c)
end
section
variable {K : PySem.W.Frag} {P : Option Addr} {ρ : List Sx} {ta tb te to : TE} {tt tu : TT} {tr : TA} {k ka kb kc : Nat} {φ ψ χ : D → Prop} {β γ : Bool → Prop} {x : D} {i : Nat}
theorem Ev.imp (h : Ev K P te ρ k φ) (f : ∀ d, φ d → ψ d) : Ev K P te ρ k ψ := fun M0 σ G M H m Q a b q => h M0 σ G M H m Q a b fun v d G2 M2 H2 s a2 hd hv => q v d G2 M2 H2 s a2 (f d hd) hv
theorem Ev.le (h : Ev K P te ρ ka φ) (l : ka ≤ k) : Ev K P te ρ k φ := fun M0 σ G M H m Q a b q => h M0 σ G M H m Q a (by omega) fun v d G2 M2 H2 s a2 hd hv => q v d G2 M2 H2 s (a2.more (by omega)) hd hv
theorem EvT.imp (h : EvT K P tt ρ k β) (f : ∀ d, β d → γ d) : EvT K P tt ρ k γ := fun M0 σ G M H m Q a b q => h M0 σ G M H m Q a b fun v G2 M2 H2 s a2 hd => q v G2 M2 H2 s a2 (f v hd)
theorem EvT.le (h : EvT K P tt ρ ka β) (l : ka ≤ k) : EvT K P tt ρ k β := fun M0 σ G M H m Q a b q => h M0 σ G M H m Q a (by omega) fun v G2 M2 H2 s a2 hd => q v G2 M2 H2 s (a2.more (by omega)) hd
theorem EvA.imp {φ ψ : List D → Prop} (h : EvA K P tr ρ k φ) (f : ∀ d, φ d → ψ d) : EvA K P tr ρ k ψ := fun M0 σ G M H m Q a b q => h M0 σ G M H m Q a b fun v d G2 M2 H2 s a2 hd hv => q v d G2 M2 H2 s a2 (f d hd) hv
theorem ev_var (e : ρ[i]? = some (.d x)) : Ev K P (tVar i) ρ 0 (· = x) := fun M0 σ G M H m Q a _ q => by
  obtain ⟨v, h1, h2⟩ := a.slot e
  exact ⟨v, h1, q v x G M H (Step.refl a.sep) a rfl h2⟩
theorem ev_c {v : V} (h : ∀ G, DV K G v x) : Ev K P (tC v) ρ 0 (· = x) := fun M0 σ G M H m Q a _ q => q v x G M H (Step.refl a.sep) a rfl (h G)
theorem ev_int {j : Int} : Ev K P (tC (.int j)) ρ 0 (· = .int j) := ev_c fun _ => .int j
theorem ev_str {j : Str} : Ev K P (tC (.str j)) ρ 0 (· = .str j) := ev_c fun _ => .str j
theorem ev_bl {j : Bool} : Ev K P (tC (.bl j)) ρ 0 (· = .bl j) := ev_c fun _ => .bl j
theorem ev_non : Ev K P (tC .non) ρ 0 (· = .non) := ev_c fun _ => .non
theorem add3 {m a b c : Nat} (h : m + (a + b) ≤ c) : m + a ≤ c ∧ m + a + b ≤ c := by omega
theorem ev_op {r : R2} (ha : Ev K P ta ρ ka φ) (hb : Ev K P tb ρ kb ψ) (hr : ∀ a b, φ a → ψ b → OpD K r a b χ) : Ev K P (tOp r ta tb) ρ (ka + kb) χ := fun M0 σ G M H m Q a l q => by
  refine ha M0 σ G M H m _ a (add3 l).1 fun x d1 G1 M1 H1 s1 a1 p1 v1 => ?_
  refine hb M0 σ G1 M1 H1 (m + ka) _ a1 (add3 l).2 fun y d2 G2 M2 H2 s2 a2 p2 v2 => ?_
  refine hr d1 d2 p1 p2 x y G2 M2 H2 Q a2.sep (v1.mono s2.gg) v2 fun z d3 G3 H3 s3 p3 v3 => ?_
  exact q z d3 G3 M2 H3 ((s1.trans s2).trans s3) ((a2.pure s3).more (by omega)) p3 v3
theorem ev_if (hc : EvT K P tt ρ kc β) (h1 : β true → Ev K P ta ρ k φ) (h2 : β false → Ev K P tb ρ k φ) : Ev K P (tIf tt ta tb) ρ (kc + k) φ := fun M0 σ G M H m Q a l q => by
  refine hc M0 σ G M H m _ a (add3 l).1 fun b G1 M1 H1 s1 a1 p1 => ?_
  cases b with
  | true =>
    show ta σ H1 Q
    exact h1 p1 M0 σ G1 M1 H1 (m + kc) Q a1 (add3 l).2 fun v d G2 M2 H2 s2 a2 p2 v2 => q v d G2 M2 H2 (s1.trans s2) (a2.more (by omega)) p2 v2
  | false =>
    show tb σ H1 Q
    exact h2 p1 M0 σ G1 M1 H1 (m + kc) Q a1 (add3 l).2 fun v d G2 M2 H2 s2 a2 p2 v2 => q v d G2 M2 H2 (s1.trans s2) (a2.more (by omega)) p2 v2
theorem et_test (h : Ev K P te ρ k φ) (f : ∀ d, φ d → ∃ b, d = .bl b ∧ β b) : EvT K P (tTest te) ρ k β := fun M0 σ G M H m Q a l q =>
  h M0 σ G M H m _ a l fun v d G2 M2 H2 s2 a2 p2 v2 => by
    obtain ⟨b, rfl, hb⟩ := f d p2
    cases v2
    exact ⟨b, rfl, q b G2 M2 H2 s2 a2 hb⟩
theorem et_B (h : Ev K P te ρ k φ) (f : ∀ d, φ d → ∃ b, d = .bl b ∧ β b) : EvT K P (tB te) ρ k β := et_test h f
theorem et_not (h : EvT K P tt ρ k β) : EvT K P (tNot tt) ρ k (fun b => β (!b)) := fun M0 σ G M H m Q a l q =>
  h M0 σ G M H m _ a l fun b G2 M2 H2 s2 a2 p2 => q (!b) G2 M2 H2 s2 a2 (by show β (!!b); rw [Bool.not_not]; exact p2)
theorem et_and (h : EvT K P tt ρ ka β) (h2 : β true → EvT K P tu ρ kb γ) : EvT K P (tAnd tt tu) ρ (ka + kb) (fun b => (b = false ∧ β false) ∨ (β true ∧ γ b)) := fun M0 σ G M H m Q a l q => by
  refine h M0 σ G M H m _ a (add3 l).1 fun b G1 M1 H1 s1 a1 p1 => ?_
  cases b with
  | true =>
    show tu σ H1 Q
    exact h2 p1 M0 σ G1 M1 H1 (m + ka) Q a1 (add3 l).2 fun b G2 M2 H2 s2 a2 p2 => q b G2 M2 H2 (s1.trans s2) (a2.more (by omega)) (.inr ⟨p1, p2⟩)
  | false =>
    show Q false H1
    exact q false G1 M1 H1 s1 (a1.more (by omega)) (.inl ⟨rfl, p1⟩)
theorem et_or (h : EvT K P tt ρ ka β) (h2 : β false → EvT K P tu ρ kb γ) : EvT K P (tOr tt tu) ρ (ka + kb) (fun b => (b = true ∧ β true) ∨ (β false ∧ γ b)) := fun M0 σ G M H m Q a l q => by
  refine h M0 σ G M H m _ a (add3 l).1 fun b G1 M1 H1 s1 a1 p1 => ?_
  cases b with
  | false =>
    show tu σ H1 Q
    exact h2 p1 M0 σ G1 M1 H1 (m + ka) Q a1 (add3 l).2 fun b G2 M2 H2 s2 a2 p2 => q b G2 M2 H2 (s1.trans s2) (a2.more (by omega)) (.inr ⟨p1, p2⟩)
  | true =>
    show Q true H1
    exact q true G1 M1 H1 s1 (a1.more (by omega)) (.inl ⟨rfl, p1⟩)
/-- and, or, not as values -/
theorem ev_andV (h : Ev K P ta ρ ka φ) (f : ∀ d, φ d → ∃ b, d = .bl b ∧ β b) (h2 : β true → Ev K P tb ρ kb ψ) : Ev K P (tAndV ta tb) ρ (ka + kb) (fun d => (d = .bl false ∧ β false) ∨ (β true ∧ ψ d)) := fun M0 σ G M H m Q a l q => by
  refine h M0 σ G M H m _ a (add3 l).1 fun v d G1 M1 H1 s1 a1 p1 v1 => ?_
  obtain ⟨b, rfl, hb⟩ := f d p1
  cases v1
  refine ⟨b, rfl, ?_⟩
  cases b with
  | true =>
    show tb σ H1 Q
    exact h2 hb M0 σ G1 M1 H1 (m + ka) Q a1 (add3 l).2 fun v d G2 M2 H2 s2 a2 p2 v2 => q v d G2 M2 H2 (s1.trans s2) (a2.more (by omega)) (.inr ⟨hb, p2⟩) v2
  | false =>
    show Q (.bl false) H1
    exact q _ _ G1 M1 H1 s1 (a1.more (by omega)) (.inl ⟨rfl, hb⟩) (.bl false)
theorem ev_orV (h : Ev K P ta ρ ka φ) (f : ∀ d, φ d → ∃ b, d = .bl b ∧ β b) (h2 : β false → Ev K P tb ρ kb ψ) : Ev K P (tOrV ta tb) ρ (ka + kb) (fun d => (d = .bl true ∧ β true) ∨ (β false ∧ ψ d)) := fun M0 σ G M H m Q a l q => by
  refine h M0 σ G M H m _ a (add3 l).1 fun v d G1 M1 H1 s1 a1 p1 v1 => ?_
  obtain ⟨b, rfl, hb⟩ := f d p1
  cases v1
  refine ⟨b, rfl, ?_⟩
  cases b with
  | false =>
    show tb σ H1 Q
    exact h2 hb M0 σ G1 M1 H1 (m + ka) Q a1 (add3 l).2 fun v d G2 M2 H2 s2 a2 p2 v2 => q v d G2 M2 H2 (s1.trans s2) (a2.more (by omega)) (.inr ⟨hb, p2⟩) v2
  | true =>
    show Q (.bl true) H1
    exact q _ _ G1 M1 H1 s1 (a1.more (by omega)) (.inl ⟨rfl, hb⟩) (.bl true)
theorem ev_notV (h : Ev K P ta ρ k φ) (f : ∀ d, φ d → ∃ b, d = .bl b ∧ β b) : Ev K P (tNotV ta) ρ k (fun d => ∃ b, d = .bl (!b) ∧ β b) := fun M0 σ G M H m Q a l q =>
  h M0 σ G M H m _ a l fun v d G2 M2 H2 s2 a2 p2 v2 => by
    obtain ⟨b, rfl, hb⟩ := f d p2
    cases v2
    exact ⟨b, rfl, q _ _ G2 M2 H2 s2 a2 ⟨b, rfl, hb⟩ (.bl _)⟩
theorem ea_nil : EvA K P tNil ρ 0 (· = []) := fun M0 σ G M H m Q a _ q => q [] [] G M H (Step.refl a.sep) a rfl .nil
theorem ea_cons {Φ : List D → Prop} (h : Ev K P te ρ ka φ) (h2 : EvA K P tr ρ kb Φ) : EvA K P (tCons te tr) ρ (ka + kb) (fun ds => ∃ d es, ds = d :: es ∧ φ d ∧ Φ es) := fun M0 σ G M H m Q a l q => by
  refine h M0 σ G M H m _ a (add3 l).1 fun x d1 G1 M1 H1 s1 a1 p1 v1 => ?_
  refine h2 M0 σ G1 M1 H1 (m + ka) _ a1 (add3 l).2 fun vs ds G2 M2 H2 s2 a2 p2 v2 => ?_
  exact q _ _ G2 M2 H2 (s1.trans s2) (a2.more (by omega)) ⟨d1, ds, rfl, p1, p2⟩ (.cons (v1.mono s2.gg) v2)
theorem szOk {n : Nat} (h : n ≤ 1000000) : n ≤ sizeLine := Nat.le_trans h (by decide)
theorem sq_of' {G : Hp} {p : Addr} {vs : List V} (h : G p = some (.lst vs)) : SqL K G p vs := .inl (.inl h)
theorem st_new {G : Hp} {p : Addr} {vs : List V} : SqT K (upd G p (.tup vs)) p vs := .inl (.inl upd_same)
theorem new_tup {G M H : Hp} {p : Addr} {vs : List V} {ds : List D} (s : Sep G M H) (n : H p = none) (h : DVs K G vs ds) : DV K (upd G p (.tup vs)) (.ref p) (.tup ds) := .tup st_new (h.mono (Step.new s n).gg)
theorem new_lst {G M H : Hp} {p : Addr} {vs : List V} {ds : List D} (s : Sep G M H) (n : H p = none) (h : DVs K G vs ds) : DV K (upd G p (.lst vs)) (.ref p) (.lst ds) := .lst upd_same (h.mono (Step.new s n).gg)
theorem ev_tup {Φ : List D → Prop} (h : EvA K P tr ρ k Φ) (l : ∀ ds, Φ ds → ds.length ≤ 1000000) : Ev K P (tTup tr) ρ k (fun d => ∃ ds, d = .tup ds ∧ Φ ds) := fun M0 σ G M H m Q a b q =>
  h M0 σ G M H m _ a b fun vs ds G1 M1 H1 s1 a1 p1 v1 => ⟨szOk (by rw [v1.length]; exact l ds p1), fun p n =>
    q _ _ _ _ _ (s1.trans (Step.new a1.sep n)) (a1.pure (Step.new a1.sep n)) ⟨ds, rfl, p1⟩ (new_tup a1.sep n v1)⟩
theorem ev_lst {Φ : List D → Prop} (h : EvA K P tr ρ k Φ) (l : ∀ ds, Φ ds → ds.length ≤ 1000000) : Ev K P (tLst tr) ρ k (fun d => ∃ ds, d = .lst ds ∧ Φ ds) := fun M0 σ G M H m Q a b q =>
  h M0 σ G M H m _ a b fun vs ds G1 M1 H1 s1 a1 p1 v1 => ⟨szOk (by rw [v1.length]; exact l ds p1), fun p n =>
    q _ _ _ _ _ (s1.trans (Step.new a1.sep n)) (a1.pure (Step.new a1.sep n)) ⟨ds, rfl, p1⟩ (new_lst a1.sep n v1)⟩
theorem ev_call {r : List V → Hp → VK → Prop} {Φ : List D → Prop} (h : EvA K P tr ρ k Φ) (f : ∀ ds, Φ ds → CallD K r ds χ) : Ev K P (tCB r tr) ρ k χ := fun M0 σ G M H m Q a b q =>
  h M0 σ G M H m _ a b fun vs ds G1 M1 H1 s1 a1 p1 v1 => f ds p1 vs G1 M1 H1 Q a1.sep v1 fun z d G2 H2 s2 p2 v2 => q z d G2 M1 H2 (s1.trans s2) (a1.pure s2) p2 v2
theorem ev_fld {C : Addr} {fs : List (Str × D)} {f : Str} (c : Cls K C) (nf : NoAttr K C f) (h : Ev K P to ρ k φ) (g : ∀ d, φ d → ∃ fs x, d = .ins C fs ∧ fs.lookup f = some x ∧ χ x) : Ev K P (tFld K to f) ρ k χ := fun M0 σ G M H m Q a b q =>
  h M0 σ G M H m _ a b fun v d G1 M1 H1 s1 a1 p1 v1 => by
    obtain ⟨fs, x, rfl, lk, hx⟩ := g d p1
    cases v1 with
    | ins h1 h2 =>
      obtain ⟨w, l, hw⟩ := h2.look lk
      exact ⟨_, C, _, _, w, rfl, s1.s.g _ _ h1, c, nf, l, q w x G1 M1 H1 s1 a1 hx hw⟩
theorem ev_errF {f : Str} (h : Ev K P to ρ k φ) (g : ∀ d, φ d → ∃ C x, d = .err C x ∧ ErrC K C ∧ χ x) : Ev K P (tErrF K "value" to) ρ k χ := fun M0 σ G M H m Q a b q =>
  h M0 σ G M H m _ a b fun v d G1 M1 H1 s1 a1 p1 v1 => by
    obtain ⟨C, x, rfl, T, hx⟩ := g d p1
    cases v1 with
    | err h1 h2 => exact ⟨_, C, _, _, _, rfl, T, T.nv, h1.mono s1.s.g, by rw [lookup_put, if_pos rfl], q _ _ G1 M1 H1 s1 a1 hx h2⟩
theorem ev_bm {T : String} {r : V → List V → Hp → VK → Prop} {Φ : List D → Prop} (h : Ev K P to ρ ka φ) (h2 : EvA K P tr ρ kb Φ) (ty : ∀ d, φ d → ∀ G H v, Same G H → DV K G v d → tyV K T v H)
    (f : ∀ d ds, φ d → Φ ds → MethD K r d ds χ) : Ev K P (tBM K T r to tr) ρ (ka + kb) χ := fun M0 σ G M H m Q a l q => by
  refine h M0 σ G M H m _ a (add3 l).1 fun x d1 G1 M1 H1 s1 a1 p1 v1 => ⟨ty d1 p1 _ _ _ s1.s.g v1, ?_⟩
  refine h2 M0 σ G1 M1 H1 (m + ka) _ a1 (add3 l).2 fun vs ds G2 M2 H2 s2 a2 p2 v2 => ?_
  refine f d1 ds p1 p2 x vs G2 M2 H2 Q a2.sep (v1.mono s2.gg) v2 fun z d3 G3 H3 s3 p3 v3 => ?_
  exact q z d3 G3 M2 H3 ((s1.trans s2).trans s3) ((a2.pure s3).more (by omega)) p3 v3
theorem ev_bm0 {T : String} {r : V → List V → Hp → VK → Prop} (h : Ev K P to ρ k φ) (ty : ∀ d, φ d → ∀ G H v, Same G H → DV K G v d → tyV K T v H)
    (f : ∀ d, φ d → MethD K r d [] χ) : Ev K P (tBM0 K T r to) ρ k χ := fun M0 σ G M H m Q a l q =>
  h M0 σ G M H m _ a l fun x d1 G1 M1 H1 s1 a1 p1 v1 => ⟨ty d1 p1 _ _ _ s1.s.g v1, f d1 p1 x [] G1 M1 H1 Q a1.sep v1 .nil fun z d3 G3 H3 s3 p3 v3 => q z d3 G3 M1 H3 (s1.trans s3) (a1.pure s3) p3 v3⟩
end
/-! ### what a def promises, over data -/
/-- k: draws; pre, post: of the arguments' data, of them and the answer's -/
def spD (K : PySem.W.Frag) (k : Nat) (pre : List D → Prop) (post : List D → D → Prop) : Sp := fun vs H Q _ => ∃ (G M : Hp) (ds : List D), Sep G M H ∧ DVs K G vs ds ∧ pre ds ∧
  ∀ v d G2 H2, Step G M H G2 M H2 → post ds d → DV K G2 v d → Q v H2
def spP (K : PySem.W.Frag) (k : Nat) (pre : List D → Prop) (post : List D → D → Prop) : Sp := fun vs H Q _ => ∃ (p : Addr) (us : List V) (G M : Hp) (m : Nat) (ds : List D), vs = .ref p :: us ∧ Sep G M H ∧ PotM (some p) m M ∧ (∃ o, M p = some o) ∧ m + k ≤ BIG ∧ DVs K G us ds ∧ pre ds ∧
  ∀ v d G2 M2 H2, Step G M H G2 M2 H2 → PotM (some p) (m + k) M2 → (∀ a, a ≠ p → M2 a = M a) → post ds d → DV K G2 v d → Q v H2
section
variable {K : PySem.W.Frag} {P : Option Addr} {ρ : List Sx} {tr : TA} {k kf : Nat} {pre : List D → Prop} {post : List D → D → Prop} {Φ : List D → Prop} {i : Nat} {E : XK}
theorem ev_fun (h : EvA K P tr ρ k Φ) (f : ∀ ds, Φ ds → pre ds) : Ev K P (tCall (spD K kf pre post) [] E tr) ρ k (fun d => ∃ ds, Φ ds ∧ post ds d) := fun M0 σ G M H m Q a b q =>
  h M0 σ G M H m _ a b fun vs ds G1 M1 H1 s1 a1 p1 v1 => ⟨G1, M1, ds, a1.sep, by rw [List.append_nil]; exact v1, f ds p1, fun v d G2 H2 s2 p2 v2 => q v d G2 M1 H2 (s1.trans s2) (a1.pure s2) ⟨ds, p1, p2⟩ v2⟩
theorem ev_funP (e : ρ[i]? = some .pot) (h : EvA K P tr ρ k Φ) (f : ∀ ds, Φ ds → pre ds) : Ev K P (tCall (spP K kf pre post) [] E (tCons (tVar i) tr)) ρ (k + kf) (fun d => ∃ ds, Φ ds ∧ post ds d) := fun M0 σ G M H m Q a b q => by
  obtain ⟨p, ep, es⟩ := a.sl i _ e
  subst ep
  refine ⟨.ref p, es, h M0 σ G M H m _ a (add3 b).1 fun vs ds G1 M1 H1 s1 a1 p1 v1 => ?_⟩
  obtain ⟨c1, c2, c3, hc, _⟩ := a1.pot p rfl
  refine ⟨p, vs, G1, M1, m + k, ds, by rw [List.append_nil], a1.sep, a1.pot, ⟨_, hc⟩, (add3 b).2, v1, f ds p1, fun v d G2 M2 H2 s2 pm off p2 v2 => ?_⟩
  refine q v d G2 M2 H2 (s1.trans s2) ((a1.go s2 pm fun c o hc z => ?_).more (by omega)) ⟨ds, p1, p2⟩ v2
  rw [off c fun z => hc (congrArg some z.symm)]
  exact z
end
end Tp

/-! # Statements over data -/
namespace Tp
open PySem PySem.Spec PyProof.Rows L2
def setL (σ : L2.St) : List Nat → List V → L2.St
  | j :: js, v :: vs => setL (σ.set j (some v)) js vs
  | _, _ => σ
def setR (ρ : List Sx) : List Nat → List D → List Sx
  | j :: js, d :: ds => setR (ρ.set j (.d d)) js ds
  | _, _ => ρ
section
variable {K : PySem.W.Frag} {P : Option Addr} {M0 G M H : Hp} {m : Nat}
theorem At.setL : ∀ {js : List Nat} {vs : List V} {ds : List D} {σ : L2.St} {ρ : List Sx}, At K P M0 m G M H σ ρ → (∀ j ∈ js, j < ρ.length) → DVs K G vs ds → At K P M0 m G M H (Tp.setL σ js vs) (setR ρ js ds)
  | [], _, _, _, _, a, _, _ => a
  | _ :: _, _, _, _, _, a, _, .nil => a
  | j :: js, _, _, _, ρ, a, h, .cons (d := d) hv hs => by
    have step := a.set (h j List.mem_cons_self) hv
    have more : ∀ i ∈ js, i < (ρ.set j (.d d)).length := fun i hi => by
      rw [List.length_set]
      exact h i (List.mem_cons_of_mem _ hi)
    have rest := At.setL step more hs
    exact rest
end
theorem wipe_set (σ : L2.St) (x : Option V) : ∀ {vs : List Nat} {j : Nat}, j ∈ vs → wipe (σ.set j x) vs = wipe σ vs
  | v :: vs, j, h => by
    by_cases q : j ∈ vs
    · unfold wipe
      rw [wipe_set σ x q]
    · have e : j = v := by
        rcases List.mem_cons.mp h with z | z
        · exact z
        · exact absurd z q
      subst e
      have out : ∀ {ws : List Nat}, j ∉ ws → wipe (σ.set j x) ws = (wipe σ ws).set j x := by
        intro ws
        induction ws with
        | nil => exact fun _ => rfl
        | cons w ws ih =>
          intro n
          have n1 : j ≠ w := fun z => n (by rw [z]; exact List.mem_cons_self)
          have n2 : j ∉ ws := fun z => n (List.mem_cons_of_mem _ z)
          unfold wipe
          rw [ih n2, List.set_comm _ _ n1]
      unfold wipe
      rw [out q, List.set_set]
theorem wipe_wipe (σ : L2.St) : ∀ {vs us : List Nat}, (∀ v ∈ us, v ∈ vs) → wipe (wipe σ us) vs = wipe σ vs
  | vs, [], _ => rfl
  | vs, u :: us, h => by
    show wipe ((wipe σ us).set u none) vs = _
    rw [wipe_set _ _ (h u List.mem_cons_self), wipe_wipe σ fun v hv => h v (List.mem_cons_of_mem _ hv)]
theorem wipe_setL : ∀ (js : List Nat) (ws : List V) (σ : L2.St) {vs : List Nat}, (∀ j ∈ js, j ∈ vs) → wipe (setL σ js ws) vs = wipe σ vs
  | [], _, _, _, _ => rfl
  | _ :: _, [], _, _, _ => rfl
  | j :: js, w :: ws, σ, vs, h => by
    show wipe (setL (σ.set j (some w)) js ws) vs = _
    rw [wipe_setL js ws _ fun i hi => h i (List.mem_cons_of_mem _ hi), wipe_set _ _ (h j List.mem_cons_self)]
def wipeR (ρ : List Sx) : List Nat → List Sx
  | [] => ρ
  | v :: vs => (wipeR ρ vs).set v .un
section
variable {K : PySem.W.Frag} {P : Option Addr} {M0 G M H : Hp} {m : Nat} {σ : L2.St} {ρ : List Sx}
theorem At.un (a : At K P M0 m G M H σ ρ) (j : Nat) : At K P M0 m G M H σ (ρ.set j .un) := a.weak (by rw [List.length_set]) fun i => by
  by_cases h : j < ρ.length
  · rw [getset h]
    by_cases q : j = i
    · rw [if_pos q]
      exact .inr rfl
    · rw [if_neg q]
      exact .inl rfl
  · rw [List.set_eq_of_length_le (by omega)]
    exact .inl rfl
theorem At.setNone (a : At K P M0 m G M H σ ρ) (j : Nat) : At K P M0 m G M H (σ.set j none) (ρ.set j .un) where
  sep := a.sep
  pot := a.pot
  fr := a.fr
  len := by rw [List.length_set, List.length_set, a.len]
  sl := fun i y e => by
    by_cases h : j < ρ.length
    · rw [getset h] at e
      rw [getset (by rw [a.len]; exact h)]
      by_cases q : j = i
      · rw [if_pos q] at e
        cases e
        trivial
      · rw [if_neg q] at e ⊢
        exact a.sl i y e
    · rw [List.set_eq_of_length_le (by omega)] at e
      rw [List.set_eq_of_length_le (by rw [a.len]; omega)]
      exact a.sl i y e
  nd := fun i k b b' e1 e2 ne => by
    by_cases h : j < ρ.length
    · rw [getset h] at e1 e2
      rw [getset (by rw [a.len]; exact h), getset (by rw [a.len]; exact h)]
      by_cases q : j = i
      · rw [if_pos q] at e1
        cases e1
      · by_cases q' : j = k
        · rw [if_pos q'] at e2
          cases e2
        · rw [if_neg q] at e1 ⊢
          rw [if_neg q'] at e2 ⊢
          exact a.nd i k b b' e1 e2 ne
    · rw [List.set_eq_of_length_le (by omega)] at e1 e2
      rw [List.set_eq_of_length_le (by rw [a.len]; omega)]
      exact a.nd i k b b' e1 e2 ne
theorem At.wipe (a : At K P M0 m G M H σ ρ) : ∀ vs : List Nat, At K P M0 m G M H (L2.wipe σ vs) (wipeR ρ vs)
  | [] => a
  | v :: vs => (a.wipe vs).setNone v
theorem wipeR_len (ρ : List Sx) : ∀ vs, (wipeR ρ vs).length = ρ.length
  | [] => rfl
  | v :: vs => by
    unfold wipeR
    rw [List.length_set, wipeR_len ρ vs]
end
/-! ### what is walked; targets -/
section
variable (K : PySem.W.Frag) (P : Option Addr)
/-- a walk over the data ds, from a state on which it leans: (G2, H2) -/
structure WalkD (J : It) (ds : List D) (G2 : Hp) : Prop where
  ex : ∃ (GG : Hp → Prop) (YY : Nat → Hp → V → Hp → Prop), Walk J ds.length GG YY ∧ (∀ H, Same G2 H → GG H) ∧
    ∀ i G' M' H' x H'', i < ds.length → Same G2 G' → Sep G' M' H' → YY i H' x H'' → ∃ d G'', ds[i]? = some d ∧ Step G' M' H' G'' M' H'' ∧ DV K G'' x d
def EvI (ti : TI) (ρ : List Sx) (k : Nat) (φ : List D → Prop) : Prop := ∀ (M0 : Hp) (σ : L2.St) (G M H : Hp) (m : Nat) (R : It → Hp → Prop), At K P M0 m G M H σ ρ → m + k ≤ BIG →
  (∀ J ds G2 M2 H2, Step G M H G2 M2 H2 → At K P M0 (m + k) G2 M2 H2 σ ρ → φ ds → WalkD K J ds G2 → R J H2) → ti σ H R
/-- a target: it takes apart a value with the data d into the data f d, stored at js -/
def EvG (g : TG) (js : List Nat) (d : D) (es : List D) : Prop := ∀ (v : V) (σ : L2.St) (G H : Hp) (Q : L2.St → Hp → Prop), Same G H → DV K G v d → (∀ vs, vs.length = js.length → DVs K G vs es → Q (setL σ js vs) H) → g v σ H Q
end
section
variable {K : PySem.W.Frag} {P : Option Addr} {ρ : List Sx} {te tb : TE} {tr : TA} {k : Nat} {φ : D → Prop} {j : Nat} {d : D}
theorem eg_name : EvG K (gName j) [j] d [d] := fun v σ G H Q _ h q => q [v] rfl (.cons h .nil)
theorem eg_pair {i j : Nat} {a b : D} : EvG K (gTup K 2 (gCons (gName i) (gCons (gName j) gNil))) [i, j] (.tup [a, b]) [a, b] := fun v σ G H Q s h q => by
  cases h with
  | tup h1 h2 =>
    have h2' := h2
    cases h2 with
    | cons ha h2 =>
      cases h2 with
      | cons hb h2 =>
        cases h2
        exact ⟨_, _, rfl, s.sqTd h1, rfl, _, _, rfl, _, _, rfl, rfl, q _ rfl h2'⟩
theorem eg_triple {i j l : Nat} {a b c : D} : EvG K (gTup K 3 (gCons (gName i) (gCons (gName j) (gCons (gName l) gNil)))) [i, j, l] (.tup [a, b, c]) [a, b, c] := fun v σ G H Q s h q => by
  cases h with
  | tup h1 h2 =>
    have h2' := h2
    cases h2 with
    | cons ha h2 =>
      cases h2 with
      | cons hb h2 =>
        cases h2 with
        | cons hc h2 =>
          cases h2
          exact ⟨_, _, rfl, s.sqTd h1, rfl, _, _, rfl, _, _, rfl, _, _, rfl, rfl, q _ rfl h2'⟩
theorem ei_list (h : Ev K P te ρ k φ) {Φ : List D → Prop} (f : ∀ d, φ d → ∃ ds, d = .lst ds ∧ Φ ds) : EvI K P (iList K te) ρ k Φ := fun M0 σ G M H m R a l q =>
  h M0 σ G M H m _ a l fun v d G1 M1 H1 s1 a1 p1 v1 => by
    obtain ⟨ds, rfl, hd⟩ := f d p1
    cases v1 with
    | @lst b xs _ h1 h2 =>
      refine ⟨b, rfl, ⟨_, sq_of' (s1.s.g _ _ h1)⟩, q _ ds G1 M1 H1 s1 a1 hd ⟨_, _, by rw [← h2.length]; exact walk_list, fun H s => sq_of' (s _ _ h1), fun i G' M' H' x H'' hi s' sp y => ?_⟩⟩
      obtain ⟨rfl, e⟩ := y
      obtain ⟨d, e', hv⟩ := h2.at e
      exact ⟨d, G', e', Step.refl sp, hv.mono s'⟩
theorem ei_tup (h : Ev K P te ρ k φ) {Φ : List D → Prop} (f : ∀ d, φ d → ∃ ds, d = .tup ds ∧ Φ ds) : EvI K P (iTup K te) ρ k Φ := fun M0 σ G M H m R a l q =>
  h M0 σ G M H m _ a l fun v d G1 M1 H1 s1 a1 p1 v1 => by
    obtain ⟨ds, rfl, hd⟩ := f d p1
    cases v1 with
    | @tup b xs _ h1 h2 =>
      refine ⟨b, rfl, ⟨_, s1.s.g.sqTd h1⟩, q _ ds G1 M1 H1 s1 a1 hd ⟨_, _, by rw [← h2.length]; exact walk_tup, fun H s => s.sqTd h1, fun i G' M' H' x H'' hi s' sp y => ?_⟩⟩
      obtain ⟨rfl, e⟩ := y
      obtain ⟨d, e', hv⟩ := h2.at e
      exact ⟨d, G', e', Step.refl sp, hv.mono s'⟩
def rangeD (n : Nat) : List D := (List.range n).map fun i => .int (i : Nat)
theorem rangeD_len {n : Nat} : (rangeD n).length = n := by simp [rangeD]
theorem rangeD_at {n i : Nat} (h : i < n) : (rangeD n)[i]? = some (.int (i : Nat)) := by simp [rangeD, h]
theorem ei_range1 (h : EvA K P tr ρ k (fun ds => ∃ n : Int, ds = [.int n] ∧ n ≤ 1000000 ∧ -1000000 ≤ n ∧ φ (.int n))) : EvI K P (iRng1 tr) ρ k (fun ds => ∃ n : Int, ds = rangeD n.toNat ∧ φ (.int n)) := fun M0 σ G M H m R a l q =>
  h M0 σ G M H m _ a l fun vs ds G1 M1 H1 s1 a1 p1 v1 => by
    obtain ⟨n, rfl, h1, h2, h3⟩ := p1
    cases v1 with
    | cons hv hn =>
      cases hn
      cases hv
      refine ⟨n, rfl, by omega, by omega, q _ (rangeD n.toNat) G1 M1 H1 s1 a1 ⟨n, rfl, h3⟩ ⟨fun _ => True, _, by rw [rangeD_len]; exact walk_range, fun _ _ => trivial, fun i G' M' H' x H'' hi s' sp y => ?_⟩⟩
      obtain ⟨rfl, rfl⟩ := y
      rw [rangeD_len] at hi
      exact ⟨_, G', rangeD_at hi, Step.refl sp, by show DV K G' (.int (0 + (i : Int))) _; rw [Int.zero_add]; exact .int _⟩
def enumD (ds : List D) : List D := (List.range ds.length).zipWith (fun i d => .tup [.int (i : Nat), d]) ds
theorem enumD_len {ds : List D} : (enumD ds).length = ds.length := by simp [enumD]
theorem enumD_at {ds : List D} {i : Nat} {d : D} (h : ds[i]? = some d) : (enumD ds)[i]? = some (.tup [.int (i : Nat), d]) := by
  have hi : i < ds.length := (List.getElem?_eq_some_iff.mp h).1
  have e2 : ds[i] = d := (List.getElem?_eq_some_iff.mp h).2
  simp [enumD, List.getElem?_zipWith, hi, e2]
theorem pair_step {G M H : Hp} {T : Addr} {x y : V} {a b : D} (s : Sep G M H) (n : H T = none) (hx : DV K G x a) (hy : DV K G y b) : ∃ G'', Step G M H G'' M (upd H T (.tup [x, y])) ∧ DV K G'' (.ref T) (.tup [a, b]) :=
  ⟨_, Step.new s n, new_tup s n (.cons hx (.cons hy .nil))⟩
theorem ei_enum (h : EvA K P tr ρ k (fun ds => ∃ es, ds = [.lst es] ∧ φ (.lst es))) : EvI K P (iEnum K tr) ρ k (fun ds => ∃ es, ds = enumD es ∧ φ (.lst es)) := fun M0 σ G M H m R a l q =>
  h M0 σ G M H m _ a l fun vs ds G1 M1 H1 s1 a1 p1 v1 => by
    obtain ⟨es, rfl, h3⟩ := p1
    cases v1 with
    | cons hv hn =>
      cases hn
      cases hv with
      | @lst b xs _ h1 h2 =>
        refine ⟨b, xs, rfl, sq_of' (s1.s.g _ _ h1), q _ (enumD es) G1 M1 H1 s1 a1 ⟨es, rfl, h3⟩ ⟨_, _, by rw [enumD_len, ← h2.length]; exact walk_enum, fun H s => sq_of' (s _ _ h1), fun i G' M' H' x H'' hi s' sp y => ?_⟩⟩
        obtain ⟨T, x1, y1, rfl, n, rfl, e1, e2⟩ := y
        cases e1
        obtain ⟨d, e', hv⟩ := h2.at e2
        obtain ⟨G'', st, dv⟩ := pair_step sp n (.int (i : Nat)) (hv.mono s')
        exact ⟨_, G'', enumD_at e', st, dv⟩
def signsD (z : Str) : List D := z.cps.toList.map fun c => .str ⟨#[c]⟩
theorem ei_str (h : Ev K P te ρ k φ) {Φ : Str → Prop} (f : ∀ d, φ d → ∃ z, d = .str z ∧ z.length ≤ sizeLine ∧ Φ z) (hi : ∀ σ H R, (te σ H fun x H1 => ∃ z, x = .str z ∧ z.length ≤ sizeLine ∧ R (Its z) H1) → iStr te σ H R) : EvI K P (iStr te) ρ k (fun ds => ∃ z, ds = signsD z ∧ Φ z) := fun M0 σ G M H m R a l q => by
  refine hi _ _ _ (h M0 σ G M H m _ a l fun v d G1 M1 H1 s1 a1 p1 v1 => ?_)
  obtain ⟨z, rfl, hz, hd⟩ := f d p1
  cases v1
  have len : (signsD z).length = z.cps.size := by simp [signsD]
  refine ⟨z, rfl, hz, q _ (signsD z) G1 M1 H1 s1 a1 ⟨z, rfl, hd⟩ ⟨fun _ => True, _, by rw [len]; exact walk_str, fun _ _ => trivial, fun i G' M' H' x H'' hi s' sp y => ?_⟩⟩
  obtain ⟨rfl, c, e, rfl⟩ := y
  refine ⟨.str ⟨#[c]⟩, G', ?_, Step.refl sp, .str _⟩
  unfold signsD
  rw [List.getElem?_map]
  have e2 : z.cps.toList[i]? = some c := by simpa using e
  rw [e2]
  rfl
end
/-! ### statements -/
section
variable (K : PySem.W.Frag) (P : Option Addr)
def NoR : List Sx → Prop := fun _ => False
def NoD : D → Prop := fun _ => False
/-- a statement: N of the slots behind it, B at a break, C at a continue, R of what it hands back -/
def Es (ts : TS) (ρ : List Sx) (k : Nat) (N B C : List Sx → Prop) (R : D → Prop) : Prop := ∀ (M0 : Hp) (σ : L2.St) (G M H : Hp) (m : Nat) (E : Ends), At K P M0 m G M H σ ρ → m + k ≤ BIG →
  (∀ σ' ρ' G2 M2 H2, Step G M H G2 M2 H2 → At K P M0 (m + k) G2 M2 H2 σ' ρ' → N ρ' → E.nx σ' H2) →
  (∀ σ' ρ' G2 M2 H2, Step G M H G2 M2 H2 → At K P M0 (m + k) G2 M2 H2 σ' ρ' → B ρ' → E.bk σ' H2) →
  (∀ σ' ρ' G2 M2 H2, Step G M H G2 M2 H2 → At K P M0 (m + k) G2 M2 H2 σ' ρ' → C ρ' → E.ct σ' H2) →
  (∀ v d σ' ρ' G2 M2 H2, Step G M H G2 M2 H2 → At K P M0 (m + k) G2 M2 H2 σ' ρ' → R d → DV K G2 v d → E.rt v H2) → ts E σ H
end
section
variable {K : PySem.W.Frag} {P : Option Addr} {ρ : List Sx} {te : TE} {tr : TA} {tt : TT} {ti : TI} {g : TG} {k k1 k2 kc : Nat} {φ : D → Prop} {β : Bool → Prop} {i j : Nat} {d : D} {t u : TS} {N N1 B C : List Sx → Prop} {R : D → Prop}
theorem Es.imp {N' B' C' : List Sx → Prop} {R' : D → Prop} (h : Es K P t ρ k N B C R) (hn : ∀ r, N r → N' r) (hb : ∀ r, B r → B' r) (hc : ∀ r, C r → C' r) (hr : ∀ d, R d → R' d) : Es K P t ρ k N' B' C' R' :=
  fun M0 σ G M H m E a l q1 q2 q3 q4 => h M0 σ G M H m E a l (fun σ' ρ' G2 M2 H2 s a z => q1 σ' ρ' G2 M2 H2 s a (hn _ z)) (fun σ' ρ' G2 M2 H2 s a z => q2 σ' ρ' G2 M2 H2 s a (hb _ z))
    (fun σ' ρ' G2 M2 H2 s a z => q3 σ' ρ' G2 M2 H2 s a (hc _ z)) (fun v d σ' ρ' G2 M2 H2 s a z => q4 v d σ' ρ' G2 M2 H2 s a (hr _ z))
theorem Es.le (h : Es K P t ρ k1 N B C R) (l : k1 ≤ k) : Es K P t ρ k N B C R :=
  fun M0 σ G M H m E a b q1 q2 q3 q4 => h M0 σ G M H m E a (by omega) (fun σ' ρ' G2 M2 H2 s a z => q1 σ' ρ' G2 M2 H2 s (a.more (by omega)) z) (fun σ' ρ' G2 M2 H2 s a z => q2 σ' ρ' G2 M2 H2 s (a.more (by omega)) z)
    (fun σ' ρ' G2 M2 H2 s a z => q3 σ' ρ' G2 M2 H2 s (a.more (by omega)) z) (fun v d σ' ρ' G2 M2 H2 s a z => q4 v d σ' ρ' G2 M2 H2 s (a.more (by omega)) z)
/-- it ends in a return, a break, a continue: whatever is asked of what follows -/
theorem es_seq (h1 : Es K P t ρ k1 N1 B C R) (h2 : ∀ ρ1, N1 ρ1 → Es K P u ρ1 k2 N B C R) : Es K P (tSeq t u) ρ (k1 + k2) N B C R := fun M0 σ G M H m E a l q1 q2 q3 q4 => by
  refine h1 M0 σ G M H m { E with nx := u E } a (by omega) (fun σ1 ρ1 G1 M1 H1 s1 a1 n1 => ?_) (fun σ' ρ' G2 M2 H2 s a z => q2 σ' ρ' G2 M2 H2 s (a.more (by omega)) z)
    (fun σ' ρ' G2 M2 H2 s a z => q3 σ' ρ' G2 M2 H2 s (a.more (by omega)) z) (fun v d σ' ρ' G2 M2 H2 s a z => q4 v d σ' ρ' G2 M2 H2 s (a.more (by omega)) z)
  exact h2 ρ1 n1 M0 σ1 G1 M1 H1 (m + k1) E a1 (by omega) (fun σ' ρ' G2 M2 H2 s a z => q1 σ' ρ' G2 M2 H2 (s1.trans s) (a.more (by omega)) z) (fun σ' ρ' G2 M2 H2 s a z => q2 σ' ρ' G2 M2 H2 (s1.trans s) (a.more (by omega)) z)
    (fun σ' ρ' G2 M2 H2 s a z => q3 σ' ρ' G2 M2 H2 (s1.trans s) (a.more (by omega)) z) (fun v d σ' ρ' G2 M2 H2 s a z => q4 v d σ' ρ' G2 M2 H2 (s1.trans s) (a.more (by omega)) z)
theorem es_next : Es K P tNext ρ 0 (· = ρ) NoR NoR NoD := fun M0 σ G M H m E a l q1 _ _ _ => q1 σ ρ G M H (Step.refl a.sep) a rfl
theorem es_brk : Es K P tBreak ρ 0 NoR (· = ρ) NoR NoD := fun M0 σ G M H m E a l _ q1 _ _ => q1 σ ρ G M H (Step.refl a.sep) a rfl
theorem es_cont : Es K P tCont ρ 0 NoR NoR (· = ρ) NoD := fun M0 σ G M H m E a l _ _ q1 _ => q1 σ ρ G M H (Step.refl a.sep) a rfl
theorem es_asg (h : Ev K P te ρ k φ) (l : i < ρ.length) : Es K P (tAsg te (gName i)) ρ k (fun r => ∃ d, φ d ∧ r = ρ.set i (.d d)) NoR NoR NoD := fun M0 σ G M H m E a b q1 _ _ _ =>
  h M0 σ G M H m _ a b fun v d G1 M1 H1 s1 a1 p1 v1 => q1 _ _ G1 M1 H1 s1 (a1.set l v1) ⟨d, p1, rfl⟩
theorem es_asgG {js : List Nat} {f : D → List D} (h : Ev K P te ρ k φ) (hg : ∀ d, φ d → EvG K g js d (f d)) (l : ∀ j ∈ js, j < ρ.length) : Es K P (tAsg te g) ρ k (fun r => ∃ d, φ d ∧ r = setR ρ js (f d)) NoR NoR NoD := fun M0 σ G M H m E a b q1 _ _ _ =>
  h M0 σ G M H m _ a b fun v d G1 M1 H1 s1 a1 p1 v1 => hg d p1 v σ G1 H1 _ a1.sep.g v1 fun vs _ hs => q1 _ _ G1 M1 H1 s1 (a1.setL l hs) ⟨d, p1, rfl⟩
theorem es_ret (h : Ev K P te ρ k φ) : Es K P (tRet te) ρ k NoR NoR NoR φ := fun M0 σ G M H m E a b _ _ _ q4 =>
  h M0 σ G M H m _ a b fun v d G1 M1 H1 s1 a1 p1 v1 => q4 v d σ ρ G1 M1 H1 s1 a1 p1 v1
theorem es_retN : Es K P tRetN ρ 0 NoR NoR NoR (· = .non) := fun M0 σ G M H m E a b _ _ _ q4 => q4 .non .non σ ρ G M H (Step.refl a.sep) a rfl .non
theorem es_drop (h : Ev K P te ρ k φ) : Es K P (tDrop te) ρ k (· = ρ) NoR NoR NoD := fun M0 σ G M H m E a b q1 _ _ _ =>
  h M0 σ G M H m _ a b fun v d G1 M1 H1 s1 a1 p1 v1 => q1 σ ρ G1 M1 H1 s1 a1 rfl
theorem es_if (hc : EvT K P tt ρ kc β) (h1 : β true → Es K P t ρ k N B C R) (h2 : β false → Es K P u ρ k N B C R) : Es K P (tIfS tt t u) ρ (kc + k) N B C R := fun M0 σ G M H m E a l q1 q2 q3 q4 => by
  refine hc M0 σ G M H m _ a (by omega) fun b G1 M1 H1 s1 a1 p1 => ?_
  cases b with
  | true =>
    show t E σ H1
    exact h1 p1 M0 σ G1 M1 H1 (m + kc) E a1 (by omega) (fun σ' ρ' G2 M2 H2 s a z => q1 σ' ρ' G2 M2 H2 (s1.trans s) (a.more (by omega)) z) (fun σ' ρ' G2 M2 H2 s a z => q2 σ' ρ' G2 M2 H2 (s1.trans s) (a.more (by omega)) z)
      (fun σ' ρ' G2 M2 H2 s a z => q3 σ' ρ' G2 M2 H2 (s1.trans s) (a.more (by omega)) z) (fun v d σ' ρ' G2 M2 H2 s a z => q4 v d σ' ρ' G2 M2 H2 (s1.trans s) (a.more (by omega)) z)
  | false =>
    show u E σ H1
    exact h2 p1 M0 σ G1 M1 H1 (m + kc) E a1 (by omega) (fun σ' ρ' G2 M2 H2 s a z => q1 σ' ρ' G2 M2 H2 (s1.trans s) (a.more (by omega)) z) (fun σ' ρ' G2 M2 H2 s a z => q2 σ' ρ' G2 M2 H2 (s1.trans s) (a.more (by omega)) z)
      (fun σ' ρ' G2 M2 H2 s a z => q3 σ' ρ' G2 M2 H2 (s1.trans s) (a.more (by omega)) z) (fun v d σ' ρ' G2 M2 H2 s a z => q4 v d σ' ρ' G2 M2 H2 (s1.trans s) (a.more (by omega)) z)
/-- a for, by an invariant over the turn and what is known of the slots; n: at most so many turns -/
theorem es_for {ki kb n : Nat} {Φ : List D → Prop} {js : List Nat} (hi : EvI K P ti ρ ki Φ) (Iv : List D → Nat → List Sx → Prop) (f : List D → Nat → List D) (hn : ∀ ds, Φ ds → ds.length ≤ n) (h0 : ∀ ds, Φ ds → Iv ds 0 ρ)
    (hl : ∀ ds i r, Iv ds i r → ∀ j ∈ js, j < r.length) (hg : ∀ ds i d r, Φ ds → ds[i]? = some d → Iv ds i r → EvG K g js d (f ds i))
    (hs : ∀ ds i d r, Φ ds → ds[i]? = some d → Iv ds i r → Es K P t (setR r js (f ds i)) kb (Iv ds (i + 1)) N (Iv ds (i + 1)) R) (hd : ∀ ds r, Φ ds → Iv ds ds.length r → N r) :
    Es K P (tFor ti g t) ρ (ki + n * kb) N NoR NoR R := fun M0 σ G M H m E a l q1 _ _ q4 => by
  refine hi M0 σ G M H m _ a (by omega) fun J ds G1 M1 H1 s1 a1 p1 W => ?_
  obtain ⟨GG, YY, w, hG, hY⟩ := W.ex
  have lim : ∀ i, i ≤ ds.length → i * kb ≤ n * kb := fun i h => Nat.mul_le_mul_right _ (Nat.le_trans h (hn ds p1))
  refine for_it w (fun i σ' H' => ∃ ρ' G' M', Step G M H G' M' H' ∧ Same G1 G' ∧ At K P M0 (m + ki + i * kb) G' M' H' σ' ρ' ∧ Iv ds i ρ') ?_ ?_ ?_ ?_
  · exact ⟨ρ, G1, M1, s1, Same.refl _, by rw [Nat.zero_mul, Nat.add_zero]; exact a1, h0 ds p1⟩
  · rintro i σ' H' _ ⟨ρ', G', M', s', sg, a', _⟩
    exact hG H' (sg.trans a'.sep.g)
  · rintro i x σ' H' H'' hlt ⟨ρ', G', M', s', sg, a', iv⟩ y
    obtain ⟨d, G'', e, st, dv⟩ := hY i G' M' H' x H'' hlt sg a'.sep y
    have l1 := lim (i + 1) hlt
    have e1 : (i + 1) * kb = i * kb + kb := by rw [Nat.add_mul, Nat.one_mul]
    refine hg ds i d ρ' p1 e iv x σ' G'' H'' _ st.s.g dv fun vs _ hvs => ?_
    refine hs ds i d ρ' p1 e iv M0 _ G'' M' H'' (m + ki + i * kb) _ ((a'.pure st).setL (hl ds i ρ' iv) hvs) (by omega) (fun σ2 ρ2 G2 M2 H2 s2 a2 z => ?_) (fun σ2 ρ2 G2 M2 H2 s2 a2 z => ?_) (fun σ2 ρ2 G2 M2 H2 s2 a2 z => ?_) (fun v d σ2 ρ2 G2 M2 H2 s2 a2 z hv => ?_)
    · exact ⟨ρ2, G2, M2, (s'.trans st).trans s2, (sg.trans st.gg).trans s2.gg, by rw [e1, ← Nat.add_assoc]; exact a2, z⟩
    · exact q1 σ2 ρ2 G2 M2 H2 ((s'.trans st).trans s2) (a2.more (by omega)) z
    · exact ⟨ρ2, G2, M2, (s'.trans st).trans s2, (sg.trans st.gg).trans s2.gg, by rw [e1, ← Nat.add_assoc]; exact a2, z⟩
    · exact q4 v d σ2 ρ2 G2 M2 H2 ((s'.trans st).trans s2) (a2.more (by omega)) z hv
  · rintro σ' H' ⟨ρ', G', M', s', sg, a', iv⟩
    have l1 := lim ds.length (Nat.le_refl _)
    exact q1 σ' ρ' G' M' H' s' (a'.more (by omega)) (hd ds ρ' p1 iv)
/-- a while, by an invariant with a measure; n: at most so many turns -/
theorem es_while {kb n : Nat} (Iv : Nat → List Sx → Prop) (h0 : Iv n ρ) (hc : ∀ i r, Iv i r → ∃ β, EvT K P tt r kc β ∧ (β true → ∃ i', i = i' + 1 ∧ Es K P t r kb (Iv i') N (Iv i') R) ∧ (β false → N r)) :
    Es K P (tWhile tt t) ρ (n * (kc + kb) + kc) N NoR NoR R := fun M0 σ G M H m E a l q1 _ _ q4 => by
  refine ⟨fun i σ' H' => ∃ ρ' G' M' c, Step G M H G' M' H' ∧ At K P M0 c G' M' H' σ' ρ' ∧ c + (i * (kc + kb) + kc) ≤ m + (n * (kc + kb) + kc) ∧ Iv i ρ', ⟨n, ρ, G, M, m, Step.refl a.sep, a, Nat.le_refl _, h0⟩, ?_⟩
  rintro i σ' H' ⟨ρ', G', M', c, s', a', lc, iv⟩
  obtain ⟨β, ht, h1, h2⟩ := hc i ρ' iv
  refine ht M0 σ' G' M' H' c _ a' (by omega) fun b G1 M1 H1 s1 a1 p1 => ?_
  cases b with
  | true =>
    obtain ⟨i', rfl, hb⟩ := h1 p1
    have e1 : (i' + 1) * (kc + kb) = i' * (kc + kb) + (kc + kb) := by rw [Nat.add_mul, Nat.one_mul]
    rw [if_pos rfl]
    refine ⟨fun σ2 H2 => ∃ ρ' G' M' c, Step G M H G' M' H2 ∧ At K P M0 c G' M' H2 σ2 ρ' ∧ c + (i' * (kc + kb) + kc) ≤ m + (n * (kc + kb) + kc) ∧ Iv i' ρ', fun σ2 H2 z => ⟨i', Nat.lt_succ_self _, z⟩, ?_⟩
    refine hb M0 σ' G1 M1 H1 (c + kc) _ a1 (by omega) (fun σ2 ρ2 G2 M2 H2 s2 a2 z => ?_) (fun σ2 ρ2 G2 M2 H2 s2 a2 z => ?_) (fun σ2 ρ2 G2 M2 H2 s2 a2 z => ?_) (fun v d σ2 ρ2 G2 M2 H2 s2 a2 z hv => ?_)
    · exact ⟨ρ2, G2, M2, c + kc + kb, (s'.trans s1).trans s2, a2, by omega, z⟩
    · exact q1 σ2 ρ2 G2 M2 H2 ((s'.trans s1).trans s2) (a2.more (by omega)) z
    · exact ⟨ρ2, G2, M2, c + kc + kb, (s'.trans s1).trans s2, a2, by omega, z⟩
    · exact q4 v d σ2 ρ2 G2 M2 H2 ((s'.trans s1).trans s2) (a2.more (by omega)) z hv
  | false =>
    rw [if_neg Bool.false_ne_true]
    exact q1 σ' ρ' G1 M1 H1 (s'.trans s1) (a1.more (by omega)) (h2 p1)
end
end Tp

/-! # Comprehensions; owned lists -/
namespace Tp
open PySem PySem.Spec PyProof.Rows L2
section
variable {K : PySem.W.Frag} {P : Option Addr} {M0 G M H : Hp} {m : Nat} {σ : L2.St} {ρ : List Sx} {a : Addr} {u w : HO}
/-- no owned slot is the object at a -/
def NoSlot (σ : L2.St) (ρ : List Sx) (a : Addr) : Prop := ∀ (i : Nat) (b : Ob), ρ[i]? = some (.own b) → σ[i]? ≠ some (some (.ref a))
theorem At.noSlot (z : At K P M0 m G M H σ ρ) (n : H a = none) : NoSlot σ ρ a := fun i b e q => by
  obtain ⟨l, u, e1, _, _, e4, _⟩ := z.sl i _ e
  rw [e1] at q
  cases q
  have h := z.sep.m _ _ e4
  rw [n] at h
  cases h
theorem At.offP (z : At K P M0 m G M H σ ρ) (n : H a = none) : P ≠ some a := fun q => by
  obtain ⟨_, _, _, h, _⟩ := z.pot a q
  have h2 := z.sep.m _ _ h
  rw [n] at h2
  cases h2
theorem At.m0 (z : At K P M0 m G M H σ ρ) (n : H a = none) : M0 a = none := by
  cases q : M0 a with
  | none => rfl
  | some o =>
    have h := z.sep.m _ _ (z.fr a o (z.offP n) q)
    rw [n] at h
    cases h
/-- an object owned beside the slots joins what is kept -/
theorem At.frame (z : At K P M0 m G M H σ ρ) (hp : P ≠ some a) (ns : NoSlot σ ρ a) (h : M a = some u) : At K P (upd M0 a u) m G M H σ ρ where
  sep := z.sep
  pot := z.pot
  fr := fun b o h1 h2 => by
    by_cases q : b = a
    · rw [q, upd_same] at h2
      rw [q, h]
      exact h2
    · rw [upd_ne q] at h2
      exact z.fr b o h1 h2
  len := z.len
  sl := fun i x e => by
    have q := z.sl i x e
    cases x with
    | own b =>
      obtain ⟨l, u, e1, e2, e3, e4, e5⟩ := q
      have ne : l ≠ a := fun k => ns i b e (by rw [e1, k])
      exact ⟨l, u, e1, by rw [upd_ne ne]; exact e2, e3, e4, e5⟩
    | _ => exact q
  nd := z.nd
theorem At.unframe (z : At K P (upd M0 a u) m G M H σ ρ) (n : M0 a = none) : At K P M0 m G M H σ ρ where
  sep := z.sep
  pot := z.pot
  fr := fun b o h1 h2 => z.fr b o h1 (by rw [upd_ne (some_ne h2 n)]; exact h2)
  len := z.len
  sl := fun i x e => by
    have q := z.sl i x e
    cases x with
    | own b =>
      obtain ⟨l, u, e1, e2, e3, e4, e5⟩ := q
      have ne : l ≠ a := fun k => by
        rw [k, upd_same] at e2
        cases e2
      exact ⟨l, u, e1, by rw [upd_ne ne] at e2; exact e2, e3, e4, e5⟩
    | _ => exact q
  nd := z.nd
/-- the object beside the slots changes, from an own place -/
theorem At.put (z : At K P M0 m G M H σ ρ) (hp : P ≠ some a) (n0 : M0 a = none) (ns : NoSlot σ ρ a) (h : M a = some u) : At K P M0 m G (upd M a w) (upd H a w) σ ρ where
  sep := (Step.put z.sep h).s
  pot := fun p e => by
    rw [upd_ne fun q => hp (by rw [← q]; exact e)]
    exact z.pot p e
  fr := fun b o h1 h2 => by
    rw [upd_ne (some_ne h2 n0)]
    exact z.fr b o h1 h2
  len := z.len
  sl := fun i x e => by
    have q := z.sl i x e
    cases x with
    | own b =>
      obtain ⟨l, u, e1, e2, e3, e4, e5⟩ := q
      have ne : l ≠ a := fun k => ns i b e (by rw [e1, k])
      exact ⟨l, u, e1, e2, e3, by rw [upd_ne ne]; exact e4, e5⟩
    | _ => exact q
  nd := z.nd
/-- it is shared -/
theorem At.share (z : At K P M0 m G M H σ ρ) (hp : P ≠ some a) (n0 : M0 a = none) (ns : NoSlot σ ρ a) (h : M a = some u) : At K P M0 m (upd G a u) (dele M a) H σ ρ where
  sep := (Step.share z.sep h).s
  pot := fun p e => by
    rw [dele_ne fun q => hp (by rw [← q]; exact e)]
    exact z.pot p e
  fr := fun b o h1 h2 => by
    rw [dele_ne (some_ne h2 n0)]
    exact z.fr b o h1 h2
  len := z.len
  sl := fun i x e => by
    have q := z.sl i x e
    cases x with
    | un => trivial
    | d x =>
      obtain ⟨v, e1, e2⟩ := q
      exact ⟨v, e1, e2.mono (Step.share z.sep h).gg⟩
    | pot => exact q
    | own b =>
      obtain ⟨l, u, e1, e2, e3, e4, e5⟩ := q
      have ne : l ≠ a := fun k => ns i b e (by rw [e1, k])
      exact ⟨l, u, e1, e2, e3, by rw [dele_ne ne]; exact e4, e5.mono (Step.share z.sep h).gg⟩
    | scr ns =>
      obtain ⟨l, e1, e2⟩ := q
      exact ⟨l, e1, (Step.share z.sep h).gg.sqLd e2⟩
  nd := z.nd
/-- the slots of a comprehension, of which nothing was known -/
theorem wipe_get (σ : L2.St) : ∀ {vs : List Nat} {i : Nat}, i ∉ vs → (wipe σ vs)[i]? = σ[i]?
  | [], _, _ => rfl
  | v :: vs, i, h => by
    unfold wipe
    rw [List.getElem?_set_ne fun q => h (by rw [q]; exact List.mem_cons_self)]
    exact wipe_get σ fun q => h (List.mem_cons_of_mem _ q)
theorem wipeR_get (ρ : List Sx) : ∀ {vs : List Nat} {i : Nat}, i ∉ vs → (wipeR ρ vs)[i]? = ρ[i]?
  | [], _, _ => rfl
  | v :: vs, i, h => by
    unfold wipeR
    rw [List.getElem?_set_ne fun q => h (by rw [q]; exact List.mem_cons_self)]
    exact wipeR_get ρ fun q => h (List.mem_cons_of_mem _ q)
def UnAt (ρ : List Sx) (vs : List Nat) : Prop := ∀ v ∈ vs, ρ[v]? = some .un
theorem wipeR_un : ∀ {vs : List Nat} {ρ : List Sx}, UnAt ρ vs → wipeR ρ vs = ρ
  | [], _, _ => rfl
  | v :: vs, ρ, h => by
    unfold wipeR
    rw [wipeR_un fun w hw => h w (List.mem_cons_of_mem _ hw)]
    have e := h v List.mem_cons_self
    obtain ⟨hv, ev⟩ := List.getElem?_eq_some_iff.mp e
    rw [← ev]
    exact List.set_getElem_self hv
theorem At.unwipe {vs : List Nat} (z : At K P M0 m G M H (L2.wipe σ vs) ρ) (un : UnAt ρ vs) : At K P M0 m G M H σ ρ where
  sep := z.sep
  pot := z.pot
  fr := z.fr
  len := by
    have := z.len
    rw [wipe_length] at this
    exact this
  sl := fun i x e => by
    have q := z.sl i x e
    by_cases h : i ∈ vs
    · rw [un i h] at e
      cases e
      trivial
    · rw [wipe_get σ h] at q
      exact q
  nd := fun i j b b' e1 e2 ne => by
    have h1 : i ∉ vs := fun h => by
      rw [un i h] at e1
      cases e1
    have h2 : j ∉ vs := fun h => by
      rw [un j h] at e2
      cases e2
    have q := z.nd i j b b' e1 e2 ne
    rw [wipe_get σ h1, wipe_get σ h2] at q
    exact q
theorem NoSlot.wipe {vs : List Nat} (un : UnAt ρ vs) (ns : NoSlot σ ρ a) : NoSlot (L2.wipe σ vs) ρ a := fun i b e => by
  have h1 : i ∉ vs := fun h => by
    rw [un i h] at e
    cases e
  rw [wipe_get σ h1]
  exact ns i b e
theorem setL_get : ∀ {js : List Nat} {ws : List V} {σ : L2.St} {i : Nat}, i ∉ js → (setL σ js ws)[i]? = σ[i]?
  | [], _, _, _, _ => rfl
  | _ :: _, [], _, _, _ => rfl
  | j :: js, w :: ws, σ, i, h => by
    show (setL (σ.set j (some w)) js ws)[i]? = _
    rw [setL_get fun q => h (List.mem_cons_of_mem _ q), List.getElem?_set_ne fun q => h (by rw [q]; exact List.mem_cons_self)]
theorem setR_get : ∀ {js : List Nat} {ws : List D} {ρ : List Sx} {i : Nat}, i ∉ js → (setR ρ js ws)[i]? = ρ[i]?
  | [], _, _, _, _ => rfl
  | _ :: _, [], _, _, _ => rfl
  | j :: js, w :: ws, ρ, i, h => by
    show (setR (ρ.set j (.d w)) js ws)[i]? = _
    rw [setR_get fun q => h (List.mem_cons_of_mem _ q), List.getElem?_set_ne fun q => h (by rw [q]; exact List.mem_cons_self)]
theorem setR_own : ∀ {js : List Nat} {ws : List D} {ρ : List Sx} {i : Nat} {b : Ob}, (setR ρ js ws)[i]? = some (.own b) → ρ[i]? = some (.own b)
  | [], _, _, _, _, h => h
  | _ :: _, [], _, _, _, h => h
  | j :: js, w :: ws, ρ, i, b, h => by
    have h2 := setR_own (js := js) (ws := ws) (ρ := ρ.set j (.d w)) h
    by_cases l : j < ρ.length
    · rw [getset l] at h2
      by_cases q : j = i
      · rw [if_pos q] at h2
        cases h2
      · rw [if_neg q] at h2
        exact h2
    · rw [List.set_eq_of_length_le (by omega)] at h2
      exact h2
theorem own_notin {js : List Nat} {vs : List Nat} (un : UnAt ρ vs) (hj : ∀ j ∈ js, j ∈ vs) {i : Nat} {b : Ob} (e : ρ[i]? = some (.own b)) : i ∉ js := fun h => by
  rw [un i (hj i h)] at e
  cases e
/-- back from a comprehension's turn -/
theorem At.back {js vs : List Nat} {ws : List V} {es : List D} (z : At K P M0 m G M H (Tp.setL (L2.wipe σ vs) js ws) (Tp.setR ρ js es)) (un : UnAt ρ vs) (hj : ∀ j ∈ js, j ∈ vs) : At K P M0 m G M H (L2.wipe σ vs) ρ where
  sep := z.sep
  pot := z.pot
  fr := z.fr
  len := by
    have h := z.len
    have e1 : ∀ {js : List Nat} {ws : List V} {σ : L2.St}, (Tp.setL σ js ws).length = σ.length := by
      intro js
      induction js with
      | nil => intros; rfl
      | cons j js ih =>
        intro ws σ
        cases ws with
        | nil => rfl
        | cons w ws =>
          show (Tp.setL (σ.set j (some w)) js ws).length = _
          rw [ih, List.length_set]
    have e2 : ∀ {js : List Nat} {ws : List D} {σ : List Sx}, (Tp.setR σ js ws).length = σ.length := by
      intro js
      induction js with
      | nil => intros; rfl
      | cons j js ih =>
        intro ws σ
        cases ws with
        | nil => rfl
        | cons w ws =>
          show (Tp.setR (σ.set j (.d w)) js ws).length = _
          rw [ih, List.length_set]
    rw [e1, e2] at h
    exact h
  sl := fun i x e => by
    by_cases h : i ∈ vs
    · rw [un i h] at e
      cases e
      trivial
    · have h2 : i ∉ js := fun q => h (hj i q)
      have q := z.sl i x (by rw [setR_get h2]; exact e)
      rw [setL_get h2] at q
      exact q
  nd := fun i j b b' e1 e2 ne => by
    have h1 := own_notin un hj e1
    have h2 := own_notin un hj e2
    have q := z.nd i j b b' (by rw [setR_get h1]; exact e1) (by rw [setR_get h2]; exact e2) ne
    rw [setL_get h1, setL_get h2] at q
    exact q
end
section
variable {K : PySem.W.Frag} {P : Option Addr} {ρ : List Sx} {te : TE} {tt : TT} {ti : TI} {g : TG} {ki kt ke n : Nat} {vs js : List Nat}
/-- [e for .. in .. if ..], by an invariant over the turn and what is made so far -/
theorem ev_lc {Φ : List D → Prop} (un : UnAt ρ vs) (hi : EvI K P ti ρ ki Φ) (hj : ∀ j ∈ js, j ∈ vs) (Iv : List D → Nat → List D → Prop) (f : List D → Nat → D → List D) (β : List D → Nat → List D → D → Bool → Prop)
    (hn : ∀ ds, Φ ds → ds.length ≤ n) (n6 : n ≤ 1000000) (h0 : ∀ ds, Φ ds → Iv ds 0 []) (hl : ∀ ds i acc, Iv ds i acc → acc.length ≤ i)
    (hg : ∀ ds i d, Φ ds → ds[i]? = some d → EvG K g js d (f ds i d))
    (ht : ∀ ds i d acc, Φ ds → ds[i]? = some d → Iv ds i acc → EvT K P tt (setR ρ js (f ds i d)) kt (β ds i acc d))
    (hf : ∀ ds i d acc, Φ ds → ds[i]? = some d → Iv ds i acc → β ds i acc d false → Iv ds (i + 1) acc)
    (he : ∀ ds i d acc, Φ ds → ds[i]? = some d → Iv ds i acc → β ds i acc d true → Ev K P te (setR ρ js (f ds i d)) ke (fun e => Iv ds (i + 1) (acc ++ [e]))) :
    Ev K P (tLc ti g tt te vs) ρ (ki + n * (kt + ke)) (fun d => ∃ ds es, d = .lst es ∧ Φ ds ∧ Iv ds ds.length es) := fun M0 σ G M H m Q a l q => by
  refine hi M0 σ G M H m _ a (by omega) fun J ds G1 M1 H1 s1 a1 p1 W D hD => ?_
  obtain ⟨GG, YY, w, hG, hY⟩ := W.ex
  have lim : ∀ i, i ≤ ds.length → i * (kt + ke) ≤ n * (kt + ke) := fun i h => Nat.mul_le_mul_right _ (Nat.le_trans h (hn ds p1))
  have hp := a1.offP hD
  have n0 := a1.m0 hD
  have ns0 := a1.noSlot hD
  have ns := ns0.wipe un
  have eR := wipeR_un un
  have aw := a1.wipe vs
  rw [eR] at aw
  refine lc_it w (fun i H' => ∃ (G' M' : Hp) (va : List V) (acc : List Tp.D), Step G1 M1 H1 G' M' H' ∧ At K P M0 (m + ki + i * (kt + ke)) G' M' H' (L2.wipe σ vs) ρ ∧ M' D = some (.lst va) ∧ DVs K G' va acc ∧ Iv ds i acc) ?_ ?_ ?_ ?_
  · refine ⟨G1, upd M1 D (.lst []), [], [], Step.own aw.sep hD, ?_, upd_same, .nil, h0 ds p1⟩
    rw [Nat.zero_mul, Nat.add_zero]
    refine aw.go (Step.own aw.sep hD) (fun p e => ?_) fun b o _ z => ?_
    · rw [upd_ne fun q => hp (by rw [← q]; exact e)]
      exact aw.pot p e
    · rw [upd_ne (some_ne z (aw.sep.free hD).2)]
      exact z
  · rintro i H' _ ⟨G', M', va, acc, s', a', _⟩
    exact hG H' (s'.gg.trans a'.sep.g)
  · rintro i x H' H'' hlt ⟨G', M', va, acc, s', a', hM, hv, iv⟩ y
    obtain ⟨d, G'', e, st, dv⟩ := hY i G' M' H' x H'' hlt s'.gg a'.sep y
    have l1 := lim (i + 1) hlt
    have e1 : (i + 1) * (kt + ke) = i * (kt + ke) + (kt + ke) := by rw [Nat.add_mul, Nat.one_mul]
    have few : acc.length ≤ 1000000 := Nat.le_trans (hl ds i acc iv) (Nat.le_trans (Nat.le_of_lt hlt) (Nat.le_trans (hn ds p1) n6))
    refine hg ds i d p1 e x _ G'' H'' _ st.s.g dv fun ws _ hws => ⟨wipe_setL js ws _ hj |>.trans (wipe_wipe σ fun v hv => hv) |>.trans rfl, ?_⟩
    have a2 := ((a'.frame hp ns hM).pure st).setL (js := js) (fun j h => (List.getElem?_eq_some_iff.mp (un j (hj j h))).1) hws
    refine ht ds i d acc p1 e iv (upd M0 D (.lst va)) _ G'' M' H'' (m + ki + i * (kt + ke)) _ a2 (by omega) fun b G3 M3 H3 s3 a3 p3 => ?_
    have out : ∀ {c : Nat} {Gx Mx Hx : Hp}, Step G'' M' H'' Gx Mx Hx → At K P (upd M0 D (.lst va)) c Gx Mx Hx (setL (L2.wipe σ vs) js ws) (setR ρ js (f ds i d)) → Step G1 M1 H1 Gx Mx Hx ∧ At K P M0 c Gx Mx Hx (L2.wipe σ vs) ρ ∧ Mx D = some (.lst va) := fun sx ax =>
      ⟨(s'.trans st).trans sx, (ax.back un hj).unframe n0, ax.fr D _ hp upd_same⟩
    cases b with
    | false =>
      rw [if_neg Bool.false_ne_true]
      obtain ⟨x1, x2, x3⟩ := out s3 a3
      exact ⟨G3, M3, va, acc, x1, x2.more (by omega), x3, hv.mono (st.gg.trans s3.gg), hf ds i d acc p1 e iv p3⟩
    | true =>
      rw [if_pos rfl]
      refine he ds i d acc p1 e iv p3 (upd M0 D (.lst va)) _ G3 M3 H3 (m + ki + i * (kt + ke) + kt) _ a3 (by omega) fun v de G4 M4 H4 s4 a4 p4 v4 => ?_
      obtain ⟨x1, x2, x3⟩ := out (s3.trans s4) a4
      refine ⟨va, x2.sep.m _ _ x3, ?_, G4, upd M4 D (.lst (va ++ [v])), va ++ [v], acc ++ [de], x1.trans (Step.put x2.sep x3), ?_, upd_same, ?_, p4⟩
      · rw [hv.length]
        exact Nat.lt_of_le_of_lt few (by decide)
      · exact (x2.put hp n0 ns x3).more (by omega)
      · exact (hv.mono ((st.gg.trans s3.gg).trans s4.gg)).snoc v4
  · rintro H' ⟨G', M', va, acc, s', a', hM, hv, iv⟩
    have l1 := lim ds.length (Nat.le_refl _)
    have a2 := (a'.share hp n0 ns hM).unwipe un
    refine q _ (.lst acc) _ _ H' ((s1.trans s').trans (Step.share a'.sep hM)) (a2.more (by omega)) ⟨ds, acc, rfl, p1, iv⟩ (.lst upd_same (hv.mono (Step.share a'.sep hM).gg))
theorem et_yes : EvT K P tYes ρ 0 (· = true) := fun M0 σ G M H m Q a _ q => q true G M H (Step.refl a.sep) a rfl
/-- item by item -/
def Each (R : Nat → D → D → Prop) (ds es : List D) : Prop := es.length = ds.length ∧ ∀ i d e, ds[i]? = some d → es[i]? = some e → R i d e
theorem ev_lcAll {Φ : List D → Prop} (un : UnAt ρ vs) (hi : EvI K P ti ρ ki Φ) (hj : ∀ j ∈ js, j ∈ vs) (R : List D → Nat → D → D → Prop) (f : List D → Nat → D → List D) (hn : ∀ ds, Φ ds → ds.length ≤ n) (n6 : n ≤ 1000000)
    (hg : ∀ ds i d, Φ ds → ds[i]? = some d → EvG K g js d (f ds i d)) (he : ∀ ds i d, Φ ds → ds[i]? = some d → Ev K P te (setR ρ js (f ds i d)) ke (R ds i d)) :
    Ev K P (tLc ti g tYes te vs) ρ (ki + n * ke) (fun d => ∃ ds es, d = .lst es ∧ Φ ds ∧ Each (R ds) ds es) := by
  have h := ev_lc (kt := 0) (tt := tYes) (te := te) (ke := ke) un hi hj (fun ds i acc => acc.length = i ∧ ∀ j d e, j < i → ds[j]? = some d → acc[j]? = some e → R ds j d e) f (fun _ _ _ _ => (· = true)) hn n6
    (fun ds _ => ⟨rfl, fun j d e h => absurd h (Nat.not_lt_zero j)⟩) (fun _ _ _ h => Nat.le_of_eq h.1) hg (fun _ _ _ _ _ _ _ => et_yes) (fun _ _ _ _ _ _ _ h => nomatch h)
    (fun ds i d acc p e iv _ => (he ds i d p e).imp fun x hx => ⟨by rw [List.length_append, List.length_singleton, iv.1], fun j d' e' hj h1 h2 => by
      by_cases q : j < i
      · rw [List.getElem?_append_left (by rw [iv.1]; exact q)] at h2
        exact iv.2 j d' e' q h1 h2
      · have q2 : j = i := by omega
        subst q2
        rw [List.getElem?_append_right (by rw [iv.1]; exact Nat.le_refl _), iv.1, Nat.sub_self] at h2
        rw [e] at h1
        cases h1
        cases h2
        exact hx⟩)
  rw [Nat.zero_add] at h
  exact h.imp fun d ⟨ds, es, e, p, l, r⟩ => ⟨ds, es, e, p, l, fun i d e h1 h2 => r i d e (List.getElem?_eq_some_iff.mp h1).1 h1 h2⟩
end
end Tp

/-! # Owned lists as they grow; operations on data -/
namespace Tp
open PySem PySem.Spec PyProof.Rows L2
section
variable {K : PySem.W.Frag} {P : Option Addr} {M0 G M H : Hp} {m : Nat} {σ : L2.St} {ρ : List Sx} {a : Addr} {u w : HO} {i : Nat}
/-- a slot of which nothing was known is known by its value -/
theorem At.know (z : At K P M0 m G M H σ ρ) {v : V} {x : D} (e : σ[i]? = some (some v)) (h : DV K G v x) : At K P M0 m G M H σ (ρ.set i (.d x)) where
  sep := z.sep
  pot := z.pot
  fr := z.fr
  len := by rw [List.length_set, z.len]
  sl := fun j y k => by
    by_cases l : i < ρ.length
    · rw [getset l] at k
      by_cases q : i = j
      · rw [if_pos q] at k
        cases k
        exact ⟨v, by rw [← q]; exact e, h⟩
      · rw [if_neg q] at k
        exact z.sl j y k
    · rw [List.set_eq_of_length_le (by omega)] at k
      exact z.sl j y k
  nd := fun j k b b' e1 e2 ne => by
    by_cases l : i < ρ.length
    · rw [getset l] at e1 e2
      by_cases q : i = j
      · rw [if_pos q] at e1
        cases e1
      · by_cases q' : i = k
        · rw [if_pos q'] at e2
          cases e2
        · rw [if_neg q] at e1
          rw [if_neg q'] at e2
          exact z.nd j k b b' e1 e2 ne
    · rw [List.set_eq_of_length_le (by omega)] at e1 e2
      exact z.nd j k b b' e1 e2 ne
theorem own_lt (e : ρ[i]? = some x) : i < ρ.length := (List.getElem?_eq_some_iff.mp e).1
/-- the owned object in a slot: what stands there, and that no other slot holds it -/
theorem At.own (z : At K P M0 m G M H σ ρ) {b : Ob} (e : ρ[i]? = some (.own b)) : ∃ l u, σ[i]? = some (some (.ref l)) ∧ M0 l = none ∧ P ≠ some l ∧ M l = some u ∧ OwnO K G u b ∧ NoSlot σ (ρ.set i .un) l := by
  obtain ⟨l, u, e1, e2, e3, e4, e5⟩ := z.sl i _ e
  refine ⟨l, u, e1, e2, e3, e4, e5, fun j b' k q => ?_⟩
  rw [getset (own_lt e)] at k
  by_cases h : i = j
  · rw [if_pos h] at k
    cases k
  · rw [if_neg h] at k
    exact z.nd i j b b' e k h (e1.trans q.symm)
theorem set_set' {x y : Sx} : (ρ.set i x).set i y = ρ.set i y := List.set_set ..
/-- the owned object in a slot is shared -/
theorem At.shareSlot (z : At K P M0 m G M H σ ρ) {ds : List D} (e : ρ[i]? = some (.own (.lst ds))) : ∃ G2 M2, Step G M H G2 M2 H ∧ At K P M0 m G2 M2 H σ (ρ.set i (.d (.lst ds))) := by
  obtain ⟨l, u, e1, e2, e3, e4, ⟨vs, rfl, hv⟩, ns⟩ := z.own e
  have st := Step.share z.sep e4
  refine ⟨_, _, st, ?_⟩
  have q := ((z.un i).share e3 e2 ns e4).know e1 (.lst upd_same (hv.mono st.gg))
  rw [set_set'] at q
  exact q
theorem At.shareDic (z : At K P M0 m G M H σ ρ) {ds : List (L2.Key × D)} (e : ρ[i]? = some (.own (.dic ds))) : ∃ G2 M2, Step G M H G2 M2 H ∧ At K P M0 m G2 M2 H σ (ρ.set i (.d (.dic ds))) := by
  obtain ⟨l, u, e1, e2, e3, e4, ⟨vs, rfl, hv⟩, ns⟩ := z.own e
  have st := Step.share z.sep e4
  refine ⟨_, _, st, ?_⟩
  have q := ((z.un i).share e3 e2 ns e4).know e1 (.dic (.inl upd_same) (hv.mono st.gg))
  rw [set_set'] at q
  exact q
/-- a new owned object in a slot -/
theorem At.ownNew (z : At K P M0 m G M H σ ρ) (l : i < ρ.length) (n : H a = none) {b : Ob} (o : OwnO K G u b) : At K P M0 m G (upd M a u) (upd H a u) (σ.set i (some (.ref a))) (ρ.set i (.own b)) where
  sep := (Step.own z.sep n).s
  pot := fun p e => by
    rw [upd_ne fun q => z.offP n (by rw [← q]; exact e)]
    exact z.pot p e
  fr := fun b o h1 h2 => by
    have q := z.fr b o h1 h2
    rw [upd_ne (some_ne q (z.sep.free n).2)]
    exact q
  len := by rw [List.length_set, List.length_set, z.len]
  sl := fun j y e => by
    rw [getset l] at e
    rw [getset (by rw [z.len]; exact l)]
    by_cases q : i = j
    · rw [if_pos q] at e ⊢
      cases e
      exact ⟨a, u, rfl, z.m0 n, z.offP n, upd_same, o⟩
    · rw [if_neg q] at e ⊢
      have r := z.sl j y e
      cases y with
      | own b =>
        obtain ⟨l, u, e1, e2, e3, e4, e5⟩ := r
        exact ⟨l, u, e1, e2, e3, by rw [upd_ne (some_ne e4 (z.sep.free n).2)]; exact e4, e5⟩
      | _ => exact r
  nd := fun j k b b' e1 e2 ne => by
    rw [getset l] at e1 e2
    rw [getset (by rw [z.len]; exact l), getset (by rw [z.len]; exact l)]
    by_cases q : i = j
    · by_cases q' : i = k
      · exact absurd (q.symm.trans q') ne
      · rw [if_neg q'] at e2
        rw [if_pos q, if_neg q']
        exact fun h => z.noSlot n k b' e2 h.symm
    · rw [if_neg q] at e1
      by_cases q' : i = k
      · rw [if_neg q, if_pos q']
        exact fun h => z.noSlot n j b e1 h
      · rw [if_neg q'] at e2
        rw [if_neg q, if_neg q']
        exact z.nd j k b b' e1 e2 ne
/-- the owned object in a slot changes -/
theorem At.ownPut (z : At K P M0 m G M H σ ρ) {l : Addr} {b b2 : Ob} (e : ρ[i]? = some (.own b)) (e1 : σ[i]? = some (some (.ref l))) (e2 : M0 l = none) (e3 : P ≠ some l) (e4 : M l = some u) (ns : NoSlot σ (ρ.set i .un) l) (o : OwnO K G w b2) :
    At K P M0 m G (upd M l w) (upd H l w) σ (ρ.set i (.own b2)) := by
  have q := (z.un i).put (w := w) e3 e2 ns e4
  refine { sep := q.sep, pot := q.pot, fr := q.fr, len := by rw [List.length_set, z.len], sl := fun j y k => ?_, nd := fun j k b1 b1' k1 k2 ne => ?_ }
  · rw [getset (own_lt e)] at k
    by_cases h : i = j
    · rw [if_pos h] at k
      cases k
      exact ⟨l, w, by rw [← h]; exact e1, e2, e3, upd_same, o⟩
    · rw [if_neg h] at k
      exact q.sl j y (by rw [getset (own_lt e), if_neg h]; exact k)
  · rw [getset (own_lt e)] at k1 k2
    by_cases h : i = j
    · by_cases h' : i = k
      · exact absurd (h.symm.trans h') ne
      · rw [if_neg h'] at k2
        rw [← h]
        exact z.nd i k b b1' e k2 h'
    · rw [if_neg h] at k1
      by_cases h' : i = k
      · rw [← h']
        exact z.nd j i b1 b k1 e fun h2 => h h2.symm
      · rw [if_neg h'] at k2
        exact z.nd j k b1 b1' k1 k2 ne
end
section
variable {K : PySem.W.Frag} {P : Option Addr} {ρ : List Sx} {te : TE} {tr : TA} {k : Nat} {φ : D → Prop} {i : Nat} {t : TS} {N B C : List Sx → Prop} {R : D → Prop}
/-- found = [..], to be changed later -/
theorem es_newL {Φ : List D → Prop} (h : EvA K P tr ρ k Φ) (l : i < ρ.length) (f : ∀ ds, Φ ds → ds.length ≤ 1000000) : Es K P (tAsg (tLst tr) (gName i)) ρ k (fun r => ∃ ds, Φ ds ∧ r = ρ.set i (.own (.lst ds))) NoR NoR NoD := fun M0 σ G M H m E a b q1 _ _ _ =>
  h M0 σ G M H m _ a b fun vs ds G1 M1 H1 s1 a1 p1 v1 => ⟨szOk (by rw [v1.length]; exact f ds p1), fun p n =>
    q1 _ _ _ _ _ (s1.trans (Step.own a1.sep n)) (a1.ownNew (b := .lst ds) l n ⟨vs, rfl, v1⟩) ⟨ds, p1, rfl⟩⟩
theorem es_newD (l : i < ρ.length) : Es K P (tAsg tDNewK (gName i)) ρ 0 (· = ρ.set i (.own (.dic []))) NoR NoR NoD := fun M0 σ G M H m E a b q1 _ _ _ => fun p n =>
    q1 _ _ _ _ _ (Step.own a.sep n) (a.ownNew (b := .dic []) l n ⟨[], rfl, .nil⟩) rfl
theorem small_lt {n : Nat} (h : n < 1000000) : n < sizeLine := Nat.lt_of_lt_of_le h (by decide)
/-- found.append(e) -/
theorem es_app {ds : List D} (e : ρ[i]? = some (.own (.lst ds))) (h : Ev K P te ρ k φ) (few : ds.length < 1000000) : Es K P (tDrop (tBM K "list" rAppend (tVar i) (tCons te tNil))) ρ k (fun r => ∃ d, φ d ∧ r = ρ.set i (.own (.lst (ds ++ [d])))) NoR NoR NoD := fun M0 σ G M H m E a b q1 _ _ _ => by
  obtain ⟨l, u, e1, _, _, e4, ⟨vs, rfl, _⟩, _⟩ := a.own e
  refine ⟨.ref l, e1, .inl ⟨rfl, _, sq_of' (a.sep.m _ _ e4)⟩, h M0 σ G M H m _ a b fun v d G1 M1 H1 s1 a1 p1 v1 => ?_⟩
  obtain ⟨l', u', f1, f2, f3, f4, ⟨ws, rfl, hw⟩, ns⟩ := a1.own e
  rw [e1] at f1
  cases f1
  refine ⟨l, ws, v, rfl, rfl, a1.sep.m _ _ f4, by rw [hw.length]; exact small_lt few, ?_⟩
  exact q1 _ _ _ _ _ (s1.trans (Step.put a1.sep f4)) (a1.ownPut (w := .lst (ws ++ [v])) (b2 := .lst (ds ++ [d])) e e1 f2 f3 f4 ns ⟨_, rfl, hw.snoc v1⟩) ⟨d, p1, rfl⟩
/-- found.extend(e) -/
theorem es_ext {ds : List D} (e : ρ[i]? = some (.own (.lst ds))) (h : Ev K P te ρ k φ) (f : ∀ d, φ d → ∃ es, d = .lst es ∧ ds.length + es.length ≤ 1000000) :
    Es K P (tDrop (tBM K "list" rExtend (tVar i) (tCons te tNil))) ρ k (fun r => ∃ es, φ (.lst es) ∧ r = ρ.set i (.own (.lst (ds ++ es)))) NoR NoR NoD := fun M0 σ G M H m E a b q1 _ _ _ => by
  obtain ⟨l, u, e1, _, _, e4, ⟨vs, rfl, _⟩, _⟩ := a.own e
  refine ⟨.ref l, e1, .inl ⟨rfl, _, sq_of' (a.sep.m _ _ e4)⟩, h M0 σ G M H m _ a b fun v d G1 M1 H1 s1 a1 p1 v1 => ?_⟩
  obtain ⟨es, rfl, few⟩ := f d p1
  obtain ⟨l', u', f1, f2, f3, f4, ⟨ws, rfl, hw⟩, ns⟩ := a1.own e
  rw [e1] at f1
  cases f1
  cases v1 with
  | @lst p xs _ g1 g2 =>
    refine ⟨l, p, ws, xs, rfl, rfl, a1.sep.m _ _ f4, a1.sep.g _ _ g1, by rw [hw.length, g2.length]; exact szOk few, ?_⟩
    exact q1 _ _ _ _ _ (s1.trans (Step.put a1.sep f4)) (a1.ownPut (w := .lst (ws ++ xs)) (b2 := .lst (ds ++ es)) e e1 f2 f3 f4 ns ⟨_, rfl, hw.append g2⟩) ⟨es, p1, rfl⟩
/-- from here on it is shared -/
theorem es_share {ds : List D} (e : ρ[i]? = some (.own (.lst ds))) (h : Es K P t (ρ.set i (.d (.lst ds))) k N B C R) : Es K P t ρ k N B C R := fun M0 σ G M H m E a b q1 q2 q3 q4 => by
  obtain ⟨G2, M2, st, a2⟩ := a.shareSlot e
  exact h M0 σ G2 M2 H m E a2 b (fun σ' ρ' G3 M3 H3 s a z => q1 σ' ρ' G3 M3 H3 (st.trans s) a z) (fun σ' ρ' G3 M3 H3 s a z => q2 σ' ρ' G3 M3 H3 (st.trans s) a z)
    (fun σ' ρ' G3 M3 H3 s a z => q3 σ' ρ' G3 M3 H3 (st.trans s) a z) (fun v d σ' ρ' G3 M3 H3 s a z => q4 v d σ' ρ' G3 M3 H3 (st.trans s) a z)
theorem es_shareD {ds : List (L2.Key × D)} (e : ρ[i]? = some (.own (.dic ds))) (h : Es K P t (ρ.set i (.d (.dic ds))) k N B C R) : Es K P t ρ k N B C R := fun M0 σ G M H m E a b q1 q2 q3 q4 => by
  obtain ⟨G2, M2, st, a2⟩ := a.shareDic e
  exact h M0 σ G2 M2 H m E a2 b (fun σ' ρ' G3 M3 H3 s a z => q1 σ' ρ' G3 M3 H3 (st.trans s) a z) (fun σ' ρ' G3 M3 H3 s a z => q2 σ' ρ' G3 M3 H3 (st.trans s) a z)
    (fun σ' ρ' G3 M3 H3 s a z => q3 σ' ρ' G3 M3 H3 (st.trans s) a z) (fun v d σ' ρ' G3 M3 H3 s a z => q4 v d σ' ρ' G3 M3 H3 (st.trans s) a z)
/-- slots forgotten -/
theorem es_weak {ρ' : List Sx} (h : Es K P t ρ' k N B C R) (l : ρ'.length = ρ.length) (f : ∀ i : Nat, ρ'[i]? = ρ[i]? ∨ ρ'[i]? = some .un) : Es K P t ρ k N B C R := fun M0 σ G M H m E a b q1 q2 q3 q4 =>
  h M0 σ G M H m E (a.weak l f) b q1 q2 q3 q4
theorem weak_set (j : Nat) : ∀ i : Nat, (ρ.set j .un)[i]? = ρ[i]? ∨ (ρ.set j .un)[i]? = some .un := fun i => by
  by_cases h : j < ρ.length
  · rw [getset h]
    by_cases q : j = i
    · rw [if_pos q]
      exact .inr rfl
    · rw [if_neg q]
      exact .inl rfl
  · rw [List.set_eq_of_length_le (by omega)]
    exact .inl rfl
theorem es_un (j : Nat) (h : Es K P t (ρ.set j .un) k N B C R) : Es K P t ρ k N B C R := es_weak h (by rw [List.length_set]) (weak_set j)
end
/-! ### from a body to the def's promise -/
section
variable {K : PySem.W.Frag} {k : Nat} {pre : List D → Prop} {post : List D → D → Prop}
def paramsR (ds : List D) : List Sx := ds.map .d
theorem at_start {G M H : Hp} {m : Nat} {P : Option Addr} {vs : List V} {ds : List D} {N : List Str} (s : Sep G M H) (p : PotM P m M) (h : DVs K G vs ds) (l : ds.length ≤ N.length) :
    At K P M m G M H (L2.start N vs) (ds.map Sx.d ++ List.replicate (N.length - ds.length) .un) where
  sep := s
  pot := p
  fr := fun _ _ _ z => z
  len := by
    unfold L2.start
    rw [List.length_append, List.length_append, List.length_map, List.length_map, List.length_replicate, List.length_replicate, h.length]
  sl := fun i x e => by
    by_cases q : i < ds.length
    · rw [List.getElem?_append_left (by rw [List.length_map]; exact q), List.getElem?_map] at e
      cases hd : ds[i]? with
      | none =>
        rw [hd] at e
        cases e
      | some d =>
        rw [hd] at e
        cases e
        obtain ⟨v, h1, h2⟩ := h.back hd
        refine ⟨v, ?_, h2⟩
        unfold L2.start
        rw [List.getElem?_append_left (by rw [List.length_map, h.length]; exact q), List.getElem?_map, h1]
        rfl
    · rw [List.getElem?_append_right (by rw [List.length_map]; omega), List.getElem?_replicate] at e
      split at e
      · cases e
        trivial
      · cases e
  nd := fun i j b b' e1 e2 ne => by
    by_cases q : i < ds.length
    · rw [List.getElem?_append_left (by rw [List.length_map]; exact q), List.getElem?_map] at e1
      cases hd : ds[i]? with
      | none =>
        rw [hd] at e1
        cases e1
      | some d =>
        rw [hd] at e1
        cases e1
    · rw [List.getElem?_append_right (by rw [List.length_map]; omega), List.getElem?_replicate] at e1
      split at e1
      · cases e1
      · cases e1
theorem at_startP {G M H : Hp} {m : Nat} {p : Addr} {vs : List V} {ds : List D} {N : List Str} (s : Sep G M H) (pm : PotM (some p) m M) (h : DVs K G vs ds) (l : ds.length + 1 ≤ N.length) :
    At K (some p) M m G M H (L2.start N (.ref p :: vs)) (.pot :: (ds.map Sx.d ++ List.replicate (N.length - (ds.length + 1)) .un)) := by
  cases N with
  | nil => exact absurd l (by simp)
  | cons n N =>
    have l2 : ds.length ≤ N.length := by simpa using l
    have a := at_start (K := K) (N := N) s pm h l2
    have e1 : L2.start (n :: N) (.ref p :: vs) = some (.ref p) :: L2.start N vs := by
      unfold L2.start
      rw [List.map_cons, List.length_cons, List.length_cons, Nat.add_sub_add_right]
      rfl
    have e2 : (n :: N).length - (ds.length + 1) = N.length - ds.length := by
      rw [List.length_cons, Nat.add_sub_add_right]
    rw [e1, e2]
    refine { sep := s, pot := pm, fr := fun _ _ _ z => z, len := by rw [List.length_cons, List.length_cons, a.len], sl := fun i x e => ?_, nd := fun i j b b' k1 k2 ne => ?_ }
    · cases i with
      | zero =>
        cases e
        exact ⟨p, rfl, rfl⟩
      | succ i => exact a.sl i x e
    · cases i with
      | zero => cases k1
      | succ i =>
        cases j with
        | zero => cases k2
        | succ j => exact a.nd i j b b' k1 k2 fun q => ne (congrArg (· + 1) q)
/-- a body over data keeps the promise -/
theorem body_D {t : TS} {N : List Str} (l : ∀ ds, pre ds → ds.length ≤ N.length)
    (h : ∀ ds, pre ds → Es K none t (ds.map Sx.d ++ List.replicate (N.length - ds.length) .un) 0 (fun _ => post ds .non) NoR NoR (post ds)) {vs : List V} {H : Hp} {Q : VK} {E : XK} (z : spD K k pre post vs H Q E) :
    t { nx := fun _ H' => Q .non H', rt := Q } (L2.start N vs) H := by
  obtain ⟨G, M, ds, s, hv, hp, q⟩ := z
  refine h ds hp M _ G M H 0 _ (at_start s PotM.no hv (l ds hp)) (by decide) (fun σ' ρ' G2 M2 H2 st a z => ?_) (fun _ _ _ _ _ _ _ z => z.elim) (fun _ _ _ _ _ _ _ z => z.elim) (fun v d σ' ρ' G2 M2 H2 st a z hv => ?_)
  · exact q .non .non G2 H2 (st.drop fun b o hb => a.fr b o (fun e => nomatch e) hb) z .non
  · exact q v d G2 H2 (st.drop fun b o hb => a.fr b o (fun e => nomatch e) hb) z hv
theorem body_P {t : TS} {N : List Str} (l : ∀ ds, pre ds → ds.length + 1 ≤ N.length)
    (h : ∀ p ds, pre ds → Es K (some p) t (.pot :: (ds.map Sx.d ++ List.replicate (N.length - (ds.length + 1)) .un)) k (fun _ => post ds .non) NoR NoR (post ds)) {vs : List V} {H : Hp} {Q : VK} {E : XK} (z : spP K k pre post vs H Q E) :
    t { nx := fun _ H' => Q .non H', rt := Q } (L2.start N vs) H := by
  obtain ⟨p, us, G, M, m, ds, rfl, s, pm, ⟨o, ho⟩, lm, hv, hp, q⟩ := z
  have fin : ∀ {v : V} {d : D} {σ' : L2.St} {ρ' : List Sx} {G2 M2 H2 : Hp}, Step G M H G2 M2 H2 → At K (some p) M (m + k) G2 M2 H2 σ' ρ' → post ds d → DV K G2 v d → Q v H2 := fun {v d σ' ρ' G2 M2 H2} st a z hv => by
    let M3 : Hp := fun b => if b = p then M2 b else M b
    have e3 : M3 p = M2 p := if_pos rfl
    have n3 : ∀ b, b ≠ p → M3 b = M b := fun b h => if_neg h
    have sm : Same M3 M2 := fun b o hb => by
      by_cases q : b = p
      · rw [q] at hb ⊢
        rw [← e3]
        exact hb
      · rw [n3 b q] at hb
        exact a.fr b o (fun e => q (Option.some.inj e).symm) hb
    refine q v d G2 M3 H2 (st.drop sm) (fun p' e => ?_) n3 z hv
    cases e
    rw [e3]
    exact a.pot p rfl
  refine h p ds hp M _ G M H m _ (at_startP s pm hv (l ds hp)) lm (fun σ' ρ' G2 M2 H2 st a z => fin st a z .non) (fun _ _ _ _ _ _ _ z => z.elim) (fun _ _ _ _ _ _ _ z => z.elim) (fun v d σ' ρ' G2 M2 H2 st a z hv => fin st a z hv)
end
end Tp

/-! # Operations: one rule a sign, what it does to data -/
namespace Tp
open PySem PySem.Spec PyProof.Rows L2
abbrev rAddI : R2 := rI0 fun i j => .int (i + j)
abbrev rAddS : R2 := fun x y H Q => ∃ i j, x = .str i ∧ y = .str j ∧ i.length + j.length ≤ sizeLine ∧ Q (.str (i ++ j)) H
abbrev orR (r r' : R2) : R2 := fun x y H Q => r x y H Q ∨ r' x y H Q
abbrev rAdd1 (K : PySem.W.Frag) : R2 := orR rAddI (orR rAddS (orR rCat (rCatA K)))
abbrev rMul1 : R2 := orR (rI CMulW fun i j => .int (i * j)) rRep
/-- powers below 2 ^ 27 bits -/
def CPowW (i j : Int) : Prop := 0 ≤ j ∧ (Builtin.Int.intBits i : Int) * j ≤ 2 ^ 27
abbrev rEq1 (K : PySem.W.Frag) : R2 := orR rEq (orR (rEqD K) (rEqS K))
abbrev rNe1 (K : PySem.W.Frag) : R2 := orR rNe (rNeD K)
section
variable {X : Cx}
theorem op_add1 : OpR X (binaryOp .Add) (rAdd1 X.K) := op_add.or (op_add_str.or (op_cat.or op_catA))
theorem op_mul1 : OpR X (binaryOp .Mult) rMul1 := op_mulW.or op_rep
theorem op_fdiv1 : OpR X (binaryOp .FloorDiv) (rI CDivW fun i j => .int (i / j)) := op_fdivW
theorem op_powW : OpR X (binaryOp .Pow) (rI CPowW fun i j => .int (i ^ j.toNat)) := opI fun _ _ _ _ _ _ _ hc q => pow_int hc.1 hc.2 q
theorem op_eq1 (hu : X.A.units + 64 < cLine) : OpR X (compareOp .Eq) (rEq1 X.K) := op_eq.or ((op_eqD hu).or (op_eqS hu))
theorem op_ne1 (hu : X.A.units + 64 < cLine) : OpR X (compareOp .NotEq) (rNe1 X.K) := op_ne.or (op_neD hu)
end
section
variable {K : PySem.W.Frag} {r r' : R2} {a b c d : D} {χ : D → Prop} {i j : Int}
theorem OpD.inl (h : OpD K r a b χ) : OpD K (orR r r') a b χ := fun x y G M H Q s ha hb q => .inl (h x y G M H Q s ha hb q)
theorem OpD.inr (h : OpD K r' a b χ) : OpD K (orR r r') a b χ := fun x y G M H Q s ha hb q => .inr (h x y G M H Q s ha hb q)
theorem opd_I0 {g : Int → Int → V} (h : ∀ G, DV K G (g i j) d) : OpD K (rI0 g) (.int i) (.int j) (· = d) := fun x y G M H Q s ha hb q => by
  cases ha
  cases hb
  exact ⟨i, j, rfl, rfl, q _ d G H (Step.refl s) rfl (h G)⟩
theorem opd_I {C : Int → Int → Prop} {g : Int → Int → V} (hc : C i j) (h : ∀ G, DV K G (g i j) d) : OpD K (rI C g) (.int i) (.int j) (· = d) := fun x y G M H Q s ha hb q => by
  cases ha
  cases hb
  exact ⟨i, j, rfl, rfl, hc, q _ d G H (Step.refl s) rfl (h G)⟩
theorem od_add : OpD K (rAdd1 K) (.int i) (.int j) (· = .int (i + j)) := (opd_I0 fun _ => .int _).inl
theorem od_sub : OpD K (rI0 fun i j => .int (i - j)) (.int i) (.int j) (· = .int (i - j)) := opd_I0 fun _ => .int _
theorem od_mul (h : CMulW i j) : OpD K rMul1 (.int i) (.int j) (· = .int (i * j)) := (opd_I h fun _ => .int _).inl
theorem od_mod (h : 0 < j) : OpD K (rI (fun _ j => 0 < j) fun i j => .int (i % j)) (.int i) (.int j) (· = .int (i % j)) := opd_I h fun _ => .int _
theorem od_fdiv (h : CDivW i j) : OpD K (rI CDivW fun i j => .int (i / j)) (.int i) (.int j) (· = .int (i / j)) := opd_I h fun _ => .int _
theorem od_lt : OpD K (rI0 fun i j => .bl (decide (i < j))) (.int i) (.int j) (· = .bl (decide (i < j))) := opd_I0 fun _ => .bl _
theorem od_le : OpD K (rI0 fun i j => .bl (decide (i ≤ j))) (.int i) (.int j) (· = .bl (decide (i ≤ j))) := opd_I0 fun _ => .bl _
theorem od_gt : OpD K (rI0 fun i j => .bl (decide (j < i))) (.int i) (.int j) (· = .bl (decide (j < i))) := opd_I0 fun _ => .bl _
theorem od_ge : OpD K (rI0 fun i j => .bl (decide (j ≤ i))) (.int i) (.int j) (· = .bl (decide (j ≤ i))) := opd_I0 fun _ => .bl _
theorem od_addS {x y : Str} (h : x.length + y.length ≤ 1000000) : OpD K (rAdd1 K) (.str x) (.str y) (· = .str (x ++ y)) := OpD.inr (OpD.inl fun u v G M H Q s ha hb q => by
  cases ha
  cases hb
  exact ⟨x, y, rfl, rfl, szOk h, q _ _ G H (Step.refl s) rfl (.str _)⟩)
theorem od_addL {xs ys : List D} (h : xs.length + ys.length ≤ 1000000) : OpD K (rAdd1 K) (.lst xs) (.lst ys) (· = .lst (xs ++ ys)) := OpD.inr (OpD.inr (OpD.inl fun u v G M H Q s ha hb q => by
  cases ha with
  | lst h1 k1 =>
    cases hb with
    | lst h2 k2 => exact ⟨_, _, _, _, rfl, rfl, s.g _ _ h1, s.g _ _ h2, by rw [k1.length, k2.length]; exact szOk h, fun p n => q _ _ _ _ (Step.new s n) rfl (new_lst s n (k1.append k2))⟩))
theorem od_addT {xs ys : List D} (h : xs.length + ys.length ≤ 1000000) : OpD K (rAdd1 K) (.tup xs) (.tup ys) (· = .tup (xs ++ ys)) := OpD.inr (OpD.inr (OpD.inr fun u v G M H Q s ha hb q => by
  cases ha with
  | tup h1 k1 =>
    cases hb with
    | tup h2 k2 =>
      refine ⟨_, _, _, _, rfl, rfl, s.g.sqTd h1, s.g.sqTd h2, by rw [k1.length, k2.length]; exact szOk h, fun e => ?_, fun n1 e => ?_, fun _ _ p n => q _ _ _ _ (Step.new s n) rfl (new_tup s n (k1.append k2))⟩
      · subst e
        cases k1
        exact q _ _ G H (Step.refl s) rfl (.tup h2 k2)
      · subst e
        cases k2
        rw [List.append_nil] at q
        exact q _ _ G H (Step.refl s) rfl (.tup h1 k1)))
theorem rep_len {α : Type} (n : Nat) (xs : List α) : ((List.replicate n xs).flatten).length = xs.length * n := by
  induction n with
  | zero => simp
  | succ n ih => rw [List.replicate_succ, List.flatten_cons, List.length_append, ih, Nat.mul_succ, Nat.add_comm]
theorem DVs.rep {G : Hp} {vs : List V} {ds : List D} (h : DVs K G vs ds) : ∀ n : Nat, DVs K G (List.replicate n vs).flatten (List.replicate n ds).flatten
  | 0 => by
    rw [List.replicate_zero, List.replicate_zero]
    exact .nil
  | n + 1 => by
    rw [List.replicate_succ, List.replicate_succ, List.flatten_cons, List.flatten_cons]
    exact h.append (DVs.rep h n)
theorem od_rep {xs : List D} {n : Nat} (h : xs.length * n ≤ 1000000) (h2 : n ≤ 1000000) : OpD K rMul1 (.lst xs) (.int (n : Nat)) (· = .lst (List.replicate n xs).flatten) := OpD.inr fun u v G M H Q s ha hb q => by
  cases ha with
  | lst h1 k1 =>
    cases hb
    exact ⟨_, _, _, rfl, rfl, s.g _ _ h1, by omega, by omega, by rw [k1.length]; exact szOk h, fun p w => q _ _ _ _ (Step.new s w) rfl (new_lst s w (k1.rep _))⟩
theorem opd_eqV {x y : V} {a b : D} {β : Bool} (hx : ∀ G v, DV K G v a → v = x) (hy : ∀ G v, DV K G v b → v = y) (sc : scal x y = true) (e : decide (x = y) = β) : OpD K rEq a b (· = .bl β) := fun u v G M H Q s ha hb q => by
  rw [hx G u ha, hy G v hb]
  refine ⟨sc, ?_⟩
  rw [e]
  exact q _ _ G H (Step.refl s) rfl (.bl _)
theorem opd_neV {x y : V} {a b : D} {β : Bool} (hx : ∀ G v, DV K G v a → v = x) (hy : ∀ G v, DV K G v b → v = y) (sc : scal x y = true) (e : (!decide (x = y)) = β) : OpD K rNe a b (· = .bl β) := fun u v G M H Q s ha hb q => by
  rw [hx G u ha, hy G v hb]
  refine ⟨sc, ?_⟩
  rw [e]
  exact q _ _ G H (Step.refl s) rfl (.bl _)
theorem dvI {i : Int} (G : Hp) (v : V) (h : DV K G v (.int i)) : v = .int i := by
  cases h
  rfl
theorem dvS {i : Str} (G : Hp) (v : V) (h : DV K G v (.str i)) : v = .str i := by
  cases h
  rfl
theorem dvB {i : Bool} (G : Hp) (v : V) (h : DV K G v (.bl i)) : v = .bl i := by
  cases h
  rfl
theorem decI {i j : Int} : decide (V.int i = V.int j) = decide (i = j) := by simp
theorem decS {i j : Str} : decide (V.str i = V.str j) = decide (i = j) := by simp
theorem decB {i j : Bool} : decide (V.bl i = V.bl j) = decide (i = j) := by simp
theorem od_eqI : OpD K (rEq1 K) (.int i) (.int j) (· = .bl (decide (i = j))) := (opd_eqV dvI dvI rfl decI).inl
theorem od_eqS {x y : Str} : OpD K (rEq1 K) (.str x) (.str y) (· = .bl (decide (x = y))) := (opd_eqV dvS dvS rfl decS).inl
theorem od_eqB {x y : Bool} : OpD K (rEq1 K) (.bl x) (.bl y) (· = .bl (decide (x = y))) := (opd_eqV dvB dvB rfl decB).inl
theorem od_neI : OpD K (rNe1 K) (.int i) (.int j) (· = .bl (!decide (i = j))) := (opd_neV dvI dvI rfl (by rw [decI])).inl
theorem od_neS {x y : Str} : OpD K (rNe1 K) (.str x) (.str y) (· = .bl (!decide (x = y))) := (opd_neV dvS dvS rfl (by rw [decS])).inl
/-- data without dicts -/
theorem od_eqP (ha : a.plain = true) (hb : b.plain = true) (sa : SeqAt.shaped a.py = true) (sb : SeqAt.shaped b.py = true) (toDp : ∀ (H : Hp) (v : V) (d : PyData), SeqAt.shaped d = true → Dt K H v d → Dp K H v d) : OpD K (rEq1 K) a b (· = .bl (PyData.eqv a.py b.py)) :=
  OpD.inr (OpD.inl fun u v G M H Q s h1 h2 q => ⟨a.py, b.py, toDp _ _ _ sa ((h1.mono s.g).dt ha), toDp _ _ _ sb ((h2.mono s.g).dt hb), sa, sb, q _ _ G H (Step.refl s) rfl (.bl _)⟩)
theorem od_neP (ha : a.plain = true) (hb : b.plain = true) (sa : SeqAt.shaped a.py = true) (sb : SeqAt.shaped b.py = true) (toDp : ∀ (H : Hp) (v : V) (d : PyData), SeqAt.shaped d = true → Dt K H v d → Dp K H v d) : OpD K (rNe1 K) a b (· = .bl (!PyData.eqv a.py b.py)) :=
  OpD.inr fun u v G M H Q s h1 h2 q => ⟨a.py, b.py, toDp _ _ _ sa ((h1.mono s.g).dt ha), toDp _ _ _ sb ((h2.mono s.g).dt hb), sa, sb, q _ _ G H (Step.refl s) rfl (.bl _)⟩
end
/-! ### without dicts -/
section
variable {K : PySem.W.Frag} {H : Hp}
mutual
theorem Dt.dp : ∀ {d : PyData} {v : V}, PyData.canLay0 d = true → Dt K H v d → Dp K H v d
  | .none, _, _, h => by
    cases h
    exact .non
  | .bool b, _, _, h => by
    cases h
    exact .bl b
  | .int i, _, _, h => by
    cases h
    exact .int i
  | .str x, _, _, h => by
    cases h
    exact .str x
  | .list ds, _, c, h => by
    cases h with
    | lst hs ha => exact .lst hs (DtAll.dp (by simpa only [PyData.canLay0] using c) ha)
  | .tuple ds, _, c, h => by
    cases h with
    | tup hs ha => exact .tup hs (DtAll.dp (by simpa only [PyData.canLay0] using c) ha)
  | .dict ds, _, c, h => by simp only [PyData.canLay0] at c; cases c
theorem DtAll.dp : ∀ {ds : List PyData} {vs : List V}, PyData.canLayAll0 ds = true → DtAll K H vs ds → DpAll K H vs ds
  | [], _, _, h => by
    cases h
    exact .nil
  | d :: ds, _, c, h => by
    simp only [PyData.canLayAll0, Bool.and_eq_true] at c
    cases h with
    | cons h1 h2 => exact .cons (Dt.dp c.1 h1) (DtAll.dp c.2 h2)
end
theorem toDp (H : Hp) (v : V) (d : PyData) (s : SeqAt.shaped d = true) (h : Dt K H v d) : Dp K H v d := h.dp (SeqAt.canLay_of_shaped s)
end
/-! ### items, calls -/
section
variable {K : PySem.W.Frag} {a b c d : D} {χ : D → Prop} {i j : Int} {xs : List D}
theorem atI_len {α β : Type} {xs : List α} {ys : List β} (h : xs.length = ys.length) {i : Int} : (ixN xs.length i) = ixN ys.length i := by rw [h]
theorem DVs.atI {G : Hp} {vs : List V} {ds : List D} {d : D} (h : DVs K G vs ds) (e : L2.atI ds i = some d) : ∃ v, L2.atI vs i = some v ∧ DV K G v d := by
  unfold L2.atI at e ⊢
  rw [h.length]
  cases q : ixN ds.length i with
  | none =>
    rw [q] at e
    cases e
  | some n =>
    rw [q] at e
    exact h.back e
theorem od_ixL (h : L2.atI xs i = some d) : OpD K (rIx K) (.lst xs) (.int i) (· = d) := fun u v G M H Q s ha hb q => by
  cases ha with
  | lst h1 k1 =>
    cases hb
    obtain ⟨w, e, hw⟩ := k1.atI h
    exact .inl ⟨_, _, i, w, rfl, rfl, sq_of' (s.g _ _ h1), e, q w d G H (Step.refl s) rfl hw⟩
theorem od_ixT (h : L2.atI xs i = some d) : OpD K (rIx K) (.tup xs) (.int i) (· = d) := fun u v G M H Q s ha hb q => by
  cases ha with
  | tup h1 k1 =>
    cases hb
    obtain ⟨w, e, hw⟩ := k1.atI h
    exact .inr (.inl ⟨_, _, i, w, rfl, rfl, s.g.sqTd h1, e, q w d G H (Step.refl s) rfl hw⟩)
theorem od_ixS {z : Str} {c : Nat} (l : z.length ≤ 1000000) (h : L2.atI z.cps.toList i = some c) : OpD K (rIx K) (.str z) (.int i) (· = .str ⟨#[c]⟩) := fun u v G M H Q s ha hb q => by
  cases ha
  cases hb
  exact .inr (.inr ⟨z, i, c, rfl, rfl, szOk l, h, q _ _ G H (Step.refl s) rfl (.str _)⟩)
abbrev rLen1 (K : PySem.W.Frag) : List V → Hp → VK → Prop := fun xs H Q => ∃ x n, xs = [x] ∧ LenV K x H n ∧ Q (.int n) H
theorem cd_lenL : CallD K (rLen1 K) [.lst xs] (· = .int (xs.length : Nat)) := fun vs G M H Q s h q => by
  cases h with
  | cons h k =>
    cases k
    cases h with
    | lst h1 k1 => exact ⟨_, xs.length, rfl, .inl ⟨_, sq_of' (s.g _ _ h1), k1.length.symm⟩, q _ _ G H (Step.refl s) rfl (.int _)⟩
theorem cd_lenT : CallD K (rLen1 K) [.tup xs] (· = .int (xs.length : Nat)) := fun vs G M H Q s h q => by
  cases h with
  | cons h k =>
    cases k
    cases h with
    | tup h1 k1 => exact ⟨_, xs.length, rfl, .inr ⟨_, s.g.sqTd h1, k1.length.symm⟩, q _ _ G H (Step.refl s) rfl (.int _)⟩
theorem cd_lenS {z : Str} (l : z.length ≤ 1000000) : CallD K (rLen1 K) [.str z] (· = .int (z.length : Nat)) := fun vs G M H Q s h q => by
  cases h with
  | cons h k =>
    cases k
    cases h
    exact ⟨_, z.length, rfl, ⟨szOk l, rfl⟩, q _ _ G H (Step.refl s) rfl (.int _)⟩
abbrev rInt1 : List V → Hp → VK → Prop := fun xs H Q => (∃ i, xs = [.int i] ∧ Q (.int i) H) ∨ ∃ k, xs = [.bl k] ∧ Q (.int (if k then 1 else 0)) H
theorem cd_int : CallD K rInt1 [.int i] (· = .int i) := fun vs G M H Q s h q => by
  cases h with
  | cons h k =>
    cases k
    cases h
    exact .inl ⟨i, rfl, q _ _ G H (Step.refl s) rfl (.int _)⟩
theorem cd_intB {b : Bool} : CallD K rInt1 [.bl b] (· = .int (if b then 1 else 0)) := fun vs G M H Q s h q => by
  cases h with
  | cons h k =>
    cases k
    cases h
    exact .inr ⟨b, rfl, q _ _ G H (Step.refl s) rfl (.int _)⟩
theorem cd_repr (p : d.plain = true) (sh : d.py.showable = true) (dp : d.py.depth ≤ 60) (sz : d.py.shown.length ≤ sizeLine) : CallD K (rRepr K) [d] (· = .str d.py.shown) := fun vs G M H Q s h q => by
  cases h with
  | cons h k =>
    cases k
    exact ⟨_, d.py, rfl, (h.mono s.g).dt p, sh, dp, sz, q _ _ G H (Step.refl s) rfl (.str _)⟩
theorem cd_all {bs : List Bool} : CallD K (rAll K) [.lst (bs.map .bl)] (· = .bl (bs.all id)) := fun vs G M H Q s h q => by
  cases h with
  | cons h k =>
    cases k
    cases h with
    | lst h1 k1 => exact ⟨_, bs, rfl, by rw [← k1.bls]; exact sq_of' (s.g _ _ h1), q _ _ G H (Step.refl s) rfl (.bl _)⟩
theorem cd_any {bs : List Bool} : CallD K (rAny K) [.lst (bs.map .bl)] (· = .bl (bs.any id)) := fun vs G M H Q s h q => by
  cases h with
  | cons h k =>
    cases k
    cases h with
    | lst h1 k1 => exact ⟨_, bs, rfl, by rw [← k1.bls]; exact sq_of' (s.g _ _ h1), q _ _ G H (Step.refl s) rfl (.bl _)⟩
/-- isinstance of an error against an own class or a built-in one -/
theorem cd_isX {C : Addr} {x : D} {c : V} {cv : Value} {b : Bool} {G0 : Hp} (T : ErrC K C) (hc : ∀ u, RelV c u → u = cv) (hk : PySem.W.kitOne K (.ref C) cv = some b) (v : V) (G M H : Hp) (Q : VK) (s : Sep G M H) (h : DV K G v (.err C x)) (q : Q (.bl b) H) : rIsX K [v, c] H Q := by
  cases h with
  | err h1 h2 => exact ⟨_, C, _, _, c, cv, b, rfl, T, h1.mono s.g, hc, hk, q⟩
end
end Tp

/-! # Callees by name -/
namespace Tp
open PySem PySem.Spec PyProof.Rows L2
/-- the module's name x stands for a def that keeps sp -/
structure Cal (P : Program) (w : World) (K : PySem.W.Frag) (mg : Str → Option Value) (base : Heap) (k : Nat) (x : Str) (sp : Sp) : Prop where
  ex : ∃ (f : Addr) (fd : FuncData) (ps : List Str), FnG P w K mg base CX0 k f fd ps sp ∧ mg x = some (.ref f) ∧ PySem.W.keepIn K (.ref f) = true ∧ Binds K fd ps []
theorem pc_call {X : Cx} {k : Nat} {x : Str} {sp : Sp} {p pos : Pos} {e : Expr} {es : List Expr} {t : TA} (c : Cal X.prog X.w X.K X.mg X.base k x sp) (hr : Room k X.A) (gq : Quiet X.A) (hg : Gl X x) (ha : PA X (e :: es) t)
    (hdb : (x == ("__debug__" : Str)) = false := by decide)
    (he : starEach (e :: es) X.env = (false, eval e X.env) :: starEach es X.env := by rfl) (hpl : (backTo pos (starEach es X.env)).any (·.1) = false := by rfl) :
    PE X (.Call (.Name x p) (e :: es) [] pos) (tCall sp [] E0 t) := by
  obtain ⟨f, fd, ps, F, hm, hk, hb⟩ := c.ex
  exact pg_call F hr gq hg hm hk hb .nil pass0 ha hdb he hpl
section
variable {P : Program} {w : World} {K : PySem.W.Frag} {mg : Str → Option Value} {base : Heap}
/-- no error leaves the body -/
theorem okG0 {x qual : Str} {st : Stmt} {f : Addr} {fd : FuncData} {N ps : List Str} {k : Nat} {sp : Sp} (F : Fun K x qual st f fd) (S : FnScope N ps (defScope st))
    (len : ∀ vs H Q E, sp vs H Q E → vs.length = ps.length)
    (body : ∀ (cdv : Value) (A : Around) (outer : List Env) (s : Shared) (H : Hp) (vs : List V) (Q : VK) (E : XK),
      Room k (A.deeper (envOfC qual (defScope st) s.heap.objs.size f cdv)) → Quiet A → sp vs H Q E →
      ∃ t, PSs (cxOf CX0 P w K mg base N qual (defScope st) f cdv A outer s H E).nox (defBody st) t ∧ t { nx := fun _ H' => Q .non H', rt := Q } (L2.start N vs) H) :
    FnG P w K mg base CX0 (k + 1) f fd ps sp := okG F S len fun cdv A outer s H vs Q E hr gq hsp => by
  obtain ⟨t, h, q⟩ := body cdv A outer s H vs Q E hr gq hsp
  exact ⟨t, h.nox, q⟩
end
end Tp

/-! # Derivations as data: a piece of syntax with its reading -/
namespace Tp
open PySem PySem.Spec PyProof.Rows L2
abbrev DE (X : Cx) (e : Expr) := { t : TE // PE X e t }
abbrev DT (X : Cx) (e : Expr) := { t : TT // PT X e t }
abbrev DW (X : Cx) (e : Expr) := { t : TT // PW X e t }
abbrev DA (X : Cx) (es : List Expr) := { t : TA // PA X es t }
abbrev DG (X : Cx) (e : Expr) := { t : TG // PG X e t }
abbrev DGs (X : Cx) (es : List Expr) := { t : TGs // PGs X es t }
abbrev DI (X : Cx) (tg e : Expr) := { t : TI // PI X tg e t }
abbrev DS (X : Cx) (s : Stmt) := { t : TS // PS X s t }
abbrev DB (X : Cx) (s : List Stmt) := { t : TS // PSs X s t }
abbrev DTs (X : Cx) (es : List Expr) := { t : TT // PTs X es t }
section
variable {X : Cx} {a b c e o iter tg : Expr} {es rest : List Expr} {x : Str} {p pos apos cpos tpos pos' : Pos} {r : R2} {i : Nat}
abbrev de_int {j : Int} {kk : Nat} : DE X (.Constant (.int j) kk pos) := ⟨_, pe_int⟩
abbrev de_str {j : Str} {kk : Nat} : DE X (.Constant (.str j) kk pos) := ⟨_, pe_str⟩
abbrev de_bl {j : Bool} {kk : Nat} : DE X (.Constant (.bool j) kk pos) := ⟨_, pe_bl⟩
abbrev de_non {kk : Nat} : DE X (.Constant .none kk pos) := ⟨_, pe_non⟩
abbrev de_v (i : Nat) (hN : X.N[i]? = some x := by rfl) (hv : Vis X.env.scope x := by first | exact Or.inl rfl | exact Or.inr (Or.inl rfl) | exact Or.inr (Or.inr rfl)) (hd : (x == ("__debug__" : Str)) = false := by decide)
    (hcd : (x == ("__classdict__" : Str)) = false := by decide) : DE X (.Name x pos) := ⟨tVar i, pv i hN hv hd hcd⟩
abbrev de_op {op : Operator} (ho : OpR X (binaryOp op) r) (ha : DE X a) (hb : DE X b) : DE X (.BinOp a op b pos) := ⟨tOp r ha.1 hb.1, pe_op ho ha.2 hb.2⟩
abbrev de_cmp {op : CmpOp} (ho : OpR X (compareOp op) r) (ha : DE X a) (hb : DE X b) (hm : behindInMarks op b = false) : DE X (.Compare a [op] [b] pos) := ⟨tOp r ha.1 hb.1, pe_cmpR ho ha.2 hb.2 hm⟩
abbrev de_one {op : BoolOp} (ha : DE X a) : DE X (.BoolOp op [a] pos) := ⟨ha.1, pe_one ha.2⟩
abbrev de_and (ha : DE X a) (hb : DE X (.BoolOp .And (b :: rest) pos)) : DE X (.BoolOp .And (a :: b :: rest) pos) := ⟨tAndV ha.1 hb.1, pe_and ha.2 hb.2⟩
abbrev de_or (ha : DE X a) (hb : DE X (.BoolOp .Or (b :: rest) pos)) : DE X (.BoolOp .Or (a :: b :: rest) pos) := ⟨tOrV ha.1 hb.1, pe_or ha.2 hb.2⟩
abbrev de_not (ha : DE X a) : DE X (.UnaryOp .Not a pos) := ⟨tNotV ha.1, pe_not ha.2⟩
abbrev de_neg (ha : DE X a) : DE X (.UnaryOp .USub a pos) := ⟨_, pe_un un_neg ha.2⟩
abbrev de_ifE (hc : DT X c) (ha : DE X a) (hb : DE X b) : DE X (.IfExp c a b pos) := ⟨tIf hc.1 ha.1 hb.1, pe_ifExp hc.2 ha.2 hb.2⟩
abbrev de_dic0 : DE X (.Dict [] [] pos) := ⟨tDNewK, pe_dnewK⟩
abbrev de_dic1 {z : Str} {kk : Nat} (hv : DE X a) : DE X (.Dict [some (.Constant (.str z) kk p)] [a] pos) := ⟨tDisp [(tC (.str z), hv.1)], pe_disp (pps_cons pe_str hv.2 pps_nil) rfl rfl (List.cons_ne_nil _ _) (Nat.le_of_ble_eq_true rfl)⟩
abbrev da_nil : DA X [] := ⟨tNil, pa_nil⟩
abbrev da_cons (ha : DE X e) (hr : DA X es) (hs : starEach (e :: es) X.env = (false, eval e X.env) :: starEach es X.env := by rfl) : DA X (e :: es) := ⟨tCons ha.1 hr.1, pa_cons ha.2 hr.2 hs⟩
abbrev de_tup {k1 : Nat} (h : DA X es) (w : ∀ t, PA X es t → PE X (.Tuple es k1 pos) (tTup t)) : DE X (.Tuple es k1 pos) := ⟨tTup h.1, w h.1 h.2⟩
abbrev de_lst (h : DA X es) (w : ∀ t, PA X es t → PE X (.List es pos) (tLst t)) : DE X (.List es pos) := ⟨tLst h.1, w h.1 h.2⟩
abbrev de_ix (hr : IxR X r) (ha : DE X a) (hb : DE X b) (hs : PlainIx b) : DE X (.Subscript a b pos) := ⟨tOp r ha.1 hb.1, pe_ix hr ha.2 hb.2 hs⟩
abbrev de_callB {id : String} {r : List V → Hp → VK → Prop} (hc : CallR X (.builtin id) r) (hg : Gl X x) (hm : X.mg x = none) (hv : bootBuiltins x = some (.builtin id)) (ha : DA X (e :: es)) (hn : x ≠ "__name__" := by decide) (hdb : (x == ("__debug__" : Str)) = false := by decide)
    (he : starEach (e :: es) X.env = (false, eval e X.env) :: starEach es X.env := by rfl) (hpl : (backTo pos (starEach es X.env)).any (·.1) = false := by rfl) : DE X (.Call (.Name x p) (e :: es) [] pos) := ⟨tCB r ha.1, pe_callB hc hg hm hv ha.2 hn hdb he hpl⟩
abbrev de_callT {T : String} {r : List V → Hp → VK → Prop} (hc : CallR X (.type T) r) (hg : Gl X x) (hm : X.mg x = none) (hv : bootBuiltins x = some (.type T)) (ha : DA X (e :: es)) (hn : x ≠ "__name__" := by decide) (hdb : (x == ("__debug__" : Str)) = false := by decide)
    (he : starEach (e :: es) X.env = (false, eval e X.env) :: starEach es X.env := by rfl) (hpl : (backTo pos (starEach es X.env)).any (·.1) = false := by rfl) : DE X (.Call (.Name x p) (e :: es) [] pos) := ⟨tCB r ha.1, pe_callTy hc hg hm hv ha.2 hn hdb he hpl⟩
abbrev de_fun {k : Nat} {sp : Sp} (c : Cal X.prog X.w X.K X.mg X.base k x sp) (hr : Room k X.A) (gq : Quiet X.A) (hg : Gl X x) (ha : DA X (e :: es)) (hdb : (x == ("__debug__" : Str)) = false := by decide)
    (he : starEach (e :: es) X.env = (false, eval e X.env) :: starEach es X.env := by rfl) (hpl : (backTo pos (starEach es X.env)).any (·.1) = false := by rfl) : DE X (.Call (.Name x p) (e :: es) [] pos) := ⟨tCall sp [] E0 ha.1, pc_call c hr gq hg ha.2 hdb he hpl⟩
abbrev dt_val (h : DE X e) (he : ∀ whole, isTrue e X.env whole = (do let v ← whole; standAt e.pos; holding [v] (truthy v)) := by intro _; rfl) : DT X e := ⟨tB h.1, pt_val h.2 he⟩
abbrev dt_cmp {op : CmpOp} (ho : OpR X (compareOp op) r) (ha : DE X a) (hb : DE X b) (hm : behindInMarks op b = false) : DT X (.Compare a [op] [b] pos) := ⟨tTest (tOp r ha.1 hb.1), pt_cmpR ho ha.2 hb.2 hm⟩
abbrev dt_not (h : DT X a) : DT X (.UnaryOp .Not a pos) := ⟨tNot h.1, pt_not h.2⟩
abbrev dt_w (h : DW X e) : DT X e := ⟨h.1, h.2.pt⟩
abbrev dw_and1 (h : DT X a) : DW X (.BoolOp .And [a] pos) := ⟨h.1, pw_and1 h.2⟩
abbrev dw_or1 (h : DT X a) : DW X (.BoolOp .Or [a] pos) := ⟨h.1, pw_or1 h.2⟩
abbrev dw_and (h : DT X a) (k : DW X (.BoolOp .And (b :: rest) pos)) : DW X (.BoolOp .And (a :: b :: rest) pos) := ⟨tAnd h.1 k.1, pw_and h.2 k.2⟩
abbrev dw_or (h : DT X a) (k : DW X (.BoolOp .Or (b :: rest) pos)) : DW X (.BoolOp .Or (a :: b :: rest) pos) := ⟨tOr h.1 k.1, pw_or h.2 k.2⟩
abbrev dg_name (i : Nat) (hN : X.N.Nodup) (hi : X.N[i]? = some x := by rfl) (hx : Loc X.env.scope x := by first | exact Or.inl rfl | exact Or.inr rfl) (hf : X.fn x = true ∨ X.env.scope.names.lookup x = some .local := by first | exact .inl rfl | exact .inr rfl) : DG X (.Name x pos) := ⟨gName i, pg_name hN hi hx hf⟩
abbrev dgs_nil : DGs X [] := ⟨gNil, pgs_nil⟩
abbrev dgs_cons (h : DG X e) (k : DGs X es) (hs : (assignEach (e :: es) X.env).map (·.2) = assign e X.env :: (assignEach es X.env).map (·.2) := by rfl) : DGs X (e :: es) := ⟨gCons h.1 k.1, pgs_cons h.2 k.2 hs⟩
abbrev dg_tup {k1 : Nat} (n : Nat) (hc : X.calm = true) (h : DGs X es) (hn : (assignEach es X.env).length = n := by rfl) (hst : (assignEach es X.env).findIdx? (·.1) = none := by rfl) : DG X (.Tuple es k1 pos) := ⟨gTup X.K n h.1, pg_tup hc h.2 hn hst⟩
abbrev dg_sub {t : TSet} (ho : DE X o) (hi : DE X a) (hs : PSet X t) (ha : ∀ v, assign (.Subscript o a pos) X.env v = (do
      let ov ← holding [v] (eval o X.env)
      let iv ← holding [v, ov] (eval a X.env)
      standAt pos
      holding [v, ov, iv] (setItem ov iv v)
      release [v, ov, iv] []) := by intro _; rfl) : DG X (.Subscript o a pos) := ⟨gSub ho.1 hi.1 t, pg_sub ho.2 hi.2 hs ha⟩
abbrev di_list (h : DE X e) : DI X tg e := ⟨iList X.K h.1, pi_list h.2⟩
abbrev di_tup (h : DE X e) : DI X tg e := ⟨iTup X.K h.1, pi_tup h.2⟩
abbrev di_range1 (hg : Gl X "range") (hm : X.mg "range" = none) (ha : DA X [a]) (hs : starEach [a] X.env = [(false, eval a X.env)] := by rfl) : DI X tg (.Call (.Name "range" p) [a] [] pos) := ⟨iRng1 ha.1, pi_range1 hg hm ha.2 hs⟩
abbrev di_enum {k1 : Nat} (hg : Gl X "enumerate") (hm : X.mg "enumerate" = none) (ha : DA X [e]) (hs : starEach [e] X.env = [(false, eval e X.env)] := by rfl) : DI X (.Tuple es k1 tpos) (.Call (.Name "enumerate" p) [e] [] pos) := ⟨iEnum X.K ha.1, pi_enum hg hm ha.2 hs⟩
end
section
variable {X : Cx} {a b c e o iter tg : Expr} {es rest : List Expr} {st : Stmt} {ss s1 s2 : List Stmt} {x : Str} {p pos apos cpos tpos pos' : Pos}
abbrev db_nil : DB X [] := ⟨tNext, pss_nil⟩
abbrev db_one (h : DS X st) : DB X [st] := ⟨h.1, pss_one h.2⟩
abbrev db_cons (h : DS X st) (k : DB X ss) : DB X (st :: ss) := ⟨tSeq h.1 k.1, pss_cons h.2 k.2⟩
abbrev ds_ret (h : DE X e) : DS X (.Return (some e) pos) := ⟨tRet h.1, ps_ret h.2⟩
abbrev ds_retN : DS X (.Return none pos) := ⟨tRetN, ps_retN⟩
abbrev ds_set (i : Nat) (hN : X.N.Nodup) (h : DE X e) (hi : X.N[i]? = some x := by rfl) (hx : Loc X.env.scope x := by first | exact Or.inl rfl | exact Or.inr rfl) (hs : swapsWith e (some (.Name x pos')) pos.line X.env = pure false := by rfl)
    (hf : X.fn x = true ∨ X.env.scope.names.lookup x = some .local := by first | exact .inl rfl | exact .inr rfl) : DS X (.Assign [.Name x pos'] e pos) := ⟨tAsg h.1 (gName i), ps_set hN hi hx h.2 hs hf⟩
abbrev ds_asg (h : DE X e) (g : DG X tg) (hs : swapsWithSole [tg] e pos.line X.env = pure false := by rfl) (hw : swappedStores [tg] e X.env = pure none := by rfl) (h1 : (assignEach [tg] X.env).map (·.2) = [assign tg X.env] := by rfl) : DS X (.Assign [tg] e pos) := ⟨tAsg h.1 g.1, ps_asg h.2 g.2 hs hw h1⟩
abbrev ds_if (hc : DT X c) (ha : DB X s1) (hb : DB X s2) : DS X (.If c s1 s2 pos) := ⟨tIfS hc.1 ha.1 hb.1, ps_if hc.2 ha.2 hb.2⟩
abbrev ds_expr (h : DE X e) (hs : swapsWith e none pos.line X.env = pure false := by rfl) : DS X (.Expr e pos) := ⟨tDrop h.1, ps_expr h.2 hs⟩
abbrev ds_for (hp : PassesOwn (model X.prog X.w) X.A X.env X.xe) (hc : X.calm = true) (hi : DI X tg iter) (hg : DG X tg) (hb : DB X ss) (hs : ∀ x, foldedSetIterable iter X.env x = pure x := by intro _; rfl) : DS X (.For tg iter ss [] pos) := ⟨tFor hi.1 hg.1 hb.1, ps_for hp hc hi.2 hg.2 hb.2 hs⟩
abbrev ds_while (hp : PassesOwn (model X.prog X.w) X.A X.env X.xe) (hc : DT X c) (hb : DB X ss) : DS X (.While c ss [] pos) := ⟨tWhile hc.1 hb.1, ps_while hp hc.2 hb.2⟩
abbrev ds_break : DS X (.Break pos) := ⟨tBreak, ps_break⟩
abbrev ds_continue : DS X (.Continue pos) := ⟨tCont, ps_continue⟩
abbrev ds_never : DS X st := ⟨tNever, ps_never⟩
/-- a method of a built-in type; w: the rule pe_bm with its row's facts -/
abbrev de_bm {T : String} {r : V → List V → Hp → VK → Prop} {name : Str} (ho : DE X o) (ha : DA X (e :: es)) (w : ∀ to t, PE X o to → PA X (e :: es) t → PE X (.Call (.Attribute o name apos) (e :: es) [] cpos) (tBM X.K T r to t)) : DE X (.Call (.Attribute o name apos) (e :: es) [] cpos) := ⟨tBM X.K T r ho.1 ha.1, w _ _ ho.2 ha.2⟩
abbrev de_errF {f : Str} (he : DE X e) (hb : attributeBase e f X.env (eval e X.env) = eval e X.env := by rfl) : DE X (.Attribute e f pos) := ⟨tErrF X.K f he.1, pe_errF he.2 hb⟩
end
/-! ### the built-ins by name -/
theorem bo_int : bootBuiltins ("int" : Str) = some (.type "int") := by decide +kernel
theorem bo_len : bootBuiltins ("len" : Str) = some (.builtin "len") := by decide +kernel
theorem bo_abs : bootBuiltins ("abs" : Str) = some (.builtin "abs") := by decide +kernel
theorem bo_all : bootBuiltins ("all" : Str) = some (.builtin "all") := by decide +kernel
theorem bo_any : bootBuiltins ("any" : Str) = some (.builtin "any") := by decide +kernel
theorem bo_min : bootBuiltins ("min" : Str) = some (.builtin "min") := by decide +kernel
theorem bo_max : bootBuiltins ("max" : Str) = some (.builtin "max") := by decide +kernel
theorem bo_repr : bootBuiltins ("repr" : Str) = some (.builtin "repr") := by decide +kernel
theorem bo_isi : bootBuiltins ("isinstance" : Str) = some (.builtin "isinstance") := by decide +kernel
theorem bo_VE : bootBuiltins ("ValueError" : Str) = some (.type "ValueError") := by decide +kernel
theorem nn_int : ("int" : Str) ≠ "__name__" := by decide
theorem nn_len : ("len" : Str) ≠ "__name__" := by decide
theorem nn_abs : ("abs" : Str) ≠ "__name__" := by decide
theorem nn_all : ("all" : Str) ≠ "__name__" := by decide
theorem nn_any : ("any" : Str) ≠ "__name__" := by decide
theorem nn_min : ("min" : Str) ≠ "__name__" := by decide
theorem nn_max : ("max" : Str) ≠ "__name__" := by decide
theorem nn_repr : ("repr" : Str) ≠ "__name__" := by decide
theorem nn_isi : ("isinstance" : Str) ≠ "__name__" := by decide
theorem nd_int : (("int" : Str) == ("__debug__" : Str)) = false := by decide
theorem nd_len : (("len" : Str) == ("__debug__" : Str)) = false := by decide
theorem nd_abs : (("abs" : Str) == ("__debug__" : Str)) = false := by decide
theorem nd_all : (("all" : Str) == ("__debug__" : Str)) = false := by decide
theorem nd_any : (("any" : Str) == ("__debug__" : Str)) = false := by decide
theorem nd_min : (("min" : Str) == ("__debug__" : Str)) = false := by decide
theorem nd_max : (("max" : Str) == ("__debug__" : Str)) = false := by decide
theorem nd_repr : (("repr" : Str) == ("__debug__" : Str)) = false := by decide
theorem nd_isi : (("isinstance" : Str) == ("__debug__" : Str)) = false := by decide
section
variable {X : Cx} {e : Expr} {es : List Expr} {p pos : Pos}
abbrev de_f_len (hm : X.mg ("len" : Str) = none) (hg : Gl X "len") (ha : DA X (e :: es)) (he : starEach (e :: es) X.env = (false, eval e X.env) :: starEach es X.env := by rfl) (hpl : (backTo pos (starEach es X.env)).any (·.1) = false := by rfl) : DE X (.Call (.Name "len" p) (e :: es) [] pos) := de_callB call_len hg hm bo_len ha nn_len nd_len he hpl
abbrev de_f_int (hm : X.mg ("int" : Str) = none) (hg : Gl X "int") (ha : DA X (e :: es)) (he : starEach (e :: es) X.env = (false, eval e X.env) :: starEach es X.env := by rfl) (hpl : (backTo pos (starEach es X.env)).any (·.1) = false := by rfl) : DE X (.Call (.Name "int" p) (e :: es) [] pos) := de_callT call_int1 hg hm bo_int ha nn_int nd_int he hpl
abbrev de_f_abs (hm : X.mg ("abs" : Str) = none) (hg : Gl X "abs") (ha : DA X (e :: es)) (he : starEach (e :: es) X.env = (false, eval e X.env) :: starEach es X.env := by rfl) (hpl : (backTo pos (starEach es X.env)).any (·.1) = false := by rfl) : DE X (.Call (.Name "abs" p) (e :: es) [] pos) := de_callB call_abs hg hm bo_abs ha nn_abs nd_abs he hpl
abbrev de_f_all (hc : X.calm = true) (hm : X.mg ("all" : Str) = none) (hg : Gl X "all") (ha : DA X (e :: es)) (he : starEach (e :: es) X.env = (false, eval e X.env) :: starEach es X.env := by rfl) (hpl : (backTo pos (starEach es X.env)).any (·.1) = false := by rfl) : DE X (.Call (.Name "all" p) (e :: es) [] pos) := de_callB (cr_all hc) hg hm bo_all ha nn_all nd_all he hpl
abbrev de_f_any (hc : X.calm = true) (hm : X.mg ("any" : Str) = none) (hg : Gl X "any") (ha : DA X (e :: es)) (he : starEach (e :: es) X.env = (false, eval e X.env) :: starEach es X.env := by rfl) (hpl : (backTo pos (starEach es X.env)).any (·.1) = false := by rfl) : DE X (.Call (.Name "any" p) (e :: es) [] pos) := de_callB (cr_any hc) hg hm bo_any ha nn_any nd_any he hpl
abbrev de_f_min (hc : X.calm = true) (hm : X.mg ("min" : Str) = none) (hg : Gl X "min") (ha : DA X (e :: es)) (he : starEach (e :: es) X.env = (false, eval e X.env) :: starEach es X.env := by rfl) (hpl : (backTo pos (starEach es X.env)).any (·.1) = false := by rfl) : DE X (.Call (.Name "min" p) (e :: es) [] pos) := de_callB (call_min2 hc) hg hm bo_min ha nn_min nd_min he hpl
abbrev de_f_max (hc : X.calm = true) (hm : X.mg ("max" : Str) = none) (hg : Gl X "max") (ha : DA X (e :: es)) (he : starEach (e :: es) X.env = (false, eval e X.env) :: starEach es X.env := by rfl) (hpl : (backTo pos (starEach es X.env)).any (·.1) = false := by rfl) : DE X (.Call (.Name "max" p) (e :: es) [] pos) := de_callB (call_max2 hc) hg hm bo_max ha nn_max nd_max he hpl
abbrev de_f_repr (hs : SysK X.K) (gq : Quiet X.A) (hu : X.A.units + 64 < cLine) (hm : X.mg ("repr" : Str) = none) (hg : Gl X "repr") (ha : DA X (e :: es)) (he : starEach (e :: es) X.env = (false, eval e X.env) :: starEach es X.env := by rfl) (hpl : (backTo pos (starEach es X.env)).any (·.1) = false := by rfl) : DE X (.Call (.Name "repr" p) (e :: es) [] pos) := de_callB (cr_repr hs gq hu) hg hm bo_repr ha nn_repr nd_repr he hpl
end
/-! ### with the sign in the type -/
section
variable {X : Cx} {a b c e : Expr} {p pos : Pos}
abbrev de_add (ha : DE X a) (hb : DE X b) : DE X (.BinOp a .Add b pos) := de_op op_add1 ha hb
abbrev de_sub (ha : DE X a) (hb : DE X b) : DE X (.BinOp a .Sub b pos) := de_op op_sub ha hb
abbrev de_mul (ha : DE X a) (hb : DE X b) : DE X (.BinOp a .Mult b pos) := de_op op_mul1 ha hb
abbrev de_mod (ha : DE X a) (hb : DE X b) : DE X (.BinOp a .Mod b pos) := de_op op_mod ha hb
abbrev de_fdiv (ha : DE X a) (hb : DE X b) : DE X (.BinOp a .FloorDiv b pos) := de_op op_fdiv1 ha hb
abbrev de_pow (ha : DE X a) (hb : DE X b) : DE X (.BinOp a .Pow b pos) := de_op op_powW ha hb
abbrev de_eq (hu : X.A.units + 64 < cLine) (ha : DE X a) (hb : DE X b) (hm : behindInMarks .Eq b = false := by rfl) : DE X (.Compare a [.Eq] [b] pos) := de_cmp (op_eq1 hu) ha hb hm
abbrev de_ne (hu : X.A.units + 64 < cLine) (ha : DE X a) (hb : DE X b) (hm : behindInMarks .NotEq b = false := by rfl) : DE X (.Compare a [.NotEq] [b] pos) := de_cmp (op_ne1 hu) ha hb hm
abbrev de_lt (ha : DE X a) (hb : DE X b) (hm : behindInMarks .Lt b = false := by rfl) : DE X (.Compare a [.Lt] [b] pos) := de_cmp op_lt ha hb hm
abbrev de_le (ha : DE X a) (hb : DE X b) (hm : behindInMarks .LtE b = false := by rfl) : DE X (.Compare a [.LtE] [b] pos) := de_cmp op_le ha hb hm
abbrev de_gt (ha : DE X a) (hb : DE X b) (hm : behindInMarks .Gt b = false := by rfl) : DE X (.Compare a [.Gt] [b] pos) := de_cmp op_gt ha hb hm
abbrev de_ge (ha : DE X a) (hb : DE X b) (hm : behindInMarks .GtE b = false := by rfl) : DE X (.Compare a [.GtE] [b] pos) := de_cmp op_ge ha hb hm
abbrev dt_eq (hu : X.A.units + 64 < cLine) (ha : DE X a) (hb : DE X b) (hm : behindInMarks .Eq b = false := by rfl) : DT X (.Compare a [.Eq] [b] pos) := dt_cmp (op_eq1 hu) ha hb hm
abbrev dt_ne (hu : X.A.units + 64 < cLine) (ha : DE X a) (hb : DE X b) (hm : behindInMarks .NotEq b = false := by rfl) : DT X (.Compare a [.NotEq] [b] pos) := dt_cmp (op_ne1 hu) ha hb hm
abbrev dt_lt (ha : DE X a) (hb : DE X b) (hm : behindInMarks .Lt b = false := by rfl) : DT X (.Compare a [.Lt] [b] pos) := dt_cmp op_lt ha hb hm
abbrev dt_le (ha : DE X a) (hb : DE X b) (hm : behindInMarks .LtE b = false := by rfl) : DT X (.Compare a [.LtE] [b] pos) := dt_cmp op_le ha hb hm
abbrev dt_gt (ha : DE X a) (hb : DE X b) (hm : behindInMarks .Gt b = false := by rfl) : DT X (.Compare a [.Gt] [b] pos) := dt_cmp op_gt ha hb hm
abbrev dt_ge (ha : DE X a) (hb : DE X b) (hm : behindInMarks .GtE b = false := by rfl) : DT X (.Compare a [.GtE] [b] pos) := dt_cmp op_ge ha hb hm
end
end Tp

/-! # The pot: its three numbers read and written -/
namespace Tp
open PySem PySem.Spec PyProof.Rows L2
section
variable {K : PySem.W.Frag} {P : Option Addr} {M0 G M H : Hp} {m k : Nat} {σ : L2.St} {ρ : List Sx} {j : Nat} {te : TE} {φ : D → Prop}
abbrev In0 (hi : Int) : D → Prop := fun d => ∃ a : Int, d = .int a ∧ 0 ≤ a ∧ a < hi
theorem in0_le {a b : Int} (h : a ≤ b) {d : D} (q : In0 a d) : In0 b d := by
  obtain ⟨i, h1, h2, h3⟩ := q
  exact ⟨i, h1, h2, by omega⟩
theorem ev_pot0 (e : ρ[j]? = some .pot) : Ev K P (tOp (rIx K) (tVar j) (tC (.int 0))) ρ 0 (In0 HUGE) := fun M0 σ G M H m Q a l q => by
  obtain ⟨p, ep, es⟩ := a.sl j _ e
  obtain ⟨x, y, z, h, h1, h2, h3, h4, h5, h6⟩ := a.pot p ep
  exact ⟨.ref p, es, .inl ⟨p, _, 0, .int x, rfl, rfl, sq_of' (a.sep.m p _ h), rfl, q _ (.int x) G M H (Step.refl a.sep) a ⟨x, rfl, h1, h2⟩ (.int x)⟩⟩
theorem ev_pot1 (e : ρ[j]? = some .pot) : Ev K P (tOp (rIx K) (tVar j) (tC (.int 1))) ρ 0 (In0 2305843009213693951) := fun M0 σ G M H m Q a l q => by
  obtain ⟨p, ep, es⟩ := a.sl j _ e
  obtain ⟨x, y, z, h, h1, h2, h3, h4, h5, h6⟩ := a.pot p ep
  exact ⟨.ref p, es, .inl ⟨p, _, 1, .int y, rfl, rfl, sq_of' (a.sep.m p _ h), rfl, q _ (.int y) G M H (Step.refl a.sep) a ⟨y, rfl, h3, h4⟩ (.int y)⟩⟩
theorem ev_pot2 (e : ρ[j]? = some .pot) : Ev K P (tOp (rIx K) (tVar j) (tC (.int 2))) ρ 0 (In0 1048577) := fun M0 σ G M H m Q a l q => by
  obtain ⟨p, ep, es⟩ := a.sl j _ e
  obtain ⟨x, y, z, h, h1, h2, h3, h4, h5, h6⟩ := a.pot p ep
  have l2 : m ≤ 1048576 := by omega
  exact ⟨.ref p, es, .inl ⟨p, _, 2, .int z, rfl, rfl, sq_of' (a.sep.m p _ h), rfl, q _ (.int z) G M H (Step.refl a.sep) a ⟨z, rfl, h5, by omega⟩ (.int z)⟩⟩
theorem At.putPot (a : At K P M0 m G M H σ ρ) {p : Addr} {u : HO} (ep : P = some p) (h : M p = some u) {n : Nat} {x y z : Int} (h1 : 0 ≤ x) (h2 : x < HUGE) (h3 : 0 ≤ y) (h4 : y < 2305843009213693951) (h5 : 0 ≤ z) (h6 : z ≤ n) :
    Step G M H G (upd M p (.lst [.int x, .int y, .int z])) (upd H p (.lst [.int x, .int y, .int z])) ∧ At K P M0 n G (upd M p (.lst [.int x, .int y, .int z])) (upd H p (.lst [.int x, .int y, .int z])) σ ρ := by
  have st := Step.put (o := .lst [.int x, .int y, .int z]) a.sep h
  refine ⟨st, a.go st (fun p' e' => ?_) fun b o hb hz => ?_⟩
  · rw [ep] at e'
    cases e'
    exact ⟨x, y, z, upd_same, h1, h2, h3, h4, h5, h6⟩
  · rw [upd_ne fun q => hb (by rw [ep, q])]
    exact hz
/-- pot[0] = e -/
theorem es_pot0 (e : ρ[j]? = some .pot) (h : Ev K P te ρ k (In0 HUGE)) : Es K P (tAsg te (gSub (tVar j) (tC (.int 0)) rSetL)) ρ k (· = ρ) NoR NoR NoD := fun M0 σ G M H m E a b q1 _ _ _ =>
  h M0 σ G M H m _ a b fun v d G1 M1 H1 s1 a1 p1 v1 => by
    obtain ⟨i, rfl, hi, hi2⟩ := p1
    cases v1
    obtain ⟨p, ep, es⟩ := a1.sl j _ e
    obtain ⟨x, y, z, hM, h1, h2, h3, h4, h5, h6⟩ := a1.pot p ep
    obtain ⟨st, a2⟩ := a1.putPot ep hM hi hi2 h3 h4 h5 h6
    exact ⟨.ref p, es, p, _, 0, 0, rfl, rfl, a1.sep.m p _ hM, rfl, q1 _ _ _ _ _ (s1.trans st) a2 rfl⟩
/-- pot[2] = pot[2] + 1 -/
theorem es_pot2 (e : ρ[j]? = some .pot) : Es K P (tAsg (tOp (rAdd1 K) (tOp (rIx K) (tVar j) (tC (.int 2))) (tC (.int 1))) (gSub (tVar j) (tC (.int 2)) rSetL)) ρ 1 (· = ρ) NoR NoR NoD := fun M0 σ G M H m E a b q1 _ _ _ => by
  obtain ⟨p, ep, es⟩ := a.sl j _ e
  obtain ⟨x, y, z, hM, h1, h2, h3, h4, h5, h6⟩ := a.pot p ep
  obtain ⟨st, a2⟩ := a.putPot (n := m + 1) (z := z + 1) ep hM h1 h2 h3 h4 (by omega) (by omega)
  exact ⟨.ref p, es, .inl ⟨p, _, 2, .int z, rfl, rfl, sq_of' (a.sep.m p _ hM), rfl, .inl ⟨z, 1, rfl, rfl, ⟨.ref p, es, p, _, 2, 2, rfl, rfl, a.sep.m p _ hM, rfl, q1 _ _ _ _ _ st a2 rfl⟩⟩⟩⟩
/-! ### arithmetic within bounds -/
variable {ta tb : TE} {ka kb : Nat} {A B : Int}
theorem ev_i {x : Int} : Ev K P (tC (.int x)) ρ 0 (· = .int x) := ev_int
theorem ev_addB (ha : Ev K P ta ρ ka (In0 A)) (hb : Ev K P tb ρ kb (In0 B)) : Ev K P (tOp (rAdd1 K) ta tb) ρ (ka + kb) (In0 (A + B)) := ev_op (φ := In0 A) (ψ := In0 B) ha hb fun a b p q => by
  obtain ⟨i, rfl, h1, h2⟩ := p
  obtain ⟨j, rfl, h3, h4⟩ := q
  exact fun x y G M H Q s ha hb f => od_add x y G M H Q s ha hb fun z d G2 H2 st e dv => f z d G2 H2 st ⟨i + j, e, by omega, by omega⟩ dv
theorem log_lt {i : Int} {n : Nat} (h0 : 0 ≤ i) (h : i < 2 ^ (n + 1)) : i.natAbs.log2 ≤ n := by
  by_cases z : i.natAbs = 0
  · rw [z]
    simp
  · have q : i.natAbs < 2 ^ (n + 1) := by
      have : ((i.natAbs : Nat) : Int) < ((2 ^ (n + 1) : Nat) : Int) := by rw [Int.natAbs_of_nonneg h0]; push_cast; exact h
      exact_mod_cast this
    exact Nat.le_of_lt_succ ((Nat.log2_lt z).mpr q)
theorem ev_mulB (ha : Ev K P ta ρ ka (In0 A)) (hb : Ev K P tb ρ kb (In0 B)) (hA : A ≤ 2 ^ 1200 := by decide) (hB : B ≤ 2 ^ 1200 := by decide) : Ev K P (tOp rMul1 ta tb) ρ (ka + kb) (In0 ((A - 1) * (B - 1) + 1)) := ev_op (φ := In0 A) (ψ := In0 B) ha hb fun a b p q => by
  obtain ⟨i, rfl, h1, h2⟩ := p
  obtain ⟨j, rfl, h3, h4⟩ := q
  have l1 : i.natAbs.log2 ≤ 1199 := log_lt h1 (Int.lt_of_lt_of_le h2 hA)
  have l2 : j.natAbs.log2 ≤ 1199 := log_lt h3 (Int.lt_of_lt_of_le h4 hB)
  have u : i * j ≤ (A - 1) * (B - 1) := Int.mul_le_mul (by omega) (by omega) h3 (by omega)
  exact fun x y G M H Q s ha hb f => od_mul (by unfold CMulW; omega) x y G M H Q s ha hb fun z d G2 H2 st e dv => f z d G2 H2 st ⟨i * j, e, Int.mul_nonneg h1 h3, by omega⟩ dv
theorem ev_modB {B : Int} (ha : Ev K P ta ρ ka (In0 A)) (hb : Ev K P tb ρ kb fun d => ∃ b : Int, d = .int b ∧ 0 < b ∧ b ≤ B) : Ev K P (tOp (rI (fun _ j => 0 < j) fun i j => .int (i % j)) ta tb) ρ (ka + kb) (In0 B) := ev_op (φ := In0 A) ha hb fun a b p q => by
  obtain ⟨i, rfl, h1, h2⟩ := p
  obtain ⟨j, rfl, h3, h4⟩ := q
  have m1 := Int.emod_nonneg i (b := j) (by omega)
  have m2 := Int.emod_lt_of_pos i h3
  exact fun x y G M H Q s ha hb f => od_mod h3 x y G M H Q s ha hb fun z d G2 H2 st e dv => f z d G2 H2 st ⟨i % j, e, m1, by omega⟩ dv
theorem ev_fdivB {B : Int} (ha : Ev K P ta ρ ka (In0 A)) (hb : Ev K P tb ρ kb fun d => ∃ b : Int, d = .int b ∧ 0 < b ∧ b ≤ B) (hB : B < 2 ^ 1200 := by decide) : Ev K P (tOp (rI CDivW fun i j => .int (i / j)) ta tb) ρ (ka + kb) (In0 A) := ev_op (φ := In0 A) ha hb fun a b p q => by
  obtain ⟨i, rfl, h1, h2⟩ := p
  obtain ⟨j, rfl, h3, h4⟩ := q
  have l2 : j.natAbs.log2 ≤ 1199 := log_lt (by omega) (Int.lt_of_le_of_lt h4 hB)
  have m1 : 0 ≤ i / j := Int.ediv_nonneg h1 (by omega)
  have m2 : i / j ≤ i := Int.ediv_le_self j h1
  exact fun x y G M H Q s ha hb f => od_fdiv (by unfold CDivW; omega) x y G M H Q s ha hb fun z d G2 H2 st e dv => f z d G2 H2 st ⟨i / j, e, m1, by omega⟩ dv
theorem ev_intB (h : EvA K P tr ρ k (fun ds => ∃ d, ds = [d] ∧ In0 A d)) : Ev K P (tCB rInt1 tr) ρ k (In0 A) := ev_call (χ := In0 A) h fun ds p => by
  obtain ⟨d, rfl, i, rfl, h1, h2⟩ := p
  exact fun vs G M H Q s hv f => cd_int vs G M H Q s hv fun z d G2 H2 st e dv => f z d G2 H2 st ⟨i, e, h1, h2⟩ dv
theorem ea_one (h : Ev K P te ρ k φ) : EvA K P (tCons te tNil) ρ k (fun ds => ∃ d, ds = [d] ∧ φ d) := (ea_cons h ea_nil).imp fun ds p => by
  obtain ⟨d, es, rfl, h1, rfl⟩ := p
  exact ⟨d, rfl, h1⟩
theorem in0_c {x : Int} (h0 : 0 ≤ x := by decide) : Ev K P (tC (.int x)) ρ 0 (In0 (x + 1)) := ev_int.imp fun d e => ⟨x, e, h0, by omega⟩
theorem pos_c {x : Int} (h0 : 0 < x := by decide) : Ev K P (tC (.int x)) ρ 0 (fun d => ∃ b : Int, d = .int b ∧ 0 < b ∧ b ≤ x) := ev_int.imp fun d e => ⟨x, e, h0, Int.le_refl _⟩
/-- a power of three -/
theorem ev_cubeB (ha : Ev K P ta ρ ka (In0 A)) (hA : A ≤ 2 ^ 1200 := by decide) : Ev K P (tOp (rI CPowW fun i j => .int (i ^ j.toNat)) ta (tC (.int 3))) ρ (ka + 0) (In0 ((A - 1) ^ 3 + 1)) := ev_op (φ := In0 A) (ψ := (· = .int 3)) ha ev_int fun a b p q => by
  obtain ⟨i, rfl, h1, h2⟩ := p
  subst q
  have l1 : i.natAbs.log2 ≤ 1199 := log_lt h1 (Int.lt_of_lt_of_le h2 hA)
  have cw : CPowW i 3 := by
    have b : Builtin.Int.intBits i ≤ i.natAbs.log2 + 1 := by
      unfold Builtin.Int.intBits
      split <;> omega
    exact ⟨by decide, by
      have : ((Builtin.Int.intBits i : Nat) : Int) ≤ 1200 := by exact_mod_cast (by omega : Builtin.Int.intBits i ≤ 1200)
      omega⟩
  have h4 : 0 ≤ i ^ 3 := Int.pow_nonneg h1
  have h5 : i ^ 3 ≤ (A - 1) ^ 3 := by
    have e : ∀ x : Int, x ^ 3 = x * x * x := fun x => by rw [Int.pow_succ, Int.pow_succ, Int.pow_succ, Int.pow_zero, Int.one_mul]
    rw [e, e]
    have i1 : i ≤ A - 1 := by omega
    have i2 : i * i ≤ (A - 1) * (A - 1) := Int.mul_le_mul i1 i1 h1 (by omega)
    exact Int.mul_le_mul i2 i1 h1 (Int.mul_nonneg (by omega) (by omega))
  exact fun x y G M H Q s ha hb f => opd_I (K := K) (g := fun i j => .int (i ^ j.toNat)) cw (fun _ => .int _) x y G M H Q s ha hb fun z d G2 H2 st e dv => f z d G2 H2 st ⟨i ^ 3, e, h4, by omega⟩ dv
/-- xs[i] of a list of data, i in bounds -/
theorem ev_ixL {χ : D → Prop} {n : Nat} (ha : Ev K P ta ρ ka fun d => ∃ ds, d = .lst ds ∧ ds.length = n ∧ ∀ d ∈ ds, χ d) (hb : Ev K P tb ρ kb (In0 n)) : Ev K P (tOp (rIx K) ta tb) ρ (ka + kb) χ := ev_op ha hb fun a b p q => by
  obtain ⟨ds, rfl, h1, h2⟩ := p
  obtain ⟨j, rfl, h3, h4⟩ := q
  have l : j.toNat < ds.length := by omega
  have e : L2.atI ds j = some ds[j.toNat] := by
    unfold L2.atI ixN
    rw [if_pos h3, if_pos (by omega)]
    exact List.getElem?_eq_getElem l
  exact fun x y G M H Q s ha hb f => od_ixL e x y G M H Q s ha hb fun z d G2 H2 st ed dv => f z d G2 H2 st (ed ▸ h2 _ (List.getElem_mem l)) dv
/-! ### bodies, one statement behind the other -/
section
variable {t u : TS} {N B C : List Sx → Prop} {R : D → Prop} {i k1 k2 : Nat} {tt : TT} {kc : Nat} {β : Bool → Prop}
theorem q_asg {φ : D → Prop} (h : Ev K P te ρ k1 φ) (h2 : ∀ d, φ d → Es K P u (ρ.set i (.d d)) k2 N B C R) (l : i < ρ.length := by exact Nat.le_of_ble_eq_true rfl) (lk : k1 + k2 ≤ k := by decide) : Es K P (tSeq (tAsg te (gName i)) u) ρ k N B C R :=
  Es.le (es_seq ((es_asg h l).imp (fun _ z => z) (fun _ z => z.elim) (fun _ z => z.elim) (fun _ z => z.elim)) fun ρ1 z => by
    obtain ⟨d, h1, rfl⟩ := z
    exact h2 d h1) lk
theorem q_keep (h : Es K P t ρ k1 (· = ρ) NoR NoR NoD) (h2 : Es K P u ρ k2 N B C R) (lk : k1 + k2 ≤ k := by decide) : Es K P (tSeq t u) ρ k N B C R :=
  Es.le (es_seq (h.imp (fun _ z => z) (fun _ z => z.elim) (fun _ z => z.elim) (fun _ z => z.elim)) fun ρ1 z => by
    subst z
    exact h2) lk
theorem q_ret {φ : D → Prop} (h : Ev K P te ρ k1 φ) (f : ∀ d, φ d → R d) (lk : k1 ≤ k := by decide) : Es K P (tRet te) ρ k N B C R :=
  Es.le ((es_ret h).imp (fun _ z => z.elim) (fun _ z => z.elim) (fun _ z => z.elim) f) lk
theorem q_next (h : N ρ) : Es K P tNext ρ k N B C R := Es.le (k1 := 0) (es_next.imp (fun _ z => z ▸ h) (fun _ z => z.elim) (fun _ z => z.elim) (fun _ z => z.elim)) (Nat.zero_le _)
/-- an if whose arms either leave or go on with the slots as they were -/
theorem q_if {v : TS} (hc : EvT K P tt ρ kc β) (h1 : β true → Es K P t ρ k1 (· = ρ) B C R) (h2 : β false → Es K P u ρ k1 (· = ρ) B C R) (h3 : Es K P v ρ k2 N B C R) (lk : kc + k1 + k2 ≤ k := by decide) : Es K P (tSeq (tIfS tt t u) v) ρ k N B C R :=
  Es.le (es_seq (es_if hc h1 h2) fun ρ1 z => by
    subst z
    exact h3) lk
theorem et_gt0 {A : Int} (h : Ev K P te ρ k (In0 A)) : EvT K P (tTest (tOp (rI0 fun i j => .bl (decide (j < i))) te (tC (.int 0)))) ρ (k + 0) (fun _ => True) := et_test (φ := fun d => ∃ b, d = .bl b) (ev_op (ψ := (· = .int 0)) h ev_int fun a b p q => by
  obtain ⟨i, rfl, h1, h2⟩ := p
  subst q
  exact fun x y G M H Q s ha hb f => od_gt x y G M H Q s ha hb fun z d G2 H2 st e dv => f z d G2 H2 st ⟨_, e⟩ dv) fun d z => by
    obtain ⟨b, rfl⟩ := z
    exact ⟨b, rfl, trivial⟩
end
end
/-! ### dicts as they are written; the very value -/
section
variable {K : PySem.W.Frag} {P : Option Addr} {M0 G M H : Hp} {m k k1 : Nat} {σ : L2.St} {ρ : List Sx} {i : Nat} {te ta tb : TE} {φ : D → Prop} {d : D} {t : TS} {N B C : List Sx → Prop} {R : D → Prop}
theorem At.ownBeside (a : At K P M0 m G M H σ ρ) {p : Addr} (n : H p = none) {o : HO} : Step G M H G (upd M p o) (upd H p o) ∧ At K P M0 m G (upd M p o) (upd H p o) σ ρ := by
  have st := Step.own (o := o) a.sep n
  refine ⟨st, a.go st (fun p' e => ?_) fun b o _ z => ?_⟩
  · rw [upd_ne fun q => a.offP n (by rw [← q]; exact e)]
    exact a.pot p' e
  · rw [upd_ne (some_ne z (a.sep.free n).2)]
    exact z
theorem ev_dic0 : Ev K P tDNewK ρ 0 (· = .dic []) := fun M0 σ G M H m Q a l q p n => by
  have st := Step.new (o := .dK []) a.sep n
  exact q (.ref p) (.dic []) _ _ _ st (a.pure st) rfl (.dic (.inl upd_same) .nil)
theorem ev_dic1 {z : Str} (h : Ev K P te ρ k φ) : Ev K P (tDisp [(tC (.str z), te)]) ρ k (fun d => ∃ x, d = .dic [(.inr z, x)] ∧ φ x) := fun M0 σ G M H m Q a l q p n => by
  have hp := a.offP n
  have ns := a.noSlot n
  have n0 := a.m0 n
  obtain ⟨st1, a1⟩ := a.ownBeside (o := .dK []) n
  refine h (upd M0 p (.dK [])) σ _ _ _ m _ (a1.frame hp ns upd_same) l fun v d G2 M2 H2 s2 a3 hd hv => ?_
  have e3 : M2 p = some (.dK []) := a3.fr p _ hp upd_same
  refine ⟨a3.sep.m _ _ e3, [(.inr z, v)], rfl, Nat.le_of_ble_eq_true rfl, ?_⟩
  have a4 := a3.unframe n0
  have st4 := Step.put (o := .dK [(.inr z, v)]) a4.sep e3
  have a5 := a4.put (w := .dK [(.inr z, v)]) hp n0 ns e3
  have st6 := Step.share st4.s (show (upd M2 p (.dK [(.inr z, v)])) p = some (.dK [(.inr z, v)]) from upd_same)
  have a6 := a5.share hp n0 ns upd_same
  exact q (.ref p) (.dic [(.inr z, d)]) _ _ _ (((st1.trans s2).trans st4).trans st6) a6 ⟨d, rfl, hd⟩ (.dic (.inl upd_same) (.cons (hv.mono st6.gg) .nil))
theorem es_sam (i : Nat) (e : ρ[i]? = some (.d d)) (h : ∀ v, Es K P t (ρ.set i (.d (.sam v d))) k N B C R) : Es K P t ρ k N B C R := fun M0 σ G M H m E a l q1 q2 q3 q4 => by
  obtain ⟨v, e1, hv⟩ := a.slot e
  exact h v M0 σ G M H m E (a.know e1 (.sam hv)) l q1 q2 q3 q4
theorem od_eqSam {v : V} (p : d.plain = true) : OpD K (rEq1 K) (.sam v d) (.sam v d) (· = .bl true) := OpD.inr (OpD.inr fun x y G M H Q s ha hb q => by
  cases ha with
  | sam h1 =>
    cases hb with
    | sam h2 => exact ⟨rfl, ⟨_, (h1.mono s.g).dt p⟩, q _ _ G H (Step.refl s) rfl (.bl _)⟩)
end
end Tp

/-! # Errors of own classes over data -/
namespace Tp
open PySem PySem.Spec PyProof.Rows L2
structure CalE (P : Program) (w : World) (K : PySem.W.Frag) (mg : Str → Option Value) (base : Heap) (k : Nat) (x : Str) (C : Addr) : Prop where
  T : ErrC K C
  ex : ∃ (fI : Addr) (fd : FuncData) (ps : List Str), FnG P w K mg base CX0 k fI fd ps (spErr K) ∧ PySem.W.findIn K (.ref C) "__init__" = some (some (.ref fI)) ∧ PySem.W.typeIn K (.ref fI) = some (.type "function") ∧ Binds K fd ps []
  m : mg x = some (.ref C)
section
variable {X : Cx} {k : Nat} {x : Str} {p pos : Pos} {e : Expr} {es : List Expr} {t : TA} {C : Addr}
theorem pc_err (c : CalE X.prog X.w X.K X.mg X.base k x C) (hr : Room (k + 1) X.A) (gq : Quiet X.A) (hg : Gl X x) (ha : PA X (e :: es) t)
    (hdb : (x == ("__debug__" : Str)) = false := by decide)
    (he : starEach (e :: es) X.env = (false, eval e X.env) :: starEach es X.env := by rfl) (hpl : (backTo pos (starEach es X.env)).any (·.1) = false := by rfl) :
    PE X (.Call (.Name x p) (e :: es) [] pos) (tErrM C (spErr X.K) [] t) := by
  obtain ⟨fI, fd, ps, F, hi, ht, hb⟩ := c.ex
  exact pe_errM c.T.ox hi ht F hr gq hb .nil pass0 hg c.m ha hdb he hpl
abbrev de_err (c : CalE X.prog X.w X.K X.mg X.base k x C) (hr : Room (k + 1) X.A) (gq : Quiet X.A) (hg : Gl X x) (ha : DA X (e :: es))
    (hdb : (x == ("__debug__" : Str)) = false := by decide)
    (he : starEach (e :: es) X.env = (false, eval e X.env) :: starEach es X.env := by rfl) (hpl : (backTo pos (starEach es X.env)).any (·.1) = false := by rfl) :
    DE X (.Call (.Name x p) (e :: es) [] pos) := ⟨tErrM C (spErr X.K) [] ha.1, pc_err c hr gq hg ha.2 hdb he hpl⟩
abbrev de_gX (c : CalE X.prog X.w X.K X.mg X.base k x C) (hg : Gl X x) (hn : x ≠ "__name__" := by decide) (hdb : (x == ("__debug__" : Str)) = false := by decide) : DE X (.Name x pos) := ⟨tC (.ref C), pe_glob hg c.m rfl hdb⟩
abbrev de_VE (hg : Gl X "ValueError") (hm : X.mg ("ValueError" : Str) = none) : DE X (.Name "ValueError" pos) := ⟨tC (.ty "ValueError"), pe_bltn hg hm bo_VE rfl (by decide) (by decide)⟩
abbrev de_f_isi (hm : X.mg ("isinstance" : Str) = none) (hg : Gl X "isinstance") (ha : DA X (e :: es)) (he : starEach (e :: es) X.env = (false, eval e X.env) :: starEach es X.env := by rfl) (hpl : (backTo pos (starEach es X.env)).any (·.1) = false := by rfl) : DE X (.Call (.Name "isinstance" p) (e :: es) [] pos) := de_callB cr_isX hg hm bo_isi ha nn_isi nd_isi he hpl
end
section
variable {K : PySem.W.Frag} {P : Option Addr} {G M H H' : Hp} {k : Nat} {ρ : List Sx} {C e d : Addr} {ta : TA} {te : TE} {φ : D → Prop}
theorem Step.err {v : V} (s : Sep G M H) (n : H e = none) (nd : H d = none) (ne : d ≠ e) (sm : Same H H') (h : ErrAt H' e C d [("value", v)]) : Step G M H (upd (upd G d (exd d [("value", v)])) e (exo e C (some d))) M H' where
  s := ⟨fun a o z => by
      by_cases q : a = e
      · subst q
        rw [upd_same] at z
        rw [← z]
        exact h.1
      · rw [upd_ne q] at z
        by_cases q2 : a = d
        · subst q2
          rw [upd_same] at z
          rw [← z]
          exact h.2
        · rw [upd_ne q2] at z
          exact sm _ _ (s.g _ _ z), fun a o z => sm _ _ (s.m _ _ z), fun a o z => by
      rw [upd_ne (some_ne z (s.free n).2), upd_ne (some_ne z (s.free nd).2)]
      exact s.d a o z⟩
  gg := fun a o z => by
    rw [upd_ne (some_ne z (s.free n).1), upd_ne (some_ne z (s.free nd).1)]
    exact z
  keep := fun a o _ z => sm _ _ z
  out := fun a o _ g z => by
    rw [upd_ne (some_ne z n), upd_ne (some_ne z nd)]
    exact g
  old := fun a o z _ => z
theorem ev_errM (T : ErrC K C) (h : EvA K P ta ρ k (fun ds => ∃ d, ds = [d] ∧ φ d)) : Ev K P (tErrM C (spErr K) [] ta) ρ k (fun d => ∃ x, d = .err C x ∧ φ x) := fun M0 σ G M H m Q a l q =>
  h M0 σ G M H m _ a l fun vs ds G1 M1 H1 s1 a1 p1 v1 => by
    obtain ⟨x, rfl, hx⟩ := p1
    cases v1 with
    | @cons v _ _ _ h1 h2 =>
      cases h2
      refine ⟨Nat.le_of_ble_eq_true rfl, fun e n => ⟨e, C, v, rfl, T.ox, T.nv, upd_same, fun d H' nd sm at_ => ⟨rfl, ?_⟩⟩⟩
      have ne : d ≠ e := fun z => by
        rw [z, upd_same] at nd
        cases nd
      rw [upd_ne ne] at nd
      have st := Step.err (C := C) (v := v) a1.sep n nd ne (fun b o z => sm b o (by
        show (if b = e then none else upd H1 e (exo e C none) b) = some o
        rw [if_neg (some_ne z n), upd_ne (some_ne z n)]
        exact z)) at_
      refine q (.ref e) (.err C x) _ _ _ (s1.trans st) (a1.pure st) ⟨x, rfl, hx⟩ (.err ⟨upd_same, ?_⟩ (h1.mono st.gg))
      rw [upd_ne ne]
      exact upd_same
theorem ev_isX {c : V} {cv : Value} {β : Bool} (T : ErrC K C) (hc : ∀ u, RelV c u → u = cv) (hk : PySem.W.kitOne K (.ref C) cv = some β) (h : Ev K P te ρ k (fun d => ∃ x, d = .err C x)) : Ev K P (tCB (rIsX K) (tCons te (tCons (tC c) tNil))) ρ k (· = .bl β) := fun M0 σ G M H m Q a l q =>
  h M0 σ G M H m _ a l fun v d G1 M1 H1 s1 a1 p1 v1 => by
    obtain ⟨x, rfl⟩ := p1
    exact cd_isX (G0 := G1) T hc hk v G1 M1 H1 Q a1.sep v1 (q _ _ G1 M1 H1 s1 a1 rfl (.bl _))
end
/-! ### bodies -/
section
variable {K : PySem.W.Frag} {P : Option Addr} {k k1 : Nat} {ρ : List Sx} {C : Addr} {tr : TA} {te : TE} {t u : TS} {i j : Nat} {ds es : List D} {x : D} {N B Cc : List Sx → Prop} {R : D → Prop}
theorem ev_errC (T : ErrC K C) (e : ρ[j]? = some (.d x)) : Ev K P (tErrM C (spErr K) [] (tCons (tVar j) tNil)) ρ 0 (· = .err C x) := (ev_errM T (ea_one (ev_var e))).imp fun d p => by
  obtain ⟨x, rfl, rfl⟩ := p
  rfl
theorem ev_isC {c : V} {cv : Value} {β : Bool} (T : ErrC K C) (hc : ∀ u, RelV c u → u = cv) (hk : PySem.W.kitOne K (.ref C) cv = some β) (e : ρ[j]? = some (.d (.err C x))) : Ev K P (tCB (rIsX K) (tCons (tVar j) (tCons (tC c) tNil))) ρ 0 (· = .bl β) := ev_isX T hc hk ((ev_var e).imp fun d z => ⟨x, z⟩)
theorem ev_lstC' (h : EvA K P tr ρ 0 (· = ds)) (l : ds.length ≤ 1000000) : Ev K P (tLst tr) ρ 0 (· = .lst ds) := (ev_lst h fun _ e => e ▸ l).imp fun d p => by
  obtain ⟨ds, rfl, rfl⟩ := p
  rfl
theorem q_newL (h : EvA K P tr ρ 0 (· = ds)) (h2 : Es K P u (ρ.set i (.own (.lst ds))) k N B Cc R) (l : ds.length ≤ 1000000) (li : i < ρ.length) : Es K P (tSeq (tAsg (tLst tr) (gName i)) u) ρ k N B Cc R :=
  Es.le (es_seq ((es_newL h li fun _ e => e ▸ l).imp (fun _ z => z) (fun _ z => z.elim) (fun _ z => z.elim) (fun _ z => z.elim)) fun ρ1 z => by
    obtain ⟨d, z1, rfl⟩ := z
    rw [z1]
    exact h2) (by omega)
theorem q_ext (e : ρ[i]? = some (.own (.lst ds))) (h : EvA K P tr ρ 0 (· = es)) (h2 : Es K P u (ρ.set i (.own (.lst (ds ++ es)))) k N B Cc R) (l : es.length ≤ 1000000) (few : ds.length + es.length ≤ 1000000) : Es K P (tSeq (tDrop (tBM K "list" rExtend (tVar i) (tCons (tLst tr) tNil))) u) ρ k N B Cc R :=
  Es.le (es_seq ((es_ext e (ev_lstC' h l) fun d z => ⟨es, z, few⟩).imp (fun _ z => z) (fun _ z => z.elim) (fun _ z => z.elim) (fun _ z => z.elim)) fun ρ1 z => by
    obtain ⟨d, z1, rfl⟩ := z
    cases z1
    exact h2) (by omega)
theorem q_share (e : ρ[i]? = some (.own (.lst ds))) (h : R (.lst ds)) (li : i < ρ.length) : Es K P (tRet (tVar i)) ρ k N B Cc R := es_share e (q_ret (k1 := 0) (ev_var (x := .lst ds) (by rw [getset li, if_pos rfl])) (fun d z => z ▸ h) (Nat.zero_le _))
end
/-! ### comprehensions as data -/
section
variable {X : Cx} {elt tg iter : Expr} {scope : Scope} {pos spos py : Pos} {y : Str} {i : Nat}
abbrev de_lc (own : List (Str × Nat)) (s0 : Shared) (H0 : Hp) (hc : X.calm = true) (hN : X.N.Nodup) (hi : DI X tg iter) (ok : blkC X.N X.env.scope scope own = true)
    (hg : ∀ (s : Shared) (H : Hp) (C : Addr) (cl : List (Str × Addr)) (fp : List Addr), DG (X.blk s H scope (compEnvC scope cl C X.env) fp) tg)
    (he : ∀ (s : Shared) (H : Hp) (C : Addr) (cl : List (Str × Addr)) (fp : List Addr), DE (X.blk s H scope (compEnvC scope cl C X.env) fp) elt)
    (eg : ∀ (s : Shared) (H : Hp) (C : Addr) (cl : List (Str × Addr)) (fp : List Addr), (hg s H C cl fp).1 = (hg s0 H0 0 [] []).1)
    (ee : ∀ (s : Shared) (H : Hp) (C : Addr) (cl : List (Str × Addr)) (fp : List Addr), (he s H C cl fp).1 = (he s0 H0 0 [] []).1)
    (hs : ∀ x, foldedSetIterable iter X.env x = pure x := by intro _; rfl) : DE X (.ListComp elt [⟨tg, iter, [], 0⟩] scope pos) :=
  ⟨tLc hi.1 (hg s0 H0 0 [] []).1 tYes (he s0 H0 0 [] []).1 (own.map (·.2)), pe_lc hc hN hi.2 (blkOk_by ok) (fun s H C cl fp => eg s H C cl fp ▸ (hg s H C cl fp).2) (fun _ _ _ _ _ => pts_nil) (fun s H C cl fp => ee s H C cl fp ▸ (he s H C cl fp).2) hs⟩
abbrev ds_setLc (i : Nat) (own : List (Str × Nat)) (s0 : Shared) (H0 : Hp) (hc : X.calm = true) (hN : X.N.Nodup) (hi : DI X tg iter) (ok : blkC X.N X.env.scope scope own = true)
    (hg : ∀ (s : Shared) (H : Hp) (C : Addr) (cl : List (Str × Addr)) (fp : List Addr), DG (X.blk s H scope (compEnvC scope cl C X.env) fp) tg)
    (he : ∀ (s : Shared) (H : Hp) (C : Addr) (cl : List (Str × Addr)) (fp : List Addr), DE (X.blk s H scope (compEnvC scope cl C X.env) fp) elt)
    (eg : ∀ (s : Shared) (H : Hp) (C : Addr) (cl : List (Str × Addr)) (fp : List Addr), (hg s H C cl fp).1 = (hg s0 H0 0 [] []).1)
    (ee : ∀ (s : Shared) (H : Hp) (C : Addr) (cl : List (Str × Addr)) (fp : List Addr), (he s H C cl fp).1 = (he s0 H0 0 [] []).1)
    (hy : X.N[i]? = some y := by rfl) (hyl : X.env.scope.names.lookup y = some .local := by rfl) (hk : X.env.scope.kind = .function := by rfl) (hl : (py.line == pos.line) = true := by rfl)
    (ha : (scope.names.any fun (n, k) => n == y && (k == .local || k == .cell)) = false := by rfl)
    (hs : ∀ x, foldedSetIterable iter X.env x = pure x := by intro _; rfl) : DS X (.Assign [.Name y py] (.ListComp elt [⟨tg, iter, [], 0⟩] scope pos) spos) :=
  ⟨tAsg (tLc hi.1 (hg s0 H0 0 [] []).1 tYes (he s0 H0 0 [] []).1 (own.map (·.2))) (gName i), ps_setLc hc hN hy hyl (sw_true hk hyl hl ha) hi.2 (blkOk_by ok) (fun s H C cl fp => eg s H C cl fp ▸ (hg s H C cl fp).2) (fun _ _ _ _ _ => pts_nil) (fun s H C cl fp => ee s H C cl fp ▸ (he s H C cl fp).2) hs⟩
end
/-! ### what comprehensions make -/
section
variable {K : PySem.W.Frag} {P : Option Addr} {k k1 kc ki kb n : Nat} {ρ ρ' : List Sx} {t : TS} {tt : TT} {N B C : List Sx → Prop} {R : D → Prop} {te : TE} {tr : TA} {ti : TI} {g : TG} {vs js : List Nat} {ds es : List D} {F : Nat → D}
theorem each_eq {ds es : List D} (h : Each (fun i _ e => e = F i) ds es) : es = (List.range ds.length).map F := by
  apply List.ext_getElem?
  intro i
  by_cases l : i < ds.length
  · have l2 : i < es.length := by rw [h.1]; exact l
    rw [List.getElem?_eq_getElem l2, h.2 i ds[i] es[i] (List.getElem?_eq_getElem l) (List.getElem?_eq_getElem l2)]
    simp [l]
  · have l2 : ¬ i < es.length := by rw [h.1]; exact l
    rw [List.getElem?_eq_none (by omega), List.getElem?_eq_none (by simp; omega)]
/-- over known items, each item's answer told by its number -/
theorem ev_lcF (ds : List D) (F : Nat → D) (un : UnAt ρ vs) (hi : EvI K P ti ρ ki (· = ds)) (hj : ∀ j ∈ js, j ∈ vs) (f : Nat → D → List D) (n6 : ds.length ≤ 1000000) (hg : ∀ i d, ds[i]? = some d → EvG K g js d (f i d))
    (he : ∀ i d, ds[i]? = some d → Ev K P te (setR ρ js (f i d)) 0 (· = F i)) : Ev K P (tLc ti g tYes te vs) ρ ki (· = .lst ((List.range ds.length).map F)) := by
  have h := ev_lcAll (n := ds.length) (Φ := (· = ds)) un hi hj (fun _ i _ e => e = F i) (fun _ i d => f i d) (fun _ e => by rw [e]; exact Nat.le_refl _) n6 (fun ds' i d e h => hg i d (by rw [← e]; exact h)) (ke := 0) (fun ds' i d e h => he i d (by rw [← e]; exact h))
  exact Ev.le (h.imp fun d z => by
    obtain ⟨ds', es, rfl, e1, h2⟩ := z
    subst e1
    rw [each_eq h2]) (by omega)
/-- the slots forgotten at the end of a turn -/
theorem q_weak (h : N ρ') (l : ρ'.length = ρ.length) (f : ∀ i : Nat, ρ'[i]? = ρ[i]? ∨ ρ'[i]? = some .un) : Es K P tNext ρ k N B C R := es_weak (q_next h) l f
end
section
variable {K : PySem.W.Frag}
theorem cd_allT {n : Nat} : CallD K (rAll K) [.lst ((List.range n).map fun _ => .bl true)] (· = .bl true) := by
  have h := cd_all (K := K) (bs := (List.range n).map fun _ => true)
  rw [List.map_map] at h
  have e : ((List.range n).map fun _ => true).all id = true := by simp
  rw [e] at h
  exact h
end
section
variable {K : PySem.W.Frag} {P : Option Addr} {ρ : List Sx} {ti : TI} {k : Nat}
theorem ei_imp {Φ Ψ : List D → Prop} (h : EvI K P ti ρ k Φ) (f : ∀ ds, Φ ds → Ψ ds) : EvI K P ti ρ k Ψ := fun M0 σ G M H m R a l q => h M0 σ G M H m R a l fun J ds G2 M2 H2 s a2 p W => q J ds G2 M2 H2 s a2 (f ds p) W
end
end Tp

/-! # The head: own error classes, the Hook -/
namespace Tp
open PySem PySem.Spec PyProof.Rows L2
def oexP (C : Addr) (c : ClassData) : List (Option Value) → Bool
  | [_, _, _, _, some (.builtin n), _] => decide (n = "ValueError.__new__") && (!c.hasDel && (c.hasDict && (match c.mro with
    | .ref E :: tl => decide (E = C) && PySem.HandSPX.refsVE tl
    | _ => false)))
  | _ => false
def oexB (K : PySem.W.Frag) (C : Addr) : Bool := match K.lookup C with
  | some ⟨.type t, _, .cls c, s⟩ => decide (t = "type") && oexP C c s.toList
  | _ => false
theorem oexP_ok {C : Addr} {c : ClassData} {l : List (Option Value)} (h : oexP C c l = true) : ∃ a b d e f tl, l = [a, b, d, e, some (.builtin "ValueError.__new__"), f] ∧ c.hasDel = false ∧ c.hasDict = true ∧ c.mro = .ref C :: tl ∧ PySem.HandSPX.refsVE tl = true := by
  unfold oexP at h
  split at h
  · rename_i a b d e n f
    simp only [Bool.and_eq_true, decide_eq_true_eq, Bool.not_eq_true'] at h
    obtain ⟨rfl, h2, h3, h4⟩ := h
    split at h4
    · rename_i E tl hm
      simp only [Bool.and_eq_true, decide_eq_true_eq] at h4
      obtain ⟨rfl, h5⟩ := h4
      exact ⟨a, b, d, e, f, tl, rfl, h2, h3, hm, h5⟩
    · cases h4
  · cases h
theorem oexB_ok {K : PySem.W.Frag} {C : Addr} (h : oexB K C = true) : ∃ nm q N bs bm sn sub ab col dd k0 k1 k2 k3 k5, K.lookup C = some (excClassObj nm q C N bs bm true sn sub ab col dd k0 k1 k2 k3 k5 "ValueError.__new__") ∧ PySem.HandSPX.refsVE bm = true := by
  unfold oexB at h
  split at h
  · rename_i t dd c s ho
    simp only [Bool.and_eq_true, decide_eq_true_eq] at h
    obtain ⟨rfl, h⟩ := h
    obtain ⟨a, b, d, e, f, tl, hl, h2, h3, hm, h5⟩ := oexP_ok h
    obtain ⟨nm, bs, mro, ns, qn, hd, sn, sub, ab, col, del⟩ := c
    dsimp only at hm h2 h3
    subst hm h2 h3
    obtain ⟨l⟩ := s
    have hl' : l = [a, b, d, e, some (.builtin "ValueError.__new__"), f] := hl
    subst hl'
    exact ⟨nm, qn, ns, bs, tl, sn, sub, ab, col, dd, a, b, d, e, f, ho, h5⟩
  · cases h
def errB (K : PySem.W.Frag) (C : Addr) : Bool :=
  oexB K C && (He.eqO (PySem.W.findIn K (.ref C) "__setattr__") (some (some (.builtin "object.__setattr__"))) && (decide (PySem.W.subIn K (.ref C) (.type "BaseException") = some true) && (decide (PySem.W.typeIn K (.ref C) = some (.type "type")) && (PySem.W.keepIn K (.ref C) &&
  (He.eqO (PySem.W.findIn K (.ref C) "__getattribute__") (some (some (.builtin "BaseException.__getattribute__"))) && (He.eqO (PySem.W.findIn K (.ref C) "__getattr__") (some none) && (PySem.W.hasDictIn K C && (He.eqO (PySem.W.findIn K (.ref C) "__class__") (some (some (.builtin "object.__class__"))) &&
  (He.eqO (PySem.W.specialIn K (.builtin "object.__class__") "__get__") (some (some (.builtin "getset_descriptor.__get__"))) && (decide (PySem.W.takesIn K (.builtin "object.__class__") = some true) && (decide (PySem.W.mroIn K C (.type "object") = some true) && He.eqO (PySem.W.findIn K (.ref C) "value") (some none))))))))))))
theorem errB_ok {K : PySem.W.Frag} {C : Addr} (h : errB K C = true) : ErrC K C := by
  unfold errB at h
  simp only [Bool.and_eq_true] at h
  obtain ⟨h1, h2, h3, h4, h5, h6, h7, h8, h9, h10, h11, h12, h13⟩ := h
  exact ⟨⟨oexB_ok h1, He.eqO_ok h2, of_decide_eq_true h3, of_decide_eq_true h4, h5⟩, He.eqO_ok h6, He.eqO_ok h7, h8, He.eqO_ok h9, He.eqO_ok h10, of_decide_eq_true h11, of_decide_eq_true h12, He.eqO_ok h13⟩
/-! ### the Hook -/
abbrev AlK : Type := He.AlD × Bool
def frK (g : Addr → Option Obj) (n : Nat) : PySem.W.Frag := He.frG g (He.asD g n ++ [sysModules])
def obsK (n : Nat) (fa : List He.Fa) (fn : List He.DefD) (ex : PySem.W.Frag → Bool) (g : Addr → Option Obj) : AlK := (He.obsD fa fn (frK g n), ex (frK g n))
def hookK (n : Nat) (fa : List He.Fa) (fn : List He.DefD) (ex : PySem.W.Frag → Bool) : PySem.W.Hook where
  α := AlK
  obs := fun s => obsK n fa fn ex s.heap.get?
  val := fun _ => (He.valD fn, true)
  says := fun _ h => ∃ K : PySem.W.Frag, K.In h ∧ He.SaysD fa fn K ∧ ex K = true
  of := fun _ _ e => ⟨_, He.frG_in, congrArg (fun z : AlK => z.1) e, congrArg (fun z : AlK => z.2) e⟩
  keeps := fun _ _ _ ⟨K, hK, c⟩ k => ⟨K, PySem.W.Frag.In.keeps hK k, c⟩
theorem obsK_eq {n : Nat} {fa : List He.Fa} {fn : List He.DefD} {ex : PySem.W.Frag → Bool} {g : Addr → Option Obj} {s : Shared} (h : ∀ a, g a = s.heap.get? a) : obsK n fa fn ex g = (hookK n fa fn ex).obs s := by
  have e : g = s.heap.get? := funext h
  rw [e] <;> rfl
/-- a global def's datum -/
def dG (x : Str) (st : Stmt) : He.DefD := ⟨(x, none), x, x, defArgs st, defBody st, defScope st, [], []⟩
end Tp

namespace Tp
open PySem PySem.Spec PyProof.Rows L2
def topS (i : Nat) : Stmt := PySem.Challenge.pw_treadplans_k00_errors_keep_their_value.main.body.getD i (.Pass ⟨0, 0, 0, 0⟩)
abbrev sInit : Stmt := inClass (topS 1) 0
abbrev sPot : Stmt := topS 26
abbrev sTake : Stmt := topS 27
abbrev sOf : Stmt := topS 28
abbrev sOdd : Stmt := topS 29
abbrev sAll : Stmt := topS 30
abbrev sKinds : Stmt := topS 31
abbrev sRight : Stmt := topS 32
abbrev sLaw : Stmt := topS 33
/-- what a draw promises: an int from 0 to below upto -/
abbrev preTake : List D → Prop := fun ds => ∃ u : Int, ds = [.int u] ∧ 0 < u ∧ u ≤ 1000000
abbrev postTake : List D → D → Prop := fun ds d => ∃ u r : Int, ds = [.int u] ∧ d = .int r ∧ 0 ≤ r ∧ r < u
/-- one of some things -/
abbrev preOf : List D → Prop := fun ds => ∃ xs : List D, ds = [.lst xs] ∧ 0 < xs.length ∧ xs.length ≤ 1000000
abbrev postOf : List D → D → Prop := fun ds d => ∃ xs : List D, ds = [.lst xs] ∧ d ∈ xs
def odds1 : List D := [.non, .bl true, .bl false, .int 0, .int 1, .int (-1), .int 10, .str "", .str "A", .str "#", .str ".", .str "a b", .str "a", .tup [], .lst [], .dic [], .tup [.tup []], .tup [.int 0], .lst [.int 0], .tup [.str "a"]]
def odds2 : List D := [.tup [.bl true], .tup [.str "a", .int 1], .str "end", .tup [.str "end", .int 0], .dic [(.inr "a", .int 0)], .lst [.str "a"], .str "( a )", .int (10 ^ 8)]
abbrev preOdd : List D → Prop := (· = [])
abbrev postOdd : List D → D → Prop := fun _ d => d ∈ odds1 ++ odds2
/-! ### values as they are written -/
section
variable {K : PySem.W.Frag} {P : Option Addr} {ρ : List Sx} {te : TE} {tr : TA} {d : D} {ds : List D}
theorem ea_c (h : Ev K P te ρ 0 (· = d)) (h2 : EvA K P tr ρ 0 (· = ds)) : EvA K P (tCons te tr) ρ 0 (· = d :: ds) := (ea_cons h h2).imp fun ds p => by
  obtain ⟨d, es, rfl, rfl, rfl⟩ := p
  rfl
theorem ev_tupC (h : EvA K P tr ρ 0 (· = ds)) (l : ds.length ≤ 1000000 := by exact Nat.le_of_ble_eq_true rfl) : Ev K P (tTup tr) ρ 0 (· = .tup ds) := (ev_tup h fun _ e => e ▸ l).imp fun d p => by
  obtain ⟨ds, rfl, rfl⟩ := p
  rfl
theorem ev_lstC (h : EvA K P tr ρ 0 (· = ds)) (l : ds.length ≤ 1000000 := by exact Nat.le_of_ble_eq_true rfl) : Ev K P (tLst tr) ρ 0 (· = .lst ds) := (ev_lst h fun _ e => e ▸ l).imp fun d p => by
  obtain ⟨ds, rfl, rfl⟩ := p
  rfl
theorem ev_dicC {z : Str} (h : Ev K P te ρ 0 (· = d)) : Ev K P (tDisp [(tC (.str z), te)]) ρ 0 (· = .dic [(.inr z, d)]) := (ev_dic1 h).imp fun d p => by
  obtain ⟨ds, rfl, rfl⟩ := p
  rfl
theorem ev_negC {i : Int} : Ev K P (tUn (rU fun i => .int (-i)) (tC (.int i))) ρ 0 (· = .int (-i)) := fun M0 σ G M H m Q a l q => ⟨i, rfl, q _ _ G M H (Step.refl a.sep) a rfl (.int _)⟩
theorem ev_powC {i j : Int} (h : CPowW i j) : Ev K P (tOp (rI CPowW fun i j => .int (i ^ j.toNat)) (tC (.int i)) (tC (.int j))) ρ 0 (· = .int (i ^ j.toNat)) := ev_op (φ := (· = .int i)) (ψ := (· = .int j)) ev_int ev_int fun a b p q => by
  subst p q
  exact opd_I (K := K) (g := fun i j => .int (i ^ j.toNat)) h fun _ => .int _
end
end Tp

namespace Tp
open PySem PySem.Spec PyProof.Rows L2
/-! ### the derivations, by the syntax -/
local macro_rules | `(tactic| walk_at "pv") => `(tactic| first | exact de_v 0 | exact de_v 1 | exact de_v 2 | exact de_v 3 | exact de_v 4 | exact de_v 5 | exact de_v 6 | exact de_v 7 | exact de_v 8 | exact de_v 9 | exact de_v 10 | exact de_v 11)
local macro_rules | `(tactic| walk_at "rm") => `(tactic| first | assumption | exact Room.mono (by assumption) (by decide))
local macro_rules | `(tactic| walk_at "e") => `(tactic| first
  | exact de_int
  | exact de_str
  | exact de_bl
  | exact de_non
  | (refine de_add ?_ ?_ <;> walk_at "e")
  | (refine de_sub ?_ ?_ <;> walk_at "e")
  | (refine de_mul ?_ ?_ <;> walk_at "e")
  | (refine de_mod ?_ ?_ <;> walk_at "e")
  | (refine de_fdiv ?_ ?_ <;> walk_at "e")
  | (refine de_pow ?_ ?_ <;> walk_at "e")
  | (refine de_eq (by assumption) ?_ ?_ <;> walk_at "e")
  | (refine de_ne (by assumption) ?_ ?_ <;> walk_at "e")
  | (refine de_lt ?_ ?_ <;> walk_at "e")
  | (refine de_le ?_ ?_ <;> walk_at "e")
  | (refine de_gt ?_ ?_ <;> walk_at "e")
  | (refine de_ge ?_ ?_ <;> walk_at "e")
  | (refine de_one ?_; walk_at "e")
  | (refine de_and ?_ ?_ <;> walk_at "e")
  | (refine de_or ?_ ?_ <;> walk_at "e")
  | (refine de_not ?_; walk_at "e")
  | (refine de_neg ?_; walk_at "e")
  | (refine de_ifE ?_ ?_ ?_; walk_at "t"; walk_at "e"; walk_at "e")
  | (refine de_tup ?_ (fun _ h => pe_tup h); walk_at "a")
  | (refine de_lst ?_ (fun _ h => pe_lst h); walk_at "a")
  | exact de_dic0
  | (refine de_dic1 ?_; walk_at "e")
  | (refine de_errF ?_; walk_at "e")
  | walk_at "lc"
  | (refine de_ix ix_seq ?_ ?_ (fun _ _ => rfl) <;> walk_at "e")
  | walk_at "c"
  | (refine de_fun (by assumption) (by walk_at "rm") (by assumption) (by rfl) ?_; walk_at "a")
  | (refine de_err (by assumption) (by walk_at "rm") (by assumption) (by rfl) ?_; walk_at "a")
  | walk_at "pv"
  | exact de_gX (by assumption) (by rfl)
  | exact de_VE (by rfl) (by assumption))
local macro_rules | `(tactic| walk_at "c") => `(tactic| first
  | (refine de_f_len (by assumption) (by rfl) ?_; walk_at "a")
  | (refine de_f_int (by assumption) (by rfl) ?_; walk_at "a")
  | (refine de_f_abs (by assumption) (by rfl) ?_; walk_at "a")
  | (refine de_f_all rfl (by assumption) (by rfl) ?_; walk_at "a")
  | (refine de_f_any rfl (by assumption) (by rfl) ?_; walk_at "a")
  | (refine de_f_min rfl (by assumption) (by rfl) ?_; walk_at "a")
  | (refine de_f_max rfl (by assumption) (by rfl) ?_; walk_at "a")
  | (refine de_f_isi (by assumption) (by rfl) ?_; walk_at "a")
  | (refine de_f_repr (by assumption) (by assumption) (by assumption) (by assumption) (by rfl) ?_; walk_at "a"))
local macro_rules | `(tactic| walk_at "a") => `(tactic| first
  | exact da_nil
  | (refine da_cons ?_ ?_; walk_at "e"; walk_at "a"))
local macro_rules | `(tactic| walk_at "t") => `(tactic| first
  | (refine dt_lt ?_ ?_ <;> walk_at "e")
  | (refine dt_le ?_ ?_ <;> walk_at "e")
  | (refine dt_gt ?_ ?_ <;> walk_at "e")
  | (refine dt_ge ?_ ?_ <;> walk_at "e")
  | (refine dt_eq (by assumption) ?_ ?_ <;> walk_at "e")
  | (refine dt_ne (by assumption) ?_ ?_ <;> walk_at "e")
  | (refine dt_not ?_; walk_at "t")
  | (refine dt_w ?_; walk_at "w")
  | (refine dt_val ?_; walk_at "e"))
local macro_rules | `(tactic| walk_at "w") => `(tactic| first
  | (refine dw_and1 ?_; walk_at "t")
  | (refine dw_or1 ?_; walk_at "t")
  | (refine dw_and ?_ ?_; walk_at "t"; walk_at "w")
  | (refine dw_or ?_ ?_; walk_at "t"; walk_at "w"))
local macro_rules | `(tactic| walk_at "set") => `(tactic| first
  | refine ds_set 1 (by assumption) ?_
  | refine ds_set 2 (by assumption) ?_
  | refine ds_set 3 (by assumption) ?_
  | refine ds_set 4 (by assumption) ?_
  | refine ds_set 5 (by assumption) ?_
  | refine ds_set 6 (by assumption) ?_
  | refine ds_set 7 (by assumption) ?_
  | refine ds_set 8 (by assumption) ?_
  | refine ds_set 9 (by assumption) ?_
  | refine ds_set 10 (by assumption) ?_
  | refine ds_set 0 (by assumption) ?_)
local macro_rules | `(tactic| walk_at "g") => `(tactic| first
  | exact dg_name 1 (by assumption)
  | exact dg_name 2 (by assumption)
  | exact dg_name 3 (by assumption)
  | exact dg_name 4 (by assumption)
  | exact dg_name 5 (by assumption)
  | exact dg_name 6 (by assumption)
  | exact dg_name 7 (by assumption)
  | exact dg_name 8 (by assumption)
  | exact dg_name 9 (by assumption)
  | (refine dg_tup 2 rfl ?_; walk_at "gs")
  | (refine dg_tup 3 rfl ?_; walk_at "gs"))
local macro_rules | `(tactic| walk_at "gs") => `(tactic| first
  | exact dgs_nil
  | (refine dgs_cons ?_ ?_; walk_at "g"; walk_at "gs"))
local macro_rules | `(tactic| walk_at "i") => `(tactic| first
  | (refine di_range1 (by rfl) (by assumption) ?_; walk_at "a")
  | (refine di_enum (by rfl) (by assumption) ?_; walk_at "a")
  | (refine di_list ?_; walk_at "e"))
local macro_rules | `(tactic| walk_at "s") => `(tactic| first
  | (refine ds_ret ?_; walk_at "e")
  | (walk_at "set"; walk_at "e")
  | (refine ds_if ?_ ?_ ?_; walk_at "t"; walk_at "b"; walk_at "b")
  | (refine ds_expr (de_bm ?_ ?_ (fun _ _ h k => pe_bm PySem.F.plainAttrs_list PySem.F.slot_list_append PySem.F.type_list_append mt_append h k)); walk_at "e"; walk_at "a")
  | (refine ds_expr (de_bm ?_ ?_ (fun _ _ h k => pe_bm PySem.F.plainAttrs_list PySem.F.slot_list_extend PySem.F.type_list_extend mt_extend h k)); walk_at "e"; walk_at "a")
  | (refine ds_asg ?_ (dg_sub ?_ ?_ set_list); walk_at "e"; walk_at "e"; walk_at "e")
  | (refine ds_for PassesOwn.never rfl ?_ ?_ ?_; walk_at "i"; walk_at "g"; walk_at "b"))
local macro_rules | `(tactic| walk_at "b") => `(tactic| first
  | exact db_nil
  | (refine db_one ?_; walk_at "s")
  | (refine db_cons ?_ ?_; walk_at "s"; walk_at "b"))
local macro_rules | `(tactic| walk_at "nf") => `(tactic| dsimp only [de_lc, ds_setLc, de_err, de_gX, de_VE, de_f_isi, de_dic0, de_dic1, de_int, de_str, de_bl, de_non, de_v, de_op, de_cmp, de_one, de_and, de_or, de_not, de_neg, de_ifE, da_nil, da_cons, de_tup, de_lst, de_ix, de_callB, de_callT, de_fun, dt_val, dt_cmp, dt_not, dt_w, dw_and1, dw_or1, dw_and, dw_or, dg_name, dgs_nil, dgs_cons, dg_tup, dg_sub, di_list, di_tup, di_range1, di_enum, db_nil, db_one, db_cons, ds_ret, ds_retN, ds_set, ds_asg, ds_if, ds_expr, ds_for, ds_while, ds_break, ds_continue, ds_never, de_bm, de_errF, de_f_len, de_f_int, de_f_abs, de_f_all, de_f_any, de_f_min, de_f_max, de_f_repr, de_add, de_sub, de_mul, de_mod, de_fdiv, de_pow, de_eq, de_ne, de_lt, de_le, de_gt, de_ge, dt_eq, dt_ne, dt_lt, dt_le, dt_gt, dt_ge])
local macro_rules | `(tactic| walk_at "k") => `(tactic| first
  | exact ev_int
  | exact ev_str
  | exact ev_bl
  | exact ev_non
  | exact ev_dic0
  | exact ea_nil
  | exact ev_negC
  | exact ev_var rfl
  | exact ev_errC (by assumption) rfl
  | exact ev_isC (by assumption) (fun _ z => z) (by assumption) rfl
  | exact ev_powC ⟨by decide, by decide +kernel⟩
  | (refine ea_c ?_ ?_ <;> walk_at "k")
  | (refine ev_tupC ?_; walk_at "k")
  | (refine ev_lstC ?_; walk_at "k")
  | (refine ev_dicC ?_; walk_at "k"))
local macro_rules | `(tactic| walk_at "lc3") => `(tactic| (intro _ _ _ _ _; walk_at "g"))
local macro_rules | `(tactic| walk_at "lc4") => `(tactic| (intro _ _ _ _ _; walk_at "e"))
local macro_rules | `(tactic| walk_at "lc5") => `(tactic| (intro _ _ _ _ _; rfl))

section
variable {P : Program} {w : World} {K : PySem.W.Frag} {mg : Str → Option Value} {base : Heap}
theorem scTake : FnScope ["pot", "upto", "digit", "prime", "stirred"] ["pot", "upto"] (defScope sTake) := ⟨rfl, rfl, rfl, by decide +kernel, rfl, by decide +kernel, by decide +kernel⟩
theorem ok_take {f : Addr} {fd : FuncData} (F : Fun K "_law_take" "_law_take" sTake f fd) (gI : mg "int" = none) :
    FnG P w K mg base CX0 1 f fd ["pot", "upto"] (spP K 1 preTake postTake) := by
  refine okG0 F scTake (fun vs H Q E h => ?_) (fun cdv A outer s H vs Q E hr gq h => ?_)
  · obtain ⟨p, us, G, M, m, ds, rfl, _, _, _, _, hv, ⟨u, rfl, _⟩, _⟩ := h
    cases hv with
    | cons h1 h2 =>
      cases h2
      rfl
  · have nd := scTake.nd
    refine ⟨Subtype.val (p := PSs _ _) ?d, Subtype.property ?d, ?r⟩
    case d =>
      walk_at "b"
    case r =>
      walk_at "nf"
      refine body_P (N := ["pot", "upto", "digit", "prime", "stirred"]) (fun ds q => ?_) (fun p ds q => ?_) h
      · obtain ⟨u, rfl, _⟩ := q
        exact Nat.le_of_ble_eq_true rfl
      · obtain ⟨u, rfl, u0, u1⟩ := q
        have eu : ∀ a b c : Sx, Ev K (some p) (tVar 1) ([.pot, .d (.int u), a, b, c] : List Sx) 0 (fun d => ∃ b : Int, d = .int b ∧ 0 < b ∧ b ≤ 1000000) := fun _ _ _ => (ev_var rfl).imp fun d e => ⟨u, e, u0, u1⟩
        have fin : ∀ d, (∃ r : Int, d = .int r ∧ 0 ≤ r ∧ r < u) → postTake [.int u] d := fun d z => by
          obtain ⟨r, rfl, h1, h2⟩ := z
          exact ⟨u, r, rfl, rfl, h1, h2⟩
        have modu : ∀ {A : Int} {ta : TE} (a b c : Sx), Ev K (some p) ta ([.pot, .d (.int u), a, b, c] : List Sx) 0 (In0 A) → Ev K (some p) (tOp (rI (fun _ j => 0 < j) fun i j => .int (i % j)) ta (tVar 1)) ([.pot, .d (.int u), a, b, c] : List Sx) 0 (In0 u) := fun a b c ha =>
          ev_modB ha ((ev_var (x := .int u) rfl).imp fun d e => ⟨u, e, u0, Int.le_refl _⟩)
        show Es K (some p) _ [.pot, .d (.int u), .un, .un, .un] 1 _ _ _ _
        refine q_if (k1 := 0) (k2 := 1) (et_gt0 (ev_pot0 rfl)) (fun _ => ?_) (fun _ => ?_) ?_
        · refine q_asg (k2 := 0) (modu _ _ _ (ev_intB (ea_one (ev_pot0 rfl)))) fun d hd => ?_
          obtain ⟨r, rfl, h1, h2⟩ := hd
          refine q_keep (k2 := 0) (es_pot0 rfl (ev_fdivB (ev_pot0 rfl) (eu _ _ _))) ?_
          exact q_ret (ev_var (x := .int r) rfl) fun d e => fin d ⟨r, e, h1, h2⟩
        · exact q_next rfl
        · refine q_keep (k2 := 0) (es_pot2 rfl) ?_
          refine q_asg (φ := fun d => ∃ b : Int, d = .int b ∧ 0 < b ∧ b ≤ 2147483647) (k2 := 0) (ev_ixL (n := 5) ((ev_lst (ea_cons ev_int (ea_cons ev_int (ea_cons ev_int (ea_cons ev_int (ea_cons ev_int ea_nil))))) fun ds z => ?_).imp fun d z => ?_) (ev_modB (ev_intB (ea_one (ev_pot2 rfl))) pos_c)) fun d hd => ?_
          · obtain ⟨_, _, rfl, rfl, _, _, rfl, rfl, _, _, rfl, rfl, _, _, rfl, rfl, _, _, rfl, rfl, rfl⟩ := z
            exact Nat.le_of_ble_eq_true rfl
          · obtain ⟨_, rfl, _, _, rfl, rfl, _, _, rfl, rfl, _, _, rfl, rfl, _, _, rfl, rfl, _, _, rfl, rfl, rfl⟩ := z
            refine ⟨_, rfl, rfl, fun d hd => ?_⟩
            simp only [List.mem_cons, List.not_mem_nil, or_false] at hd
            rcases hd with rfl | rfl | rfl | rfl | rfl <;> exact ⟨_, rfl, by decide, by decide⟩
          · obtain ⟨pr, rfl, p0, p1⟩ := hd
            refine q_asg (φ := In0 2147483647) (k2 := 0) (ev_modB (ev_intB (ea_one (ev_cubeB (ev_intB (ea_one (ev_addB (ev_addB (ev_pot1 rfl) (ev_mulB (ev_mulB in0_c (ev_pot2 rfl)) (ev_pot2 rfl))) in0_c)))))) ((ev_var (x := .int pr) rfl).imp fun d e => ⟨pr, e, p0, p1⟩)) fun d hd => ?_
            have vs := hd
            refine q_asg (φ := In0 2305843009213693907) (k2 := 0) (ev_modB (ev_intB (ea_one (ev_mulB ((ev_var (x := d) rfl).imp fun d' e => e ▸ vs) (ev_addB (ev_modB (ev_intB (ea_one ((ev_var (x := d) rfl).imp fun d' e => e ▸ vs))) pos_c) (ev_mulB in0_c (ev_pot2 rfl)))))) pos_c) fun d2 hd2 => ?_
            refine q_ret (modu _ _ _ (ev_intB (ea_one (ev_fdivB ((ev_var (x := d2) rfl).imp fun d' e => e ▸ hd2) pos_c)))) fun d z => fin d z
end

section
variable {P : Program} {w : World} {K : PySem.W.Frag} {mg : Str → Option Value} {base : Heap}
theorem scOf : FnScope ["pot", "some"] ["pot", "some"] (defScope sOf) := ⟨rfl, rfl, rfl, by decide +kernel, rfl, by decide +kernel, by decide +kernel⟩
theorem scOdd : FnScope ["pot", "some"] ["pot"] (defScope sOdd) := ⟨rfl, rfl, rfl, by decide +kernel, rfl, by decide +kernel, by decide +kernel⟩
theorem ok_of {f : Addr} {fd : FuncData} (F : Fun K "_law_of" "_law_of" sOf f fd) (gL : mg "len" = none) {k : Nat} (cTake : Cal P w K mg base k "_law_take" (spP K 1 preTake postTake)) :
    FnG P w K mg base CX0 (k + 1) f fd ["pot", "some"] (spP K 1 preOf postOf) := by
  refine okG0 F scOf (fun vs H Q E h => ?_) (fun cdv A outer s H vs Q E hr gq h => ?_)
  · obtain ⟨p, us, G, M, m, ds, rfl, _, _, _, _, hv, ⟨u, rfl, _⟩, _⟩ := h
    cases hv with
    | cons h1 h2 =>
      cases h2
      rfl
  · have nd := scOf.nd
    refine ⟨Subtype.val (p := PSs _ _) ?d, Subtype.property ?d, ?r⟩
    case d =>
      walk_at "b"
    case r =>
      walk_at "nf"
      refine body_P (N := ["pot", "some"]) (fun ds q => ?_) (fun p ds q => ?_) h
      · obtain ⟨u, rfl, _⟩ := q
        exact Nat.le_of_ble_eq_true rfl
      · obtain ⟨xs, rfl, u0, u1⟩ := q
        show Es K (some p) _ [.pot, .d (.lst xs)] 1 _ _ _ _
        refine q_ret (k1 := 0 + (0 + 0 + 0 + 1)) (φ := fun d => d ∈ xs) (ev_op (φ := (· = .lst xs)) (ψ := fun d => ∃ r : Int, d = .int r ∧ 0 ≤ r ∧ r < xs.length) (ev_var rfl) ((ev_funP (pre := preTake) (post := postTake) rfl (ea_one (ev_call (χ := (· = .int (xs.length : Nat))) (ea_one (ev_var (x := .lst xs) rfl)) fun ds z => ?_)) fun ds z => ?_).imp fun d z => ?_) fun a b z1 z2 => ?_) fun d z => ⟨xs, rfl, z⟩
        · obtain ⟨d, rfl, rfl⟩ := z
          exact cd_lenL
        · obtain ⟨d, rfl, rfl⟩ := z
          exact ⟨_, rfl, by omega, by omega⟩
        · obtain ⟨ds, ⟨d, rfl, rfl⟩, u, r, e1, rfl, h1, h2⟩ := z
          cases e1
          exact ⟨r, rfl, h1, h2⟩
        · obtain rfl := z1
          obtain ⟨j, rfl, h3, h4⟩ := z2
          have l : j.toNat < xs.length := by omega
          have e : L2.atI xs j = some xs[j.toNat] := by
            unfold L2.atI ixN
            rw [if_pos h3, if_pos (by omega)]
            exact List.getElem?_eq_getElem l
          exact fun x y G M H Q s ha hb f => od_ixL e x y G M H Q s ha hb fun z d G2 H2 st ed dv => f z d G2 H2 st (ed ▸ List.getElem_mem l) dv
theorem ok_odd {f : Addr} {fd : FuncData} (F : Fun K "_law_odd" "_law_odd" sOdd f fd) {k : Nat} (cOf : Cal P w K mg base k "_law_of" (spP K 1 preOf postOf)) :
    FnG P w K mg base CX0 (k + 1) f fd ["pot"] (spP K 1 preOdd postOdd) := by
  refine okG0 F scOdd (fun vs H Q E h => ?_) (fun cdv A outer s H vs Q E hr gq h => ?_)
  · obtain ⟨p, us, G, M, m, ds, rfl, _, _, _, _, hv, rfl, _⟩ := h
    cases hv
    rfl
  · have nd := scOdd.nd
    refine ⟨Subtype.val (p := PSs _ _) ?d, Subtype.property ?d, ?r⟩
    case d =>
      walk_at "b"
    case r =>
      walk_at "nf"
      refine body_P (N := ["pot", "some"]) (fun ds q => ?_) (fun p ds q => ?_) h
      · subst q
        exact Nat.le_of_ble_eq_true rfl
      · subst q
        show Es K (some p) _ [.pot, .un] 1 _ _ _ _
        refine q_asg (k1 := 0) (k2 := 1) (φ := (· = .lst odds1)) ?_ fun d e => ?_
        · unfold odds1
          walk_at "k"
        · subst e
          refine q_ret (k1 := 0 + 0 + 1) ((ev_funP (pre := preOf) (post := postOf) rfl (ea_one (ev_op (χ := (· = .lst (odds1 ++ odds2))) (φ := (· = .lst odds1)) (ψ := (· = .lst odds2)) (ev_var rfl) (ka := 0) (kb := 0) ?_ fun a b z1 z2 => ?_)) fun ds z => ?_)) fun d z => ?_
          · unfold odds2
            walk_at "k"
          · subst z1 z2
            exact od_addL (Nat.le_of_ble_eq_true rfl)
          · obtain ⟨d, rfl, rfl⟩ := z
            exact ⟨_, rfl, Nat.le_of_ble_eq_true rfl, Nat.le_of_ble_eq_true rfl⟩
          · obtain ⟨ds, ⟨d, rfl, rfl⟩, xs, e1, h1⟩ := z
            cases e1
            exact h1
end

section
variable {P : Program} {w : World} {K : PySem.W.Frag} {mg : Str → Option Value} {base : Heap}
theorem scPot : FnScope ["script", "number", "cell", "own", "stirred"] ["script", "number"] (defScope sPot) := ⟨rfl, rfl, rfl, by decide +kernel, rfl, by decide +kernel, by decide +kernel⟩
/-- the draws of a cell: a new list, owned -/
abbrev spPot (K : PySem.W.Frag) : Sp := fun vs H Q _ => ∃ (a : Addr) (ns : List Int) (i : Nat) (G M : Hp), vs = [.ref a, .int i] ∧ Sep G M H ∧ SqL K G a (ns.map V.int) ∧ ns.length ≤ 1000000 ∧ i ≤ 63 ∧
  ∀ p G2 M2 H2, Step G M H G2 M2 H2 → M p = none → PotM (some p) 0 M2 → (∀ b, b ≠ p → M2 b = M b) → (∃ o, M2 p = some o) → Q (.ref p) H2
theorem ev_scrLen {P : Option Addr} {ρ : List Sx} {j : Nat} {ns : List Int} (e : ρ[j]? = some (.scr ns)) : Ev K P (tCB (rLen1 K) (tCons (tVar j) tNil)) ρ 0 (· = .int (ns.length : Nat)) := fun M0 σ G M H m Q a l q => by
  obtain ⟨b, e1, h⟩ := a.sl j _ e
  exact ⟨.ref b, e1, _, ns.length, rfl, .inl ⟨_, a.sep.g.sqLd h, by simp⟩, q _ _ G M H (Step.refl a.sep) a rfl (.int _)⟩
theorem ev_scrIx {P : Option Addr} {ρ : List Sx} {j i : Nat} {ns : List Int} {x : Nat} (e : ρ[j]? = some (.scr ns)) (e2 : ρ[i]? = some (.d (.int (x : Nat)))) (l : x < ns.length) : Ev K P (tOp (rIx K) (tVar j) (tVar i)) ρ 0 (fun d => ∃ n : Int, d = .int n) := fun M0 σ G M H m Q a _ q => by
  obtain ⟨b, e1, h⟩ := a.sl j _ e
  obtain ⟨v, e3, h2⟩ := a.sl i _ e2
  cases h2
  refine ⟨.ref b, e1, .int x, e3, .inl ⟨b, _, x, .int ns[x], rfl, rfl, a.sep.g.sqLd h, ?_, q _ _ G M H (Step.refl a.sep) a ⟨_, rfl⟩ (.int _)⟩⟩
  unfold L2.atI ixN
  rw [if_pos (by omega), if_pos (by rw [List.length_map]; omega)]
  show (ns.map V.int)[(x : Int).toNat]? = _
  rw [Int.toNat_natCast, List.getElem?_map, List.getElem?_eq_getElem l]
  rfl
abbrev rAbs1 : List V → Hp → VK → Prop := fun xs H Q => ∃ i, xs = [.int i] ∧ Q (.int (if i < 0 then -i else i)) H
theorem cd_abs {i : Int} : CallD K rAbs1 [.int i] (fun d => ∃ n : Int, d = .int n ∧ 0 ≤ n) := fun vs G M H Q s h q => by
  cases h with
  | cons h k =>
    cases k
    cases h
    exact ⟨i, rfl, q _ _ G H (Step.refl s) ⟨_, rfl, by split <;> omega⟩ (.int _)⟩
theorem ev_intA {P : Option Addr} {ρ : List Sx} {tr : TA} {k : Nat} {φ : Int → Prop} (h : EvA K P tr ρ k (fun ds => ∃ n : Int, ds = [.int n] ∧ φ n)) : Ev K P (tCB rInt1 tr) ρ k (fun d => ∃ n : Int, d = .int n ∧ φ n) := ev_call (χ := fun d => ∃ n : Int, d = .int n ∧ φ n) h fun ds p => by
  obtain ⟨i, rfl, h1⟩ := p
  exact fun vs G M H Q s hv f => cd_int vs G M H Q s hv fun z d G2 H2 st e dv => f z d G2 H2 st ⟨i, e, h1⟩ dv
theorem ea_int {P : Option Addr} {ρ : List Sx} {te : TE} {k : Nat} {φ : Int → Prop} (h : Ev K P te ρ k (fun d => ∃ n : Int, d = .int n ∧ φ n)) : EvA K P (tCons te tNil) ρ k (fun ds => ∃ n : Int, ds = [.int n] ∧ φ n) := (ea_one h).imp fun ds p => by
  obtain ⟨d, rfl, n, rfl, h⟩ := p
  exact ⟨n, rfl, h⟩
theorem ev_absA {P : Option Addr} {ρ : List Sx} {te : TE} {k : Nat} {φ : Int → Prop} (h : Ev K P te ρ k (fun d => ∃ n : Int, d = .int n ∧ φ n)) : Ev K P (tCB rAbs1 (tCons te tNil)) ρ k (fun d => ∃ n : Int, d = .int n ∧ 0 ≤ n) := ev_call (ea_int h) fun ds p => by
  obtain ⟨i, rfl, h1⟩ := p
  exact cd_abs
theorem ev_modA {P : Option Addr} {ρ : List Sx} {ta tb : TE} {ka kb : Nat} {B : Int} {φ : Int → Prop} (ha : Ev K P ta ρ ka (fun d => ∃ n : Int, d = .int n ∧ φ n)) (hb : Ev K P tb ρ kb (· = .int B)) (hB : 0 < B := by decide +kernel) : Ev K P (tOp (rI (fun _ j => 0 < j) fun i j => .int (i % j)) ta tb) ρ (ka + kb) (In0 B) := ev_op ha hb fun a b p q => by
  obtain ⟨i, rfl, h1⟩ := p
  subst q
  have m1 := Int.emod_nonneg i (b := B) (by omega)
  have m2 := Int.emod_lt_of_pos i hB
  exact fun x y G M H Q s ha hb f => od_mod hB x y G M H Q s ha hb fun z d G2 H2 st e dv => f z d G2 H2 st ⟨i % B, e, m1, m2⟩ dv
theorem ev_powD {P : Option Addr} {ρ : List Sx} {ta : TE} {i j : Int} (ha : Ev K P ta ρ 0 (· = .int i)) (h : CPowW i j) : Ev K P (tOp (rI CPowW fun i j => .int (i ^ j.toNat)) ta (tC (.int j))) ρ 0 (· = .int (i ^ j.toNat)) := ev_op (φ := (· = .int i)) (ψ := (· = .int j)) ha ev_int fun a b p q => by
  subst p q
  exact opd_I (K := K) (g := fun i j => .int (i ^ j.toNat)) h fun _ => .int _
theorem ev_geB {P : Option Addr} {ρ : List Sx} {ta tb : TE} {k : Nat} {φ : Int → Prop} {B : Int} (ha : Ev K P ta ρ k (fun d => ∃ n : Int, d = .int n ∧ φ n)) (hb : Ev K P tb ρ 0 (· = .int B)) : Ev K P (tOp (rI0 fun i j => .bl (decide (j ≤ i))) ta tb) ρ (k + 0) (fun d => ∃ b, d = .bl b) := ev_op ha hb fun a b p q => by
  obtain ⟨i, rfl, _⟩ := p
  subst q
  exact fun x y G M H Q s ha hb f => od_ge x y G M H Q s ha hb fun z d G2 H2 st e dv => f z d G2 H2 st ⟨_, e⟩ dv
theorem ev_intBl {P : Option Addr} {ρ : List Sx} {te : TE} {k : Nat} (h : Ev K P te ρ k (fun d => ∃ b, d = .bl b)) : Ev K P (tCB rInt1 (tCons te tNil)) ρ k (In0 2) := ev_call (χ := In0 2) (ea_one h) fun ds p => by
  obtain ⟨d, rfl, b, rfl⟩ := p
  exact fun vs G M H Q s hv f => cd_intB vs G M H Q s hv fun z d G2 H2 st e dv => f z d G2 H2 st ⟨_, e, by cases b <;> decide, by cases b <;> decide⟩ dv
theorem r_asg {P : Option Addr} {ρ : List Sx} {te : TE} {u : TS} {M0 G M H : Hp} {m k i : Nat} {σ : L2.St} {φ : D → Prop} {E : Ends} (a : At K P M0 m G M H σ ρ) (h : Ev K P te ρ k φ) (q : ∀ v d G2 M2 H2, Step G M H G2 M2 H2 → At K P M0 (m + k) G2 M2 H2 (σ.set i (some v)) (ρ.set i (.d d)) → φ d → u E (σ.set i (some v)) H2)
    (l : m + k ≤ BIG := by decide) (li : i < ρ.length := by exact Nat.le_of_ble_eq_true rfl) : tSeq (tAsg te (gName i)) u E σ H :=
  h M0 σ G M H m _ a l fun v d G2 M2 H2 s2 a2 p2 w2 => q v d G2 M2 H2 s2 (a2.set li w2) p2
theorem r_retL {P : Option Addr} {ρ : List Sx} {tr : TA} {M0 G M H : Hp} {m k : Nat} {σ : L2.St} {Φ : List D → Prop} {E : Ends} (a : At K P M0 m G M H σ ρ) (h : EvA K P tr ρ k Φ) (q : ∀ vs ds G2 M2 H2, Step G M H G2 M2 H2 → At K P M0 (m + k) G2 M2 H2 σ ρ → Φ ds → DVs K G2 vs ds → vs.length ≤ sizeLine ∧ ∀ p, H2 p = none → E.rt (.ref p) (upd H2 p (.lst vs)))
    (l : m + k ≤ BIG := by decide) : tRet (tLst tr) E σ H := h M0 σ G M H m _ a l q
theorem ok_pot {f : Addr} {fd : FuncData} (F : Fun K "_law_pot" "_law_pot" sPot f fd) (gL : mg "len" = none) (gI : mg "int" = none) (gA : mg "abs" = none) :
    FnG P w K mg base CX0 1 f fd ["script", "number"] (spPot K) := by
  refine okG0 F scPot (fun vs H Q E h => ?_) (fun cdv A outer s H vs Q E hr gq h => ?_)
  · obtain ⟨a, ns, i, G, M, rfl, _⟩ := h
    rfl
  · have nd := scPot.nd
    refine ⟨Subtype.val (p := PSs _ _) ?d, Subtype.property ?d, ?r⟩
    case d =>
      walk_at "b"
    case r =>
      walk_at "nf"
      obtain ⟨b, ns, i, G, M, rfl, s0, hq, ln, li, q⟩ := h
      have a0 : At K none M 0 G M H [some (.ref b), some (.int i), none, none, none] [.scr ns, .d (.int (i : Nat)), .un, .un, .un] := {
        sep := s0
        pot := PotM.no
        fr := fun _ _ _ z => z
        len := rfl
        sl := fun j x e => by
          match j, e with
          | 0, e => cases e; exact ⟨b, rfl, hq⟩
          | 1, e => cases e; exact ⟨_, rfl, .int _⟩
          | 2, e => cases e; trivial
          | 3, e => cases e; trivial
          | 4, e => cases e; trivial
        nd := fun j j' b b' e _ _ => by
          match j, e with
          | 0, e => cases e
          | 1, e => cases e
          | 2, e => cases e
          | 3, e => cases e
          | 4, e => cases e }
      have num : ∀ x y z : Sx, Ev K none (tVar 1) [.scr ns, .d (.int (i : Nat)), x, y, z] 0 (In0 64) := fun _ _ _ => (ev_var rfl).imp fun d e => ⟨i, e, by omega, by omega⟩
      refine r_asg (k := 0) (φ := fun d => ∃ n : Int, d = .int n ∧ True) a0 (ev_if (kc := 0) (k := 0) (et_test (β := fun b => b = decide (i < ns.length)) (ev_op (χ := (· = .bl (decide (i < ns.length)))) (φ := (· = .int (i : Nat))) (ψ := (· = .int (ns.length : Nat))) (ev_var (i := 1) rfl) (ev_scrLen (j := 0) rfl) fun a b z1 z2 => by
        subst z1 z2
        exact fun x y G M H Q s ha hb f => od_lt x y G M H Q s ha hb fun z d G2 H2 st e dv => f z d G2 H2 st (e.trans (by rw [decide_eq_decide.mpr Int.ofNat_lt])) dv) fun d z => ⟨_, z, rfl⟩)
        (fun h => (ev_scrIx (j := 0) (i := 1) rfl rfl (of_decide_eq_true h.symm)).imp fun d z => by
          obtain ⟨n, e⟩ := z
          exact ⟨n, e, trivial⟩) (fun _ => (ev_addB (ev_mulB in0_c (num .un .un .un)) in0_c).imp fun d z => by
          obtain ⟨n, e, _⟩ := z
          exact ⟨n, e, trivial⟩)) fun v1 d1 G1 M1 H1 s1 a1 p1 => ?_
      obtain ⟨c, rfl, _⟩ := p1
      have cell : ∀ y z : Sx, Ev K none (tVar 2) [.scr ns, .d (.int (i : Nat)), .d (.int c), y, z] 0 (fun d => ∃ n : Int, d = .int n ∧ True) := fun _ _ => (ev_var rfl).imp fun d e => ⟨c, e, trivial⟩
      have h18 : CPowW 10 18 := ⟨by decide, by decide +kernel⟩
      have h60 : CPowW 10 60 := ⟨by decide, by decide +kernel⟩
      have h5 : CPowW (10 ^ 60) 5 := ⟨by decide, by decide +kernel⟩
      refine r_asg (k := 0) (φ := In0 HUGE) a1 (Ev.imp (ψ := In0 HUGE) (ev_mulB (A := HUGE) (B := 2) (ev_modA (B := HUGE) (ev_intA (ea_int (ev_absA (cell .un .un)))) (ev_powD (ev_powC h60) h5)) (ev_intBl (ev_geB (ev_absA (cell .un .un)) (ev_powC h18))) (by decide +kernel)) fun d z => in0_le (a := (HUGE - 1) * (2 - 1) + 1) (by decide +kernel) z) fun v2 d2 G2 M2 H2 s2 a2 p2 => ?_
      refine r_asg (k := 0) (φ := In0 (2 ^ 200)) a2 (Ev.imp (ψ := In0 (2 ^ 200)) (ev_addB (ev_addB (ev_mulB (ev_modA (ev_intA (ea_int (cell _ _))) ev_int) in0_c) (ev_mulB (ev_mulB in0_c (num _ _ _)) (num _ _ _))) in0_c) fun d z => in0_le (by decide +kernel) z) fun v3 d3 G3 M3 H3 s3 a3 p3 => ?_
      obtain ⟨own, rfl, o1, o2⟩ := p2
      obtain ⟨stir, rfl, t1, t2⟩ := p3
      refine r_retL (k := 0) a3 (ea_cons (φ := (· = .int own)) (ev_var (i := 3) rfl) (ea_cons (φ := In0 2305843009213693921) (ev_modA (ev_intA (ea_int (φ := fun _ => True) ((ev_var (i := 4) (x := .int stir) rfl).imp fun d e => ⟨stir, e, trivial⟩))) ev_int) (ea_cons (φ := (· = .int 0)) ev_int ea_nil))) fun vs ds G4 M4 H4 s4 a4 p4 w4 => ?_
      obtain ⟨_, _, rfl, rfl, _, _, rfl, ⟨bb, rfl, b1, b2⟩, _, _, rfl, rfl, rfl⟩ := p4
      cases w4 with
      | cons x1 w4 =>
        cases w4 with
        | cons x2 w4 =>
          cases w4 with
          | cons x3 w4 =>
            cases w4
            cases x1
            cases x2
            cases x3
            refine ⟨szOk (Nat.le_of_ble_eq_true rfl), fun p n => ?_⟩
            have st := Step.drop (M2 := M) (((s1.trans s2).trans s3).trans s4) fun b o e => a4.fr b o (fun z => nomatch z) e
            exact q p G4 _ _ (st.trans (Step.own (o := .lst [.int own, .int bb, .int 0]) st.s n)) (a4.m0 n) (fun p' e => by
              cases e
              exact ⟨own, bb, 0, upd_same, o1, o2, b1, by omega, Int.le_refl _, Int.le_refl _⟩) (fun b h => upd_ne h) ⟨_, upd_same⟩
end

section
variable {P : Program} {w : World} {K : PySem.W.Frag} {mg : Str → Option Value} {base : Heap}
theorem scInit : FnScope ["self", "value"] ["self", "value"] (defScope sInit) := ⟨rfl, rfl, rfl, by decide +kernel, rfl, by decide +kernel, by decide +kernel⟩
theorem ok_init {f : Addr} {fd : FuncData} (F : Fun K "__init__" "WeaveError.__init__" sInit f fd) : FnG P w K mg base CX0 1 f fd ["self", "value"] (spErr K) := by
  refine okG0 F scInit (fun vs H Q E h => ?_) (fun cdv A outer s H vs Q E hr gq h => ?_)
  · obtain ⟨e, C, v, rfl, _⟩ := h
    rfl
  · obtain ⟨e, C, v, rfl, T, nf, he, q⟩ := h
    refine ⟨_, pss_one (ps_ost (pv 0) (pv 1)), ?_⟩
    refine ⟨v, rfl, .ref e, rfl, e, C, rfl, T, nf, .inl ⟨he, fun d n ne => q d _ n (fun b o z => ?_) ⟨upd_same, ?_⟩⟩⟩
    · have z : (if b = e then none else H b) = some o := z
      by_cases hb : b = e
      · rw [if_pos hb] at z
        cases z
      · rw [if_neg hb] at z
        rw [upd_ne hb, upd_ne (some_ne z n)]
        exact z
    · rw [upd_ne ne]
      exact upd_same
end

section
variable {P : Program} {w : World} {K : PySem.W.Frag} {mg : Str → Option Value} {base : Heap}
theorem scAll : FnScope ["one", "found"] ["one"] (defScope sAll) := ⟨rfl, rfl, rfl, by decide +kernel, rfl, by decide +kernel, by decide +kernel⟩
variable {C0 C1 C2 C3 C4 C5 C6 C7 C8 C9 C10 C11 C12 C13 C14 C15 C16 C17 C18 C19 C20 C21 C22 : Addr} {k : Nat}
theorem ok_all {f : Addr} {fd : FuncData} (F : Fun K "_law_all_of" "_law_all_of" sAll f fd) (c0 : CalE P w K mg base k "BadPlan" C0) (c1 : CalE P w K mg base k "BadPlace" C1) (c2 : CalE P w K mg base k "BadNumber" C2) (c3 : CalE P w K mg base k "BadDraft" C3) (c4 : CalE P w K mg base k "BadEnd" C4) (c5 : CalE P w K mg base k "BadPick" C5) (c6 : CalE P w K mg base k "BadName" C6) (c7 : CalE P w K mg base k "BadRow" C7) (c8 : CalE P w K mg base k "BadThread" C8) (c9 : CalE P w K mg base k "BadBy" C9) (c10 : CalE P w K mg base k "BadPairs" C10) (c11 : CalE P w K mg base k "TooMany" C11) (c12 : CalE P w K mg base k "BadSort" C12) (c13 : CalE P w K mg base k "BadSide" C13) (c14 : CalE P w K mg base k "BadPicture" C14) (c15 : CalE P w K mg base k "NotNow" C15) (c16 : CalE P w K mg base k "BadPicks" C16) (c17 : CalE P w K mg base k "NotWhole" C17) (c18 : CalE P w K mg base k "NothingToUndo" C18) (c19 : CalE P w K mg base k "NothingToRedo" C19) (c20 : CalE P w K mg base k "BadText" C20) (c21 : CalE P w K mg base k "BadJournal" C21) (c22 : CalE P w K mg base k "BadLine" C22) :
    FnG P w K mg base CX0 (k + 2) f fd ["one"] (spD K 0 (fun ds => ∃ x, ds = [x]) (fun ds d => ∃ x, ds = [x] ∧ d = .lst ([C0, C1, C2, C3, C4, C5, C6, C7, C8, C9, C10, C11, C12, C13, C14, C15, C16, C17, C18, C19, C20, C21, C22].map fun C => .err C x))) := by
  refine okG0 F scAll (fun vs H Q E h => ?_) (fun cdv A outer s H vs Q E hr gq h => ?_)
  · obtain ⟨G, M, ds, _, hv, ⟨x, rfl⟩, _⟩ := h
    cases hv with
    | cons h1 h2 =>
      cases h2
      rfl
  · have nd := scAll.nd
    have t0 := c0.T
    have t1 := c1.T
    have t2 := c2.T
    have t3 := c3.T
    have t4 := c4.T
    have t5 := c5.T
    have t6 := c6.T
    have t7 := c7.T
    have t8 := c8.T
    have t9 := c9.T
    have t10 := c10.T
    have t11 := c11.T
    have t12 := c12.T
    have t13 := c13.T
    have t14 := c14.T
    have t15 := c15.T
    have t16 := c16.T
    have t17 := c17.T
    have t18 := c18.T
    have t19 := c19.T
    have t20 := c20.T
    have t21 := c21.T
    have t22 := c22.T
    refine ⟨Subtype.val (p := PSs _ _) ?d, Subtype.property ?d, ?r⟩
    case d =>
      walk_at "b"
    case r =>
      walk_at "nf"
      refine body_D (N := ["one", "found"]) (fun ds q => ?_) (fun ds q => ?_) h
      · obtain ⟨x, rfl⟩ := q
        exact Nat.le_of_ble_eq_true rfl
      · obtain ⟨x, rfl⟩ := q
        show Es K none _ [.d x, .un] 0 _ _ _ _
        refine q_newL (ds := [.err C0 x, .err C1 x, .err C2 x, .err C3 x]) ?_ ?_ (Nat.le_of_ble_eq_true rfl) (Nat.le_of_ble_eq_true rfl)
        · walk_at "k"
        refine q_ext (es := [.err C4 x, .err C5 x, .err C6 x, .err C7 x]) rfl ?_ ?_ (Nat.le_of_ble_eq_true rfl) (Nat.le_of_ble_eq_true rfl)
        · walk_at "k"
        refine q_ext (es := [.err C8 x, .err C9 x, .err C10 x, .err C11 x]) rfl ?_ ?_ (Nat.le_of_ble_eq_true rfl) (Nat.le_of_ble_eq_true rfl)
        · walk_at "k"
        refine q_ext (es := [.err C12 x, .err C13 x, .err C14 x, .err C15 x]) rfl ?_ ?_ (Nat.le_of_ble_eq_true rfl) (Nat.le_of_ble_eq_true rfl)
        · walk_at "k"
        refine q_ext (es := [.err C16 x, .err C17 x, .err C18 x, .err C19 x]) rfl ?_ ?_ (Nat.le_of_ble_eq_true rfl) (Nat.le_of_ble_eq_true rfl)
        · walk_at "k"
        refine q_ext (es := [.err C20 x, .err C21 x, .err C22 x]) rfl ?_ ?_ (Nat.le_of_ble_eq_true rfl) (Nat.le_of_ble_eq_true rfl)
        · walk_at "k"
        exact q_share rfl ⟨x, rfl, rfl⟩ (Nat.le_of_ble_eq_true rfl)
end

section
variable {P : Program} {w : World} {K : PySem.W.Frag} {mg : Str → Option Value} {base : Heap}
theorem scKinds : FnScope ["error", "found"] ["error"] (defScope sKinds) := ⟨rfl, rfl, rfl, by decide +kernel, rfl, by decide +kernel, by decide +kernel⟩
variable {C0 C1 C2 C3 C4 C5 C6 C7 C8 C9 C10 C11 C12 C13 C14 C15 C16 C17 C18 C19 C20 C21 C22 : Addr} {k : Nat}
/-- for each class whether it is the i-th one -/
def kinds (i n : Nat) : List D := (List.range n).map fun j => .bl (decide (i = j))
theorem ok_kinds {f : Addr} {fd : FuncData} (F : Fun K "_law_kinds_of" "_law_kinds_of" sKinds f fd) (gL : mg "isinstance" = none) (c0 : CalE P w K mg base k "BadPlan" C0) (c1 : CalE P w K mg base k "BadPlace" C1) (c2 : CalE P w K mg base k "BadNumber" C2) (c3 : CalE P w K mg base k "BadDraft" C3) (c4 : CalE P w K mg base k "BadEnd" C4) (c5 : CalE P w K mg base k "BadPick" C5) (c6 : CalE P w K mg base k "BadName" C6) (c7 : CalE P w K mg base k "BadRow" C7) (c8 : CalE P w K mg base k "BadThread" C8) (c9 : CalE P w K mg base k "BadBy" C9) (c10 : CalE P w K mg base k "BadPairs" C10) (c11 : CalE P w K mg base k "TooMany" C11) (c12 : CalE P w K mg base k "BadSort" C12) (c13 : CalE P w K mg base k "BadSide" C13) (c14 : CalE P w K mg base k "BadPicture" C14) (c15 : CalE P w K mg base k "NotNow" C15) (c16 : CalE P w K mg base k "BadPicks" C16) (c17 : CalE P w K mg base k "NotWhole" C17) (c18 : CalE P w K mg base k "NothingToUndo" C18) (c19 : CalE P w K mg base k "NothingToRedo" C19) (c20 : CalE P w K mg base k "BadText" C20) (c21 : CalE P w K mg base k "BadJournal" C21) (c22 : CalE P w K mg base k "BadLine" C22)
    (hk : ∀ (i j : Nat) (C E : Addr), [C0, C1, C2, C3, C4, C5, C6, C7, C8, C9, C10, C11, C12, C13, C14, C15, C16, C17, C18, C19, C20, C21, C22][i]? = some C → [C0, C1, C2, C3, C4, C5, C6, C7, C8, C9, C10, C11, C12, C13, C14, C15, C16, C17, C18, C19, C20, C21, C22][j]? = some E → PySem.W.kitOne K (.ref C) (.ref E) = some (decide (i = j))) (hT : ∀ C ∈ [C0, C1, C2, C3, C4, C5, C6, C7, C8, C9, C10, C11, C12, C13, C14, C15, C16, C17, C18, C19, C20, C21, C22], ErrC K C) :
    FnG P w K mg base CX0 1 f fd ["error"] (spD K 0 (fun ds => ∃ x C, ds = [.err C x] ∧ C ∈ [C0, C1, C2, C3, C4, C5, C6, C7, C8, C9, C10, C11, C12, C13, C14, C15, C16, C17, C18, C19, C20, C21, C22]) (fun ds d => ∀ (i : Nat) (C : Addr) (x : D), ds = [.err C x] → [C0, C1, C2, C3, C4, C5, C6, C7, C8, C9, C10, C11, C12, C13, C14, C15, C16, C17, C18, C19, C20, C21, C22][i]? = some C → d = .lst (kinds i 23))) := by
  refine okG0 F scKinds (fun vs H Q E h => ?_) (fun cdv A outer s H vs Q E hr gq h => ?_)
  · obtain ⟨G, M, ds, _, hv, ⟨x, C, rfl, _⟩, _⟩ := h
    cases hv with
    | cons h1 h2 =>
      cases h2
      rfl
  · have nd := scKinds.nd
    refine ⟨Subtype.val (p := PSs _ _) ?d, Subtype.property ?d, ?r⟩
    case d =>
      walk_at "b"
    case r =>
      walk_at "nf"
      obtain ⟨G, M, ds, s0, hv, ⟨x, C, rfl, hC⟩, q⟩ := h
      obtain ⟨i, hi, ei⟩ := List.mem_iff_getElem.mp hC
      have eC : [C0, C1, C2, C3, C4, C5, C6, C7, C8, C9, C10, C11, C12, C13, C14, C15, C16, C17, C18, C19, C20, C21, C22][i]? = some C := by rw [List.getElem?_eq_getElem hi, ei]
      have T := hT C hC
      have k0 := hk i 0 C C0 eC rfl
      have k1 := hk i 1 C C1 eC rfl
      have k2 := hk i 2 C C2 eC rfl
      have k3 := hk i 3 C C3 eC rfl
      have k4 := hk i 4 C C4 eC rfl
      have k5 := hk i 5 C C5 eC rfl
      have k6 := hk i 6 C C6 eC rfl
      have k7 := hk i 7 C C7 eC rfl
      have k8 := hk i 8 C C8 eC rfl
      have k9 := hk i 9 C C9 eC rfl
      have k10 := hk i 10 C C10 eC rfl
      have k11 := hk i 11 C C11 eC rfl
      have k12 := hk i 12 C C12 eC rfl
      have k13 := hk i 13 C C13 eC rfl
      have k14 := hk i 14 C C14 eC rfl
      have k15 := hk i 15 C C15 eC rfl
      have k16 := hk i 16 C C16 eC rfl
      have k17 := hk i 17 C C17 eC rfl
      have k18 := hk i 18 C C18 eC rfl
      have k19 := hk i 19 C C19 eC rfl
      have k20 := hk i 20 C C20 eC rfl
      have k21 := hk i 21 C C21 eC rfl
      have k22 := hk i 22 C C22 eC rfl
      refine body_D (E := E0) (k := 0) (pre := fun ds => ds = [.err C x]) (post := fun ds d => d = .lst (kinds i 23)) (N := ["error", "found"]) (fun ds q => ?_) (fun ds q => ?_) ⟨G, M, _, s0, hv, rfl, fun v d G2 H2 st e dv => q v d G2 H2 st (fun i' C' x' e1 e2 => by
        cases e1
        have u := (hk i i C C eC eC).symm.trans (hk i i' C C eC e2)
        have ii : i = i' := by simpa using u
        rw [← ii]
        exact e) dv⟩
      · subst q
        exact Nat.le_of_ble_eq_true rfl
      · subst q
        show Es K none _ [.d (.err C x), .un] 0 _ _ _ _
        refine q_newL (ds := [.bl (decide (i = 0)), .bl (decide (i = 1))]) ?_ ?_ (Nat.le_of_ble_eq_true rfl) (Nat.le_of_ble_eq_true rfl)
        · walk_at "k"
        refine q_ext (es := [.bl (decide (i = 2)), .bl (decide (i = 3))]) rfl ?_ ?_ (Nat.le_of_ble_eq_true rfl) (Nat.le_of_ble_eq_true rfl)
        · walk_at "k"
        refine q_ext (es := [.bl (decide (i = 4)), .bl (decide (i = 5))]) rfl ?_ ?_ (Nat.le_of_ble_eq_true rfl) (Nat.le_of_ble_eq_true rfl)
        · walk_at "k"
        refine q_ext (es := [.bl (decide (i = 6)), .bl (decide (i = 7))]) rfl ?_ ?_ (Nat.le_of_ble_eq_true rfl) (Nat.le_of_ble_eq_true rfl)
        · walk_at "k"
        refine q_ext (es := [.bl (decide (i = 8)), .bl (decide (i = 9))]) rfl ?_ ?_ (Nat.le_of_ble_eq_true rfl) (Nat.le_of_ble_eq_true rfl)
        · walk_at "k"
        refine q_ext (es := [.bl (decide (i = 10)), .bl (decide (i = 11))]) rfl ?_ ?_ (Nat.le_of_ble_eq_true rfl) (Nat.le_of_ble_eq_true rfl)
        · walk_at "k"
        refine q_ext (es := [.bl (decide (i = 12)), .bl (decide (i = 13))]) rfl ?_ ?_ (Nat.le_of_ble_eq_true rfl) (Nat.le_of_ble_eq_true rfl)
        · walk_at "k"
        refine q_ext (es := [.bl (decide (i = 14)), .bl (decide (i = 15))]) rfl ?_ ?_ (Nat.le_of_ble_eq_true rfl) (Nat.le_of_ble_eq_true rfl)
        · walk_at "k"
        refine q_ext (es := [.bl (decide (i = 16)), .bl (decide (i = 17))]) rfl ?_ ?_ (Nat.le_of_ble_eq_true rfl) (Nat.le_of_ble_eq_true rfl)
        · walk_at "k"
        refine q_ext (es := [.bl (decide (i = 18)), .bl (decide (i = 19))]) rfl ?_ ?_ (Nat.le_of_ble_eq_true rfl) (Nat.le_of_ble_eq_true rfl)
        · walk_at "k"
        refine q_ext (es := [.bl (decide (i = 20)), .bl (decide (i = 21))]) rfl ?_ ?_ (Nat.le_of_ble_eq_true rfl) (Nat.le_of_ble_eq_true rfl)
        · walk_at "k"
        refine q_ext (es := [.bl (decide (i = 22))]) rfl ?_ ?_ (Nat.le_of_ble_eq_true rfl) (Nat.le_of_ble_eq_true rfl)
        · walk_at "k"
        exact q_share rfl rfl (Nat.le_of_ble_eq_true rfl)
end

section
variable {P : Program} {w : World} {K : PySem.W.Frag} {mg : Str → Option Value} {base : Heap}
theorem scRight : FnScope ["pot", "some", "one", "errors", "at", "error", "kept", "k"] ["pot"] (defScope sRight) := ⟨rfl, rfl, rfl, by decide +kernel, rfl, by decide +kernel, by decide +kernel⟩
variable {C0 : Addr} {cs : List Addr} {k : Nat}
local macro_rules | `(tactic| walk_at "lc") => `(tactic| first
  | (refine de_lc [("error", 5)] ‹Shared› ‹Hp› rfl (by assumption) ?_ rfl ?_ ?_ ?_ ?_; walk_at "i"; walk_at "lc3"; walk_at "lc4"; walk_at "lc5"; walk_at "lc5")
  | (refine de_lc [("k", 7)] ‹Shared› ‹Hp› rfl (by assumption) ?_ rfl ?_ ?_ ?_ ?_; walk_at "i"; walk_at "lc3"; walk_at "lc4"; walk_at "lc5"; walk_at "lc5"))
abbrev preAll : List D → Prop := fun ds => ∃ x, ds = [x]
abbrev postAll (cs : List Addr) : List D → D → Prop := fun ds d => ∃ x, ds = [x] ∧ d = .lst (cs.map fun C => .err C x)
abbrev preKinds (cs : List Addr) : List D → Prop := fun ds => ∃ x C, ds = [.err C x] ∧ C ∈ cs
abbrev postKinds (cs : List Addr) : List D → D → Prop := fun ds d => ∀ (i : Nat) (C : Addr) (x : D), ds = [.err C x] → cs[i]? = some C → d = .lst ((List.range 23).map fun j => .bl (decide (i = j)))
theorem kinds_ok : ∀ i : Fin 23, (D.lst ((List.range 23).map fun j => .bl (decide (i.1 = j)))).plain = true ∧ SeqAt.shaped (D.lst ((List.range 23).map fun j => .bl (decide (i.1 = j)))).py = true ∧ PyData.eqv (D.lst ((List.range 23).map fun j => .bl (decide (i.1 = j)))).py (D.lst ((List.range 23).map fun j => .bl (decide (i.1 = j)))).py = true := by decide +kernel
theorem enum_back {ds : List D} {i : Nat} {d : D} (h : (enumD ds)[i]? = some d) : ds[i]? = some ((ds[i]?).getD .non) ∧ d = .tup [.int (i : Nat), (ds[i]?).getD .non] := by
  have l : i < ds.length := by
    have := (List.getElem?_eq_some_iff.mp h).1
    rw [enumD_len] at this
    exact this
  have e1 : ds[i]? = some ds[i] := List.getElem?_eq_getElem l
  rw [e1]
  refine ⟨rfl, ?_⟩
  rw [enumD_at e1] at h
  cases h
  rfl
theorem odds_ok (o : D) (h : o ∈ odds1 ++ odds2) : o.plain = true ∧ o.py.showable = true ∧ o.py.depth ≤ 60 ∧ o.py.shown.length ≤ sizeLine := by
  have z := List.all_eq_true.mp (show ((odds1 ++ odds2).all fun o => o.plain && o.py.showable && decide (o.py.depth ≤ 60) && decide (o.py.shown.length ≤ sizeLine)) = true by decide +kernel) o h
  simp only [Bool.and_eq_true, decide_eq_true_eq] at z
  exact ⟨z.1.1.1, z.1.1.2, z.1.2, z.2⟩
theorem odds_ok23 (o : D) (h : o ∈ odds1 ++ odds2) : (D.lst ((List.range 23).map fun _ => o)).plain = true ∧ (D.lst ((List.range 23).map fun _ => o)).py.showable = true ∧ (D.lst ((List.range 23).map fun _ => o)).py.depth ≤ 60 ∧ (D.lst ((List.range 23).map fun _ => o)).py.shown.length ≤ sizeLine := by
  have z := List.all_eq_true.mp (show ((odds1 ++ odds2).all fun o => (D.lst ((List.range 23).map fun _ => o)).plain && (D.lst ((List.range 23).map fun _ => o)).py.showable && decide ((D.lst ((List.range 23).map fun _ => o)).py.depth ≤ 60) && decide ((D.lst ((List.range 23).map fun _ => o)).py.shown.length ≤ sizeLine)) = true by decide +kernel) o h
  simp only [Bool.and_eq_true, decide_eq_true_eq] at z
  exact ⟨z.1.1.1, z.1.1.2, z.1.2, z.2⟩
theorem ok_right {f : Addr} {fd : FuncData} (F : Fun K "_law_right" "_law_right" sRight f fd) (hs : SysK K)
    (gA : mg "all" = none) (gI : mg "isinstance" = none) (gV : mg "ValueError" = none) (gE : mg "enumerate" = none) (gR : mg "range" = none) (gL : mg "len" = none) (gP : mg "repr" = none)
    (cOdd : Cal P w K mg base k "_law_odd" (spP K 1 preOdd postOdd)) (cAll : Cal P w K mg base k "_law_all_of" (spD K 0 preAll (postAll cs))) (cKinds : Cal P w K mg base k "_law_kinds_of" (spD K 0 (preKinds cs) (postKinds cs)))
    (cW : CalE P w K mg base k "WeaveError" C0) (T : ∀ C ∈ cs, ErrC K C) (lc : cs.length = 23)
    (kV : ∀ C ∈ cs, PySem.W.kitOne K (.ref C) (.type "ValueError") = some true) (kW : ∀ C ∈ cs, PySem.W.kitOne K (.ref C) (.ref C0) = some true) :
    FnG P w K mg base CX0 (k + 2) f fd ["pot"] (spP K 4 (· = []) (fun _ d => d = .bl true)) := by
  refine okG0 F scRight (fun vs H Q E h => ?_) (fun cdv A outer s H vs Q E hr gq h => ?_)
  · obtain ⟨p, us, G, M, m, ds, rfl, _, _, _, _, hv, rfl, _⟩ := h
    cases hv
    rfl
  · have nd := scRight.nd
    have hu : (A.deeper (envOfC "_law_right" (defScope sRight) s.heap.objs.size f cdv)).units + 64 < cLine := by
      have := hr.un
      omega
    have hr' := hr.mono (Nat.le_succ k)
    refine ⟨Subtype.val (p := PSs _ _) ?d, Subtype.property ?d, ?r⟩
    case d =>
      refine db_cons ?_ ?_
      · walk_at "s"
      · refine db_cons ?_ ?_
        · refine ds_for PassesOwn.never rfl ?_ ?_ ?_
          · walk_at "i"
          · walk_at "g"
          · refine db_cons ?_ ?_
            · walk_at "s"
            · refine db_cons ?_ ?_
              · refine ds_if ?_ ?_ ?_
                · walk_at "t"
                · walk_at "b"
                · walk_at "b"
              · refine db_one ?_
                walk_at "s"
        · refine db_cons ?_ ?_
          · refine ds_setLc 6 [("error", 5)] ‹Shared› ‹Hp› rfl (by assumption) ?_ rfl ?_ ?_ ?_ ?_
            · walk_at "i"
            · walk_at "lc3"
            · walk_at "lc4"
            · walk_at "lc5"
            · walk_at "lc5"
          · walk_at "b"
    case r =>
      walk_at "nf"
      refine body_P (N := ["pot", "some", "one", "errors", "at", "error", "kept", "k"]) (fun ds q => ?_) (fun p ds q => ?_) h
      · subst q
        exact Nat.le_of_ble_eq_true rfl
      · subst q
        show Es K (some p) _ [.pot, .un, .un, .un, .un, .un, .un, .un] 4 _ _ _ _
        have odd : ∀ {ρ : List Sx}, ρ[0]? = some .pot → Ev K (some p) (tCall (spP K 1 preOdd postOdd) [] E0 (tCons (tVar 0) tNil)) ρ 1 (fun d => d ∈ odds1 ++ odds2) := fun e => (ev_funP (pre := preOdd) (post := postOdd) e ea_nil fun _ z => z).imp fun d z => by
          obtain ⟨_, _, z⟩ := z
          exact z
        refine q_asg (k2 := 0) (φ := fun d => ∃ a b c e, d = .lst [a, .tup [b, .lst [c]], .dic [(.inr "a", e)]] ∧ a ∈ odds1 ++ odds2 ∧ b ∈ odds1 ++ odds2 ∧ c ∈ odds1 ++ odds2 ∧ e ∈ odds1 ++ odds2)
          ((ev_lst (ea_cons (odd rfl) (ea_cons (ev_tup (ea_cons (odd rfl) (ea_cons (ev_lst (ea_cons (odd rfl) ea_nil) fun ds z => ?_) ea_nil)) fun ds z => ?_) (ea_cons (ev_dic1 (odd rfl)) ea_nil))) fun ds z => ?_).imp fun d z => ?_) fun d hd => ?_
        · obtain ⟨_, _, rfl, _, rfl⟩ := z
          exact Nat.le_of_ble_eq_true rfl
        · obtain ⟨_, _, rfl, _, _, _, rfl, _, rfl⟩ := z
          exact Nat.le_of_ble_eq_true rfl
        · obtain ⟨_, _, rfl, _, _, _, rfl, _, _, _, rfl, _, rfl⟩ := z
          exact Nat.le_of_ble_eq_true rfl
        · obtain ⟨_, rfl, a, _, rfl, ha, _, _, rfl, ⟨_, rfl, b, _, rfl, hb, _, _, rfl, ⟨_, rfl, c, _, rfl, hc, rfl⟩, rfl⟩, _, _, rfl, ⟨e, rfl, he⟩, rfl⟩ := z
          exact ⟨a, b, c, e, rfl, ha, hb, hc, he⟩
        obtain ⟨a, b, c, e', rfl, ha, hb, hc, he⟩ := hd
        have pl : ∀ x ∈ odds1 ++ odds2, x.plain = true := List.all_eq_true.mp (by decide +kernel)
        have plS : ∀ x ∈ ([a, .tup [b, .lst [c]], .dic [(.inr "a", e')]] : List D), x.plain = true := fun x hx => by
          simp only [List.mem_cons, List.not_mem_nil, or_false] at hx
          rcases hx with rfl | rfl | rfl
          · exact pl _ ha
          · simp [D.plain, D.plains, pl _ hb, pl _ hc]
          · simp [D.plain, D.plaink, pl _ he]
        show Es K (some p) _ [.pot, .d (.lst [a, .tup [b, .lst [c]], .dic [(.inr "a", e')]]), .un, .un, .un, .un, .un, .un] 0 _ _ _ _
        refine Es.le (k1 := 0 + 3 * 0 + 0) (es_seq (N1 := fun r => ∃ e3, r = [.pot, .d (.lst [a, .tup [b, .lst [c]], .dic [(.inr "a", e')]]), .un, e3, .un, .un, .un, .un]) ?_ fun ρ1 z => ?_) (Nat.le_refl _)
        · refine Es.le (k1 := 0 + 3 * 0) (es_for (n := 3) (js := [2]) (Φ := (· = [a, .tup [b, .lst [c]], .dic [(.inr "a", e')]])) (ei_list (ev_var rfl) fun d e => ⟨_, e, rfl⟩)
            (fun _ _ r => ∃ e3, r = [.pot, .d (.lst [a, .tup [b, .lst [c]], .dic [(.inr "a", e')]]), .un, e3, .un, .un, .un, .un]) (fun ds i => [(ds[i]?).getD .non]) (fun ds e => by rw [e]; exact Nat.le_refl _) (fun ds _ => ⟨_, rfl⟩)
            (fun ds i r z j hj => ?_) (fun ds i d r _ e _ => by rw [e]; exact eg_name) (fun ds i d r hds e iv => ?_) (fun ds r _ z => z)) (Nat.le_refl _)
          · obtain ⟨e3, rfl⟩ := z
            simp only [List.mem_cons, List.not_mem_nil, or_false] at hj
            rw [hj]
            exact Nat.le_of_ble_eq_true rfl
          · obtain ⟨e3, rfl⟩ := iv
            rw [e]
            have px : d.plain = true := plS d (hds ▸ List.mem_of_getElem? e)
            show Es K (some p) _ [.pot, .d (.lst _), .d d, e3, .un, .un, .un, .un] 0 _ _ _ _
            refine es_sam 2 rfl fun v => ?_
            show Es K (some p) _ [.pot, .d (.lst _), .d (.sam v d), e3, .un, .un, .un, .un] 0 _ _ _ _
            refine q_asg (k1 := 0) (k2 := 0) (φ := (· = .lst (cs.map fun C => .err C (.sam v d)))) ((ev_fun (pre := preAll) (post := postAll cs) (ea_one (ev_var rfl)) fun ds z => ?_).imp fun d' z => ?_) fun d' e4 => ?_
            · obtain ⟨d', rfl, _⟩ := z
              exact ⟨_, rfl⟩
            · obtain ⟨ds, ⟨x, rfl, rfl⟩, y, e1, rfl⟩ := z
              cases e1
              rfl
            · subst e4
              show Es K (some p) _ [.pot, .d (.lst _), .d (.sam v d), .d (.lst (cs.map fun C => .err C (.sam v d))), .un, .un, .un, .un] 0 _ _ _ _
              have errs : ∀ (i : Nat) (d' : D), (cs.map fun C => D.err C (.sam v d))[i]? = some d' → ∃ C, d' = .err C (.sam v d) ∧ C ∈ cs ∧ cs[i]? = some C := fun i d' h => by
                rw [List.getElem?_map] at h
                cases hC : cs[i]? with
                | none =>
                  rw [hC] at h
                  cases h
                | some C =>
                  rw [hC] at h
                  cases h
                  exact ⟨C, rfl, List.mem_of_getElem? hC, rfl⟩
              refine q_if (kc := 0) (k1 := 0) (k2 := 0) (β := (· = false)) ?_ (fun h => nomatch h) (fun _ => q_next rfl) ?_
              · refine EvT.imp (β := fun b => (!b) = true) (et_not (et_B (β := (· = true)) (φ := (· = .bl true)) (ev_call (ea_one (ev_lcF (cs.map fun C => .err C (.sam v d)) (fun _ => .bl true) (js := [5]) (fun j hj => ?_) (ei_list (ev_var rfl) fun d e => ⟨_, e, rfl⟩) (fun j hj => hj) (fun _ d => [d]) ?_ (fun i d' _ => eg_name) fun i d' e' => ?_)) fun ds z => ?_) fun d z => ⟨true, z, rfl⟩)) fun b hb => ?_
                · simp only [List.map_cons, List.map_nil, List.mem_cons, List.not_mem_nil, or_false] at hj
                  rw [hj]
                  rfl
                · rw [List.length_map, lc]
                  decide
                · obtain ⟨C, rfl, hC, _⟩ := errs i d' e'
                  show Ev K (some p) _ [.pot, .d (.lst _), .d (.sam v d), .d (.lst _), .un, .d (.err C (.sam v d)), .un, .un] 0 _
                  refine Ev.imp (φ := fun d => (d = .bl false ∧ false = true) ∨ (true = true ∧ d = .bl true)) (ev_andV (ka := 0) (kb := 0) (φ := (· = .bl true)) (β := fun b => b = true) (ψ := (· = .bl true)) (ev_op (ka := 0) (kb := 0) (φ := (· = .sam v d)) (ψ := (· = .sam v d)) (ev_errF (f := "") (ev_var rfl) fun d' z => ⟨C, _, z, T C hC, rfl⟩) (ev_var rfl) fun a b z1 z2 => ?_) (fun d' z => ⟨true, z, rfl⟩) fun _ => ?_) fun d' z => ?_
                  · subst z1 z2
                    exact od_eqSam px
                  · exact ev_isC (T C hC) (fun _ z => z) (kV C hC) rfl
                  · rcases z with ⟨_, z⟩ | ⟨_, z⟩
                    · cases z
                    · exact z
                · obtain ⟨d', rfl, rfl⟩ := z
                  exact cd_allT
                · cases b
                  · rfl
                  · cases hb
              · refine es_un 2 ?_
                show Es K (some p) _ [.pot, .d (.lst _), .un, .d (.lst (cs.map fun C => .err C (.sam v d))), .un, .un, .un, .un] 0 _ _ _ _
                refine Es.le (k1 := 0 + 23 * 0) ((es_for (n := 23) (js := [4, 5]) (Φ := fun ds => ds = enumD (cs.map fun C => .err C (.sam v d))) (ei_imp (ei_enum (φ := (· = .lst (cs.map fun C => .err C (.sam v d)))) ((ea_one (ev_var rfl)).imp fun ds z => ?_)) fun ds z => ?_)
                  (fun _ _ r => r = [.pot, .d (.lst [a, .tup [b, .lst [c]], .dic [(.inr "a", e')]]), .un, .d (.lst (cs.map fun C => .err C (.sam v d))), .un, .un, .un, .un]) (fun ds i => [.int (i : Nat), ((cs.map fun C => D.err C (.sam v d))[i]?).getD .non]) (fun ds e => ?_) (fun ds _ => rfl)
                  (fun ds i r z j hj => ?_) (fun ds i d' r hds e _ => ?_) (fun ds i d' r hds e iv => ?_) (fun ds r _ z => ⟨_, z⟩)).imp (fun _ z => z) (fun _ z => z.elim) (fun _ z => z.elim) (fun _ z => z)) (Nat.le_refl _)
                · obtain ⟨d', rfl, rfl⟩ := z
                  exact ⟨_, rfl, rfl⟩
                · obtain ⟨es, rfl, z⟩ := z
                  cases z
                  rfl
                · rw [e, enumD_len, List.length_map, lc]
                  exact Nat.le_refl _
                · subst z
                  simp only [List.mem_cons, List.not_mem_nil, or_false] at hj
                  rcases hj with rfl | rfl <;> exact Nat.le_of_ble_eq_true rfl
                · rw [hds] at e
                  rw [(enum_back e).2]
                  exact eg_pair
                · subst iv
                  rw [hds] at e
                  obtain ⟨C, h1, hC, hcs⟩ := errs i _ (enum_back e).1
                  rw [h1]
                  have li : i < 23 := by
                    rw [← lc]
                    exact (List.getElem?_eq_some_iff.mp hcs).1
                  obtain ⟨q1, q2, q3⟩ := kinds_ok ⟨i, li⟩
                  show Es K (some p) _ [.pot, .d (.lst _), .un, .d (.lst (cs.map fun C => .err C (.sam v d))), .d (.int (i : Nat)), .d (.err C (.sam v d)), .un, .un] 0 _ _ _ _
                  refine Es.le (k1 := 0 + 0) (es_if (β := (· = false)) (EvT.imp (β := fun b => (b = true ∧ true = false) ∨ (false = false ∧ b = false)) (et_or (ka := 0) (kb := 0) (β := (· = false)) (γ := (· = false)) ?_ fun _ => ?_) fun b hb => ?_) (fun h => nomatch h) fun _ => q_weak rfl rfl fun j => ?_) (Nat.le_refl _)
                  · refine et_test (φ := (· = .bl false)) (ev_op (ka := 0) (kb := 0) (φ := (· = .lst ((List.range 23).map fun j => .bl (decide (i = j))))) (ψ := (· = .lst ((List.range 23).map fun j => .bl (decide (i = j))))) ((ev_fun (pre := preKinds cs) (post := postKinds cs) (ea_one (ev_var rfl)) fun ds z => ?_).imp fun d' z => ?_) ?_ fun a b z1 z2 => ?_) fun d z => ⟨false, z, rfl⟩
                    · obtain ⟨d', rfl, rfl⟩ := z
                      exact ⟨_, C, rfl, hC⟩
                    · obtain ⟨ds, ⟨d2, rfl, rfl⟩, z⟩ := z
                      exact z i C _ rfl hcs
                    · refine (ev_lcF (rangeD 23) (fun j => .bl (decide (i = j))) (js := [7]) (fun j hj => ?_) (ei_imp (ei_range1 (φ := (· = .int 23)) ((ea_one (ev_call (χ := (· = .int 23)) (ea_one (ev_var rfl)) fun ds z => ?_)).imp fun ds z => ?_)) fun ds z => ?_) (fun j hj => hj) (fun _ d => [d]) ?_ (fun i d' _ => eg_name) fun j d' e' => ?_)
                      · simp only [List.map_cons, List.map_nil, List.mem_cons, List.not_mem_nil, or_false] at hj
                        rw [hj]
                        rfl
                      · obtain ⟨d', rfl, rfl⟩ := z
                        have z := cd_lenL (K := K) (xs := cs.map fun C => .err C (.sam v d))
                        rw [List.length_map, lc] at z
                        exact z
                      · obtain ⟨d', rfl, rfl⟩ := z
                        exact ⟨23, rfl, by decide, by decide, rfl⟩
                      · obtain ⟨n, rfl, z⟩ := z
                        cases z
                        rfl
                      · exact Nat.le_of_ble_eq_true rfl
                      · have lj : j < 23 := by
                          have := (List.getElem?_eq_some_iff.mp e').1
                          rw [rangeD_len] at this
                          exact this
                        rw [rangeD_at lj] at e'
                        cases e'
                        show Ev K (some p) _ [.pot, .d (.lst _), .un, .d (.lst (cs.map fun C => .err C (.sam v d))), .d (.int (i : Nat)), .d (.err C (.sam v d)), .un, .d (.int (j : Nat))] 0 _
                        refine ev_op (ka := 0) (kb := 0) (ev_var rfl) (ev_var rfl) fun a b z1 z2 => ?_
                        subst z1 z2
                        have z := od_eqI (K := K) (i := (j : Int)) (j := (i : Int))
                        rw [show decide ((j : Int) = (i : Int)) = decide (i = j) from decide_eq_decide.mpr ⟨fun h => (Int.ofNat_inj.mp h).symm, fun h => Int.ofNat_inj.mpr h.symm⟩] at z
                        exact z
                    · subst z1 z2
                      have z := od_neP (K := K) q1 q1 q2 q2 toDp
                      rw [q3] at z
                      exact z
                  · refine EvT.imp (β := fun b => (!b) = true) (et_not (et_B (β := (· = true)) (ev_isC (c := .ref C0) (T C hC) (fun _ z => z) (kW C hC) rfl) fun d z => ⟨true, z, rfl⟩)) fun b hb => ?_
                    cases b
                    · rfl
                    · cases hb
                  · rcases hb with ⟨_, h⟩ | ⟨_, h⟩
                    · cases h
                    · exact h
                  · match j with
                    | 0 => exact .inl rfl
                    | 1 => exact .inl rfl
                    | 2 => exact .inl rfl
                    | 3 => exact .inl rfl
                    | 4 => exact .inr rfl
                    | 5 => exact .inr rfl
                    | 6 => exact .inl rfl
                    | 7 => exact .inl rfl
                    | j + 8 => exact .inl rfl
        · obtain ⟨e3, rfl⟩ := z
          have ix : ∀ {ρ : List Sx}, ρ[1]? = some (.d (.lst [a, .tup [b, .lst [c]], .dic [(.inr "a", e')]])) → Ev K (some p) (tOp (rIx K) (tVar 1) (tC (.int 0))) ρ 0 (· = a) := fun h => ev_op (ka := 0) (kb := 0) (ev_var h) ev_int fun x y z1 z2 => by
            subst z1 z2
            exact od_ixL rfl
          obtain ⟨r1, r2, r3, r4⟩ := odds_ok a ha
          obtain ⟨s1, s2, s3, s4⟩ := odds_ok23 a ha
          refine q_asg (i := 6) (k1 := 0) (k2 := 0) (φ := (· = .lst ((List.range 23).map fun _ => a))) (Ev.imp (φ := (· = .lst ((List.range (cs.map fun C => D.err C a).length).map fun _ => a))) (ev_lcF (cs.map fun C => .err C a) (fun _ => a) (js := [5]) (fun j hj => ?_) (ei_list (Ev.imp (ψ := (· = .lst (cs.map fun C => .err C a))) (ev_fun (pre := preAll) (post := postAll cs) (ea_one (ix rfl)) fun ds z => ?_) fun d' z => ?_) fun d e => ⟨_, e, rfl⟩) (fun j hj => hj) (fun _ d => [d]) ?_ (fun i d' _ => eg_name) fun i d' e' => ?_) fun d' z => ?_) fun d' e4 => ?_
          · simp only [List.map_cons, List.map_nil, List.mem_cons, List.not_mem_nil, or_false] at hj
            rw [hj]
            rfl
          · obtain ⟨d', rfl, _⟩ := z
            exact ⟨_, rfl⟩
          · obtain ⟨ds, ⟨x, rfl, rfl⟩, y, e1, rfl⟩ := z
            cases e1
            rfl
          · rw [List.length_map, lc]
            decide
          · rw [List.getElem?_map] at e'
            cases hC : cs[i]? with
            | none =>
              rw [hC] at e'
              cases e'
            | some C =>
              rw [hC] at e'
              cases e'
              exact ev_errF (f := "") (ev_var rfl) fun d' z => ⟨C, _, z, T C (List.mem_of_getElem? hC), rfl⟩
          · rw [List.length_map, lc] at z
            exact z
          · subst e4
            show Es K (some p) _ [.pot, .d (.lst _), .un, e3, .un, .un, .d (.lst ((List.range 23).map fun _ => a)), .un] 0 _ _ _ _
            refine q_ret (k1 := 0) (φ := fun d => (d = .bl false ∧ false = true) ∨ (true = true ∧ d = .bl true)) (ev_andV (ka := 0) (kb := 0) (φ := (· = .bl true)) (β := fun b => b = true) (ψ := (· = .bl true))
              (ev_op (ka := 0) (kb := 0) (φ := (· = .str (D.lst ((List.range 23).map fun _ => a)).py.shown)) (ψ := (· = .str (D.lst ((List.range 23).map fun _ => a)).py.shown)) (ev_call (ea_one (ev_var rfl)) fun ds z => ?_)
                (ev_call (ea_one (ev_op (ka := 0) (kb := 0) (χ := (· = .lst ((List.range 23).map fun _ => a))) (φ := (· = .lst [a])) (ψ := (· = .int (23 : Nat))) (ev_lstC (ea_c (ix rfl) ea_nil)) (ev_call (ea_one (ev_var rfl)) fun ds z => ?_) fun x y z1 z2 => ?_)) fun ds z => ?_) fun x y z1 z2 => ?_) (fun d' z => ⟨true, z, rfl⟩) fun _ =>
              ev_op (ka := 0) (kb := 0) (φ := (· = .str a.py.shown)) (ψ := (· = .str a.py.shown)) (ev_call (ea_one (ev_errF (f := "") (χ := (· = a)) (ev_errM cW.T (ea_one (ix rfl))) fun d' z => ?_)) fun ds z => ?_) (ev_call (ea_one (ix rfl)) fun ds z => ?_) fun x y z1 z2 => ?_) fun d' z => ?_
            · obtain ⟨d', rfl, rfl⟩ := z
              exact cd_repr s1 s2 s3 s4
            · obtain ⟨d', rfl, rfl⟩ := z
              exact cd_lenL
            · subst z1 z2
              exact od_rep (xs := [a]) (n := 23) (Nat.le_of_ble_eq_true rfl) (by decide)
            · obtain ⟨d', rfl, rfl⟩ := z
              exact cd_repr s1 s2 s3 s4
            · subst z1 z2
              have z := od_eqS (K := K) (x := (D.lst ((List.range 23).map fun _ => a)).py.shown) (y := (D.lst ((List.range 23).map fun _ => a)).py.shown)
              rw [decide_eq_true rfl] at z
              exact z
            · obtain ⟨x, rfl, z⟩ := z
              exact ⟨C0, x, rfl, cW.T, z⟩
            · obtain ⟨d', rfl, rfl⟩ := z
              exact cd_repr r1 r2 r3 r4
            · obtain ⟨d', rfl, rfl⟩ := z
              exact cd_repr r1 r2 r3 r4
            · subst z1 z2
              have z := od_eqS (K := K) (x := a.py.shown) (y := a.py.shown)
              rw [decide_eq_true rfl] at z
              exact z
            · rcases z with ⟨_, z⟩ | ⟨_, z⟩
              · cases z
              · exact z
end

section
variable {P : Program} {w : World} {K : PySem.W.Frag} {mg : Str → Option Value} {base : Heap}
theorem scLaw : FnScope ["script", "number"] ["script"] (defScope sLaw) := ⟨rfl, rfl, rfl, by decide +kernel, rfl, by decide +kernel, by decide +kernel⟩
variable {k : Nat}
local macro_rules | `(tactic| walk_at "lc") => `(tactic| (refine de_lc [("number", 1)] ‹Shared› ‹Hp› rfl (by assumption) ?_ rfl ?_ ?_ ?_ ?_; walk_at "i"; walk_at "lc3"; walk_at "lc4"; walk_at "lc5"; walk_at "lc5"))
theorem ea_one' {P : Option Addr} {ρ : List Sx} {te : TE} {d : D} (h : Ev K P te ρ 0 (· = d)) : EvA K P (tCons te tNil) ρ 0 (· = [d]) := ea_c h ea_nil
theorem r_ret {P : Option Addr} {ρ : List Sx} {te : TE} {M0 G M H : Hp} {m k : Nat} {σ : L2.St} {φ : D → Prop} {E : Ends} (a : At K P M0 m G M H σ ρ) (h : Ev K P te ρ k φ) (q : ∀ v d G2 M2 H2, Step G M H G2 M2 H2 → At K P M0 (m + k) G2 M2 H2 σ ρ → φ d → DV K G2 v d → E.rt v H2)
    (l : m + k ≤ BIG := by decide) : tRet te E σ H := h M0 σ G M H m _ a l q
theorem cd_min {i j : Int} : CallD K (fun xs H Q => ∃ i j : Int, xs = [.int i, .int j] ∧ Q (.int (if j < i then j else i)) H) [.int i, .int j] (· = .int (if j < i then j else i)) := fun vs G M H Q s h q => by
  cases h with
  | cons h k =>
    cases k with
    | cons h2 k =>
      cases k
      cases h
      cases h2
      exact ⟨i, j, rfl, q _ _ G H (Step.refl s) rfl (.int _)⟩
theorem cd_max {i j : Int} : CallD K (fun xs H Q => ∃ i j : Int, xs = [.int i, .int j] ∧ Q (.int (if j > i then j else i)) H) [.int i, .int j] (· = .int (if j > i then j else i)) := fun vs G M H Q s h q => by
  cases h with
  | cons h k =>
    cases k with
    | cons h2 k =>
      cases k
      cases h
      cases h2
      exact ⟨i, j, rfl, q _ _ G H (Step.refl s) rfl (.int _)⟩
abbrev spLaw (K : PySem.W.Frag) : Sp := fun vs H Q _ => ∃ (a : Addr) (ns : List Int), vs = [.ref a] ∧ SqL K H a (ns.map V.int) ∧ ns.length ≤ 63 ∧ ∀ H', Q (.bl true) H'
theorem ev_rightPot {ρ : List Sx} {ns : List Int} {i : Nat} (e0 : ρ[0]? = some (.scr ns)) (e1 : ρ[1]? = some (.d (.int (i : Nat)))) (ln : ns.length ≤ 1000000) (li : i ≤ 63) :
    Ev K none (tCall (spP K 4 (· = []) (fun _ d => d = .bl true)) [] E0 (tCons (tCall (spPot K) [] E0 (tCons (tVar 0) (tCons (tVar 1) tNil))) tNil)) ρ 0 (· = .bl true) := fun M0 σ G M H m Q a l q => by
  obtain ⟨b, f0, hq⟩ := a.sl 0 _ e0
  obtain ⟨v, f1, hv⟩ := a.sl 1 _ e1
  cases hv
  refine ⟨.ref b, f0, .int i, f1, b, ns, i, G, M, rfl, a.sep, hq, ln, li, fun p G2 M2 H2 st np pm off ex => ?_⟩
  refine ⟨p, [], G2, M2, 0, [], rfl, st.s, pm, ex, by decide, .nil, rfl, fun v d G3 M3 H3 st3 pm3 off3 hd hv => ?_⟩
  have st' := Step.drop (M2 := M) (st.trans st3) fun c o h => by
    have ne : c ≠ p := fun z => by
      rw [z, np] at h
      cases h
    rw [off3 c ne, off c ne]
    exact h
  exact q v d G3 M H3 st' (a.pure st') hd hv
theorem ok_law {f : Addr} {fd : FuncData} (F : Fun K "law" "law" sLaw f fd)
    (gA : mg "all" = none) (gR : mg "range" = none) (gL : mg "len" = none) (gMa : mg "max" = none) (gMi : mg "min" = none)
    (cPot : Cal P w K mg base k "_law_pot" (spPot K)) (cRight : Cal P w K mg base k "_law_right" (spP K 4 (· = []) (fun _ d => d = .bl true))) :
    FnG P w K mg base CX0 (k + 1) f fd ["script"] (spLaw K) := by
  refine okG0 F scLaw (fun vs H Q E h => ?_) (fun cdv A outer s H vs Q E hr gq h => ?_)
  · obtain ⟨a, ns, rfl, _⟩ := h
    rfl
  · have nd := scLaw.nd
    refine ⟨Subtype.val (p := PSs _ _) ?d, Subtype.property ?d, ?r⟩
    case d =>
      walk_at "b"
    case r =>
      walk_at "nf"
      obtain ⟨b, ns, rfl, hq, ln, q⟩ := h
      have a0 : At K none (fun _ => none) 0 H (fun _ => none) H [some (.ref b), none] [.scr ns, .un] := {
        sep := ⟨Same.refl _, (fun _ _ z => nomatch z), (fun _ _ z => nomatch z)⟩
        pot := PotM.no
        fr := fun _ _ _ z => z
        len := rfl
        sl := fun j x e => by
          match j, e with
          | 0, e => cases e; exact ⟨b, rfl, hq⟩
          | 1, e => cases e; trivial
        nd := fun j j' b b' e _ _ => by
          match j, e with
          | 0, e => cases e
          | 1, e => cases e }
      have ll : ns.length ≤ 1000000 := by omega
      have mm : ∀ n : Nat, ∃ j : Nat, j ≤ 3 ∧ (if (if (n : Int) < 3 then (n : Int) else 3) > 1 then (if (n : Int) < 3 then (n : Int) else 3) else 1) = (j : Int) := fun n => by
        by_cases h1 : (n : Int) < 3
        · rw [if_pos h1]
          by_cases h2 : (n : Int) > 1
          · rw [if_pos h2]
            exact ⟨n, by omega, rfl⟩
          · rw [if_neg h2]
            exact ⟨1, by decide, rfl⟩
        · rw [if_neg h1]
          exact ⟨3, by decide, by decide⟩
      obtain ⟨n, n3, hn⟩ := mm ns.length
      refine r_ret (k := 0) (φ := (· = .bl true)) a0 (ev_call (ea_one (ev_lcF (rangeD n) (fun _ => .bl true) (js := [1]) (vs := [1]) (fun j hj => ?a) (ei_imp (ei_range1 (φ := (· = .int n)) ((ea_one (Ev.imp (φ := (· = .int (if (if ((ns.length : Nat) : Int) < 3 then ((ns.length : Nat) : Int) else 3) > 1 then (if ((ns.length : Nat) : Int) < 3 then ((ns.length : Nat) : Int) else 3) else 1))) (ψ := (· = .int n))
        (ev_call (r := fun xs H Q => ∃ i j, xs = [.int i, .int j] ∧ Q (.int (if j > i then j else i)) H) (ea_c ev_int (ea_one' (ev_call (χ := (· = .int (if ((ns.length : Nat) : Int) < 3 then ((ns.length : Nat) : Int) else 3))) (r := fun xs H Q => ∃ i j, xs = [.int i, .int j] ∧ Q (.int (if j < i then j else i)) H) (ea_c ev_int (ea_one' (ev_scrLen (j := 0) rfl))) fun ds z => ?b))) fun ds z => ?c) fun d z => ?d)).imp fun ds z => ?e)) fun ds z => ?f) (fun j hj => hj) (fun _ d => [d]) ?g (fun i d' _ => eg_name) fun i d' e' => ev_rightPot (i := i) rfl ?h ll ?i)) fun ds z => ?j) fun v d G2 M2 H2 st a2 e dv => ?k
      case a =>
        simp only [List.mem_cons, List.not_mem_nil, or_false] at hj
        rw [hj]
        rfl
      case b =>
        subst z
        exact cd_min
      case c =>
        subst z
        exact cd_max
      case d => rw [z, hn]
      case e =>
        obtain ⟨d, rfl, rfl⟩ := z
        exact ⟨n, rfl, by omega, by omega, rfl⟩
      case f =>
        obtain ⟨n', rfl, z⟩ := z
        cases z
        rw [Int.toNat_natCast]
      case g =>
        rw [rangeD_len]
        omega
      case h =>
        have lj : i < n := by
          have := (List.getElem?_eq_some_iff.mp e').1
          rw [rangeD_len] at this
          exact this
        rw [rangeD_at lj] at e'
        cases e'
        rfl
      case i =>
        have lj : i < n := by
          have := (List.getElem?_eq_some_iff.mp e').1
          rw [rangeD_len] at this
          exact this
        omega
      case j =>
        obtain ⟨d, rfl, rfl⟩ := z
        exact cd_allT
      case k =>
        subst e
        cases dv
        exact q H2
end

end Tp
namespace Tp
open PySem PySem.Spec PyProof.Rows L2
abbrev R0 : PySem.W.OpenRow := PySem.W.OpenLaw.row PySem.Challenge.rw_treadplans_k00_errors_keep_their_value
def kinds0 : List Str := ["BadPlan", "BadPlace", "BadNumber", "BadDraft", "BadEnd", "BadPick", "BadName", "BadRow", "BadThread", "BadBy", "BadPairs", "TooMany", "BadSort", "BadSide", "BadPicture", "NotNow", "BadPicks", "NotWhole", "NothingToUndo", "NothingToRedo", "BadText", "BadJournal", "BadLine"]
def fn0 : List He.DefD := [dG "_law_pot" sPot, dG "_law_take" sTake, dG "_law_of" sOf, dG "_law_odd" sOdd, dG "_law_all_of" sAll, dG "_law_kinds_of" sKinds, dG "_law_right" sRight, dG "law" sLaw,
  ⟨("WeaveError", some "__init__"), "__init__", "WeaveError.__init__", defArgs sInit, defBody sInit, defScope sInit, [], []⟩]
def free0 : List Str := ["int", "len", "abs", "all", "isinstance", "enumerate", "range", "repr", "max", "min", "ValueError"]
def glo0 : List Str := "law" :: "WeaveError" :: ((["_law_pot", "_law_take", "_law_of", "_law_odd", "_law_all_of", "_law_kinds_of", "_law_right"] : List Str) ++ kinds0)
def fa0 : List He.Fa := glo0.map .glo ++ free0.map .free
abbrev fI0 (K : PySem.W.Frag) : Addr := He.fAd K ("WeaveError", some "__init__")
def cs0 (K : PySem.W.Frag) : List Addr := kinds0.map (He.ga K)
def errI (K : PySem.W.Frag) (C : Addr) : Bool := errB K C && He.eqO (PySem.W.findIn K (.ref C) "__init__") (some (some (.ref (fI0 K))))
def ex0 (K : PySem.W.Frag) : Bool := sysB K && (decide (PySem.W.typeIn K (.ref (fI0 K)) = some (.type "function")) && (errI K (He.ga K "WeaveError") && ((cs0 K).all (errI K) && (((cs0 K).all fun C => decide (PySem.W.kitOne K (.ref C) (.type "ValueError") = some true) && decide (PySem.W.kitOne K (.ref C) (.ref (He.ga K "WeaveError")) = some true)) &&
  ((List.range 23).all fun i => (List.range 23).all fun j => decide (PySem.W.kitOne K (.ref ((cs0 K).getD i 0)) (.ref ((cs0 K).getD j 0)) = some (decide (i = j))))))))
abbrev hk0 : PySem.W.Hook := hookK 4 fa0 fn0 ex0
def ob0 (s : PySem.W.SharedT) : AlK := obsK 4 fa0 fn0 ex0 (HandSHeadRun.getT s)
theorem ob0_eq (s : PySem.W.SharedT) : ob0 s = hk0.obs s.abs := obsK_eq (HandSHeadRun.getT_eq s)
def loose0 : List PySem.Str := ["WeaveError", "BadPlan", "BadPlace", "BadNumber", "BadDraft", "BadEnd", "BadPick", "BadName", "BadRow", "BadThread", "BadBy", "BadPairs", "TooMany", "BadSort", "BadSide", "BadPicture", "NotNow", "BadPicks", "NotWhole", "NothingToUndo", "NothingToRedo", "BadText", "BadJournal", "BadLine", "_law_pot", "_law_take", "_law_of", "_law_odd", "_law_all_of", "_law_kinds_of", "_law_right"]
theorem run0 (w : World) : HandSHeadRun.RunEq R0 (PySem.W.view R0.prog [33]) hk0 ob0 8000 loose0 w := by
  intro os
  kernel_rfl
end Tp

namespace Tp
open PySem PySem.Spec PyProof.Rows L2
theorem says_fa {fa : List He.Fa} {fn : List He.DefD} {K : PySem.W.Frag} (c : He.SaysD fa fn K) {f : He.Fa} (h : f ∈ fa) : f.ok K = true := by
  obtain ⟨i, hi, e⟩ := List.mem_iff_getElem.mp h
  exact c.fact i (f := f) (by rw [List.getElem?_eq_getElem hi, e])
theorem facts0 {P : Program} {w : World} {K : PySem.W.Frag} {h : Heap} {mg : Str → Option Value} {f : Addr} (X : K.In h) (G : h.Ns mainGlobals mg) (hfa : mg ("law" : Str) = some (.ref f)) (c : He.SaysD fa0 fn0 K) (e : ex0 K = true) :
    ∃ fd : FuncData, (∀ (s : Shared) (v : Value), BindsTo s fd ⟨[v], []⟩ [("script", v)]) ∧ ∀ base : Heap, K.In base → base.Ns mainGlobals mg → FnG P w K mg base CX0 6 f fd ["script"] (spLaw K) := by
  have hg : ∀ x ∈ glo0, mg x = some (.ref (He.ga K x)) := fun x hx => He.glo_ok X G (says_fa c (List.mem_append_left _ (List.mem_map_of_mem hx)))
  have hf : ∀ x ∈ free0, mg x = none := fun x hx => He.free_ok X G (says_fa c (List.mem_append_right _ (List.mem_map_of_mem hx)))
  obtain ⟨fdP, FP⟩ := c.def_ 0 (d := dG "_law_pot" sPot) rfl
  obtain ⟨fdT, FT⟩ := c.def_ 1 (d := dG "_law_take" sTake) rfl
  obtain ⟨fdO, FO⟩ := c.def_ 2 (d := dG "_law_of" sOf) rfl
  obtain ⟨fdD, FD⟩ := c.def_ 3 (d := dG "_law_odd" sOdd) rfl
  obtain ⟨fdA, FA⟩ := c.def_ 4 (d := dG "_law_all_of" sAll) rfl
  obtain ⟨fdK, FK⟩ := c.def_ 5 (d := dG "_law_kinds_of" sKinds) rfl
  obtain ⟨fdR, FR⟩ := c.def_ 6 (d := dG "_law_right" sRight) rfl
  obtain ⟨fdL, FL⟩ := c.def_ 7 (d := dG "law" sLaw) rfl
  obtain ⟨fdI, FI⟩ := c.def_ 8 (d := ⟨("WeaveError", some "__init__"), "__init__", "WeaveError.__init__", defArgs sInit, defBody sInit, defScope sInit, [], []⟩) rfl
  unfold ex0 at e
  simp only [Bool.and_eq_true, decide_eq_true_eq] at e
  obtain ⟨e1, e2, e3, e4, e5, e6⟩ := e
  have hs := sysB_ok e1
  have e0 := hfa.symm.trans (hg "law" (by decide))
  cases e0
  have b := FunD.bindsA (ps := ["script"]) FL fun _ _ _ _ _ _ us hl => match us, hl with | [_], _ => rfl
  refine ⟨fdL, fun s v => b s [v] rfl, fun base _ _ => ?_⟩
  have cTake : Cal P w K mg base 1 "_law_take" (spP K 1 preTake postTake) := ⟨⟨_, _, _, ok_take (fun_ofD FT) (hf "int" (by decide)), hg "_law_take" (by decide), FT.kp, FT.bindsN fun _ _ _ _ _ _ us hl => match us, hl with | [_, _], _ => rfl⟩⟩
  have cOf : Cal P w K mg base 2 "_law_of" (spP K 1 preOf postOf) := ⟨⟨_, _, _, ok_of (fun_ofD FO) (hf "len" (by decide)) cTake, hg "_law_of" (by decide), FO.kp, FO.bindsN fun _ _ _ _ _ _ us hl => match us, hl with | [_, _], _ => rfl⟩⟩
  have cOdd : Cal P w K mg base 3 "_law_odd" (spP K 1 preOdd postOdd) := ⟨⟨_, _, _, ok_odd (fun_ofD FD) cOf, hg "_law_odd" (by decide), FD.kp, FD.bindsN fun _ _ _ _ _ _ us hl => match us, hl with | [_], _ => rfl⟩⟩
  have cPot : Cal P w K mg base 5 "_law_pot" (spPot K) := ⟨⟨_, _, _, (ok_pot (fun_ofD FP) (hf "len" (by decide)) (hf "int" (by decide)) (hf "abs" (by decide))).mono (by decide), hg "_law_pot" (by decide), FP.kp, FP.bindsN fun _ _ _ _ _ _ us hl => match us, hl with | [_, _], _ => rfl⟩⟩
  have gI : FnG P w K mg base CX0 1 (fI0 K) fdI ["self", "value"] (spErr K) := ok_init (fun_ofD FI)
  have bI : Binds K fdI ["self", "value"] [] := FI.bindsN fun _ _ _ _ _ _ us hl => match us, hl with | [_, _], _ => rfl
  have mk : ∀ (x : Str) (C : Addr) (j : Nat), 1 ≤ j → mg x = some (.ref C) → errI K C = true → CalE P w K mg base j x C := fun x C j hj hm he => by
    unfold errI at he
    simp only [Bool.and_eq_true] at he
    exact ⟨errB_ok he.1, ⟨_, _, _, gI.mono hj, He.eqO_ok he.2, e2, bI⟩, hm⟩
  have cW : CalE P w K mg base 3 "WeaveError" (He.ga K "WeaveError") := mk _ _ _ (by decide) (hg "WeaveError" (by decide)) e3
  have hc : ∀ (x : Str) (i : Nat), x ∈ kinds0 → CalE P w K mg base 1 x (He.ga K x) := fun x i hx => mk x _ 1 (Nat.le_refl _) (hg x (List.mem_cons_of_mem _ (List.mem_cons_of_mem _ (List.mem_append_right _ hx)))) (List.all_eq_true.mp e4 _ (List.mem_map_of_mem hx))
  have T : ∀ C ∈ cs0 K, ErrC K C := fun C hC => by
    have z := List.all_eq_true.mp e4 C hC
    unfold errI at z
    exact errB_ok (Bool.and_eq_true_iff.mp z).1
  have lc : (cs0 K).length = 23 := rfl
  have kk : ∀ (i j : Nat) (C E : Addr), (cs0 K)[i]? = some C → (cs0 K)[j]? = some E → PySem.W.kitOne K (.ref C) (.ref E) = some (decide (i = j)) := fun i j C E hi hj => by
    have li : i < 23 := (List.getElem?_eq_some_iff.mp hi).1
    have lj : j < 23 := (List.getElem?_eq_some_iff.mp hj).1
    have z := of_decide_eq_true (List.all_eq_true.mp (List.all_eq_true.mp e6 i (List.mem_range.mpr li)) j (List.mem_range.mpr lj))
    rw [List.getD_eq_getElem?_getD, List.getD_eq_getElem?_getD, hi, hj] at z
    exact z
  have cAll : Cal P w K mg base 3 "_law_all_of" (spD K 0 preAll (postAll (cs0 K))) := ⟨⟨_, _, _, ok_all (fun_ofD FA) (hc "BadPlan" 0 (by decide)) (hc "BadPlace" 1 (by decide)) (hc "BadNumber" 2 (by decide)) (hc "BadDraft" 3 (by decide)) (hc "BadEnd" 4 (by decide)) (hc "BadPick" 5 (by decide)) (hc "BadName" 6 (by decide)) (hc "BadRow" 7 (by decide)) (hc "BadThread" 8 (by decide)) (hc "BadBy" 9 (by decide)) (hc "BadPairs" 10 (by decide)) (hc "TooMany" 11 (by decide)) (hc "BadSort" 12 (by decide)) (hc "BadSide" 13 (by decide)) (hc "BadPicture" 14 (by decide)) (hc "NotNow" 15 (by decide)) (hc "BadPicks" 16 (by decide)) (hc "NotWhole" 17 (by decide)) (hc "NothingToUndo" 18 (by decide)) (hc "NothingToRedo" 19 (by decide)) (hc "BadText" 20 (by decide)) (hc "BadJournal" 21 (by decide)) (hc "BadLine" 22 (by decide)), hg "_law_all_of" (by decide), FA.kp, FA.bindsN fun _ _ _ _ _ _ us hl => match us, hl with | [_], _ => rfl⟩⟩
  have cKinds : Cal P w K mg base 3 "_law_kinds_of" (spD K 0 (preKinds (cs0 K)) (postKinds (cs0 K))) := ⟨⟨_, _, _, (ok_kinds (fun_ofD FK) (hf "isinstance" (by decide)) (hc "BadPlan" 0 (by decide)) (hc "BadPlace" 1 (by decide)) (hc "BadNumber" 2 (by decide)) (hc "BadDraft" 3 (by decide)) (hc "BadEnd" 4 (by decide)) (hc "BadPick" 5 (by decide)) (hc "BadName" 6 (by decide)) (hc "BadRow" 7 (by decide)) (hc "BadThread" 8 (by decide)) (hc "BadBy" 9 (by decide)) (hc "BadPairs" 10 (by decide)) (hc "TooMany" 11 (by decide)) (hc "BadSort" 12 (by decide)) (hc "BadSide" 13 (by decide)) (hc "BadPicture" 14 (by decide)) (hc "NotNow" 15 (by decide)) (hc "BadPicks" 16 (by decide)) (hc "NotWhole" 17 (by decide)) (hc "NothingToUndo" 18 (by decide)) (hc "NothingToRedo" 19 (by decide)) (hc "BadText" 20 (by decide)) (hc "BadJournal" 21 (by decide)) (hc "BadLine" 22 (by decide)) kk T).mono (by decide), hg "_law_kinds_of" (by decide), FK.kp, FK.bindsN fun _ _ _ _ _ _ us hl => match us, hl with | [_], _ => rfl⟩⟩
  have kV : ∀ C ∈ cs0 K, PySem.W.kitOne K (.ref C) (.type "ValueError") = some true := fun C hC => of_decide_eq_true (Bool.and_eq_true_iff.mp (List.all_eq_true.mp e5 C hC)).1
  have kW : ∀ C ∈ cs0 K, PySem.W.kitOne K (.ref C) (.ref (He.ga K "WeaveError")) = some true := fun C hC => of_decide_eq_true (Bool.and_eq_true_iff.mp (List.all_eq_true.mp e5 C hC)).2
  have cRight : Cal P w K mg base 5 "_law_right" (spP K 4 (· = []) (fun _ d => d = .bl true)) := ⟨⟨_, _, _, ok_right (fun_ofD FR) hs (hf "all" (by decide)) (hf "isinstance" (by decide)) (hf "ValueError" (by decide)) (hf "enumerate" (by decide)) (hf "range" (by decide)) (hf "len" (by decide)) (hf "repr" (by decide))
    cOdd cAll cKinds cW T lc kV kW, hg "_law_right" (by decide), FR.kp, FR.bindsN fun _ _ _ _ _ _ us hl => match us, hl with | [_], _ => rfl⟩⟩
  exact ok_law (fun_ofD FL) (hf "all" (by decide)) (hf "range" (by decide)) (hf "len" (by decide)) (hf "max" (by decide)) (hf "min" (by decide)) cPot cRight
end Tp
open PySem PySem.W PySem.Calls PyProof.Rows
theorem PySem.Challenge.cw_treadplans_k00_errors_keep_their_value_holds : PySem.Challenge.rw_treadplans_k00_errors_keep_their_value.Holds := by
  w_on; o_law
  refine HandSHeadRun.head_any (r := OpenLaw.row PySem.Challenge.rw_treadplans_k00_errors_keep_their_value) (q := view (OpenLaw.row PySem.Challenge.rw_treadplans_k00_errors_keep_their_value).prog [33]) (H := Tp.hk0) (ob := Tp.ob0) (M := 8000) (loose := Tp.loose0) (d := HandSHeadRun.topDef (OpenLaw.row PySem.Challenge.rw_treadplans_k00_errors_keep_their_value).prog 33) (kwd := []) Tp.ob0_eq
    (by kernel_rfl) (fun s => by kernel_rfl) Tp.run0 (by kernel_rfl) (by kernel_rfl) (by kernel_rfl) (by rfl) (by first | assumption | decide +kernel) (by decide +kernel) ⟨rfl, rfl, rfl, rfl, rfl, by decide +kernel⟩ ?hw ?hc
  case hw => w_witness2
  case hc =>
    refine Tp.walkG (l := PySem.Challenge.rw_treadplans_k00_errors_keep_their_value) (n := 63) (k := 6) (x := "script") (CX := L2.CX0) rfl (by decide) (by kernel_rfl) ⟨rfl, by decide, by decide⟩ ?F (fun _ _ _ _ z => z)
    intro w mg fa h Y G hmg0
    obtain ⟨K, KX, c, e⟩ := Y
    have hmg : mg ("law" : PySem.Str) = some (.ref fa) := by
      have e : (HandSHeadRun.topDef (OpenLaw.row PySem.Challenge.rw_treadplans_k00_errors_keep_their_value).prog 33).name = ("law" : PySem.Str) := by kernel_rfl
      rw [← e]
      exact hmg0
    obtain ⟨fd, hb, hF⟩ := Tp.facts0 (P := (PySem.Challenge.rw_treadplans_k00_errors_keep_their_value).prog) (w := w) KX G hmg c e
    exact ⟨K, fd, Tp.spLaw K, KX, hb, fun H a ns hl _ hS => ⟨a, ns, rfl, hS, hl, fun _ => rfl⟩, hF⟩
