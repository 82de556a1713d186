import PyProof.Rows.All
import Wide.All
import OpenK.AllK
import Wide.FinOn
import HandS.ForMost
import HandS.Wide
import HandS.Conv
import HandS.TupAny
import HandS.Deep
import HandS.Steps
import HandS.NoneIn
import HandS.IsInst
import HandS.More
import HandS.Defaults
import HandS.TupSets
import HandS.SetKeys
import HandS.SetFor
import HandS.Strs
import HandS.Style
import HandS.More
import HandS.Wide
import HandS.EndBits
import HandS.SortKw
import HandS.Deep
import HandS.TryOnly
import HandS.Sort
import PySem.Challenge.RW_soleseat_k49_each_two_sets
set_option Elab.async false
set_option maxRecDepth 100000
set_option maxHeartbeats 1000000
set_option linter.all false
/-! Calls where nothing is under repr around: the layer's defs, with one premise more (no guard around). -/
namespace G0
open PySem PySem.Spec PyProof.Rows L2
structure FnG (P : Program) (w : World) (K : PySem.W.Frag) (mg : Str → Option Value) (base : Heap) (CX : CXT)
    (k : Nat) (f : Addr) (fd : FuncData) (ps : List Str) (sp : Sp) : Prop where
  args : ∀ zs G R W, sp zs G R W → zs.length = ps.length
  runs : ∀ (B : Around) (around : List Env) (t : Shared) (G : Hp) (given : Args) (bound : List Value) (zs : List V) (R : VK) (W : XK),
    B.guards = some [] → Room k B → Env0 P w K mg base B around t G →
    BindsTo t fd given (ps.zip bound) → Vals zs bound → sp zs G R W →
    codeAny (model P w) B (.call (.ref f) given) (CR CX around P w G t R W) t
theorem FnG.of {P : Program} {w : World} {K : PySem.W.Frag} {mg : Str → Option Value} {base : Heap} {CX : CXT}
    {k : Nat} {f : Addr} {fd : FuncData} {ps : List Str} {sp : Sp} (F : FnOk P w K mg base CX k f fd ps sp) :
    FnG P w K mg base CX k f fd ps sp :=
  ⟨F.len, fun B around t G given bound zs R W _ hr => F.run B around t G given bound zs R W hr⟩
theorem FnG.mono {P : Program} {w : World} {K : PySem.W.Frag} {mg : Str → Option Value} {base : Heap} {CX : CXT}
    {j k : Nat} {f : Addr} {fd : FuncData} {ps : List Str} {sp : Sp} (F : FnG P w K mg base CX j f fd ps sp) (h : j ≤ k) :
    FnG P w K mg base CX k f fd ps sp :=
  ⟨F.args, fun B around t G given bound zs R W hg hr => F.runs B around t G given bound zs R W hg (hr.mono h)⟩
section
variable {X : Cx} {CX : CXT} {k : Nat} {f : Addr} {fd : FuncData} {ps : List Str} {sp : Sp}
  {dvs : List V} {ds : List Value} {E : XK} {x : Str} {p pos : Pos} {e : Expr} {es : List Expr} {t : TA}
theorem goes {pins : List (Addr × Obj)} {σ : L2.St} {H : Hp} {s : Shared} {Q : VK} {us : List Value} {vs : List V}
    (F : FnG X.prog X.w X.K X.mg X.base CX k f fd ps sp) (free : X.A.guards = some []) (hr : Room k X.A)
    (hb : Binds X.K fd ps ds) (hd : Vals dvs ds) (hx : Passes CX X E)
    (I : Inv X pins σ H s) (r : Vals vs us) (h : sp (vs ++ dvs) H Q E) :
    wpAny (model X.prog X.w) X.A (call (.ref f) us) (EP X pins σ Q) X.xe s := by
  have both : Vals (vs ++ dvs) (us ++ ds) := r.append hd
  have many : (us ++ ds).length = ps.length := both.length.symm.trans (F.args _ _ _ _ h)
  have it := F.runs X.A X.stack s H ⟨us, []⟩ (us ++ ds) (vs ++ dvs) Q E free hr I.env0 (hb s us I.kIn many) both h
  refine wpAny_call (codeAny_mono it fun out s' told => ?_)
  match out, told with
  | .error e, told => exact hx pins σ H s e s' I told
  | .ok (.ret u), told => exact I.after told
  | .ok .next, told => exact told.elim
  | .ok .brk, told => exact told.elim
  | .ok .cont, told => exact told.elim
theorem pe_callG (F : FnG X.prog X.w X.K X.mg X.base CX k f fd ps sp) (free : X.A.guards = some []) (hr : Room k X.A)
    (hg : Gl X x) (hm : X.mg x = some (.ref f)) (hk : PySem.W.keepIn X.K (.ref f) = true)
    (hb : Binds X.K fd ps ds) (hd : Vals dvs ds) (hx : Passes CX X E) (ha : PA X (e :: es) t)
    (n1 : (x == ("__debug__" : Str)) = false := by decide)
    (n2 : starEach (e :: es) X.env = (false, eval e X.env) :: starEach es X.env := by rfl)
    (n3 : (backTo pos (starEach es X.env)).any (·.1) = false := by rfl) :
    PE X (.Call (.Name x p) (e :: es) [] pos) (tCall sp dvs E t) :=
  ⟨fun pins s σ H Q I h => wpAny_Call_Name_kw (ld_glob I hg hm
    (PySem.W.callWith_K (h₀ := X.base) I.ok.mod.kin hk
      (thn (ha.run pos pins s σ H _ I h) fun us s1 ⟨vs, H1, I1, r, q⟩ =>
        ⟨I1.kIn, goes F free hr hb hd hx I1 r q⟩) n2 n3) n1)⟩
end
/-- a def's body, where nothing is under repr -/
theorem fnG_of {CX : CXT} {P : Program} {w : World} {K : PySem.W.Frag} {mg : Str → Option Value} {base : Heap} {k : Nat}
    {f : Addr} {name qual : Str} {params : Arguments} {body : List Stmt} {scope : Scope} {dV kV doc pm cdv ct oc : Value}
    {an od : Option Addr} {osl : Array (Option Value)} {N ps : List Str} {sp : Sp}
    (lk : K.lookup f = some ⟨oc, od, .func (PySem.W.fnOf name qual params body scope dV kV doc pm an cdv ct), osl⟩)
    (coded : PySem.W.codeIn K cdv qual = true) (S : FnScope N ps scope)
    (len : ∀ zs G R W, sp zs G R W → zs.length = ps.length)
    (inner : ∀ (B : Around) (around : List Env) (t : Shared) (G : Hp) (zs : List V) (R : VK) (W : XK), B.guards = some [] →
      Room k (B.deeper (envOfC qual scope t.heap.objs.size f cdv)) → sp zs G R W →
      ∃ tb, PSs (cxOf CX P w K mg base N qual scope f cdv B around t G W) body tb ∧
        tb { nx := fun _ G' => R .non G', rt := R } (start N zs) G) :
    FnG P w K mg base CX (k + 1) f (PySem.W.fnOf name qual params body scope dV kV doc pm an cdv ct) ps sp := by
  refine ⟨len, fun B around t G given bound zs R W free room e0 bd rel asked => ?_⟩
  have many := len _ _ _ _ asked
  have KX : K.In t.heap := e0.mod.kin.keeps fun b o z => (e0.bs b o z).1
  have lim : t.heap.NoLimit := e0.mod.nolimit.keeps fun b o z => (e0.bs b o z).1
  have kinds : ∀ y ∈ ps.zip bound, scope.names.lookup y.1 = some .local ∨
      (scope.names.lookup y.1 = some .cell ∧ ((cellsFrom (t.heap.objs.size + 1) scope.names []).lookup y.1).isSome = true) := by
    intro y hy
    cases S.par y.1 (List.of_mem_zip hy).1 with
    | inl q => exact .inl q
    | inr q => exact .inr ⟨q, PySem.W.cellsFrom_some _ _ _ (.inl q)⟩
  refine codeAny_call_function room.depth (KX _ _ lk) rfl S.co S.gen rfl (PySem.W.codeRec_of KX coded) (bd _ _ _ _ ?_)
  refine wpAny_newFunctionEnv_cells S.kind kinds fun env same t1 made => ?_
  subst same
  refine ⟨lim.keeps made.toInCall.keep, codeAny_func ?_⟩
  obtain ⟨tb, derived, holds⟩ := inner B around t G zs R W free (room.deeper _) asked
  have J : Inv (cxOf CX P w K mg base N qual scope f cdv B around t G W) [] (start N zs) G t1 :=
    inv_start S room.hd e0 many rel made
  refine wpAny_mono (derived.run [] t1 (start N zs) G _ J holds) (fun fl t' told => ?_) fun e t' told => told
  match fl, told with
  | .ret u, ⟨v, σ', G', J', rv, q⟩ => exact ⟨v, G', J'.os, J'.bare, J'.base, J'.hok, rv, q⟩
  | .next, ⟨σ', G', J', q⟩ => exact ⟨V.non, G', J'.os, J'.bare, J'.base, J'.hok, (rfl : Value.none = Value.none), q⟩
  | .brk, ⟨_, _, _, q⟩ => exact q.elim
  | .cont, ⟨_, _, _, q⟩ => exact q.elim
theorem okG {P : Program} {w : World} {K : PySem.W.Frag} {mg : Str → Option Value} {base : Heap} {x qual : Str} {st : Stmt}
    {f : Addr} {fd : FuncData} {N ps : List Str} {k : Nat} {sp : Sp} (F : Fun K x qual st f fd) (S : FnScope N ps (defScope st))
    (len : ∀ zs G R W, sp zs G R W → zs.length = ps.length)
    (inner : ∀ (cdv : Value) (B : Around) (around : List Env) (t : Shared) (G : Hp) (zs : List V) (R : VK) (W : XK), B.guards = some [] →
      Room k (B.deeper (envOfC qual (defScope st) t.heap.objs.size f cdv)) → sp zs G R W →
      ∃ tb, PSs (cxOf CX0 P w K mg base N qual (defScope st) f cdv B around t G W).nox (defBody st) tb ∧
        tb { nx := fun _ G' => R .non G', rt := R } (start N zs) G) :
    FnG P w K mg base CX0 (k + 1) f fd ps sp := by
  obtain ⟨oc, od, kV, doc, pm, an, cdv, ct, osl, rfl, lk, coded⟩ := F.ex
  refine fnG_of lk coded S len fun B around t G zs R W free room asked => ?_
  obtain ⟨tb, derived, holds⟩ := inner cdv B around t G zs R W free room asked
  exact ⟨tb, derived.nox, holds⟩
/-- the law's own call -/
theorem law_callG {P : Program} {w : World} {K : PySem.W.Frag} {mg mb : Str → Option Value} {CX : CXT} {k : Nat} {fa a : Addr}
    {fd : FuncData} {x : Str} {sp : Sp} {s₁ : Shared} {vs : List Value} {ns : List Int}
    (KX : K.In s₁.heap) (gl : s₁.heap.Ns mainGlobals mg) (bl : s₁.heap.Ns builtinsNs mb)
    (boot : ∀ x : Str, x ≠ "__name__" → mb x = bootBuiltins x) (lim : s₁.heap.NoLimit) (nogens : s₁.gens = #[])
    (at_ : s₁.heap.get? a = some { cls := .type "list", data := .seq vs.toArray }) (nums : IntsAre vs ns) (short : ns.length ≤ sizeLine)
    (room : Room k callerA)
    (F : ∀ base : Heap, K.In base → base.Ns mainGlobals mg → FnG P w K mg base CX k fa fd [x] sp)
    (bound : ∀ (s : Shared) (u : Value), BindsTo s fd ⟨[u], []⟩ [(x, u)])
    (asked : ∀ H : Hp, Only H → SqL K H a (ns.map V.int) → sp [.ref a] H (fun v _ => v = .bl true) fun _ _ _ => False)
    (never : ∀ H e s', CX [] H s₁ (fun _ _ _ => False) e s' → False) :
    codeAny (model P w) callerA (.call (.ref fa) ⟨[.ref a], []⟩)
      (fun r s' => r = .ok (.ret (.bool true)) ∧ OldK s₁.heap s'.heap ∧ s'.os = s₁.os ∧ AllBare s'.gens) s₁ := by
  have rel := vals_ints nums
  have many := nums.length
  have from_ : ∀ H : Hp, Only H → SqL K H a (ns.map V.int) → HOk P w H s₁.heap → (∀ b, H b ≠ none → b = a) →
      (H a ≠ none → K.lookup a = none) → codeAny (model P w) callerA (.call (.ref fa) ⟨[.ref a], []⟩)
        (fun r s' => r = .ok (.ret (.bool true)) ∧ OldK s₁.heap s'.heap ∧ s'.os = s₁.os ∧ AllBare s'.gens) s₁ := by
    intro H only seq fine one away
    have down : ∀ {b : Addr} {o : Obj}, s₁.heap.get? b = some o → H b = none →
      (hidT s₁.heap H).get? b = some o := fun e n => hidT_get e n
    have untracked : ∀ {b : Addr} {o : Obj}, s₁.heap.get? b = some o → (b = a → False) → H b = none := by
      intro b o _ n
      by_cases q : H b = none
      · exact q
      · exact (n (one b q)).elim
    have nodict : ∀ {b : Addr} {o : Obj} {es : Array DictEntry} {ep : Nat},
        s₁.heap.get? b = some o → o.data = .dict es ep → H b = none := by
      intro b o es ep e d
      refine untracked e fun q => ?_
      rw [q, at_] at e
      have e' := Option.some.inj e
      rw [← e'] at d
      have d' : Data.seq vs.toArray _ = Data.dict es ep := d
      exact absurd d' (fun h => by cases h)
    have spaces : ∀ {b : Addr} {m : Str → Option Value}, s₁.heap.Ns b m → (hidT s₁.heap H).Ns b m := by
      intro b m ns
      obtain ⟨o, es, ep, e, d, r⟩ := ns
      exact ⟨o, es, ep, down e (nodict e d), d, r⟩
    have written : K.In (hidT s₁.heap H) := by
      intro b o e
      refine down (KX b o e) ?_
      by_cases q : H b = none
      · exact q
      · have same := one b q
        rw [same] at q e
        rw [away q] at e
        cases e
    have md : Mod K mg (hidT s₁.heap H) := by
      obtain ⟨mc, h1, h2⟩ := lim
      exact ⟨written, spaces gl, ⟨mb, spaces bl, boot⟩, ⟨mc, spaces h1, h2⟩⟩
    have e0 : Env0 P w K mg (hidT s₁.heap H) callerA [] s₁ H :=
      ⟨rfl, md, fun b o e => of_hidT e, Nat.le_of_eq (hidT_size _ _), trivial,
        fun b hb => (List.not_mem_nil (show b ∈ ([] : List Addr) from hb)).elim, fine, .of_eq nogens⟩
    have it := (F _ written (spaces gl)).runs callerA [] s₁ H ⟨[.ref a], []⟩ [.ref a] [.ref a] _ _ rfl room e0
      (bound s₁ (.ref a)) (.cons rfl .nil) (asked H only seq)
    refine codeAny_mono it fun out s' told => ?_
    match out, told with
    | .error e, told => exact (never H e s' told).elim
    | .ok .next, told => exact told.elim
    | .ok .brk, told => exact told.elim
    | .ok .cont, told => exact told.elim
    | .ok (.ret u), ⟨v, H', os, bare, un, fine', r', q⟩ =>
      have q' : v = .bl true := q
      subst q'
      have u' : u = Value.bool true := r'
      subst u'
      refine ⟨rfl, OldK.of_keep fun b o e => ?_, os, bare⟩
      cases q : H b with
      | none => exact un.keep b o e q (fun z => (List.not_mem_nil (show b ∈ ([] : List Addr) from z)).elim) (List.not_mem_nil)
      | some u =>
        rcases only b with z | ⟨ob, xs, z⟩
        · have z1 := q.symm.trans z
          cases z1
        · have z' := un.frzs b ob _ z
          have e1 := (fine b _ z).1
          have e2 := (fine' b _ z').1
          exact e2.trans (e1.symm.trans e)
  cases known : K.lookup a with
  | some o =>
    have e := (KX a o known).symm.trans at_
    have e' := Option.some.inj e
    subst e'
    refine from_ (fun _ => none) (fun _ => .inl rfl) (.inr ⟨_, vs.toArray, _, known, rfl, rfl, rfl, ?_, ?_⟩)
      (fun b u z => by have z1 : (none : Option HO) = some u := z; cases z1) (fun b z => (z rfl).elim) fun z => (z rfl).elim
    · rw [List.size_toArray, many]; exact short
    · simpa using rel
  | none =>
    have self : (fun b => if b = a then some (HO.frz { cls := .type "list", data := .seq vs.toArray } (.lst (ns.map V.int))) else none) a
        = some (HO.frz { cls := .type "list", data := .seq vs.toArray } (.lst (ns.map V.int))) := if_pos rfl
    refine from_ (fun b => if b = a then some (HO.frz { cls := .type "list", data := .seq vs.toArray } (.lst (ns.map V.int))) else none)
      (fun b => ?_) (.inl (.inr ⟨_, self⟩)) (fun b u z => ?_) (fun b z => ?_) fun _ => known
    · by_cases same : b = a
      · exact .inr ⟨_, _, if_pos same⟩
      · exact .inl (if_neg same)
    · by_cases same : b = a
      · subst same
        have z' := Option.some.inj ((if_pos rfl).symm.trans z)
        subst z'
        exact ⟨at_, by rw [List.length_map]; exact short, vs, _, rel, at_⟩
      · have z1 := (if_neg same).symm.trans z
        cases z1
    · by_cases same : b = a
      · exact same
      · exact (z (if_neg same)).elim
theorem walk_ofG {l : PySem.W.OpenLaw} {n k : Nat} {q : Program} {loose : List Str} {XP : (Str → Option Value) → Heap → Prop}
    {YP : World → Heap → Prop} {d : DefRec} {K : Params → PySem.W.Frag} {sp : PySem.W.Frag → Sp} {x : Str}
    (hn : l.most = some n) (hn2 : n ≤ sizeLine) (hdf : d.params.defaults = []) (room : Room k callerA)
    (hY : ∀ (w : World) (h : Heap), YP w h → (K w.params).In h)
    (F : ∀ (w : World) (mg : Str → Option Value) (fa : Addr) (h : Heap), (K w.params).In h → h.Ns mainGlobals mg →
      mg d.name = some (.ref fa) → ∃ fd : FuncData, (∀ (s : Shared) (u : Value), BindsTo s fd ⟨[u], []⟩ [(x, u)]) ∧
        ∀ base : Heap, (K w.params).In base → base.Ns mainGlobals mg →
          FnG l.prog w (K w.params) mg base CX0 k fa fd [x] (sp (K w.params)))
    (asked : ∀ (K : PySem.W.Frag) (H : Hp) (a : Addr) (ns : List Int), ns.length ≤ n → Only H → SqL K H a (ns.map V.int) →
      sp K [.ref a] H (fun v _ => v = .bl true) fun _ _ _ => False) :
    PySem.W.WalkO q loose XP YP l.row.toRowW d [] (fun f vs => PySem.call f vs) := by
  refine Att.attach_call hn hdf fun w s₀ s₁ mg mb fa o pm cd doc a vs ns G Y ho hd hcd named obj nums few nogens => ?_
  have KX := hY w _ Y
  obtain ⟨fd, bound, all⟩ := F w mg fa _ KX G.T.g named
  exact law_callG KX G.T.g G.T.b G.T.builtins G.T.nolimit nogens obj nums (Nat.le_trans few hn2) room all bound
    (fun H only seq => asked _ H a ns few only seq) fun H e s' z => z
end G0
namespace G0
open PySem PySem.Spec PyProof.Rows L2
/-! ### a def of the module's top, by its name -/
def Fn (K : PySem.W.Frag) (mg : Str → Option Value) (x : Str) (st : Stmt) : Prop :=
  ∃ f fd, Fun K x x st f fd ∧ mg x = some (.ref f)
def Cal (P : Program) (w : World) (K : PySem.W.Frag) (mg : Str → Option Value) (base : Heap) (x : Str) (k : Nat) (ps : List Str) (sp : Sp) : Prop :=
  ∃ f fd, FnG P w K mg base CX0 k f fd ps sp ∧ Binds K fd ps [] ∧ mg x = some (.ref f) ∧ PySem.W.keepIn K (.ref f) = true ∧
    ∃ oc od osl, K.lookup f = some ⟨oc, od, .func fd, osl⟩
theorem fn_top {K : PySem.W.Frag} {h : Heap} {mg : Str → Option Value} {x : Str} {st : Stmt} {f : Addr} {oc : Value} {od an : Option Addr}
    {osl : Array (Option Value)} {kV doc pm cdv ct : Value} (X : K.In h) (G : h.Ns mainGlobals mg)
    (a : PySem.W.nsIn K mainGlobals x = some (some (.ref f)))
    (l : K.lookup f = some ⟨oc, od, .func (PySem.W.fnOf x x (defArgs st) (defBody st) (defScope st) .none kV doc pm an cdv ct), osl⟩)
    (c : PySem.W.codeIn K cdv x = true) (k : PySem.W.keepIn K (.ref f) = true) : Fn K mg x st :=
  ⟨f, _, fun_mk l c k, PySem.W.mg_of X G a⟩
/-- a method of the class at C -/
def Fm (K : PySem.W.Frag) (C : Addr) (x qual : Str) (st : Stmt) : Prop := ∃ f fd, Fun K x qual st f fd ∧ Meth K C x f
theorem fm_top {K : PySem.W.Frag} {C : Addr} {x qual : Str} {st : Stmt} {f : Addr} {oc : Value} {od an : Option Addr}
    {osl : Array (Option Value)} {kV doc pm cdv ct : Value}
    (a : PySem.W.findIn K (.ref C) x = some (some (.ref f))) (i : PySem.W.isFn K (.ref f) = true)
    (l : K.lookup f = some ⟨oc, od, .func (PySem.W.fnOf x qual (defArgs st) (defBody st) (defScope st) .none kV doc pm an cdv ct), osl⟩)
    (c : PySem.W.codeIn K cdv qual = true) (k : PySem.W.keepIn K (.ref f) = true) : Fm K C x qual st :=
  ⟨f, _, fun_mk l c k, ⟨a, i, k⟩⟩
section
variable {P : Program} {w : World} {K : PySem.W.Frag} {mg : Str → Option Value} {base : Heap}
theorem cal_of {x : Str} {st : Stmt} {N ps : List Str} {k : Nat} {sp : Sp} (F : Fn K mg x st) (S : FnScope N ps (defScope st))
    (bd : ∀ (kV doc pm : Value) (an : Option Addr) (cdv ct : Value) (us : List Value), us.length = ps.length →
      bindArgs (PySem.W.fnOf x x (defArgs st) (defBody st) (defScope st) .none kV doc pm an cdv ct) ⟨us, []⟩ = pure (ps.zip us))
    (len : ∀ zs G R W, sp zs G R W → zs.length = ps.length)
    (inner : ∀ (f : Addr) (cdv : Value) (B : Around) (around : List Env) (t : Shared) (G : Hp) (zs : List V) (R : VK) (W : XK), B.guards = some [] →
      Room k (B.deeper (envOfC x (defScope st) t.heap.objs.size f cdv)) → sp zs G R W →
      ∃ tb, PSs (cxOf CX0 P w K mg base N x (defScope st) f cdv B around t G W).nox (defBody st) tb ∧
        tb { nx := fun _ G' => R .non G', rt := R } (start N zs) G) :
    Cal P w K mg base x (k + 1) ps sp := by
  obtain ⟨f, fd, F, m⟩ := F
  obtain ⟨oc, od, kV, doc, pm, an, cdv, ct, osl, e, lk, c⟩ := id F.ex
  exact ⟨f, fd, okG F S len (inner f), F.binds bd, m, F.kp, oc, od, osl, lk⟩
theorem Cal.mono {x : Str} {j k : Nat} {ps : List Str} {sp : Sp} (C : Cal P w K mg base x j ps sp) (h : j ≤ k) : Cal P w K mg base x k ps sp := by
  obtain ⟨f, fd, F, r⟩ := C
  exact ⟨f, fd, F.mono h, r⟩
/-- the law itself, at the end -/
theorem law_end {st : Stmt} {k : Nat} {sp : Sp} {fa : Addr} (F : Fn K mg "law" st) (hm : mg "law" = some (.ref fa))
    (bt : ∀ (kV doc pm : Value) (an : Option Addr) (cdv ct : Value) (s : Shared) (v : Value),
      BindsTo s (PySem.W.fnOf "law" "law" (defArgs st) (defBody st) (defScope st) .none kV doc pm an cdv ct) ⟨[v], []⟩ [("script", v)])
    (C : ∀ base : Heap, K.In base → base.Ns mainGlobals mg → Cal P w K mg base "law" k ["script"] sp) :
    ∃ fd : FuncData, (∀ (s : Shared) (v : Value), BindsTo s fd ⟨[v], []⟩ [("script", v)]) ∧
      ∀ base : Heap, K.In base → base.Ns mainGlobals mg → FnG P w K mg base CX0 k fa fd ["script"] sp := by
  obtain ⟨f, fd, F, m⟩ := F
  obtain ⟨oc, od, kV, doc, pm, an, cdv, ct, osl, e, lk, c⟩ := id F.ex
  have ef := m.symm.trans hm
  cases ef
  refine ⟨fd, fun s v => by rw [e]; exact bt _ _ _ _ _ _ s v, fun base kin ns => ?_⟩
  obtain ⟨f', fd', G, _, m', _, oc', od', osl', lk'⟩ := C base kin ns
  have ef := m.symm.trans m'
  cases ef
  have ed := lk.symm.trans lk'
  cases ed
  exact G
end
section
variable {X : Cx} {k : Nat} {ps : List Str} {sp : Sp} {x : Str} {p pos : Pos} {e : Expr} {es : List Expr} {t : TA}
theorem pe_cal (C : Cal X.prog X.w X.K X.mg X.base x k ps sp) (free : X.A.guards = some []) (hr : Room k X.A)
    (ha : PA X (e :: es) t) (hg : Gl X x := by rfl) (n1 : (x == ("__debug__" : Str)) = false := by decide)
    (n2 : starEach (e :: es) X.env = (false, eval e X.env) :: starEach es X.env := by rfl)
    (n3 : (backTo pos (starEach es X.env)).any (·.1) = false := by rfl) (hx : Passes CX0 X E0 := by exact pass0) :
    PE X (.Call (.Name x p) (e :: es) [] pos) (tCall sp [] E0 t) := by
  obtain ⟨f, fd, F, b, m, kp, _⟩ := C
  exact pe_callG F free hr hg m kp b .nil hx ha n1 n2 n3
/-! ### repr of data -/
def rRep (K : PySem.W.Frag) : List V → Hp → VK → Prop := fun xs H Q => ∃ (x : V) (d : PyData), xs = [x] ∧ Dp K H x d ∧
  d.showable = true ∧ d.hasDict = false ∧ d.depth ≤ 64 ∧ d.shown.length ≤ sizeLine ∧ Q (.str d.shown) H
theorem call_rep (free : X.A.guards = some []) (hu : X.A.units + 66 < cLine) : CallR X (.builtin "repr") (rRep X.K) := by
  intro pins s σ H xs us Q I r h
  obtain ⟨x, d, rfl, hd, hs, hn, h64, hz, q⟩ := h
  obtain ⟨u, rfl, rx⟩ := vals1 r
  have viaRef : ∀ (a : Addr), x = .ref a → wpAny (model X.prog X.w) X.A (call (.builtin "repr") [u]) (EP X pins σ Q) X.xe s := by
    intro a e
    subst e
    obtain rfl : u = Value.ref a := rx
    obtain ⟨as, rd⟩ := Dp.reads I d _ _ hd (rfl : RelV (.ref a) (.ref a))
    exact repr_of_reads' rd hs (PyData.noDict_hsm hn) free (by omega) (fun _ _ e => e)
      (fun h' w t kp => ⟨.str d.shown, H, I.kept (t' := t) kp, ⟨_, rfl⟩, q⟩) hz
  cases hd with
  | non =>
    obtain rfl : u = Value.none := rx
    exact PySem.P.repr_of_none ⟨.str _, H, I.tok _, ⟨_, rfl⟩, by simpa only [PyData.shown] using q⟩
  | bl b =>
    obtain rfl : u = Value.bool b := rx
    exact PySem.P.repr_of_bool ⟨.str _, H, I.tok _, ⟨_, rfl⟩, by simpa only [PyData.shown] using q⟩
  | int i =>
    obtain ⟨t, rfl⟩ := rx
    exact PySem.P.repr_of_int (by simpa [PyData.showable] using hs) ⟨.str _, H, I.tok _, ⟨_, rfl⟩, by simpa only [PyData.shown] using q⟩
  | str z =>
    obtain ⟨t, rfl⟩ := rx
    exact PySem.P.repr_of_str ⟨.str _, H, I.tok _, ⟨_, rfl⟩, by simpa only [PyData.shown] using q⟩ (by simpa only [PyData.shown] using hz)
  | lst _ _ => exact viaRef _ rfl
  | tup _ _ => exact viaRef _ rfl
/-! ### operators of several kinds in one -/
theorem u_eq (hu : X.A.units + 64 < cLine) : OpR X (compareOp .Eq) (fun x y H Q => rEq x y H Q ∨ rEqD X.K x y H Q) := op_eq.or (op_eqD hu)
theorem u_ne (hu : X.A.units + 64 < cLine) : OpR X (compareOp .NotEq) (fun x y H Q => rNe x y H Q ∨ rNeD X.K x y H Q) := op_ne.or (op_neD hu)
theorem u_in : OpR X (compareOp .In) (fun x y H Q => rIn X.K false x y H Q ∨ rInS x y H Q) := op_in_seq.or op_inS
theorem u_notin : OpR X (compareOp .NotIn) (fun x y H Q => rIn X.K true x y H Q ∨ rNotInS x y H Q) := op_notIn_seq.or op_notInS
end
theorem pe_fldK {X : Cx} {e : Expr} {f : Str} {pos : Pos} {ta : TE} (K : PySem.W.Frag) (ha : PE X e ta) (hK : X.K = K := by rfl)
    (hb : attributeBase e f X.env (eval e X.env) = eval e X.env := by rfl) : PE X (.Attribute e f pos) (tFld K ta f) := by
  subst hK
  exact pe_fld ha hb
/-! ### the written part named, for what stands within a comprehension -/
theorem op_K {X : Cx} {f : Value → Value → Sem Value} (r : PySem.W.Frag → R2) (K : PySem.W.Frag) (ho : OpR X f (r X.K)) (hK : X.K = K) : OpR X f (r K) := hK ▸ ho
theorem ix_K {X : Cx} (r : PySem.W.Frag → R2) (K : PySem.W.Frag) (ho : IxR X (r X.K)) (hK : X.K = K) : IxR X (r K) := hK ▸ ho
theorem call_K {X : Cx} {f : Value} (r : PySem.W.Frag → List V → Hp → VK → Prop) (K : PySem.W.Frag) (ho : CallR X f (r X.K)) (hK : X.K = K) : CallR X f (r K) := hK ▸ ho
section
variable {X : Cx} (K : PySem.W.Frag)
theorem u_inK (hK : X.K = K := by rfl) : OpR X (compareOp .In) (fun x y H Q => rIn K false x y H Q ∨ rInS x y H Q) := op_K (fun K x y H Q => rIn K false x y H Q ∨ rInS x y H Q) K u_in hK
theorem u_notinK (hK : X.K = K := by rfl) : OpR X (compareOp .NotIn) (fun x y H Q => rIn K true x y H Q ∨ rNotInS x y H Q) := op_K (fun K x y H Q => rIn K true x y H Q ∨ rNotInS x y H Q) K u_notin hK
theorem ix_listK (hK : X.K = K := by rfl) : IxR X (rIxL K) := ix_K rIxL K ix_list hK
theorem ix_tupK (hK : X.K = K := by rfl) : IxR X (rIxT K) := ix_K rIxT K ix_tup hK
theorem ix_seqK (hK : X.K = K := by rfl) : IxR X (rIx K) := ix_K rIx K ix_seq hK
theorem call_len_seqK (hK : X.K = K := by rfl) : CallR X (.builtin "len") (fun xs H Q => ∃ p ys, xs = [.ref p] ∧ (SqL K H p ys ∨ SqT K H p ys) ∧ Q (.int ys.length) H) :=
  call_K (fun K xs H Q => ∃ p ys, xs = [.ref p] ∧ (SqL K H p ys ∨ SqT K H p ys) ∧ Q (.int ys.length) H) K call_len_seq hK
end
/-! ### what changes: one list -/
/-- all that is tracked but p stays -/
def Chg (p : Addr) (H H' : Hp) : Prop := ∀ b o, b ≠ p → H b = some o → H' b = some o
theorem Chg.refl (p : Addr) (H : Hp) : Chg p H H := fun _ _ _ e => e
theorem Chg.trans {p : Addr} {H H1 H2 : Hp} (a : Chg p H H1) (b : Chg p H1 H2) : Chg p H H2 := fun c o n e => b c o n (a c o n e)
theorem Chg.self {p : Addr} {H : Hp} {o : HO} : Chg p H (upd H p o) := fun b u n e => by rw [upd_ne n]; exact e
theorem Chg.new {p q : Addr} {H H1 : Hp} {o : HO} (a : Chg p H H1) (n : H1 q = none) : Chg p H (upd H1 q o) := fun b u m e => by
  rw [upd_ne (ne_of_none (a b u m e) n)]; exact a b u m e
theorem Chg.same {p : Addr} {H H1 : Hp} (a : Same H H1) : Chg p H H1 := fun b o _ e => a b o e
theorem same_upd {H : Hp} {q : Addr} {o : HO} (n : H q = none) : Same H (upd H q o) := fun b u e => by
  rw [upd_ne (ne_of_none e n)]; exact e
/-! ### a law's draws: the pot -/
def PotL (n : Nat) (xs : List V) : Prop := ∃ a b c : Int, xs = [.int a, .int b, .int c] ∧ 0 ≤ a ∧ 0 ≤ b ∧ b < 2305843009213693951 ∧ 0 ≤ c ∧ c ≤ n
def PotAt (n : Nat) (H : Hp) (p : Addr) : Prop := ∃ xs, H p = some (.lst xs) ∧ PotL n xs
theorem PotL.mono {n m : Nat} {xs : List V} (h : PotL n xs) (le : n ≤ m) : PotL m xs := by
  obtain ⟨a, b, c, e, h1, h2, h3, h4, h5⟩ := h
  exact ⟨a, b, c, e, h1, h2, h3, h4, by omega⟩
theorem PotAt.mono {n m : Nat} {H : Hp} {p : Addr} (h : PotAt n H p) (le : n ≤ m) : PotAt m H p := by
  obtain ⟨xs, e, h⟩ := h
  exact ⟨xs, e, h.mono le⟩
theorem PotAt.keep {n : Nat} {H H' : Hp} {p : Addr} (h : PotAt n H p) (s : Same H H') : PotAt n H' p := by
  obtain ⟨xs, e, h⟩ := h
  exact ⟨xs, s _ _ e, h⟩
theorem PotAt.at {n : Nat} {H : Hp} {p : Addr} {xs : List V} (h : PotL n xs) : PotAt n (upd H p (.lst xs)) p := ⟨xs, upd_same, h⟩
end G0
namespace G0
open PySem PySem.Spec PyProof.Rows L2
/-! ### a set of tuples of ints that grows: set(), t in seen, seen.add(t) -/
def spot (t : SetTable) (h : Int) (c : Nat) : SetTable.Probe := nth t.mask (runAt t.mask (SetTable.bits h % (t.mask + 1)) (SetTable.bits h)) c
theorem spot_dummy (t : SetTable) (h : Int) : ∀ c, (spot t h c).dummy = none
  | 0 => rfl
  | c + 1 => by
    have ih := spot_dummy t h c
    unfold spot at ih ⊢
    rw [nth_succ]
    unfold adv
    split
    · exact ih
    · exact ih
theorem spot_on (t : SetTable) (h : Int) (c q : Nat) : nth t.mask (spot t h c) q = spot t h (c + q) := (nth_add t.mask c _ q).symm
theorem spot_place (t : SetTable) (h : Int) (c : Nat) : (spot t h c).j = way t.mask h c := rfl
section
variable {P : Program} {w : World} {A : Around} {E : Value → Shared → Prop} {s : Shared} {a : Addr} {L : List (Addr × List Int)} {es : Array (Int × Value)} {ep : Nat} {t : SetTable} {x : Addr} {k : List Int}
def heldAt (es : Array (Int × Value)) : Nat → Int := fun i => (es[i]?.map (·.1)).getD 0
theorem heldAt_of (R : SetTR P w s.heap a L es ep t) {i : Nat} {p : Addr × List Int} (hp : L[i]? = some p) : heldAt es i = thash P w p.2 := by
  unfold heldAt
  rw [R.entry hp]
  rfl
/-- looking for a tuple, from the c-th place of its way on; K: the first empty one -/
theorem look_on (R : SetTR P w s.heap a L es ep t) (hx : IsT P w s.heap k x) (room : A.units < cLine) {K : Nat} (few : K < 10 * SetTable.turns t.mask) (open_ : way t.mask (thash P w k) K ∉ t.place.toList)
    (shut : ∀ c, c < K → way t.mask (thash P w k) c ∈ t.place.toList) {Q : SetFound → Shared → Prop} (yes : k ∈ L.map (·.2) → ∀ i, Q (.there (some i)) s) (no : k ∉ L.map (·.2) → ∀ j, Q (.free j false) s) :
    ∀ (fuel c : Nat) (stand : Option SetTable.Probe), stand.getD (t.probeStart (thash P w k)) = spot t (thash P w k) c → c ≤ K → K < c + fuel →
      (∀ (i : Nat) (p : Addr × List Int), L[i]? = some p → p.2 = k → ∃ d, c ≤ d ∧ d < K ∧ t.place.toList[i]? = some (way t.mask (thash P w k) d)) →
      wpAny (model P w) A (setSearchFrom a (.ref x) (thash P w k) false fuel stand) Q E s
  | 0, c, stand, _, le, lt, _ => absurd lt (by omega)
  | fuel + 1, c, stand, st, le, lt, ahead => by
    obtain ⟨o, ho, _, od⟩ := R.ob
    rw [setSearchFrom_succ]
    refine wpAny_bind (wpAny_setState_of ho od R.fits ?_)
    dsimp only
    refine wp_if_neg R.gw ?_
    try refine wpAny_bind (wpAny_pure ?_)
    have told := go_spec t R.tab.ris R.tab.dm (heldAt es) (thash P w k) (10 * SetTable.turns t.mask) (K - c) (spot t (thash P w k) c) (spot_dummy ..) (by omega)
      (fun q lq => by rw [spot_on, spot_place]; exact shut _ (by omega)) (by rw [spot_on, spot_place, show c + (K - c) = K by omega]; exact open_)
    rcases told with ⟨q, i, lq, at_, _, first, pr⟩ | ⟨never, pr⟩
    · rw [spot_on, spot_place] at at_
      have pr' : t.probe (heldAt es) (thash P w k) (stand.getD (t.probeStart (thash P w k))) = some (.candidate (way t.mask (thash P w k) (c + q)) i (spot t (thash P w k) (c + (q + 1)))) := by
        rw [st, ← spot_place, ← spot_on, ← spot_on]
        exact pr
      show wpAny _ _ (do
        let some met := t.probe (heldAt es) (thash P w k) (stand.getD (t.probeStart (thash P w k))) | unsupported "internal:set-table-without-an-empty-slot"
        _) _ _ _
      rw [pr']
      dsimp only
      have il : i < L.length := by
        have z1 : i < t.place.toList.length := (List.getElem?_eq_some_iff.mp at_).1
        have z2 := R.tab.sz
        rw [List.length_map] at z2
        rw [Array.length_toList] at z1
        omega
      obtain ⟨p, hp⟩ : ∃ p, L[i]? = some p := ⟨_, List.getElem?_eq_getElem il⟩
      have pm := List.mem_of_getElem? hp
      have live := slot_live R.tab.ris at_
      have deep : wpAny (model P w) A (searchRest a (.ref x) (thash P w k) false fuel es t (way t.mask (thash P w k) (c + q)) i (spot t (thash P w k) (c + (q + 1)))) Q E s := by
        unfold searchRest
        rw [R.entry hp]
        dsimp only
        refine wpAny_bind (wpAny_holding (wpAny_eqBool_tuple room (R.tup p pm) hx ?_))
        refine wpAny_bind (wpAny_setState_of ho od R.fits ?_)
        dsimp only
        refine wp_if_neg (by simp) ?_
        try refine wpAny_bind (wpAny_pure ?_)
        rw [sameMem]
        dsimp only
        simp only [if_true, live, R.entry hp]
        refine wpAny_bind (wpAny_isSame_ref_self (wpAny_bind (wpAny_pure ?_)))
        simp only [if_true]
        by_cases same : p.2 = k
        · refine wp_if_pos (by simp [same]) ?_
          exact wpAny_pure (yes (List.mem_map.mpr ⟨p, pm, same⟩) i)
        · refine wp_if_neg (by simp [same]) ?_
          refine look_on R hx room few open_ shut yes no fuel (c + (q + 1)) _ rfl (by omega) (by omega) fun i' p' hp' same' => ?_
          obtain ⟨d, d1, d2, d3⟩ := ahead i' p' hp' same'
          refine ⟨d, ?_, d2, d3⟩
          by_cases e1 : d < c + q
          · refine absurd ?_ (first (d - c) i' (by omega) (by rw [spot_on, spot_place, show c + (d - c) = d by omega]; exact d3))
            rw [heldAt_of R hp', same']
          · by_cases e2 : d = c + q
            · rw [e2] at d3
              have live' := slot_live R.tab.ris d3
              rw [live] at live'
              cases live'
              rw [hp] at hp'
              cases hp'
              exact absurd same' same
            · omega
      by_cases led : t.led = true
      · refine wp_if_neg (by simp [led]) ?_
        try refine wpAny_bind (wpAny_pure ?_)
        exact deep
      · refine wp_if_pos (by simp [led]) ?_
        refine wpAny_bind (seen_tup hx (fun y my => ?_) ?_)
        · obtain ⟨r, mr, er⟩ := List.mem_map.mp my
          have mr' : r ∈ es.toList := by
            have : r ∈ es ∧ r.1 = thash P w k := by simpa using mr
            simpa using this.1
          rw [R.rows] at mr'
          obtain ⟨p', mp', ep'⟩ := List.mem_map.mp mr'
          exact ⟨p'.2, p'.1, by rw [← er, ← ep'], R.tup p' mp'⟩
        · refine wp_if_neg (by decide) ?_
          try refine wpAny_bind (wpAny_pure ?_)
          exact deep
    · have pr' : t.probe (heldAt es) (thash P w k) (stand.getD (t.probeStart (thash P w k))) = some (.empty (way t.mask (thash P w k) K) none) := by
        have e9 : nth t.mask (spot t (thash P w k) c) (K - c) = spot t (thash P w k) K := by rw [spot_on, show c + (K - c) = K by omega]
        rw [st, ← spot_place, ← e9]
        exact pr
      show wpAny _ _ (do
        let some met := t.probe (heldAt es) (thash P w k) (stand.getD (t.probeStart (thash P w k))) | unsupported "internal:set-table-without-an-empty-slot"
        _) _ _ _
      rw [pr']
      dsimp only
      refine wpAny_pure (no (fun m => ?_) _)
      obtain ⟨p, mp, same⟩ := List.mem_map.mp m
      obtain ⟨i, hp⟩ := List.mem_iff_getElem?.mp mp
      obtain ⟨d, d1, d2, d3⟩ := ahead i p hp same
      refine absurd ?_ (never (d - c) i (by omega) (by rw [spot_on, spot_place, show c + (d - c) = d by omega]; exact d3))
      rw [heldAt_of R hp, same]
theorem find_tup (R : SetTR P w s.heap a L es ep t) (hx : IsT P w s.heap k x) (room : A.units < cLine) {Q : Option Nat → Shared → Prop} (yes : k ∈ L.map (·.2) → ∀ i, Q (some i) s) (no : k ∉ L.map (·.2) → Q none s) :
    wpAny (model P w) A (setFind a (.ref x) (thash P w k)) Q E s := by
  have small := R.room
  obtain ⟨o, ho, _, od⟩ := R.ob
  obtain ⟨K, few, open_, shut⟩ := R.tab.first (by rw [List.length_map]; omega) (thash P w k)
  have Kb : K < 100000 := by
    refine Nat.lt_of_lt_of_le few (show 10 * SetTable.turns t.mask ≤ 100000 from ?_)
    unfold SetTable.turns
    rcases R.tab.mok with e | e | e <;> omega
  unfold setFind
  rw [show (100000 : Nat) = 99999 + 1 from rfl]
  unfold setFindIn
  refine wpAny_bind (wpAny_setState_of ho od R.fits ?_)
  dsimp only
  refine wp_if_neg (by simp [byScan, Value.scannable]) ?_
  try refine wpAny_bind (wpAny_pure ?_)
  unfold setSearch
  refine wpAny_bind (look_on R hx room few open_ shut (fun m i => ?_) (fun m j => ?_) 100000 0 none rfl (Nat.zero_le _) (by omega) fun i p hp same => ?_)
  · exact wpAny_pure (yes m i)
  · exact wpAny_pure (no m)
  · have e : (L.map fun p => thash P w p.2)[i]? = some (thash P w k) := by
      rw [List.getElem?_map, hp, ← same]
      rfl
    have il : i < t.place.toList.length := by
      have z1 := (List.getElem?_eq_some_iff.mp hp).1
      have z2 := R.tab.sz
      rw [List.length_map] at z2
      rw [Array.length_toList]
      omega
    obtain ⟨d, d1, d2⟩ := R.tab.before open_ e (List.getElem?_eq_getElem il)
    exact ⟨d, Nat.zero_le _, d1, by rw [List.getElem?_eq_getElem il, d2]⟩
theorem SetTR.isSet (R : SetTR P w s.heap a L es ep t) : s.TypeIs (.ref a) "set" := by
  obtain ⟨o, ho, ex, _⟩ := R.ob
  exact ⟨o, ho, ex.1⟩
/-- t in seen -/
theorem in_tup (R : SetTR P w s.heap a L es ep t) (hx : IsT P w s.heap k x) (room : A.units + 64 < cLine) {Q : Value → Shared → Prop}
    (h : Q (.bool (decide (k ∈ L.map (·.2)))) { s with toks := s.toks + (k.length + 1) }) : wpAny (model P w) A (compareOp .In (.ref x) (.ref a)) Q E s := by
  have R' : SetTR P w { s with toks := s.toks + (k.length + 1) }.heap a L es ep t := R
  have ty := SetTR.isSet R
  show wpAny _ _ (do return .bool (← contains (.ref a) (.ref x))) Q E s
  unfold contains
  refine wpAny_bind ?_
  try with_reducible refine wpAny_holding ?_
  refine wpAny_bind (wpAny_specialOf ty F.slot_set_contains.lookup ?_)
  show wpAny _ _ (if (some (Value.builtin "set.__contains__") == some Value.none) = true then _ else _) _ E s
  refine wp_if_neg (by rw [beq_builtin_none]; exact Bool.false_ne_true) ?_
  refine wpAny_bind (wpAny_callSpecialUnlessNone?_slot (name := Str.ofString "__contains__") ty F.slot_set_contains (wpAny_call_entry F.slot_set_contains ty entry_set_contains ?_ (F.args_set_contains_2 _ _)))
  unfold Builtin.«frozenset.__contains__» Builtin.Frozenset.oneOther
  simp only [List.isEmpty_nil, bind_assoc]
  unfold Builtin.Frozenset.addrOf Builtin.Frozenset.withSetAsKey setContains
  refine wpAny_bind (wpAny_pure ?_)
  try dsimp only
  refine wpAny_bind (wpAny_pure ?_)
  try dsimp only
  refine wpAny_bind (wpAny_tryCatch (wpAny_holding (wpAny_bind (wpAny_pyHash_tuple (by simp; omega) hx ?_))))
  refine wpAny_bind (find_tup (s := { s with toks := s.toks + (k.length + 1) }) R' hx (by simp; omega) (fun m i => ?_) (fun m => ?_))
  · rw [decide_eq_true m] at h
    exact wpAny_pure (wpAny_pure ⟨_, rfl, wpAny_truthy_bool (wpAny_pure h)⟩)
  · rw [decide_eq_false m] at h
    exact wpAny_pure (wpAny_pure ⟨_, rfl, wpAny_truthy_bool (wpAny_pure h)⟩)
/-- seen.add(t) -/
theorem add_tup (R : SetTR P w s.heap a L es ep t) (hx : IsT P w s.heap k x) (room : A.units + 64 < cLine) (few : L.length + 1 < 64) {Q : Value → Shared → Prop}
    (h : ∀ h' L' es' ep' t', Heap.SameBut a s.heap h' → SetTR P w h' a L' es' ep' t' → (k ∈ L.map (·.2) → L' = L) → (k ∉ L.map (·.2) → L'.Perm ((x, k) :: L)) → Q .none { s with heap := h', toks := s.toks + (k.length + 1) }) :
    wpAny (model P w) A (call (.builtin "set.add") [.ref a, .ref x]) Q E s := by
  have R' : SetTR P w { s with toks := s.toks + (k.length + 1) }.heap a L es ep t := R
  refine wpAny_call_entry F.slot_set_add (SetTR.isSet R) F.entry_set_add ?_ (F.args_set_add_2 _ _)
  unfold Builtin.«set.add» Builtin.Frozenset.oneOther
  simp only [List.isEmpty_nil, bind_assoc]
  unfold Builtin.Frozenset.addrOf setAdd
  refine wpAny_bind (wpAny_pure ?_)
  try dsimp only
  refine wpAny_bind (wpAny_pure ?_)
  try dsimp only
  refine wpAny_bind (wpAny_holding (wpAny_bind (wpAny_pyHash_tuple (by simp; omega) hx ?_)))
  refine add_at (s := { s with toks := s.toks + (k.length + 1) }) R' hx (by simp; omega) few fun b h' L' es' ep' t' sb new c1 c2 => ?_
  show wpAny _ _ (ret Value.none) _ _ _
  exact wpAny_pure ⟨_, rfl, h h' L' es' ep' t' sb new c1 c2⟩
end
section
variable {X : Cx}
theorem setT_full {pins : List (Addr × Obj)} {σ : L2.St} {H : Hp} {s : Shared} {a : Addr} {L : List (Addr × List Int)} (I : Inv X pins σ H s) (ha : H a = some (SetTO X.prog X.w a L)) (ts : ∀ p ∈ L, SqT X.K H p.1 (p.2.map V.int)) :
    ∃ es ep t, SetTR X.prog X.w s.heap a L es ep t := SetT0.full (I.hok a _ ha).1 fun p hp => I.isT (ts p hp)
/-- set(), to be filled with tuples -/
theorem cr_set0T : CallR X (.type "set") (fun xs H Q => xs = [] ∧ ∀ p, H p = none → Q (.ref p) (upd H p (SetTO X.prog X.w p []))) := by
  rintro pins s σ H xs us Q I r ⟨rfl, q⟩
  cases r
  refine setR_new fun _ => ⟨.ref _, upd H s.heap.objs.size (SetTO X.prog X.w s.heap.objs.size []), ?_, rfl, q _ (I.hok.fresh (Nat.le_refl _))⟩
  exact I.laid (t' := s.toks) (fun b u e => Heap.get?_push_of_some _ e) (Nat.le_refl _) (setTO_new (setTR_fresh (Heap.get?_push_size _ rfl)).t0)
def rInT (K : PySem.W.Frag) (P : Program) (w : World) : V → V → Hp → VK → Prop := fun x y H Q => ∃ (t a : Addr) (k : List Int) (L : List (Addr × List Int)), x = V.ref t ∧ y = V.ref a ∧ H a = some (SetTO P w a L) ∧ SqT K H t (k.map V.int) ∧
  (∀ p ∈ L, SqT K H p.1 (p.2.map V.int)) ∧ Q (.bl (decide (k ∈ L.map (·.2)))) H
theorem op_inT (room : X.A.units + 64 < cLine) : OpR X (compareOp .In) (rInT X.K X.prog X.w) := by
  rintro pins s σ H x y v u Q I rx ry ⟨t, a, k, L, rfl, rfl, ha, ht, ts, q⟩
  cases rx
  cases ry
  obtain ⟨es, ep, tb, R⟩ := setT_full I ha ts
  exact in_tup R (I.isT ht) room ⟨.bl (decide (k ∈ L.map fun p : Addr × List Int => p.2)), H, I.tok _, rfl, q⟩
def rAddT (K : PySem.W.Frag) (P : Program) (w : World) : V → List V → Hp → VK → Prop := fun x vs H Q => ∃ (a t : Addr) (k : List Int) (L : List (Addr × List Int)), x = V.ref a ∧ vs = [V.ref t] ∧ H a = some (SetTO P w a L) ∧ SqT K H t (k.map V.int) ∧
  (∀ p ∈ L, SqT K H p.1 (p.2.map V.int)) ∧ L.length + 1 < 64 ∧ ∀ L', (k ∈ L.map (·.2) → L' = L) → (k ∉ L.map (·.2) → L'.Perm ((t, k) :: L)) → Q .non (upd H a (SetTO P w a L'))
theorem mt_addT (room : X.A.units + 64 < cLine) : MtR X "set.add" (rAddT X.K X.prog X.w) := by
  rintro pins s σ H x vs v us Q I rx rv ⟨a, t, k, L, rfl, rfl, ha, ht, ts, few, q⟩
  cases rx
  obtain ⟨u, rfl, ru⟩ := rv.one
  cases ru
  obtain ⟨es, ep, tb, R⟩ := setT_full I ha ts
  refine add_tup R (I.isT ht) room few fun h' L' es' ep' t' sb new c1 c2 => ?_
  have there : ∃ u, h'.get? a = some u := by
    obtain ⟨o, ho, _⟩ := new.ob
    exact ⟨o, ho⟩
  exact ⟨.non, upd H a (SetTO X.prog X.w a L'), I.write (e := a) (t' := s.toks + (k.length + 1)) (by rw [ha]; trivial) (.inl rfl) (fun b u hb hu => (sb.2 b hb).trans hu) there (setTO_new new.t0), rfl, q L' c1 c2⟩
def tAddT (K : PySem.W.Frag) (P : Program) (w : World) (to : TE) (t : TA) : TE := fun σ H Q => to σ H fun x H1 => (∃ a L, x = V.ref a ∧ H1 a = some (SetTO P w a L) ∧ ∀ p ∈ L, SqT K H1 p.1 (p.2.map V.int)) ∧ t σ H1 fun vs H2 => rAddT K P w x vs H2 Q
variable {o e : Expr} {es : List Expr} {to : TE} {t : TA} {apos cpos : Pos}
theorem pe_addT (room : X.A.units + 64 < cLine) (ho : PE X o to) (ha : PA X (e :: es) t)
    (m1 : attributeBase o "add" X.env (eval o X.env) = eval o X.env := by rfl)
    (m2 : ((backTo cpos (starEach (e :: es) X.env)).all (fun x => !x.1) && (backToKw cpos (keywordEach [] X.env)).all (fun x => x.1.isSome) && decide ((e :: es).length + ([] : List Keyword).length + (if ([] : List Keyword).isEmpty then 0 else 1) < 30)) = true := by rfl)
    (m3 : (apos.endLine == cpos.line) = true := by rfl) (m4 : starEach (e :: es) X.env = (false, eval e X.env) :: starEach es X.env := by rfl) (m5 : (backTo cpos (starEach es X.env)).any (·.1) = false := by rfl) :
    PE X (.Call (.Attribute o "add" apos) (e :: es) [] cpos) (tAddT X.K X.prog X.w to t) := by
  refine ⟨fun pins s σ H Q I h => wpAny_Call_method_late m1 m2 m3 rfl (thn (ho.run pins s σ H _ I h) fun v s1 ⟨x, H1, I1, r1, ty, q1⟩ => ?_)⟩
  obtain ⟨a, L, rfl, hka, ts⟩ := ty
  obtain ⟨es', ep, tb, R⟩ := setT_full I1 hka ts
  cases r1
  refine ⟨"set", "set.add", F.plainAttrs_set, F.slot_set_add, F.type_set_add, SetTR.isSet R, fun b eb => ?_, ?_⟩
  · cases eb
    obtain ⟨oo, hoo, ex, _⟩ := R.ob
    exact ⟨oo, hoo, ex.2.1⟩
  have hA := ha.run cpos pins s1 σ H1 _ I1 q1
  rw [m4] at hA ⊢
  refine Calls.callWith_builtin (by show (false || (backTo cpos (starEach es X.env)).any (·.1)) = false; rw [m5]; rfl) (Calls.evalArgs_plain ?_)
  exact thn hA fun us s2 ⟨vs, H2, I2, r2, q2⟩ => mt_addT room pins s2 σ H2 (.ref a) vs (.ref a) us Q I2 rfl r2 q2
end
end G0
namespace G0
open PySem PySem.Spec PyProof.Rows L2
/-! ### set(xs) of a list of ints, with its order; sorted of it: sorted_set of the library -/
abbrev bare (w : World) : Obj := { cls := .type "set", dict := none, data := .set #[] 0 (.fresh 0 0 (!w.params.followText "set-order")) }
section
variable {P : Program} {w : World} {A : Around} {E : Value → Shared → Prop} {s : Shared}
set_option maxRecDepth 100000 in
set_option maxHeartbeats 3200000 in
theorem set_of_ints {l : Addr} {items : Array Value} (ns : List Int) {Q : Value → Shared → Prop} (calm : A.handled = none) (il : s.heap.IsList l items) (are : IntsAre items.toList ns) (few : ns.length + 1 < scanBound)
    (h : ∀ (h' : Heap) (tk c : Nat), SetR w h' s.heap.objs.size (fun j => decide (j ∈ ns)) c → c ≤ ns.length → (∀ b o, s.heap.get? b = some o → h'.get? b = some o) → Q (.ref s.heap.objs.size) { s with heap := h', toks := tk }) :
    wpAny (model P w) A (call (.type "set") [.ref l]) Q E s := by
  have sz : items.size = ns.length := by
    rw [← IntsAre.length are, Array.length_toList]
  obtain ⟨c, tl, mro⟩ := F.called_set.mro
  have m1 := F.called_set.made
  have m2 := F.called_set.sub
  refine wpAny_call (codeAny_of_tree ?_)
  show wpAny _ _ (callAny (.type "set") _) _ _ _
  refine wpAny_pure ⟨Code.quiet_builtin _ (by decide +kernel), codeAny_builtin F.entry_type_call ?_⟩
  rw [Around.under_plain (weight_type_call_type "set" [.ref l] []) rfl]
  have m3 := F.called_set.notType
  have m4 := F.called_set.canCreate
  have m5 := F.typeCall_set_1 (.ref l)
  repeat any_goals first | assumption | wp_step
  refine codeAny_mono (code_set_led1 (.ref l) (E := E) (Q₁ := fun obj s1 => obj = .ref s.heap.objs.size ∧ s1 = { s with heap := s.heap.push (bare w) }) ⟨rfl, rfl⟩) fun r s1 told => ?_
  match r, told with
  | .error e, told => exact told
  | .ok .next, told => exact told.elim
  | .ok .brk, told => exact told.elim
  | .ok .cont, told => exact told.elim
  | .ok (.ret obj), told =>
    obtain ⟨rfl, rfl⟩ := told
    have at1 : (s.heap.push (bare w)).get? s.heap.objs.size = some (bare w) := Heap.get?_push_size _ rfl
    have ty1 : Shared.TypeIs { s with heap := s.heap.push (bare w) } (.ref s.heap.objs.size) "set" := ⟨_, at1, rfl⟩
    have i1 := F.called_set.init.lookup
    have i2 := F.called_set.init.bind (.ref s.heap.objs.size)
    repeat any_goals first | assumption | wp_step
    refine codeAny_mono (codeAny_call_builtin (R := wants (fun r s2 => r = .none ∧ ∃ h' tk c, s2 = { s with heap := h', toks := tk } ∧ SetR w h' s.heap.objs.size (fun j => decide (j ∈ ns)) c ∧ c ≤ ns.length ∧
      (∀ b o, s.heap.get? b = some o → h'.get? b = some o)) E) F.called_set.init.plain F.entry_set_init (check_set_init_1 ty1 ?_)) fun r2 s2 told2 => ?_
    · obtain ⟨⟨k1, k2, k3, k4⟩, ol, oc, nl, od⟩ := il
      simp only at oc od
      subst oc
      subst od
      have ol' : (s.heap.push (bare w)).get? l = some { cls := .type "list", dict := k2, data := .seq items nl, slots := k4 } := Heap.get?_push_of_some _ ol
      have b1 := F.sub_list_set
      have b2 := F.sub_list_frozenset
      have b3 : (Value.type "list" == Value.type "dict") = false := by decide
      have il1 : (s.heap.push (bare w)).IsList l items := ⟨_, ol', rfl, nl, rfl⟩
      unfold Builtin.«set.__init__» noKeywords Builtin.Frozenset.updateFrom
      generalize gen : pyIter = walker
      wp_walk
      subst gen
      refine wpAny_pyIter_list il1 (wpAny_bind (wpAny_runValue ?_))
      have ll : l < s.heap.objs.size := Heap.lt_size ol
      have z1 : (s.heap.push (bare w)).objs.size = s.heap.objs.size + 1 := Heap.size_push ..
      have d1 : l ≠ (s.heap.push (bare w)).objs.size := by rw [z1]; exact Nat.ne_of_lt (Nat.lt_succ_of_lt ll)
      have d2 : s.heap.objs.size ∉ [(s.heap.push (bare w)).objs.size, l] := by
        simp only [List.mem_cons, List.not_mem_nil, or_false, not_or]
        rw [z1]
        exact ⟨Nat.ne_of_lt (Nat.lt_succ_self _), Nat.ne_of_gt ll⟩
      have vals : ∀ (i : Nat) (v : Value), items[i]? = some v → ∃ k t, ns[i]? = some k ∧ v = .int k t := fun i v hv => by
        have li : i < ns.length := by
          rw [← sz]
          exact (Array.getElem?_eq_some_iff.mp hv).1
        obtain ⟨t, e⟩ := PyProof.Rows.IntsAre.int_at are i v (by rw [Array.getElem?_toList]; exact hv)
        refine ⟨ns[i], t, List.getElem?_eq_getElem li, ?_⟩
        rw [e, List.getD_eq_getElem?_getD, List.getElem?_eq_getElem li]
        rfl
      refine set_update_ints ((Walks.list (by simp [calm]) _ l d1 items).toS) s.heap.objs.size d2 ns sz few vals (items.size - 0) 0 _ (by omega) (Nat.zero_le _)
        ⟨⟨_, Heap.get?_push_size _ rfl, rfl, rfl⟩, (il1.push _)⟩ ⟨0, Nat.le_refl 0, setR_new_at (Heap.get?_push_of_some _ at1)⟩ fun s' c' moved le new => ?_
      obtain ⟨h', g', d', tk', o'⟩ := s'
      have y1 : g' = s.gens := moved.gens
      have y2 : d' = s.drawn := moved.drawn
      have y3 : o' = s.os := moved.os
      subst y1 y2 y3
      show wpAny _ _ _ _ _ _
      refine wpAny_pure ?_
      show wpAny _ _ (ret Value.none) _ _ _
      rw [sz] at le
      refine wpAny_pure ⟨rfl, h', tk', c', rfl, new, le, fun b o e => moved.heap b o ?_ (Heap.get?_push_of_some _ (Heap.get?_push_of_some _ e))⟩
      have lb := Heap.lt_size e
      simp only [List.mem_cons, List.not_mem_nil, or_false, not_or]
      rw [z1]
      exact ⟨Nat.ne_of_lt lb, Nat.ne_of_lt (Nat.lt_succ_of_lt lb)⟩
    · match r2, told2 with
      | .error e, told2 => exact told2
      | .ok .next, told2 => exact told2.elim
      | .ok .brk, told2 => exact told2.elim
      | .ok .cont, told2 => exact told2.elim
      | .ok (.ret r), told2 =>
        obtain ⟨rfl, h', tk, c, rfl, new, le, old⟩ := told2
        repeat any_goals first | assumption | wp_step
        exact h _ _ _ new le old
end
section
variable {X : Cx}
def rSetOfI (K : PySem.W.Frag) (w : World) : List V → Hp → VK → Prop := fun xs H Q => ∃ (l : Addr) (ns : List Int), xs = [V.ref l] ∧ SqL K H l (ns.map V.int) ∧ ns.length < 64 ∧ ∀ a c, H a = none → c ≤ ns.length → Q (.ref a) (upd H a (SetO w a (fun j => decide (j ∈ ns)) c))
theorem cr_setOfI (calm : X.calm = true) : CallR X (.type "set") (rSetOfI X.K X.w) := by
  rintro pins s σ H xs us Q I r ⟨l, ns, rfl, hl, few, q⟩
  rw [Vals.ref1 r]
  obtain ⟨its, rv, pl, _⟩ := I.list hl
  refine set_of_ints (P := X.prog) (w := X.w) ns (I.ok.hd calm) pl.isList (by simpa using rv.ints) (by unfold scanBound; omega) fun h' tk c new le old => ?_
  exact ⟨.ref s.heap.objs.size, upd H s.heap.objs.size (SetO X.w s.heap.objs.size (fun j => decide (j ∈ ns)) c), I.laid (t' := tk) old (Nat.le_refl _) (setO_new new), rfl, q _ c (I.hok.fresh (Nat.le_refl _)) le⟩
end
end G0
namespace G0
open PySem PySem.Spec PyProof.Rows L2
abbrev bareS (w : World) : Obj := { cls := .type "set", dict := none, data := .set #[] 0 (.fresh 0 0 (!w.params.followText "set-order")) }
end G0
namespace G0
open PySem PySem.Spec PyProof.Rows L2
/-! ### set(xs) of a tuple of ints, tuple of it sorted -/
section
variable {P : Program} {w : World} {A : Around} {E : Value → Shared → Prop} {s : Shared}
set_option maxRecDepth 100000 in
set_option maxHeartbeats 3200000 in
theorem set_of_intsT {l : Addr} {items : Array Value} (ns : List Int) {Q : Value → Shared → Prop} (calm : A.handled = none) (il : s.heap.IsTuple l items) (are : IntsAre items.toList ns) (few : ns.length + 1 < scanBound)
    (h : ∀ (h' : Heap) (tk c : Nat), SetR w h' s.heap.objs.size (fun j => decide (j ∈ ns)) c → c ≤ ns.length → (∀ b o, s.heap.get? b = some o → h'.get? b = some o) → Q (.ref s.heap.objs.size) { s with heap := h', toks := tk }) :
    wpAny (model P w) A (call (.type "set") [.ref l]) Q E s := by
  have sz : items.size = ns.length := by
    rw [← IntsAre.length are, Array.length_toList]
  obtain ⟨c, tl, mro⟩ := F.called_set.mro
  have m1 := F.called_set.made
  have m2 := F.called_set.sub
  refine wpAny_call (codeAny_of_tree ?_)
  show wpAny _ _ (callAny (.type "set") _) _ _ _
  refine wpAny_pure ⟨Code.quiet_builtin _ (by decide +kernel), codeAny_builtin F.entry_type_call ?_⟩
  rw [Around.under_plain (weight_type_call_type "set" [.ref l] []) rfl]
  have m3 := F.called_set.notType
  have m4 := F.called_set.canCreate
  have m5 := F.typeCall_set_1 (.ref l)
  repeat any_goals first | assumption | wp_step
  refine codeAny_mono (code_set_led1 (.ref l) (E := E) (Q₁ := fun obj s1 => obj = .ref s.heap.objs.size ∧ s1 = { s with heap := s.heap.push (bareS w) }) ⟨rfl, rfl⟩) fun r s1 told => ?_
  match r, told with
  | .error e, told => exact told
  | .ok .next, told => exact told.elim
  | .ok .brk, told => exact told.elim
  | .ok .cont, told => exact told.elim
  | .ok (.ret obj), told =>
    obtain ⟨rfl, rfl⟩ := told
    have at1 : (s.heap.push (bareS w)).get? s.heap.objs.size = some (bareS w) := Heap.get?_push_size _ rfl
    have ty1 : Shared.TypeIs { s with heap := s.heap.push (bareS w) } (.ref s.heap.objs.size) "set" := ⟨_, at1, rfl⟩
    have i1 := F.called_set.init.lookup
    have i2 := F.called_set.init.bind (.ref s.heap.objs.size)
    repeat any_goals first | assumption | wp_step
    refine codeAny_mono (codeAny_call_builtin (R := wants (fun r s2 => r = .none ∧ ∃ h' tk c, s2 = { s with heap := h', toks := tk } ∧ SetR w h' s.heap.objs.size (fun j => decide (j ∈ ns)) c ∧ c ≤ ns.length ∧
      (∀ b o, s.heap.get? b = some o → h'.get? b = some o)) E) F.called_set.init.plain F.entry_set_init (check_set_init_1 ty1 ?_)) fun r2 s2 told2 => ?_
    · obtain ⟨⟨k1, k2, k3, k4⟩, ol, oc, nl, od⟩ := il
      simp only at oc od
      subst oc
      subst od
      have ol' : (s.heap.push (bareS w)).get? l = some { cls := .type "tuple", dict := k2, data := .seq items nl, slots := k4 } := Heap.get?_push_of_some _ ol
      have b1 := F.sub_tuple_set
      have b2 := F.sub_tuple_frozenset
      have b3 : (Value.type "tuple" == Value.type "dict") = false := by decide
      have il1 : (s.heap.push (bareS w)).IsTuple l items := ⟨_, ol', rfl, nl, rfl⟩
      unfold Builtin.«set.__init__» noKeywords Builtin.Frozenset.updateFrom
      generalize gen : pyIter = walker
      wp_walk
      subst gen
      refine wpAny_pyIter_tuple il1 (wpAny_bind (wpAny_runValue ?_))
      have ll : l < s.heap.objs.size := Heap.lt_size ol
      have z1 : (s.heap.push (bareS w)).objs.size = s.heap.objs.size + 1 := Heap.size_push ..
      have d1 : l ≠ (s.heap.push (bareS w)).objs.size := by rw [z1]; exact Nat.ne_of_lt (Nat.lt_succ_of_lt ll)
      have d2 : s.heap.objs.size ∉ [(s.heap.push (bareS w)).objs.size, l] := by
        simp only [List.mem_cons, List.not_mem_nil, or_false, not_or]
        rw [z1]
        exact ⟨Nat.ne_of_lt (Nat.lt_succ_self _), Nat.ne_of_gt ll⟩
      have vals : ∀ (i : Nat) (v : Value), items[i]? = some v → ∃ k t, ns[i]? = some k ∧ v = .int k t := fun i v hv => by
        have li : i < ns.length := by
          rw [← sz]
          exact (Array.getElem?_eq_some_iff.mp hv).1
        obtain ⟨t, e⟩ := PyProof.Rows.IntsAre.int_at are i v (by rw [Array.getElem?_toList]; exact hv)
        refine ⟨ns[i], t, List.getElem?_eq_getElem li, ?_⟩
        rw [e, List.getD_eq_getElem?_getD, List.getElem?_eq_getElem li]
        rfl
      refine set_update_ints ((Walks.tuple (by simp [calm]) _ l d1 items).toS) s.heap.objs.size d2 ns sz few vals (items.size - 0) 0 _ (by omega) (Nat.zero_le _)
        ⟨⟨_, Heap.get?_push_size _ rfl, rfl, rfl⟩, (il1.at fun o e => Heap.get?_push_of_some _ e)⟩ ⟨0, Nat.le_refl 0, setR_new_at (Heap.get?_push_of_some _ at1)⟩ fun s' c' moved le new => ?_
      obtain ⟨h', g', d', tk', o'⟩ := s'
      have y1 : g' = s.gens := moved.gens
      have y2 : d' = s.drawn := moved.drawn
      have y3 : o' = s.os := moved.os
      subst y1 y2 y3
      show wpAny _ _ _ _ _ _
      refine wpAny_pure ?_
      show wpAny _ _ (ret Value.none) _ _ _
      rw [sz] at le
      refine wpAny_pure ⟨rfl, h', tk', c', rfl, new, le, fun b o e => moved.heap b o ?_ (Heap.get?_push_of_some _ (Heap.get?_push_of_some _ e))⟩
      have lb := Heap.lt_size e
      simp only [List.mem_cons, List.not_mem_nil, or_false, not_or]
      rw [z1]
      exact ⟨Nat.ne_of_lt lb, Nat.ne_of_lt (Nat.lt_succ_of_lt lb)⟩
    · match r2, told2 with
      | .error e, told2 => exact told2
      | .ok .next, told2 => exact told2.elim
      | .ok .brk, told2 => exact told2.elim
      | .ok .cont, told2 => exact told2.elim
      | .ok (.ret r), told2 =>
        obtain ⟨rfl, h', tk, c, rfl, new, le, old⟩ := told2
        repeat any_goals first | assumption | wp_step
        exact h _ _ _ new le old
end
section
variable {X : Cx}
def rSetOfTI (K : PySem.W.Frag) (w : World) : List V → Hp → VK → Prop := fun xs H Q => ∃ (l : Addr) (ns : List Int), xs = [V.ref l] ∧ SqT K H l (ns.map V.int) ∧ ns.length < 60 ∧ ∀ a c, H a = none → c ≤ ns.length → Q (.ref a) (upd H a (SetO w a (fun j => decide (j ∈ ns)) c))
theorem cr_setOfTI (calm : X.calm = true) : CallR X (.type "set") (rSetOfTI X.K X.w) := by
  rintro pins s σ H xs us Q I r ⟨l, ns, rfl, hl, few, q⟩
  rw [Vals.ref1 r]
  obtain ⟨its, rv, pl, _⟩ := I.tuple hl
  refine set_of_intsT (P := X.prog) (w := X.w) ns (I.ok.hd calm) pl (by simpa using rv.ints) (by unfold scanBound; omega) fun h' tk c new le old => ?_
  exact ⟨.ref s.heap.objs.size, upd H s.heap.objs.size (SetO X.w s.heap.objs.size (fun j => decide (j ∈ ns)) c), I.laid (t' := tk) old (Nat.le_refl _) (setO_new new), rfl, q _ c (I.hok.fresh (Nat.le_refl _)) le⟩
end
end G0
namespace G0
open PySem PySem.Spec PyProof.Rows L2
/-! ### data -/
mutual
def noL : PyData → Bool
  | .none | .bool _ | .int _ | .str _ => true
  | .list _ | .dict _ => false
  | .tuple xs => noLs xs
def noLs : List PyData → Bool
  | [] => true
  | x :: xs => noL x && noLs xs
end
section
variable {K : PySem.W.Frag} {H H' : Hp} {p : Addr}
theorem sqt_chg (hp : ∃ xs, H p = some (.lst xs)) (c : Chg p H H') {a : Addr} {xs : List V} (h : SqT K H a xs) : SqT K H' a xs := by
  obtain ⟨ys, hp⟩ := hp
  rcases h with (h | ⟨o, h⟩) | h
  · exact .inl (.inl (c _ _ (ne_of h hp (by intro z; cases z)) h))
  · exact .inl (.inr ⟨o, c _ _ (ne_of h hp (by intro z; cases z)) h⟩)
  · exact .inr h
theorem sqt_same (c : Same H H') {a : Addr} {xs : List V} (h : SqT K H a xs) : SqT K H' a xs := by
  rcases h with (h | ⟨o, h⟩) | h
  · exact .inl (.inl (c _ _ h))
  · exact .inl (.inr ⟨o, c _ _ h⟩)
  · exact .inr h
mutual
theorem dp_chg (hp : ∃ xs, H p = some (.lst xs)) (c : Chg p H H') : ∀ (d : PyData) (v : V), noL d = true → Dp K H v d → Dp K H' v d
  | .none, _, _, h => by cases h; exact .non
  | .bool _, _, _, h => by cases h; exact .bl _
  | .int _, _, _, h => by cases h; exact .int _
  | .str _, _, _, h => by cases h; exact .str _
  | .list _, _, n, _ => by simp [noL] at n
  | .dict _, _, n, _ => by simp [noL] at n
  | .tuple ds, _, n, h => by
    cases h with
    | tup hs ha => exact .tup (sqt_chg hp c hs) (dps_chg hp c ds _ (by simpa [noL] using n) ha)
theorem dps_chg (hp : ∃ xs, H p = some (.lst xs)) (c : Chg p H H') : ∀ (ds : List PyData) (vs : List V), noLs ds = true → DpAll K H vs ds → DpAll K H' vs ds
  | [], _, _, h => by cases h; exact .nil
  | d :: ds, _, n, h => by
    simp only [noLs, Bool.and_eq_true] at n
    cases h with
    | cons h1 h2 => exact .cons (dp_chg hp c d _ n.1 h1) (dps_chg hp c ds _ n.2 h2)
end
mutual
theorem dp_same (c : Same H H') : ∀ (d : PyData) (v : V), Dp K H v d → Dp K H' v d
  | .none, _, h => by cases h; exact .non
  | .bool _, _, h => by cases h; exact .bl _
  | .int _, _, h => by cases h; exact .int _
  | .str _, _, h => by cases h; exact .str _
  | .list ds, _, h => by
    cases h with
    | lst hs ha => exact .lst (c.seq hs) (dps_same c ds _ ha)
  | .dict _, _, h => by cases h
  | .tuple ds, _, h => by
    cases h with
    | tup hs ha => exact .tup (sqt_same c hs) (dps_same c ds _ ha)
theorem dps_same (c : Same H H') : ∀ (ds : List PyData) (vs : List V), DpAll K H vs ds → DpAll K H' vs ds
  | [], _, h => by cases h; exact .nil
  | d :: ds, _, h => by
    cases h with
    | cons h1 h2 => exact .cons (dp_same c d _ h1) (dps_same c ds _ h2)
end
theorem dps_app {vs ws : List V} {ds es : List PyData} : DpAll K H vs ds → DpAll K H ws es → DpAll K H (vs ++ ws) (ds ++ es) := by
  intro h g
  match vs, ds, h with
  | [], [], _ => exact g
  | _ :: _, _ :: _, .cons h1 h2 => exact .cons h1 (dps_app h2 g)
theorem dps_len {vs : List V} {ds : List PyData} : DpAll K H vs ds → vs.length = ds.length := by
  intro h
  match vs, ds, h with
  | [], [], _ => rfl
  | _ :: _, _ :: _, .cons _ h2 => exact congrArg (· + 1) (dps_len h2)
end
theorem noLs_of : ∀ {ds : List PyData}, (∀ d ∈ ds, noL d = true) → noLs ds = true
  | [], _ => rfl
  | d :: ds, h => by
    simp only [noLs, Bool.and_eq_true]
    exact ⟨h d (List.mem_cons_self ..), noLs_of fun x hx => h x (List.mem_cons_of_mem _ hx)⟩
/-! ### things and letters -/
inductive Thing : Nat → PyData → Prop
  | num {n : Nat} {i : Int} : 0 ≤ i → i < 10 ^ 60 → Thing n (.int i)
  | tup {n : Nat} {ds : List PyData} : ds.length ≤ 2 → (∀ d ∈ ds, Thing n d) → Thing (n + 1) (.tuple ds)
theorem Thing.noL {n : Nat} {d : PyData} (h : Thing n d) : noL d = true := by
  induction h with
  | num _ _ => rfl
  | tup _ _ ih =>
    simp only [G0.noL]
    exact noLs_of ih
theorem Thing.mono {n m : Nat} {d : PyData} (h : Thing n d) (le : n ≤ m) : Thing m d := by
  induction h generalizing m with
  | num a b => exact .num a b
  | tup l _ ih =>
    cases m with
    | zero => omega
    | succ m => exact .tup l fun d hd => ih d hd (by omega)
def WordOk (z : Str) : Prop := 1 ≤ z.length ∧ z.length ≤ 8 ∧ (∀ c ∈ z.cps.toList, 97 ≤ c ∧ c ≤ 122) ∧ z ≠ "gone"
def LetterD (d : PyData) : Prop := ∃ (z : Str) (ds : List PyData), d = .tuple (.str z :: ds) ∧ WordOk z ∧ ds.length ≤ 5 ∧ ∀ x ∈ ds, Thing 3 x
theorem LetterD.noL {d : PyData} (h : LetterD d) : noL d = true := by
  obtain ⟨z, ds, rfl, _, _, hd⟩ := h
  simp only [G0.noL, noLs, Bool.true_and]
  exact noLs_of fun x hx => (hd x hx).noL
theorem Chg.mut {p D : Addr} {H0 H1 : Hp} {o : HO} (a : Chg p H0 H1) (n : H0 D = none) : Chg p H0 (upd H1 D o) := fun b u m e => by
  rw [upd_ne (ne_of_none e n)]; exact a b u m e
theorem PotAt.ne {n : Nat} {H H' : Hp} {p D : Addr} {o : HO} (h : PotAt n H p) (d : p ≠ D) (e : H' = upd H D o) : PotAt n H' p := by
  obtain ⟨xs, q, r⟩ := h
  exact ⟨xs, by rw [e, upd_ne d]; exact q, r⟩
theorem PotAt.new {n : Nat} {H : Hp} {p D : Addr} {o : HO} (h : PotAt n H p) (d : H D = none) : PotAt n (upd H D o) p := h.keep (same_upd d)
theorem PotAt.neD {n : Nat} {H : Hp} {p D : Addr} (h : PotAt n H p) (d : H D = none) : p ≠ D := by
  obtain ⟨xs, q, r⟩ := h
  exact ne_of_none q d
theorem PotAt.lst {n : Nat} {H : Hp} {p : Addr} (h : PotAt n H p) : ∃ xs, H p = some (.lst xs) := by
  obtain ⟨xs, q, r⟩ := h
  exact ⟨xs, q⟩
theorem PotAt.neT {n : Nat} {H : Hp} {p t : Addr} {xs : List V} (h : PotAt n H p) (d : H t = some (.tup xs)) : t ≠ p := by
  obtain ⟨ys, q, r⟩ := h
  exact ne_of d q (by intro z; cases z)
theorem Cal.imp {P : Program} {w : World} {K : PySem.W.Frag} {mg : Str → Option Value} {base : Heap} {x : Str} {k : Nat} {ps : List Str} {sp sp' : Sp}
    (C : Cal P w K mg base x k ps sp) (h : ∀ vs H Q E, sp' vs H Q E → sp vs H Q E) : Cal P w K mg base x k ps sp' := by
  obtain ⟨f, fd, F, r⟩ := C
  exact ⟨f, fd, ⟨fun a b c d q => F.args _ _ _ _ (h _ _ _ _ q), fun A o s H args us vs Q E fr hr he hb hv hs => F.runs A o s H args us vs Q E fr hr he hb hv (h _ _ _ _ hs)⟩, r⟩
theorem cal_no {P : Program} {w : World} {K : PySem.W.Frag} {mg : Str → Option Value} {base : Heap} {x : Str} {st : Stmt} {ps : List Str} (F : Fn K mg x st)
    (bd : ∀ (kV doc pm : Value) (an : Option Addr) (cdv ct : Value) (us : List Value), us.length = ps.length →
      bindArgs (PySem.W.fnOf x x (defArgs st) (defBody st) (defScope st) .none kV doc pm an cdv ct) ⟨us, []⟩ = pure (ps.zip us)) :
    Cal P w K mg base x 0 ps (fun _ _ _ _ => False) := by
  obtain ⟨f, fd, F, m⟩ := F
  obtain ⟨oc, od, kV, doc, pm, an, cdv, ct, osl, e, lk, c⟩ := id F.ex
  exact ⟨f, fd, ⟨fun _ _ _ _ h => h.elim, fun _ _ _ _ _ _ _ _ _ _ _ _ _ _ h => h.elim⟩, F.binds bd, m, F.kp, oc, od, osl, lk⟩
/-! ### texts of small letters -/
theorem az : ∀ j : Fin 26, (("abcdefghijklmnopqrstuvwxyz" : Str).cps.toList)[j.val]? = some (97 + j.val) := by decide +kernel
theorem az_at {d : Int} (h0 : 0 ≤ d) (h1 : d < 26) : atI ("abcdefghijklmnopqrstuvwxyz" : Str).cps.toList d = some (97 + d.toNat) := by
  have e : d = ((d.toNat : Nat) : Int) := by omega
  have q := az ⟨d.toNat, by omega⟩
  rw [e]
  exact atI_nat q
def sg (c : Nat) : Str := ⟨#[c]⟩
open TL in
theorem joinL_sg : ∀ cs : List Nat, joinL [] (cs.map fun c => [c]) = cs
  | [] => rfl
  | [c] => rfl
  | c :: d :: r => by
    show [c] ++ ([] ++ joinL [] ((d :: r).map fun c => [c])) = c :: d :: r
    rw [joinL_sg (d :: r)]
    rfl
open TL in
theorem tl_of (z : Str) : tl z = z.cps.toList := rfl
open TL in
theorem join_sg (cs : List Nat) : (Txt.join "" (cs.map sg)).cps.toList = cs := by
  rw [join_eq, ← tl_of, tl_join]
  have e : (cs.map sg).map tl = cs.map fun c => [c] := by rw [List.map_map]; rfl
  rw [e]
  exact joinL_sg cs
open TL in
theorem join_sg_len (cs : List Nat) : (Txt.join "" (cs.map sg)).length = cs.length := by
  have e := congrArg List.length (join_sg cs)
  rw [← e]
  show _ = (Txt.join "" (cs.map sg)).cps.toList.length
  simp [Str.length]
theorem sum_sg : ∀ cs : List Nat, ((cs.map sg).map (·.length)).sum = cs.length
  | [] => rfl
  | c :: r => by
    show 1 + ((r.map sg).map (·.length)).sum = r.length + 1
    rw [sum_sg r]; omega

end G0
namespace G0
open PySem PySem.Spec PyProof.Rows L2
theorem iteF' {c : Bool} {A B : Prop} (e : c = false) (h : B) : if c = true then A else B := by rw [e]; exact iteF h
theorem iteT' {c : Bool} {A B : Prop} (e : c = true) (h : A) : if c = true then A else B := by rw [e]; exact iteT h
/-! ### several lists may change -/
def ChgS (S : List Addr) (H H' : Hp) : Prop := ∀ b o, b ∉ S → H b = some o → H' b = some o
section
variable {S : List Addr} {p q : Addr} {H H' H0 H1 H2 : Hp} {o : HO}
theorem ChgS.refl : ChgS S H H := fun _ _ _ e => e
theorem ChgS.trans (a : ChgS S H H1) (b : ChgS S H1 H2) : ChgS S H H2 := fun c o n e => b c o n (a c o n e)
theorem Chg.s (h : Chg p H H') (m : p ∈ S) : ChgS S H H' := fun b o n e => h b o (fun z => n (z ▸ m)) e
theorem Same.s (h : Same H H') : ChgS S H H' := fun b o _ e => h b o e
theorem ChgS.mono {T : List Addr} (h : ChgS S H H') (m : ∀ b ∈ S, b ∈ T) : ChgS T H H' := fun b o n e => h b o (fun z => n (m b z)) e
theorem ChgS.new (a : ChgS S H H1) (n : H1 q = none) : ChgS S H (upd H1 q o) := fun b u m e => by
  rw [upd_ne (ne_of_none (a b u m e) n)]; exact a b u m e
theorem ChgS.mut (a : ChgS S H H1) (n : H q = none) : ChgS S H (upd H1 q o) := fun b u m e => by
  rw [upd_ne (ne_of_none e n)]; exact a b u m e
theorem ChgS.put (a : ChgS S H H1) (m : q ∈ S) : ChgS S H (upd H1 q o) := fun b u n e => by
  have nb : b ≠ q := fun z => n (by rw [z]; exact m)
  rw [upd_ne nb]; exact a b u n e
/-- what is new behind was new ahead -/
theorem ChgS.back (a : ChgS S H H1) (n : H1 q = none) (m : q ∉ S) : H q = none := by
  cases e : H q with
  | none => rfl
  | some u => rw [a q u m e] at n; cases n
theorem Chg.back (a : Chg p H H1) (n : H1 q = none) (m : q ≠ p) : H q = none := by
  cases e : H q with
  | none => rfl
  | some u => rw [a q u m e] at n; cases n
theorem PotAt.keepS {n : Nat} (h : PotAt n H p) (s : ChgS S H H') (m : p ∉ S) : PotAt n H' p := by
  obtain ⟨xs, e, h⟩ := h
  exact ⟨xs, s _ _ m e, h⟩
end
/-! ### lists of ints -/
section
variable {K : PySem.W.Frag} {H : Hp}
theorem dps_ints : ∀ ns : List Int, DpAll K H (ns.map V.int) (ns.map PyData.int)
  | [] => .nil
  | n :: r => .cons (.int n) (dps_ints r)
theorem dp_ints {a : Addr} {ns : List Int} (h : H a = some (.lst (ns.map V.int))) : Dp K H (.ref a) (.list (ns.map PyData.int)) := .lst (SqL.of h) (dps_ints ns)
theorem lay_ints : ∀ ns : List Int, PyData.canLayAll0 (ns.map PyData.int) = true
  | [] => by simp [PyData.canLayAll0]
  | n :: r => by simp [PyData.canLayAll0, PyData.canLay0, lay_ints r]
theorem deep_ints : ∀ ns : List Int, PyData.depthAll (ns.map PyData.int) = 0
  | [] => by simp [PyData.depthAll]
  | n :: r => by simp [PyData.depthAll, PyData.depth, deep_ints r]
theorem shaped_ints (ns : List Int) : SeqAt.shaped (.list (ns.map PyData.int)) = true := by
  show ((PyData.list (ns.map PyData.int)).canLay0 && decide ((PyData.list (ns.map PyData.int)).depth ≤ 64)) = true
  simp [PyData.canLay0, PyData.depth, lay_ints, deep_ints]
theorem flat_ints : ∀ ns : List Int, (ns.map V.int).all flatV = true
  | [] => rfl
  | n :: r => by simp [flatV, flat_ints r]
theorem inV_ints (v : Int) : ∀ ns : List Int, inV (.int v) (ns.map V.int) = decide (v ∈ ns)
  | [] => by simp [inV]
  | n :: r => by
    have ih := inV_ints v r
    unfold inV at ih ⊢
    rw [List.map_cons, List.any_cons, ih]
    show ((n == v) || decide (v ∈ r)) = decide (v ∈ n :: r)
    by_cases e : n = v
    · subst e; simp
    · have e' : ¬ v = n := fun z => e z.symm
      simp [e, e']
theorem at_ints {ns : List Int} {d : Int} (h0 : 0 ≤ d) (h1 : d < ns.length) : ∃ v, v ∈ ns ∧ atI (ns.map V.int) d = some (.int v) := by
  have hk : d.toNat < ns.length := by omega
  have ek : d = ((d.toNat : Nat) : Int) := by omega
  refine ⟨ns[d.toNat], List.getElem_mem hk, ?_⟩
  have q : atI (ns.map V.int) ((d.toNat : Nat) : Int) = some (.int ns[d.toNat]) := atI_nat (by rw [List.getElem?_map, List.getElem?_eq_getElem hk] <;> rfl)
  rw [← ek] at q
  exact q
end
/-! ### how long a repr is -/
mutual
def cost : PyData → Nat
  | .none => 4
  | .bool _ => 5
  | .int _ => 1921
  | .str x => 10 * x.length + 2
  | .list xs => 2 + costs xs
  | .tuple xs => 4 + costs xs
  | .dict _ => 0
def costs : List PyData → Nat
  | [] => 0
  | x :: xs => cost x + 2 + costs xs
end
theorem from_le : ∀ (ts : List Str) (k : Nat) (acc : Str), (textFrom k acc ts).length ≤ acc.length + (ts.map fun t => t.length + 2).sum
  | [], k, acc => by show acc.length ≤ _; simp
  | t :: r, k, acc => by
    have ih := from_le r (k + 1) (acc ++ (if k > 0 then ", " else "" : String) ++ t)
    show (textFrom (k + 1) _ r).length ≤ _
    rw [List.map_cons, List.sum_cons]
    rw [Str.length_append, Str.length_append] at ih
    have sep : (Str.ofString (if k > 0 then ", " else "")).length ≤ 2 := by split <;> decide
    omega
theorem join_le : ∀ ts : List Str, (Str.join ", " ts).length ≤ (ts.map fun t => t.length + 2).sum
  | [] => by decide
  | [x] => by show x.length ≤ _; simp
  | x :: y :: r => by
    have ih := join_le (y :: r)
    show (x ++ (", " : Str) ++ Str.join ", " (y :: r)).length ≤ _
    rw [Str.length_append, Str.length_append, List.map_cons, List.sum_cons]
    have : (", " : Str).length = 2 := by decide
    omega
theorem small_cps {x : Str} (h : PyData.strOk x = true) : ∀ c ∈ x.cps.toList, c < 16 ^ 8 := fun c hc => by
  unfold PyData.strOk at h
  rw [Array.all_eq_true_iff_forall_mem] at h
  have := of_decide_eq_true (h c (Array.mem_toList_iff.mp hc))
  omega
mutual
theorem shown_le : ∀ d : PyData, d.showable = true → d.canLay0 = true → d.shown.length ≤ cost d
  | .none, _, _ => by show (("None" : Str)).length ≤ 4; decide
  | .bool b, _, _ => by cases b <;> (simp only [PyData.shown, cost]; decide)
  | .int i, h, _ => by
    simp only [PyData.shown, cost]
    exact int_text_len_1921 (by simpa [PyData.showable] using h)
  | .str x, _, h => by
    simp only [PyData.shown, cost]
    exact StrLaws.reprText_len x (small_cps (by simpa [PyData.canLay0] using h))
  | .list xs, h, l => by
    have ih := shown_les xs (by simpa [PyData.showable] using h) (by simpa [PyData.canLay0] using l)
    simp only [PyData.shown, cost]
    show (textFrom 0 "[" (PyData.shownAll xs) ++ ("]" : Str)).length ≤ _
    have := from_le (PyData.shownAll xs) 0 "["
    have a : ("[" : Str).length = 1 := by decide
    have b : ("]" : Str).length = 1 := by decide
    rw [Str.length_append]
    omega
  | .tuple xs, h, l => by
    have ih := shown_les xs (by simpa [PyData.showable] using h) (by simpa [PyData.canLay0] using l)
    simp only [PyData.shown, cost]
    show (("(" : Str) ++ Str.join ", " (PyData.shownAll xs) ++ (Str.ofString (if (PyData.shownAll xs).length == 1 then ",)" else ")"))).length ≤ _
    have := join_le (PyData.shownAll xs)
    have a : ("(" : Str).length = 1 := by decide
    have b : (Str.ofString (if (PyData.shownAll xs).length == 1 then ",)" else ")")).length ≤ 2 := by split <;> decide
    rw [Str.length_append, Str.length_append]
    omega
  | .dict _, _, h => by simp [PyData.canLay0] at h
theorem shown_les : ∀ ds : List PyData, PyData.showableAll ds = true → PyData.canLayAll0 ds = true → ((PyData.shownAll ds).map fun t => t.length + 2).sum ≤ costs ds
  | [], _, _ => Nat.le_refl _
  | d :: ds, h, l => by
    simp only [PyData.showableAll, Bool.and_eq_true] at h
    simp only [PyData.canLayAll0, Bool.and_eq_true] at l
    have h1 := shown_le d h.1 l.1
    have h2 := shown_les ds h.2 l.2
    simp only [PyData.shownAll, costs, List.map_cons, List.sum_cons]
    omega
end

end G0
namespace G0
open PySem PySem.Spec PyProof.Rows L2
def top (i : Nat) : Stmt := PySem.Challenge.pw_soleseat_k49_each_two_sets.main.body.getD i (.Pass ⟨0, 0, 0, 0⟩)
abbrev s_is_below : Stmt := top 3
abbrev s_NoFamily__init : Stmt := inClass (top 6) 0
abbrev s_TooMany__init : Stmt := inClass (top 7) 0
abbrev s_fault : Stmt := top 10
abbrev s_looked : Stmt := top 11
abbrev s_least_ones : Stmt := top 12
abbrev s_holds : Stmt := top 13
abbrev s_set_fault : Stmt := top 14
abbrev s_meeting : Stmt := top 16
abbrev s_least_shared : Stmt := top 17
abbrev s_law_wide : Stmt := top 19
abbrev s_law_take : Stmt := top 20
abbrev s_law_set : Stmt := top 21
abbrev s_law_many_seats : Stmt := top 22
abbrev s_law_family : Stmt := top 23
abbrev s_law_whole : Stmt := top 24
abbrev s_law_is_set : Stmt := top 25
abbrev s_law_drawn : Stmt := top 26
abbrev s_law_crossed : Stmt := top 27
abbrev s_law_holds : Stmt := top 28
abbrev s_law_least_right : Stmt := top 29
abbrev s_law_shared : Stmt := top 30
abbrev s_law_meeting_due : Stmt := top 31
abbrev s_law_meeting_right : Stmt := top 32
abbrev s_law : Stmt := top 33
theorem u64 {k : Nat} {A : Around} (hr : Room k A) : A.units + 64 < cLine := by have := hr.un; omega
theorem u65 {k : Nat} {A : Around} (hr : Room k A) : A.units + 65 < cLine := by have := hr.un; omega
theorem dec_ii {a b : Int} : decide (V.int a = V.int b) = decide (a = b) := decide_eq_decide.mpr ⟨fun h => by cases h; rfl, fun h => by rw [h]⟩
section
variable {P : Program} {w : World} {K : PySem.W.Frag} {mg : Str → Option Value} {base : Heap}
/-! ### the feed of k47 to k60 -/
structure BlF (mg : Str → Option Value) : Prop where
  len : mg "len" = none
  range : mg "range" = none
  sum : mg "sum" = none
  sorted : mg "sorted" = none
  set : mg "set" = none
  tuple : mg "tuple" = none
  list : mg "list" = none
  isinstance : mg "isinstance" = none
  int : mg "int" = none
  bool : mg "bool" = none
  min : mg "min" = none
  all : mg "all" = none
  enumerate : mg "enumerate" = none
def FeedL (n : Nat) (xs : List V) : Prop := ∃ (i : Nat) (v : Int), xs = [.int (i : Int), .int v] ∧ i ≤ n ∧ 0 ≤ v
/-- the script and the pot that is drawn from -/
structure Fd (K : PySem.W.Frag) (H0 : Hp) (s p : Addr) (ns : List Int) (n : Nat) (H : Hp) : Prop where
  old : Same H0 H
  np : H0 p = none
  sq : SqL K H0 s (ns.map V.int)
  at_ : ∃ xs, H p = some (.lst xs) ∧ FeedL n xs
theorem Fd.same {H0 H H' : Hp} {s p : Addr} {ns : List Int} {n : Nat} (F : Fd K H0 s p ns n H) (c : Same H H') : Fd K H0 s p ns n H' :=
  { F with old := F.old.trans c, at_ := by obtain ⟨xs, e, f⟩ := F.at_; exact ⟨xs, c _ _ e, f⟩ }
theorem Fd.mono {H0 H : Hp} {s p : Addr} {ns : List Int} {n m : Nat} (F : Fd K H0 s p ns n H) (le : n ≤ m) : Fd K H0 s p ns m H :=
  { F with at_ := by obtain ⟨xs, e, i, v, f1, f2, f3⟩ := F.at_; exact ⟨xs, e, i, v, f1, Nat.le_trans f2 le, f3⟩ }
theorem Fd.lst {H0 H : Hp} {s p : Addr} {ns : List Int} {n : Nat} (F : Fd K H0 s p ns n H) : ∃ xs, H p = some (.lst xs) := by
  obtain ⟨xs, e, _⟩ := F.at_
  exact ⟨xs, e⟩
theorem Fd.put {H0 H : Hp} {s p : Addr} {ns : List Int} {n m : Nat} {ys : List V} (F : Fd K H0 s p ns n H) (y : FeedL m ys) : Fd K H0 s p ns m (upd H p (.lst ys)) :=
  { F with old := fun b o e => (upd_ne (ne_of_none e F.np)).trans (F.old _ _ e), at_ := ⟨ys, upd_same, y⟩ }
theorem Fd.ne {H0 H : Hp} {s p q : Addr} {ns : List Int} {n : Nat} (F : Fd K H0 s p ns n H) (h : H q = none) : q ≠ p := by
  obtain ⟨xs, e⟩ := F.lst
  exact (ne_of_none e h).symm
/-- elsewhere a list is written that was not there at first -/
theorem Fd.mut {H0 H : Hp} {s p q : Addr} {ns : List Int} {n : Nat} {o : HO} (F : Fd K H0 s p ns n H) (h : H0 q = none) (d : q ≠ p) : Fd K H0 s p ns n (upd H q o) :=
  { F with old := fun b x e => (upd_ne (ne_of_none e h)).trans (F.old _ _ e), at_ := by obtain ⟨xs, e, f⟩ := F.at_; exact ⟨xs, (upd_ne d.symm).trans e, f⟩ }
/-! ### _law_wide -/
def spWide : Sp := fun vs H Q _ => ∃ c : Int, vs = [.int c] ∧ ∀ v : Int, 0 ≤ v → Q (.int v) H
theorem sc_law_wide : FnScope ["cell", "one", "other", "third"] ["cell"] (defScope s_law_wide) :=
  ⟨rfl, rfl, rfl, by decide +kernel, rfl, by decide +kernel, by decide +kernel⟩
theorem ok_wide (F : Fn K mg "_law_wide" s_law_wide) : Cal P w K mg base "_law_wide" 1 ["cell"] spWide := by
  refine cal_of F sc_law_wide
    (fun _ _ _ _ _ _ us hl => match us, hl with | [_], _ => rfl) ?_ ?_
  · rintro vs H Q E ⟨c, rfl, _⟩
    rfl
  rintro f cdv A outer s H vs Q E free hr ⟨c, rfl, q⟩
  refine ⟨_, (pss_cons (ps_if (pt_cmpR op_ge (pv 0) (pe_op op_pow pe_int pe_int) (nomark _))
    (pss_one (ps_ret (pv 0)))
    pss_nil)
    (pss_cons (ps_set (i := 1) sc_law_wide.nd rfl (Or.inl rfl) (pe_op op_mod (pe_op op_add (pe_op op_mul (pv 0) pe_int) pe_int) pe_int))
    (pss_cons (ps_set (i := 2) sc_law_wide.nd rfl (Or.inl rfl) (pe_op op_mod (pe_op op_add (pe_op op_add (pe_op op_mul (pv 1) (pv 1)) (pe_op op_mul (pv 0) pe_int)) pe_int) pe_int))
    (pss_cons (ps_set (i := 3) sc_law_wide.nd rfl (Or.inl rfl) (pe_op op_mod (pe_op op_add (pe_op op_mul (pv 2) (pv 2)) (pv 1)) pe_int))
    (pss_one (ps_ret (pe_op op_add (pe_op op_fdivW (pv 1) pe_int) (pe_op op_mul pe_int (pe_op op_add (pe_op op_fdivW (pv 2) pe_int) (pe_op op_mul pe_int (pe_op op_fdivW (pv 3) pe_int))))))))))), ?_⟩
  refine ⟨_, rfl, _, _, rfl, rfl, ⟨by decide, by decide, by decide⟩, _, _, rfl, rfl, _, rfl, ?_⟩
  refine ite2 (fun c1 => ?_) (fun c1 => ?_)
  · have c2 : 10 ^ (Int.toNat 18) ≤ c := of_decide_eq_true c1
    have c3 : (0 : Int) ≤ 10 ^ (Int.toNat 18) := by decide
    exact ⟨_, rfl, q _ (by omega)⟩
  · have m1 : (0 : Int) < 2147483647 := by decide
    have m2 : (0 : Int) < 2147483629 := by decide
    have m3 : (0 : Int) < 1000000007 := by decide
    refine ⟨_, rfl, _, _, rfl, rfl, .inr ⟨by decide, by decide⟩, _, _, rfl, rfl, _, _, rfl, rfl, m1, ?_⟩
    generalize h1 : (c * 48271 + 12345) % 2147483647 = one
    have a1 : 0 ≤ one := by rw [← h1]; exact Int.emod_nonneg _ (by decide)
    have b1 : one < 2147483647 := by rw [← h1]; exact Int.emod_lt_of_pos _ (by decide)
    refine ⟨_, rfl, _, rfl, _, _, rfl, rfl, .inl ⟨by omega, by omega⟩, _, rfl, _, _, rfl, rfl, .inr ⟨by decide, by decide⟩, _, _, rfl, rfl, _, _, rfl, rfl, _, _, rfl, rfl, m2, ?_⟩
    generalize h2 : (one * one + c * 69621 + 7) % 2147483629 = other
    have a2 : 0 ≤ other := by rw [← h2]; exact Int.emod_nonneg _ (by decide)
    have b2 : other < 2147483629 := by rw [← h2]; exact Int.emod_lt_of_pos _ (by decide)
    refine ⟨_, rfl, _, rfl, _, _, rfl, rfl, .inl ⟨by omega, by omega⟩, _, rfl, _, _, rfl, rfl, _, _, rfl, rfl, m3, ?_⟩
    generalize h3 : (other * other + one) % 1000000007 = third
    have a3 : 0 ≤ third := by rw [← h3]; exact Int.emod_nonneg _ (by decide)
    have b3 : third < 1000000007 := by rw [← h3]; exact Int.emod_lt_of_pos _ (by decide)
    have d8 : ∀ x : Int, CDivW x 8 := fun x => ⟨by decide, by decide⟩
    have e1 : 0 ≤ one / 8 := Int.ediv_nonneg a1 (by decide)
    have e2 : 0 ≤ other / 8 := Int.ediv_nonneg a2 (by decide)
    have e3 : 0 ≤ third / 8 := Int.ediv_nonneg a3 (by decide)
    refine ⟨_, rfl, _, _, rfl, rfl, d8 _, _, rfl, _, _, rfl, rfl, d8 _, _, rfl, _, _, rfl, rfl, d8 _, _, _, rfl, rfl, .inl ⟨by decide, by decide⟩, _, _, rfl, rfl, _, _, rfl, rfl, .inl ⟨by decide, by decide⟩, _, _, rfl, rfl, q _ (by omega)⟩
/-! ### _law_take -/
def spTake (K : PySem.W.Frag) : Sp := fun vs H Q _ => ∃ (H0 : Hp) (s p : Addr) (ns : List Int) (n : Nat) (m : Int), vs = [.ref s, .ref p, .int m] ∧ Fd K H0 s p ns n H ∧ n < 1000000000 ∧ 0 < m ∧ m.natAbs < 2 ^ 250 ∧
  ∀ (d : Int) (ys : List V), 0 ≤ d → d < m → FeedL (n + 1) ys → Q (.int d) (upd H p (.lst ys))
theorem sc_law_take : FnScope ["script", "pot", "many", "cell", "found"] ["script", "pot", "many"] (defScope s_law_take) :=
  ⟨rfl, rfl, rfl, by decide +kernel, rfl, by decide +kernel, by decide +kernel⟩
theorem ok_take (F : Fn K mg "_law_take" s_law_take) (T : BlF mg) (C_wide : Cal P w K mg base "_law_wide" 1 ["cell"] spWide) : Cal P w K mg base "_law_take" 2 ["script", "pot", "many"] (spTake K) := by
  refine cal_of F sc_law_take
    (fun _ _ _ _ _ _ us hl => match us, hl with | [_, _, _], _ => rfl) ?_ ?_
  · rintro vs H Q E ⟨H0, s, p, ns, n, m, rfl, _⟩
    rfl
  rintro f cdv A outer s' H vs Q E free hr ⟨H0, s, p, ns, n, m, rfl, D, nb, m0, mb, q⟩
  refine ⟨_, (pss_cons (ps_if (pt_cmpR op_eq (pe_ix ix_list (pv 1) pe_int (fun _ _ => rfl)) pe_int (nomark _))
    (pss_cons (ps_set (i := 3) sc_law_take.nd rfl (Or.inl rfl) (pe_op op_mul (pe_op op_add (pe_op op_mod (pe_callB (cr_sum (by rfl)) (by rfl) T.sum (by decide +kernel) (pa_cons (pv 0) pa_nil)) pe_int) pe_int) (pe_op op_add (pe_ix ix_list (pv 1) pe_int (fun _ _ => rfl)) pe_int)))
    (pss_cons (ps_if (pt_cmpR op_lt (pe_ix ix_list (pv 1) pe_int (fun _ _ => rfl)) (pe_callB call_len_seq (by rfl) T.len (by decide +kernel) (pa_cons (pv 0) pa_nil)) (nomark _))
    (pss_one (ps_set (i := 3) sc_law_take.nd rfl (Or.inl rfl) (pe_ix ix_list (pv 0) (pe_ix ix_list (pv 1) pe_int (fun _ _ => rfl)) (fun _ _ => rfl))))
    pss_nil)
    (pss_cons (ps_asg (pe_op op_add (pe_ix ix_list (pv 1) pe_int (fun _ _ => rfl)) pe_int) (pg_sub (pv 1) pe_int set_list))
    (pss_one (ps_asg (pe_cal C_wide free (hr.mono (by decide)) (pa_cons (pv 3) pa_nil)) (pg_sub (pv 1) pe_int set_list))))))
    pss_nil)
    (pss_cons (ps_set (i := 4) sc_law_take.nd rfl (Or.inl rfl) (pe_op op_mod (pe_ix ix_list (pv 1) pe_int (fun _ _ => rfl)) (pv 2)))
    (pss_cons (ps_asg (pe_op op_fdivW (pe_ix ix_list (pv 1) pe_int (fun _ _ => rfl)) (pv 2)) (pg_sub (pv 1) pe_int set_list))
    (pss_one (ps_ret (pv 4)))))), ?_⟩
  obtain ⟨xs, hp, i, v, rfl, il, v0⟩ := D.at_
  have hS := D.old.seq D.sq
  have dv : ∀ x : Int, CDivW x m := fun x => wide_div m0 mb (by decide) (by decide)
  have hl : (ns.map V.int).length = ns.length := List.length_map _
  refine ⟨_, rfl, p, _, _, _, rfl, rfl, SqL.of hp, rfl, rfl, _, rfl, ?_⟩
  rw [dec_ii]
  refine ite2 (fun c1 => ?_) (fun c1 => ?_)
  · refine ⟨_, rfl, s, ns, rfl, hS, ?_⟩
    generalize ns.sum = su
    refine ⟨_, _, rfl, rfl, (by show (0 : Int) < 1000003; decide), _, _, rfl, rfl, _, rfl, p, _, _, _, rfl, rfl, SqL.of hp, rfl, _, _, rfl, rfl, _, _, rfl, rfl, .inl ⟨by omega, by omega⟩, ?_⟩
    refine ⟨_, rfl, p, _, _, _, rfl, rfl, SqL.of hp, rfl, _, rfl, s, _, rfl, .inl hS, _, _, rfl, rfl, _, rfl, ?_⟩
    refine ite2 (fun c2 => ?_) (fun c2 => ?_)
    · have c' : (i : Int) < (((ns.map V.int).length : Nat) : Int) := of_decide_eq_true c2
      have hi : i < ns.length := by omega
      refine ⟨_, rfl, _, rfl, p, _, _, _, rfl, rfl, SqL.of hp, rfl, s, _, _, _, rfl, rfl, hS, atI_nat (v := .int ns[i]) (by rw [List.getElem?_map, List.getElem?_eq_getElem hi]; rfl), ?_⟩
      refine ⟨_, rfl, p, _, _, _, rfl, rfl, SqL.of hp, rfl, _, _, rfl, rfl, _, rfl, p, _, _, _, rfl, rfl, hp, rfl, ?_⟩
      refine ⟨_, rfl, _, rfl, fun v1 v10 => ?_⟩
      refine ⟨_, rfl, p, _, _, _, rfl, rfl, upd_same, rfl, ?_⟩
      rw [upd_upd]
      have hp1 : upd H p (.lst [.int ((i : Int) + 1), .int v1]) p = some (.lst [.int ((i : Int) + 1), .int v1]) := upd_same
      refine ⟨_, rfl, p, _, _, _, rfl, rfl, SqL.of hp1, rfl, _, rfl, _, _, rfl, rfl, m0, ?_⟩
      refine ⟨_, rfl, p, _, _, _, rfl, rfl, SqL.of hp1, rfl, _, rfl, _, _, rfl, rfl, dv _, _, rfl, p, _, _, _, rfl, rfl, hp1, rfl, ?_⟩
      rw [upd_upd]
      refine ⟨_, rfl, q _ _ (Int.emod_nonneg _ (by omega)) (Int.emod_lt_of_pos _ m0) ⟨i + 1, v1 / m, ?_, by omega, Int.ediv_nonneg v10 (by omega)⟩⟩
      rw [Int.natCast_add]
      rfl
    · skip
      refine ⟨_, rfl, p, _, _, _, rfl, rfl, SqL.of hp, rfl, _, _, rfl, rfl, _, rfl, p, _, _, _, rfl, rfl, hp, rfl, ?_⟩
      refine ⟨_, rfl, _, rfl, fun v1 v10 => ?_⟩
      refine ⟨_, rfl, p, _, _, _, rfl, rfl, upd_same, rfl, ?_⟩
      rw [upd_upd]
      have hp1 : upd H p (.lst [.int ((i : Int) + 1), .int v1]) p = some (.lst [.int ((i : Int) + 1), .int v1]) := upd_same
      refine ⟨_, rfl, p, _, _, _, rfl, rfl, SqL.of hp1, rfl, _, rfl, _, _, rfl, rfl, m0, ?_⟩
      refine ⟨_, rfl, p, _, _, _, rfl, rfl, SqL.of hp1, rfl, _, rfl, _, _, rfl, rfl, dv _, _, rfl, p, _, _, _, rfl, rfl, hp1, rfl, ?_⟩
      rw [upd_upd]
      refine ⟨_, rfl, q _ _ (Int.emod_nonneg _ (by omega)) (Int.emod_lt_of_pos _ m0) ⟨i + 1, v1 / m, ?_, by omega, Int.ediv_nonneg v10 (by omega)⟩⟩
      rw [Int.natCast_add]
      rfl
  · refine ⟨_, rfl, p, _, _, _, rfl, rfl, SqL.of hp, rfl, _, rfl, _, _, rfl, rfl, m0, ?_⟩
    refine ⟨_, rfl, p, _, _, _, rfl, rfl, SqL.of hp, rfl, _, rfl, _, _, rfl, rfl, dv _, _, rfl, p, _, _, _, rfl, rfl, hp, rfl, ?_⟩
    exact ⟨_, rfl, q _ _ (Int.emod_nonneg _ (by omega)) (Int.emod_lt_of_pos _ m0) ⟨i, _, rfl, by omega, Int.ediv_nonneg v0 (by omega)⟩⟩
end

end G0
namespace G0
open PySem PySem.Spec PyProof.Rows L2
theorem lc_yes {te : TE} {σ : L2.St} {H : Hp} {Q : VK} {B : Hp → Prop} (h : te σ H Q) : tYes σ H (fun b H3 => if b = true then te σ H3 Q else B H3) := by
  show (if true = true then te σ H Q else B H)
  exact iteT h
/-! ### sets of seats -/
def tuD (n : List Int) : PyData := .tuple (n.map PyData.int)
theorem eqv_is : ∀ a b : List Int, PyData.eqvAll (a.map PyData.int) (b.map PyData.int) = decide (a = b)
  | [], [] => by simp [PyData.eqvAll]
  | [], _ :: _ => by simp [PyData.eqvAll]
  | _ :: _, [] => by simp [PyData.eqvAll]
  | x :: a, y :: b => by
    have ih := eqv_is a b
    simp only [List.map_cons, PyData.eqvAll, PyData.eqv, ih]
    by_cases e : x = y
    · subst e; simp
    · simp [e]
theorem eqv_tu (a b : List Int) : PyData.eqv (tuD a) (tuD b) = decide (a = b) := by
  simp only [tuD, PyData.eqv]
  exact eqv_is a b
theorem eqv_tus : ∀ A B : List (List Int), PyData.eqvAll (A.map tuD) (B.map tuD) = decide (A = B)
  | [], [] => by simp [PyData.eqvAll]
  | [], _ :: _ => by simp [PyData.eqvAll]
  | _ :: _, [] => by simp [PyData.eqvAll]
  | x :: a, y :: b => by
    have ih := eqv_tus a b
    simp only [List.map_cons, PyData.eqvAll, eqv_tu, ih]
    by_cases e : x = y
    · subst e; simp
    · simp [e]
theorem lay_tus : ∀ L : List (List Int), PyData.canLayAll0 (L.map tuD) = true
  | [] => by simp [PyData.canLayAll0]
  | n :: L => by simp [PyData.canLayAll0, PyData.canLay0, tuD, lay_ints n, lay_tus L]
theorem deep_tus : ∀ L : List (List Int), PyData.depthAll (L.map tuD) ≤ 1
  | [] => by simp [PyData.depthAll]
  | n :: L => by
    have := deep_tus L
    simp [PyData.depthAll, PyData.depth, tuD, deep_ints n]
    omega
theorem shaped_tu (n : List Int) : SeqAt.shaped (tuD n) = true := by
  show ((tuD n).canLay0 && decide ((tuD n).depth ≤ 64)) = true
  simp [tuD, PyData.canLay0, PyData.depth, lay_ints, deep_ints]
theorem shaped_tus (L : List (List Int)) : SeqAt.shaped (.list (L.map tuD)) = true := by
  show ((PyData.list (L.map tuD)).canLay0 && decide ((PyData.list (L.map tuD)).depth ≤ 64)) = true
  have := deep_tus L
  simp [PyData.canLay0, PyData.depth, lay_tus]
  omega
/-- well: not empty, rising, of seats -/
structure SetOk (n : Int) (ns : List Int) : Prop where
  ne : ns ≠ []
  up : ns.Pairwise (· < ·)
  low : ∀ x ∈ ns, 0 ≤ x ∧ x < n
  few : ns.length ≤ 10
def refs (ks : List (Addr × List Int)) : List V := ks.map fun p => V.ref p.1
def worth (ks : List (Addr × List Int)) : List (List Int) := ks.map fun p => p.2
/-- a list of tuples of ints stands at l -/
structure Fam (K : PySem.W.Frag) (H : Hp) (l : Addr) (ks : List (Addr × List Int)) : Prop where
  at_ : H l = some (.lst (refs ks))
  tups : ∀ p ∈ ks, SqT K H p.1 (p.2.map V.int)
structure FamOk (n : Int) (ks : List (Addr × List Int)) : Prop where
  well : ∀ p ∈ ks, SetOk n p.2
  nd : (worth ks).Nodup
section
variable {P : Program} {w : World} {K : PySem.W.Frag} {mg : Str → Option Value} {base : Heap}
theorem dps_tups {H : Hp} : ∀ {ks : List (Addr × List Int)}, (∀ p ∈ ks, SqT K H p.1 (p.2.map V.int)) → DpAll K H (refs ks) ((worth ks).map tuD)
  | [], _ => .nil
  | p :: ks, h => .cons (.tup (h p (List.mem_cons_self ..)) (dps_ints p.2)) (dps_tups fun q m => h q (List.mem_cons_of_mem _ m))
theorem Fam.dp {H : Hp} {l : Addr} {ks : List (Addr × List Int)} (F : Fam K H l ks) : Dp K H (.ref l) (.list ((worth ks).map tuD)) := .lst (SqL.of F.at_) (dps_tups F.tups)
theorem Fam.same {H H' : Hp} {l : Addr} {ks : List (Addr × List Int)} (F : Fam K H l ks) (c : Same H H') : Fam K H' l ks := ⟨c _ _ F.at_, fun p m => sqt_same c (F.tups p m)⟩
theorem Fam.chg {H H' : Hp} {l p : Addr} {ks : List (Addr × List Int)} (F : Fam K H l ks) (hp : ∃ xs, H p = some (.lst xs)) (c : Chg p H H') (d : l ≠ p) : Fam K H' l ks := ⟨c _ _ d F.at_, fun q m => sqt_chg hp c (F.tups q m)⟩
theorem any_tu (A : List (List Int)) (b : List Int) : ((A.map tuD).any fun z => PyData.eqv z (tuD b)) = decide (b ∈ A) := by
  rw [List.any_map]
  induction A with
  | nil => simp
  | cons a A ih =>
    rw [List.any_cons, ih]
    show (PyData.eqv (tuD a) (tuD b) || _) = _
    rw [eqv_tu]
    by_cases e : a = b
    · subst e; simp
    · have e' : ¬ b = a := fun z => e z.symm
      simp [e, e']
/-! ### _law_set -/
theorem wide12 {m : Int} (h0 : 0 < m) (h : m < 1000) : m.natAbs < 2 ^ 250 := Nat.lt_of_lt_of_le (show m.natAbs < 1000 by omega) (by decide)
def spLSet (K : PySem.W.Frag) : Sp := fun vs H Q _ => ∃ (H0 : Hp) (s p : Addr) (ns : List Int) (n : Nat) (m : Int), vs = [.ref s, .ref p, .int m] ∧ Fd K H0 s p ns n H ∧ n < 100000000 ∧ 0 < m ∧ m ≤ 60 ∧
  ∀ (t : Addr) (us : List Int) H', H t = none → Fd K H0 s p ns (n + 20) H' → Chg p H H' → SqT K H' t (us.map V.int) → SetOk m us → Q (.ref t) H'
theorem sc_law_set : FnScope ["script", "pot", "seats", "found", "seat", "k"] ["script", "pot", "seats"] (defScope s_law_set) :=
  ⟨rfl, rfl, rfl, by decide +kernel, rfl, by decide +kernel, by decide +kernel⟩
theorem ok_set (F : Fn K mg "_law_set" s_law_set) (T : BlF mg) (C_take : Cal P w K mg base "_law_take" 2 ["script", "pot", "many"] (spTake K)) : Cal P w K mg base "_law_set" 3 ["script", "pot", "seats"] (spLSet K) := by
  refine cal_of F sc_law_set
    (fun _ _ _ _ _ _ us hl => match us, hl with | [_, _, _], _ => rfl) ?_ ?_
  · rintro vs H Q E ⟨H0, s, p, ns, n, m, rfl, _⟩
    rfl
  rintro f cdv A outer s' H vs Q E free hr ⟨H0, s, p, ns, n, m, rfl, D, nb, m0, mb, q⟩
  refine ⟨_, (pss_cons (ps_set (i := 3) sc_law_set.nd rfl (Or.inl rfl) (pe_lst pa_nil))
    (pss_cons (ps_if (PW.pt (pw_and (pt_cmpR op_lt (pv 2) pe_int (nomark _)) (pw_and1 (pt_cmpR op_lt (pe_cal C_take free (hr.mono (by decide)) (pa_cons (pv 0) (pa_cons (pv 1) (pa_cons pe_int pa_nil)))) pe_int (nomark _)))))
    (pss_one (ps_setLc (i := 3) (own := [("seat", 4)]) (g := gName 4)  (by rfl) sc_law_set.nd rfl rfl (sw_true rfl rfl rfl (by decide +kernel)) (pi_range1 (by rfl) T.range (pa_cons (pv 2) pa_nil)) (blkOk_by (N := ["script", "pot", "seats", "found", "seat", "k"]) (sc := defScope s_law_set) (by decide +kernel)) (fun _ _ _ _ _ => pg_name (i := 4) sc_law_set.nd rfl (Or.inl rfl)) (fun _ _ _ _ _ => pts_one (pt_cmpR op_eq (pe_cal C_take free (hr.mono (by decide)) (pa_cons (pv 0) (pa_cons (pv 1) (pa_cons pe_int pa_nil)))) pe_int (nomark _))) (fun _ _ _ _ _ => (pv 4))))
    (pss_one (ps_setLc (i := 3) (own := [("k", 5)]) (g := gName 5) (tt := tYes) (by rfl) sc_law_set.nd rfl rfl (sw_true rfl rfl rfl (by decide +kernel)) (pi_range1 (by rfl) T.range (pa_cons (pe_cal C_take free (hr.mono (by decide)) (pa_cons (pv 0) (pa_cons (pv 1) (pa_cons pe_int pa_nil)))) pa_nil)) (blkOk_by (N := ["script", "pot", "seats", "found", "seat", "k"]) (sc := defScope s_law_set) (by decide +kernel)) (fun _ _ _ _ _ => pg_name (i := 5) sc_law_set.nd rfl (Or.inl rfl)) (fun _ _ _ _ _ => pts_nil) (fun _ _ _ _ _ => (pe_cal C_take free (hr.mono (by decide)) (pa_cons (pv 0) (pa_cons (pv 1) (pa_cons (pv 2) pa_nil))))))))
    (pss_cons (ps_expr (pe_bm PySem.F.plainAttrs_list PySem.F.slot_list_append PySem.F.type_list_append mt_append (pv 3) (pa_cons (pe_cal C_take free (hr.mono (by decide)) (pa_cons (pv 0) (pa_cons (pv 1) (pa_cons (pv 2) pa_nil)))) pa_nil)))
    (pss_one (ps_ret (pe_callTy call_tuple_of (by rfl) T.tuple (by decide +kernel) (pa_cons (pe_callB (cr_sortedSet (by rfl)) (by rfl) T.sorted (by decide +kernel) (pa_cons (pe_callTy (cr_setOfI (by rfl)) (by rfl) T.set (by decide +kernel) (pa_cons (pv 3) pa_nil)) pa_nil)) pa_nil))))))), ?_⟩
  refine ⟨Nat.zero_le _, fun e0 he0 => ?_⟩
  have D0 := D.same (same_upd (o := .lst []) he0)
  refine ⟨_, rfl, _, _, rfl, rfl, _, rfl, ?_⟩
  refine ite2 (fun c1 => ?_) (fun c1 => ?_)
  · have m10 : m < 10 := of_decide_eq_true c1
    refine ⟨_, rfl, _, rfl, H0, s, p, ns, n, 3, rfl, D0, by omega, by decide, by decide, fun d3 y3 d30 d31 Y3 => ?_⟩
    have D3 := D0.put Y3
    have c3 : Chg p H (upd (upd H e0 (.lst [])) p (.lst y3)) := (Chg.same (same_upd he0)).trans Chg.self
    refine ⟨_, _, rfl, rfl, _, rfl, ?_⟩
    refine ite2 (fun c2 => ?_) (fun c2 => ?_)
    · refine ⟨_, rfl, _, rfl, by omega, by omega, fun J hJ => ?_⟩
      have Jne := D3.ne hJ
      have J0 := D3.old.free hJ
      have JH : H J = none := Chg.back c3 hJ Jne
      refine lc_range (lo := 0) (n := m.toNat) (fun i G => ∃ acc : List Int, G J = some (.lst (acc.map V.int)) ∧ acc.length ≤ i ∧ (∀ x ∈ acc, 0 ≤ x ∧ x < m) ∧ Fd K H0 s p ns (n + 1 + i) G ∧ Chg p H G)
        ⟨[], upd_same, Nat.zero_le _, fun x hx => by simp at hx, D3.same (same_upd hJ), c3.trans (Chg.same (same_upd hJ))⟩ ?_ ?_
      · rintro i G hi ⟨acc, kJ, la, low, DG, cG⟩
        refine ⟨rfl, _, rfl, _, rfl, H0, s, p, ns, n + 1 + i, 2, rfl, DG, by omega, by decide, by decide, fun d y d0 d1 Y => ?_⟩
        refine ⟨rfl, _, rfl, ?_⟩
        rw [dec_ii]
        refine ite2 (fun c4 => ?_) (fun c4 => ?_)
        · refine ⟨_, rfl, ?_⟩
          have kJ' := (upd_ne (o := .lst y) Jne).trans kJ
          refine ⟨_, kJ', by rw [List.length_map]; exact Nat.lt_of_lt_of_le (show acc.length < 100 by omega) (by decide), acc ++ [0 + (i : Int)], ?_, by rw [List.length_append, List.length_singleton]; omega, fun x hx => ?_, ((DG.put Y).mono (by omega)).mut J0 Jne, fun b o nb' e => ?_⟩
          · rw [upd_same, List.map_append]; rfl
          · rcases List.mem_append.mp hx with h | h
            · exact low x h
            · rw [List.mem_singleton.mp h]; exact ⟨by omega, by omega⟩
          · rw [upd_ne (ne_of_none e JH), upd_ne nb']
            exact cG b o nb' e
        · exact ⟨acc, (upd_ne Jne).trans kJ, by omega, low, (DG.put Y).mono (by omega), cG.trans Chg.self⟩
      rintro G ⟨acc, kJ, la, low, DG', cG⟩
      have DG := DG'.mono (show n + 1 + m.toNat ≤ n + 15 by omega)
      have lacc : acc.length ≤ 9 := by omega
      refine ⟨_, rfl, .inl ⟨rfl, _, SqL.of kJ⟩, _, rfl, _, rfl, _, rfl, H0, s, p, ns, n + 15, m, rfl, DG, by omega, m0, wide12 m0 (by omega), fun d9 y9 d90 d91 Y9 => ?_⟩
      have Jp : J ≠ p := Jne
      have kJ9 : upd G p (.lst y9) J = some (.lst (acc.map V.int)) := (upd_ne Jp).trans kJ
      refine ⟨J, _, _, rfl, rfl, kJ9, by rw [List.length_map]; exact Nat.lt_of_lt_of_le (show acc.length < 100 by omega) (by decide), ?_⟩
      obtain ⟨G9, hG9⟩ : ∃ G9, G9 = upd (upd G p (.lst y9)) J (.lst (acc.map V.int ++ [.int d9])) := ⟨_, rfl⟩
      rw [← hG9]
      have kJ' : G9 J = some (.lst ((acc ++ [d9]).map V.int)) := by rw [hG9, upd_same, List.map_append]; rfl
      have D9 : Fd K H0 s p ns (n + 20) G9 := by rw [hG9]; exact ((DG.put Y9).mono (by omega)).mut J0 Jp
      have c9 : Chg p H G9 := fun b o nb' e => by rw [hG9, upd_ne (ne_of_none e JH), upd_ne nb']; exact cG b o nb' e
      clear hG9
      refine ⟨_, rfl, J, acc ++ [d9], rfl, SqL.of kJ', by rw [List.length_append, List.length_singleton]; omega, fun sa sc hsa lsc => ?_⟩
      rw [List.length_append, List.length_singleton] at lsc
      refine ⟨sa, _, sc, rfl, upd_same, by omega, fun us la up mem lus hla => ?_⟩
      refine ⟨la, _, rfl, .inl ⟨SqL.of upd_same, fun t ht => ?_⟩⟩
      have s9 := ((same_upd (o := SetO w sa (fun j => decide (j ∈ acc ++ [d9])) sc) hsa).trans (same_upd (o := .lst (us.map V.int)) hla)).trans (same_upd (o := .tup (us.map V.int)) ht)
      have s2 := (same_upd (o := SetO w sa (fun j => decide (j ∈ acc ++ [d9])) sc) hsa).trans (same_upd (o := .lst (us.map V.int)) hla)
      have tH : H t = none := c9.back (s2.free ht) ((D9.same s2).ne ht)
      have mem' : ∀ x, x ∈ us ↔ x ∈ acc ++ [d9] := fun x => by rw [mem x]; simp
      refine q t us _ tH (D9.same s9) (c9.trans (Chg.same s9)) (SqT.of upd_same) ⟨fun z => ?_, up, fun x hx => ?_, by omega⟩
      · have : d9 ∈ us := (mem' d9).mpr (by simp)
        rw [z] at this
        simp at this
      · rcases List.mem_append.mp ((mem' x).mp hx) with h | h
        · exact low x h
        · rw [List.mem_singleton.mp h]; exact ⟨d90, d91⟩
    · skip
      refine ⟨_, rfl, _, rfl, H0, s, p, ns, n + 1, 6, rfl, D3, by omega, by decide, by decide, fun d6 y6 d60 d61 Y6 => ?_⟩
      have D6 := (D3).put Y6
      refine ⟨_, rfl, by omega, by omega, fun J hJ => ?_⟩
      have Jne := D6.ne hJ
      have J0 := D6.old.free hJ
      have JH : H J = none := Chg.back (c3.trans Chg.self) hJ Jne
      refine lc_range (lo := 0) (n := d6.toNat) (fun i G => ∃ acc : List Int, G J = some (.lst (acc.map V.int)) ∧ acc.length ≤ i ∧ (∀ x ∈ acc, 0 ≤ x ∧ x < m) ∧ Fd K H0 s p ns (n + 2 + i) G ∧ Chg p H G)
        ⟨[], upd_same, Nat.zero_le _, fun x hx => by simp at hx, D6.same (same_upd hJ), (c3.trans Chg.self).trans (Chg.same (same_upd hJ))⟩ ?_ ?_
      · rintro i G hi ⟨acc, kJ, la, low, DG, cG⟩
        refine ⟨rfl, lc_yes ?_⟩
        refine ⟨_, rfl, _, rfl, _, rfl, H0, s, p, ns, n + 2 + i, m, rfl, DG, by omega, m0, wide12 m0 (by omega), fun d y d0 d1 Y => ?_⟩
        have kJ' := (upd_ne (o := .lst y) Jne).trans kJ
        refine ⟨_, kJ', by rw [List.length_map]; exact Nat.lt_of_lt_of_le (show acc.length < 100 by omega) (by decide), acc ++ [d], ?_, by rw [List.length_append, List.length_singleton]; omega, fun x hx => ?_, ((DG.put Y).mono (by omega)).mut J0 Jne, fun b o nb' e => ?_⟩
        · rw [upd_same, List.map_append]; rfl
        · rcases List.mem_append.mp hx with h | h
          · exact low x h
          · rw [List.mem_singleton.mp h]; exact ⟨d0, d1⟩
        · rw [upd_ne (ne_of_none e JH), upd_ne nb']
          exact cG b o nb' e
      rintro G ⟨acc, kJ, la, low, DG', cG⟩
      have DG := DG'.mono (show n + 2 + d6.toNat ≤ n + 15 by omega)
      have lacc : acc.length ≤ 9 := by omega
      refine ⟨_, rfl, .inl ⟨rfl, _, SqL.of kJ⟩, _, rfl, _, rfl, _, rfl, H0, s, p, ns, n + 15, m, rfl, DG, by omega, m0, wide12 m0 (by omega), fun d9 y9 d90 d91 Y9 => ?_⟩
      have Jp : J ≠ p := Jne
      have kJ9 : upd G p (.lst y9) J = some (.lst (acc.map V.int)) := (upd_ne Jp).trans kJ
      refine ⟨J, _, _, rfl, rfl, kJ9, by rw [List.length_map]; exact Nat.lt_of_lt_of_le (show acc.length < 100 by omega) (by decide), ?_⟩
      obtain ⟨G9, hG9⟩ : ∃ G9, G9 = upd (upd G p (.lst y9)) J (.lst (acc.map V.int ++ [.int d9])) := ⟨_, rfl⟩
      rw [← hG9]
      have kJ' : G9 J = some (.lst ((acc ++ [d9]).map V.int)) := by rw [hG9, upd_same, List.map_append]; rfl
      have D9 : Fd K H0 s p ns (n + 20) G9 := by rw [hG9]; exact ((DG.put Y9).mono (by omega)).mut J0 Jp
      have c9 : Chg p H G9 := fun b o nb' e => by rw [hG9, upd_ne (ne_of_none e JH), upd_ne nb']; exact cG b o nb' e
      clear hG9
      refine ⟨_, rfl, J, acc ++ [d9], rfl, SqL.of kJ', by rw [List.length_append, List.length_singleton]; omega, fun sa sc hsa lsc => ?_⟩
      rw [List.length_append, List.length_singleton] at lsc
      refine ⟨sa, _, sc, rfl, upd_same, by omega, fun us la up mem lus hla => ?_⟩
      refine ⟨la, _, rfl, .inl ⟨SqL.of upd_same, fun t ht => ?_⟩⟩
      have s9 := ((same_upd (o := SetO w sa (fun j => decide (j ∈ acc ++ [d9])) sc) hsa).trans (same_upd (o := .lst (us.map V.int)) hla)).trans (same_upd (o := .tup (us.map V.int)) ht)
      have s2 := (same_upd (o := SetO w sa (fun j => decide (j ∈ acc ++ [d9])) sc) hsa).trans (same_upd (o := .lst (us.map V.int)) hla)
      have tH : H t = none := c9.back (s2.free ht) ((D9.same s2).ne ht)
      have mem' : ∀ x, x ∈ us ↔ x ∈ acc ++ [d9] := fun x => by rw [mem x]; simp
      refine q t us _ tH (D9.same s9) (c9.trans (Chg.same s9)) (SqT.of upd_same) ⟨fun z => ?_, up, fun x hx => ?_, by omega⟩
      · have : d9 ∈ us := (mem' d9).mpr (by simp)
        rw [z] at this
        simp at this
      · rcases List.mem_append.mp ((mem' x).mp hx) with h | h
        · exact low x h
        · rw [List.mem_singleton.mp h]; exact ⟨d90, d91⟩
  · have D1 := D0.mono (show n ≤ n + 1 by omega)
    have c1' : Chg p H (upd H e0 (.lst [])) := Chg.same (same_upd he0)
    refine iteF' rfl ?_
    refine ⟨_, rfl, _, rfl, H0, s, p, ns, n + 1, 6, rfl, D1, by omega, by decide, by decide, fun d6 y6 d60 d61 Y6 => ?_⟩
    have D6 := (D1).put Y6
    refine ⟨_, rfl, by omega, by omega, fun J hJ => ?_⟩
    have Jne := D6.ne hJ
    have J0 := D6.old.free hJ
    have JH : H J = none := Chg.back (c1'.trans Chg.self) hJ Jne
    refine lc_range (lo := 0) (n := d6.toNat) (fun i G => ∃ acc : List Int, G J = some (.lst (acc.map V.int)) ∧ acc.length ≤ i ∧ (∀ x ∈ acc, 0 ≤ x ∧ x < m) ∧ Fd K H0 s p ns (n + 2 + i) G ∧ Chg p H G)
      ⟨[], upd_same, Nat.zero_le _, fun x hx => by simp at hx, D6.same (same_upd hJ), (c1'.trans Chg.self).trans (Chg.same (same_upd hJ))⟩ ?_ ?_
    · rintro i G hi ⟨acc, kJ, la, low, DG, cG⟩
      refine ⟨rfl, lc_yes ?_⟩
      refine ⟨_, rfl, _, rfl, _, rfl, H0, s, p, ns, n + 2 + i, m, rfl, DG, by omega, m0, wide12 m0 (by omega), fun d y d0 d1 Y => ?_⟩
      have kJ' := (upd_ne (o := .lst y) Jne).trans kJ
      refine ⟨_, kJ', by rw [List.length_map]; exact Nat.lt_of_lt_of_le (show acc.length < 100 by omega) (by decide), acc ++ [d], ?_, by rw [List.length_append, List.length_singleton]; omega, fun x hx => ?_, ((DG.put Y).mono (by omega)).mut J0 Jne, fun b o nb' e => ?_⟩
      · rw [upd_same, List.map_append]; rfl
      · rcases List.mem_append.mp hx with h | h
        · exact low x h
        · rw [List.mem_singleton.mp h]; exact ⟨d0, d1⟩
      · rw [upd_ne (ne_of_none e JH), upd_ne nb']
        exact cG b o nb' e
    rintro G ⟨acc, kJ, la, low, DG', cG⟩
    have DG := DG'.mono (show n + 2 + d6.toNat ≤ n + 15 by omega)
    have lacc : acc.length ≤ 9 := by omega
    refine ⟨_, rfl, .inl ⟨rfl, _, SqL.of kJ⟩, _, rfl, _, rfl, _, rfl, H0, s, p, ns, n + 15, m, rfl, DG, by omega, m0, wide12 m0 (by omega), fun d9 y9 d90 d91 Y9 => ?_⟩
    have Jp : J ≠ p := Jne
    have kJ9 : upd G p (.lst y9) J = some (.lst (acc.map V.int)) := (upd_ne Jp).trans kJ
    refine ⟨J, _, _, rfl, rfl, kJ9, by rw [List.length_map]; exact Nat.lt_of_lt_of_le (show acc.length < 100 by omega) (by decide), ?_⟩
    obtain ⟨G9, hG9⟩ : ∃ G9, G9 = upd (upd G p (.lst y9)) J (.lst (acc.map V.int ++ [.int d9])) := ⟨_, rfl⟩
    rw [← hG9]
    have kJ' : G9 J = some (.lst ((acc ++ [d9]).map V.int)) := by rw [hG9, upd_same, List.map_append]; rfl
    have D9 : Fd K H0 s p ns (n + 20) G9 := by rw [hG9]; exact ((DG.put Y9).mono (by omega)).mut J0 Jp
    have c9 : Chg p H G9 := fun b o nb' e => by rw [hG9, upd_ne (ne_of_none e JH), upd_ne nb']; exact cG b o nb' e
    clear hG9
    refine ⟨_, rfl, J, acc ++ [d9], rfl, SqL.of kJ', by rw [List.length_append, List.length_singleton]; omega, fun sa sc hsa lsc => ?_⟩
    rw [List.length_append, List.length_singleton] at lsc
    refine ⟨sa, _, sc, rfl, upd_same, by omega, fun us la up mem lus hla => ?_⟩
    refine ⟨la, _, rfl, .inl ⟨SqL.of upd_same, fun t ht => ?_⟩⟩
    have s9 := ((same_upd (o := SetO w sa (fun j => decide (j ∈ acc ++ [d9])) sc) hsa).trans (same_upd (o := .lst (us.map V.int)) hla)).trans (same_upd (o := .tup (us.map V.int)) ht)
    have s2 := (same_upd (o := SetO w sa (fun j => decide (j ∈ acc ++ [d9])) sc) hsa).trans (same_upd (o := .lst (us.map V.int)) hla)
    have tH : H t = none := c9.back (s2.free ht) ((D9.same s2).ne ht)
    have mem' : ∀ x, x ∈ us ↔ x ∈ acc ++ [d9] := fun x => by rw [mem x]; simp
    refine q t us _ tH (D9.same s9) (c9.trans (Chg.same s9)) (SqT.of upd_same) ⟨fun z => ?_, up, fun x hx => ?_, by omega⟩
    · have : d9 ∈ us := (mem' d9).mpr (by simp)
      rw [z] at this
      simp at this
    · rcases List.mem_append.mp ((mem' x).mp hx) with h | h
      · exact low x h
      · rw [List.mem_singleton.mp h]; exact ⟨d90, d91⟩
/-! ### _law_many_seats, _law_family -/
def spMany (K : PySem.W.Frag) : Sp := fun vs H Q _ => ∃ (H0 : Hp) (s p : Addr) (ns : List Int) (n : Nat), vs = [.ref s, .ref p] ∧ Fd K H0 s p ns n H ∧ n < 100000000 ∧
  ∀ (m : Int) H', 1 ≤ m → m ≤ 60 → Fd K H0 s p ns (n + 2) H' → Chg p H H' → Q (.int m) H'
theorem sc_law_many_seats : FnScope ["script", "pot"] ["script", "pot"] (defScope s_law_many_seats) :=
  ⟨rfl, rfl, rfl, by decide +kernel, rfl, by decide +kernel, by decide +kernel⟩
theorem ok_many (F : Fn K mg "_law_many_seats" s_law_many_seats) (C_take : Cal P w K mg base "_law_take" 2 ["script", "pot", "many"] (spTake K)) : Cal P w K mg base "_law_many_seats" 3 ["script", "pot"] (spMany K) := by
  refine cal_of F sc_law_many_seats
    (fun _ _ _ _ _ _ us hl => match us, hl with | [_, _], _ => rfl) ?_ ?_
  · rintro vs H Q E ⟨H0, s, p, ns, n, rfl, _⟩
    rfl
  rintro f cdv A outer s' H vs Q E free hr ⟨H0, s, p, ns, n, rfl, D, nb, q⟩
  refine ⟨_, (pss_cons (ps_if (pt_cmpR op_eq (pe_cal C_take free (hr.mono (by decide)) (pa_cons (pv 0) (pa_cons (pv 1) (pa_cons pe_int pa_nil)))) pe_int (nomark _))
    (pss_one (ps_ret (pe_op op_add pe_int (pe_cal C_take free (hr.mono (by decide)) (pa_cons (pv 0) (pa_cons (pv 1) (pa_cons pe_int pa_nil)))))))
    pss_nil)
    (pss_one (ps_ret (pe_op op_add pe_int (pe_cal C_take free (hr.mono (by decide)) (pa_cons (pv 0) (pa_cons (pv 1) (pa_cons pe_int pa_nil)))))))), ?_⟩
  refine ⟨_, rfl, _, rfl, H0, s, p, ns, n, 4, rfl, D, by omega, by decide, by decide, fun d y d0 d1 Y => ?_⟩
  have D1 := D.put Y
  refine ⟨rfl, _, rfl, ?_⟩
  rw [dec_ii]
  refine ite2 (fun c => ?_) (fun c => ?_)
  · refine ⟨_, rfl, _, rfl, H0, s, p, ns, n + 1, 60, rfl, D1, by omega, by decide, by decide, fun d y d0 d1 Y => ?_⟩
    exact ⟨_, _, rfl, rfl, q _ _ (by omega) (by omega) (D1.put Y) (Chg.self.trans Chg.self)⟩
  · refine ⟨_, rfl, _, rfl, H0, s, p, ns, n + 1, 9, rfl, D1, by omega, by decide, by decide, fun d y d0 d1 Y => ?_⟩
    exact ⟨_, _, rfl, rfl, q _ _ (by omega) (by omega) (D1.put Y) (Chg.self.trans Chg.self)⟩
def spFamily (K : PySem.W.Frag) : Sp := fun vs H Q _ => ∃ (H0 : Hp) (s p : Addr) (ns : List Int) (n : Nat) (m : Int), vs = [.ref s, .ref p, .int m, .int 12] ∧ Fd K H0 s p ns n H ∧ n < 10000000 ∧ 0 < m ∧ m ≤ 60 ∧
  ∀ (l : Addr) (ks : List (Addr × List Int)) H', H l = none → Fd K H0 s p ns (n + 300) H' → Chg p H H' → Fam K H' l ks → FamOk m ks → ks.length ≤ 12 → Q (.ref l) H'
theorem sc_law_family : FnScope ["script", "pot", "seats", "most", "found", "k", "one"] ["script", "pot", "seats", "most"] (defScope s_law_family) :=
  ⟨rfl, rfl, rfl, by decide +kernel, rfl, by decide +kernel, by decide +kernel⟩
theorem ok_family (F : Fn K mg "_law_family" s_law_family) (T : BlF mg) (C_take : Cal P w K mg base "_law_take" 2 ["script", "pot", "many"] (spTake K)) (C_set : Cal P w K mg base "_law_set" 3 ["script", "pot", "seats"] (spLSet K)) :
    Cal P w K mg base "_law_family" 4 ["script", "pot", "seats", "most"] (spFamily K) := by
  refine cal_of F sc_law_family
    (fun _ _ _ _ _ _ us hl => match us, hl with | [_, _, _, _], _ => rfl) ?_ ?_
  · rintro vs H Q E ⟨H0, s, p, ns, n, m, rfl, _⟩
    rfl
  rintro f cdv A outer s' H vs Q E free hr ⟨H0, s, p, ns, n, m, rfl, D, nb, m0, mb, q⟩
  refine ⟨_, (pss_cons (ps_set (i := 4) sc_law_family.nd rfl (Or.inl rfl) (pe_lst pa_nil))
    (pss_cons (ps_for PassesOwn.never rfl (pi_range1 (by rfl) T.range (pa_cons (pe_cal C_take free (hr.mono (by decide)) (pa_cons (pv 0) (pa_cons (pv 1) (pa_cons (pe_op op_add (pv 3) pe_int) pa_nil)))) pa_nil)) (pg_name (i := 5) sc_law_family.nd rfl (Or.inl rfl))
    (pss_cons (ps_set (i := 6) sc_law_family.nd rfl (Or.inl rfl) (pe_cal C_set free (hr.mono (by decide)) (pa_cons (pv 0) (pa_cons (pv 1) (pa_cons (pv 2) pa_nil)))))
    (pss_one (ps_if (pt_cmpR (op_notInD (u65 hr)) (pv 6) (pv 4) (by rfl))
    (pss_one (ps_expr (pe_bm PySem.F.plainAttrs_list PySem.F.slot_list_append PySem.F.type_list_append mt_append (pv 4) (pa_cons (pv 6) pa_nil))))
    pss_nil))))
    (pss_one (ps_ret (pv 4))))), ?_⟩
  refine ⟨Nat.zero_le _, fun l hl => ?_⟩
  have D0 := D.same (same_upd (o := .lst []) hl)
  have lp := D.ne hl
  have l0 := D.old.free hl
  refine ⟨_, rfl, _, rfl, _, rfl, _, _, rfl, rfl, H0, s, p, ns, n, 13, rfl, D0, by omega, by decide, by decide, fun d y d0 d1 Y => ?_⟩
  have D1 := D0.put Y
  refine ⟨_, rfl, by omega, by omega, ?_⟩
  refine for_range (lo := 0) (n := d.toNat) (fun i σ G => (∃ z1 z2 : Option V, σ = [some (V.ref s), some (V.ref p), some (V.int m), some (V.int 12), some (V.ref l), z1, z2]) ∧
    ∃ ks, Fam K G l ks ∧ FamOk m ks ∧ ks.length ≤ i ∧ Fd K H0 s p ns (n + 1 + 20 * i) G ∧ Chg p H G)
    ⟨⟨_, _, rfl⟩, [], ⟨(upd_ne lp).trans upd_same, fun p m => by simp at m⟩, ⟨fun p m => by simp at m, .nil⟩, Nat.zero_le _, D1, (Chg.same (same_upd hl)).trans Chg.self⟩ ?_ ?_
  · rintro i σ G hi ⟨⟨z1, z2, rfl⟩, ks, Fk, Ok, lk, DG, cG⟩
    refine ⟨_, rfl, _, rfl, _, rfl, H0, s, p, ns, n + 1 + 20 * i, m, rfl, DG, by omega, m0, mb, fun t us G2 ht D2 c2 qt Ou => ?_⟩
    have F2 := Fk.chg DG.lst c2 lp
    refine ⟨_, rfl, _, rfl, tuD us, (worth ks).map tuD, .tup qt (dps_ints us), F2.dp, shaped_tu us, shaped_tus _, _, rfl, ?_⟩
    rw [any_tu]
    have D2' := D2.mono (show n + 1 + 20 * i + 20 ≤ n + 1 + 20 * (i + 1) by omega)
    refine ite2 (fun c3 => ?_) (fun c3 => ?_)
    · have nin : us ∉ worth ks := by simpa using c3
      refine ⟨_, rfl, .inl ⟨rfl, _, SqL.of F2.at_⟩, _, rfl, l, _, _, rfl, rfl, F2.at_, by unfold refs; rw [List.length_map]; exact Nat.lt_of_lt_of_le (show ks.length < 100 by omega) (by decide), ?_⟩
      refine ⟨⟨_, _, rfl⟩, ks ++ [(t, us)], ⟨by rw [upd_same]; unfold refs; rw [List.map_append]; rfl, fun p' m' => ?_⟩, ⟨fun p' m' => ?_, ?_⟩, by rw [List.length_append, List.length_singleton]; omega, D2'.mut l0 lp, fun b o nb' e => ?_⟩
      · have keep : ∀ {a xs}, SqT K G2 a xs → SqT K (upd G2 l (.lst (refs ks ++ [.ref t]))) a xs := fun z => sqt_chg ⟨_, F2.at_⟩ Chg.self z
        rcases List.mem_append.mp m' with h | h
        · exact keep (F2.tups p' h)
        · rw [List.mem_singleton.mp h]; exact keep qt
      · rcases List.mem_append.mp m' with h | h
        · exact Ok.well p' h
        · rw [List.mem_singleton.mp h]; exact Ou
      · unfold worth
        rw [List.map_append]
        exact List.nodup_append.mpr ⟨Ok.nd, by simp, fun a ha b hb => by
          rw [show b = us by simpa using hb]
          exact fun z => nin (z ▸ ha)⟩
      · rw [upd_ne (ne_of_none e hl)]
        exact c2 _ _ nb' (cG b o nb' e)
    · exact ⟨⟨_, _, rfl⟩, ks, F2, Ok, by omega, D2', cG.trans c2⟩
  · rintro σ G ⟨⟨z1, z2, rfl⟩, ks, Fk, Ok, lk, DG, cG⟩
    exact ⟨_, rfl, q l ks G hl (DG.mono (by omega)) cG Fk Ok (by omega)⟩
end

end G0
namespace G0
open PySem PySem.Spec PyProof.Rows L2
/-! ### families whose sets may have more seats -/
structure SetW (n : Int) (ns : List Int) : Prop where
  ne : ns ≠ []
  up : ns.Pairwise (· < ·)
  low : ∀ x ∈ ns, 0 ≤ x ∧ x < n
  few : ns.length ≤ 60
structure FamW (n : Int) (ks : List (Addr × List Int)) : Prop where
  well : ∀ p ∈ ks, SetW n p.2
  nd : (worth ks).Nodup
theorem SetOk.w {n : Int} {ns : List Int} (h : SetOk n ns) : SetW n ns := ⟨h.ne, h.up, h.low, Nat.le_trans h.few (by omega)⟩
theorem FamOk.w {n : Int} {ks : List (Addr × List Int)} (h : FamOk n ks) : FamW n ks := ⟨fun p m => (h.well p m).w, h.nd⟩

end G0
namespace G0
open PySem PySem.Spec PyProof.Rows L2
/-! ### what is never reached; a for over enumerate -/
def tDead : TS := fun _ _ _ => False
theorem ps_dead {X : Cx} {st : Stmt} : PS X st tDead := ⟨fun _ _ _ _ _ _ h => h.elim⟩
theorem for_enum {K : PySem.W.Frag} {a : Addr} {xs : List V} {g : TG} {tb : TS} {D : Ends} {σ : L2.St} {H : Hp} (Pv : Nat → L2.St → Hp → Prop) (h0 : Pv 0 σ H) (here : ∀ i σ H, Pv i σ H → SqL K H a xs)
    (turn : ∀ i x (t : Addr) σ H, xs[i]? = some x → Pv i σ H → H t = none → g (.ref t) σ (upd H t (.tup [.int (i : Nat), x])) fun σ2 H2 => tb { D with nx := Pv (i + 1), ct := Pv (i + 1), bk := D.nx } σ2 H2) (done : ∀ σ H, Pv xs.length σ H → D.nx σ H) :
    ∃ W : Nat → Nat → L2.St → Hp → Prop, (∃ m, W 0 m σ H) ∧ ∀ i m σ H, W i m σ H →
      ((Ite K a).stop i H ∧ D.nx σ H) ∨ ((Ite K a).go i H ∧ ∃ N : L2.St → Hp → Prop, (∀ σ' H', N σ' H' → ∃ m', m' < m ∧ W (i + 1) m' σ' H') ∧ ∀ x H', (Ite K a).yld i H x H' → g x σ H' fun σ2 H2 => tb { D with nx := N, ct := N, bk := D.nx } σ2 H2) := by
  refine ⟨fun i m σ H => m = xs.length - i ∧ i ≤ xs.length ∧ Pv i σ H, ⟨_, rfl, Nat.zero_le _, h0⟩, ?_⟩
  rintro i m σ H ⟨rfl, le, pv⟩
  have sq := here i σ H pv
  rcases Nat.lt_or_ge i xs.length with lt | ge
  · refine .inr ⟨⟨xs, xs[i], sq, List.getElem?_eq_getElem lt⟩, Pv (i + 1), fun σ' H' p' => ⟨xs.length - (i + 1), by omega, rfl, lt, p'⟩, fun v H' told => ?_⟩
    obtain ⟨t, x, rfl, ht, rfl, all⟩ := told
    exact turn i x t σ H (all xs sq) pv ht
  · have e : i = xs.length := by omega
    subst e
    exact .inl ⟨⟨xs, sq, Nat.le_refl _⟩, done σ H pv⟩
section
variable {P : Program} {w : World} {K : PySem.W.Frag} {mg : Str → Option Value} {base : Heap}
theorem filt_snoc {α : Type} {M : List α} {i : Nat} {k : α} (e : M[i]? = some k) (g : α → Bool) : (M.take (i + 1)).filter g = (M.take i).filter g ++ (if g k = true then [k] else []) := by
  rw [List.take_succ, e, List.filter_append]
  cases h : g k <;> simp [h]
theorem ints_at {ns : List Int} {i : Nat} {x : V} (h : (ns.map V.int)[i]? = some x) : ∃ k, ns[i]? = some k ∧ x = V.int k := by
  rw [List.getElem?_map] at h
  cases e : ns[i]? with
  | none => rw [e] at h; cases h
  | some k => rw [e] at h; exact ⟨k, rfl, (Option.some.inj h).symm⟩
/-! ### is_below, look_at_seat, _set_fault -/
def spBel : Sp := fun vs H Q _ => ∃ x n : Int, vs = [.int x, .int n] ∧ Q (.bl (decide (0 ≤ x) && decide (x < n))) H
theorem sc_is_below : FnScope ["thing", "top"] ["thing", "top"] (defScope s_is_below) :=
  ⟨rfl, rfl, rfl, by decide +kernel, rfl, by decide +kernel, by decide +kernel⟩
theorem ok_bel (F : Fn K mg "is_below" s_is_below) (T : BlF mg) : Cal P w K mg base "is_below" 1 ["thing", "top"] spBel := by
  refine cal_of F sc_is_below
    (fun _ _ _ _ _ _ us hl => match us, hl with | [_, _], _ => rfl) ?_ ?_
  · rintro vs H Q E ⟨x, n, rfl, _⟩
    rfl
  rintro f cdv A outer s H vs Q E free hr ⟨x, n, rfl, q⟩
  refine ⟨_, (pss_one (ps_ret (pe_and (pe_callB call_isi (by rfl) T.isinstance (by decide +kernel) (pa_cons (pv 0) (pa_cons (pe_bltn (v := .ty "int") (by rfl) T.int (by decide +kernel) rfl) pa_nil))) (pe_and (pe_not (pe_callB call_isi (by rfl) T.isinstance (by decide +kernel) (pa_cons (pv 0) (pa_cons (pe_bltn (v := .ty "bool") (by rfl) T.bool (by decide +kernel) rfl) pa_nil)))) (pe_one (pe_chain op_le op_lt pe_int (pv 0) (pv 1))))))), ?_⟩
  refine ⟨_, rfl, _, .ty "int", _, _, _, rfl, .ty _, .base (.int x), kit_ty (r := true) (by decide +kernel), _, rfl, iteT' rfl ?_⟩
  refine ⟨_, rfl, _, .ty "bool", _, _, _, rfl, .ty _, .base (.int x), kit_ty (r := false) (by decide +kernel), _, rfl, _, rfl, iteT' rfl ?_⟩
  refine ⟨_, rfl, _, _, rfl, rfl, _, rfl, ?_⟩
  refine ite2 (fun c => ⟨_, rfl, _, _, rfl, rfl, ?_⟩) (fun c => ?_)
  · have c' : decide (0 ≤ x) = true := c
    rw [c'] at q
    exact q
  · have c' : decide (0 ≤ x) = false := by simpa using c
    rw [c'] at q
    exact q
def spSetF (K : PySem.W.Frag) : Sp := fun vs H Q _ => ∃ (n : Int) (t : Addr) (us : List Int), vs = [.int n, .ref t] ∧ SqT K H t (us.map V.int) ∧ SetW n us ∧ ∀ H', Same H H' → Q .non H'
theorem up_at {us : List Int} (up : us.Pairwise (· < ·)) {i : Nat} {x y : Int} (h1 : us[i]? = some x) (h2 : us[i + 1]? = some y) : x < y := by
  obtain ⟨l1, e1⟩ := List.getElem?_eq_some_iff.mp h1
  obtain ⟨l2, e2⟩ := List.getElem?_eq_some_iff.mp h2
  have := List.pairwise_iff_getElem.mp up i (i + 1) l1 l2 (by omega)
  rw [e1, e2] at this
  exact this
theorem sc_set_fault : FnScope ["seats", "one", "seat", "at"] ["seats", "one"] (defScope s_set_fault) :=
  ⟨rfl, rfl, rfl, by decide +kernel, rfl, by decide +kernel, by decide +kernel⟩
theorem ok_setf (F : Fn K mg "_set_fault" s_set_fault) (T : BlF mg) (Cis_below : Cal P w K mg base "is_below" 1 ["thing", "top"] spBel) : Cal P w K mg base "_set_fault" 2 ["seats", "one"] (spSetF K) := by
  refine cal_of F sc_set_fault
    (fun _ _ _ _ _ _ us hl => match us, hl with | [_, _], _ => rfl) ?_ ?_
  · rintro vs H Q E ⟨n, t, us, rfl, _⟩
    rfl
  rintro f cdv A outer s H vs Q E free hr ⟨n, t, us, rfl, ht, ok, q⟩
  refine ⟨_, (pss_cons (ps_if (pt_cmpR op_eq (pe_callB call_len_seq (by rfl) T.len (by decide +kernel) (pa_cons (pv 1) pa_nil)) pe_int (nomark _))
    (pss_one (ps_ret pe_str))
    pss_nil)
    (pss_cons (ps_if (pt_not (pt_val (pe_callB (cr_all (by rfl)) (by rfl) T.all (by decide +kernel) (pa_cons (pe_lc (own := [("seat", 2)]) (g := gName 2) (tt := tYes) (by rfl) sc_set_fault.nd (pi_tup (pv 1)) (blkOk_by (N := ["seats", "one", "seat", "at"]) (sc := defScope s_set_fault) (by decide +kernel)) (fun _ _ _ _ _ => pg_name (i := 2) sc_set_fault.nd rfl (Or.inl rfl)) (fun _ _ _ _ _ => pts_nil) (fun _ _ _ _ _ => (pe_cal Cis_below free (hr.mono (by decide)) (pa_cons (pv 2) (pa_cons (pv 0) pa_nil))))) pa_nil))))
    (pss_one (ps_ret pe_str))
    pss_nil)
    (pss_cons (ps_if (pt_not (pt_val (pe_callB (cr_all (by rfl)) (by rfl) T.all (by decide +kernel) (pa_cons (pe_lc (own := [("at", 3)]) (g := gName 3) (tt := tYes) (by rfl) sc_set_fault.nd (pi_range2 (by rfl) T.range (pa_cons pe_int (pa_cons (pe_callB call_len_seq (by rfl) T.len (by decide +kernel) (pa_cons (pv 1) pa_nil)) pa_nil))) (blkOk_by (N := ["seats", "one", "seat", "at"]) (sc := defScope s_set_fault) (by decide +kernel)) (fun _ _ _ _ _ => pg_name (i := 3) sc_set_fault.nd rfl (Or.inl rfl)) (fun _ _ _ _ _ => pts_nil) (fun _ _ _ _ _ => (pe_cmpR op_lt (pe_ix (ix_tupK K) (pv 1) (pe_op op_sub (pv 3) pe_int) (fun _ _ => rfl)) (pe_ix (ix_tupK K) (pv 1) (pv 3) (fun _ _ => rfl)) (nomark _)))) pa_nil))))
    (pss_one (ps_ret pe_str))
    pss_nil)
    (pss_one (ps_ret pe_non))))), ?_⟩
  have few := ok.few
  have pos : 0 < us.length := List.length_pos_iff.mpr ok.ne
  refine ⟨_, rfl, t, _, rfl, .inr ht, rfl, _, rfl, ?_⟩
  refine iteF' (by rw [List.length_map, dec_ii]; simp [ok.ne]) ?_
  refine ⟨_, rfl, t, rfl, ⟨_, ht⟩, fun D hD => ?_⟩
  refine lc_tup (K := K) (a := t) (xs := us.map V.int) (fun i G => Same H G ∧ G D = some (.lst ((List.replicate i true).map V.bl))) ⟨same_upd hD, upd_same⟩ (fun i G _ h => sqt_same h.1 ht) ?_ ?_
  · rintro i x G hi ⟨sG, kD⟩
    obtain ⟨y, ey, rfl⟩ := ints_at hi
    have b := ok.low y (List.mem_of_getElem? ey)
    have li := (List.getElem?_eq_some_iff.mp ey).1
    refine ⟨rfl, lc_yes ?_⟩
    refine ⟨_, rfl, _, rfl, y, n, rfl, _, kD, ?_, fun c o e => ?_, ?_⟩
    · rw [List.length_map, List.length_replicate]
      exact Nat.lt_of_lt_of_le (show i < 100 by omega) (by decide)
    · rw [upd_ne (ne_of_none e hD)]
      exact sG _ _ e
    · rw [List.replicate_succ', List.map_append, show (decide (0 ≤ y) && decide (y < n)) = true by simp [b.1, b.2]]
      exact upd_same
  rintro G ⟨sG, kD⟩
  refine ⟨D, _, rfl, SqL.of kD, _, rfl, ?_⟩
  refine iteF' (by rw [List.all_replicate]; simp) ?_
  have htG := sqt_same sG ht
  have hl : (us.map V.int).length = us.length := List.length_map _
  refine ⟨_, rfl, t, _, rfl, .inr htG, _, _, rfl, ⟨by omega, by omega, by omega, by omega⟩, fun D2 hD2 => ?_⟩
  rw [hl]
  refine lc_range (lo := 1) (n := (((us.length : Nat) : Int) - 1).toNat) (fun i G2 => Same G G2 ∧ G2 D2 = some (.lst ((List.replicate i true).map V.bl))) ⟨same_upd hD2, upd_same⟩ ?_ ?_
  · rintro i G2 hi ⟨s2, k2⟩
    have ht2 := sqt_same s2 htG
    have l1 : i < us.length := by omega
    have l2 : i + 1 < us.length := by omega
    have b := up_at ok.up (List.getElem?_eq_getElem l1) (List.getElem?_eq_getElem l2)
    have a1 : atI (us.map V.int) (1 + (i : Int) - 1) = some (.int us[i]) := by
      rw [show (1 + (i : Int) - 1) = ((i : Nat) : Int) by omega]
      exact atI_nat (by rw [List.getElem?_map, List.getElem?_eq_getElem l1]; rfl)
    have a2 : atI (us.map V.int) (1 + (i : Int)) = some (.int us[i + 1]) := by
      rw [show (1 + (i : Int)) = ((i + 1 : Nat) : Int) by omega]
      exact atI_nat (by rw [List.getElem?_map, List.getElem?_eq_getElem l2]; rfl)
    refine ⟨rfl, lc_yes ?_⟩
    refine ⟨_, rfl, _, rfl, _, _, rfl, rfl, t, _, _, _, rfl, rfl, ht2, a1, _, rfl, _, rfl, t, _, _, _, rfl, rfl, ht2, a2, _, _, rfl, rfl, _, k2, ?_, fun c o e => ?_, ?_⟩
    · rw [List.length_map, List.length_replicate]
      exact Nat.lt_of_lt_of_le (show i < 100 by omega) (by decide)
    · rw [upd_ne (ne_of_none e hD2)]
      exact s2 _ _ e
    · rw [List.replicate_succ', List.map_append, upd_same]
      show some (HO.lst (_ ++ [V.bl (decide (us[i] < us[i + 1]))])) = _
      rw [decide_eq_true b]
      rfl
  rintro G2 ⟨s2, k2⟩
  refine ⟨D2, _, rfl, SqL.of k2, _, rfl, ?_⟩
  refine iteF' (by rw [List.all_replicate]; simp) ?_
  exact q _ (sG.trans s2)
/-! ### fault, looked -/
def spFault (K : PySem.W.Frag) : Sp := fun vs H Q _ => ∃ (n : Int) (l : Addr) (ks : List (Addr × List Int)), vs = [.int n, .ref l] ∧ Fam K H l ks ∧ FamW n ks ∧ ks.length ≤ 50 ∧ ∀ H', Same H H' → Q .non H'
theorem refs_at {ks : List (Addr × List Int)} {i : Nat} {x : V} (h : (refs ks)[i]? = some x) : ∃ p, ks[i]? = some p ∧ x = .ref p.1 := by
  unfold refs at h
  rw [List.getElem?_map] at h
  cases e : ks[i]? with
  | none => rw [e] at h; cases h
  | some p => rw [e] at h; exact ⟨p, rfl, (Option.some.inj h).symm⟩
theorem sc_fault : FnScope ["seats", "sets", "seen", "number", "one", "why"] ["seats", "sets"] (defScope s_fault) :=
  ⟨rfl, rfl, rfl, by decide +kernel, rfl, by decide +kernel, by decide +kernel⟩
theorem ok_fault (F : Fn K mg "fault" s_fault) (T : BlF mg) (C_set_fault : Cal P w K mg base "_set_fault" 2 ["seats", "one"] (spSetF K)) : Cal P w K mg base "fault" 3 ["seats", "sets"] (spFault K) := by
  refine cal_of F sc_fault
    (fun _ _ _ _ _ _ us hl => match us, hl with | [_, _], _ => rfl) ?_ ?_
  · rintro vs H Q E ⟨n, l, ks, rfl, _⟩
    rfl
  rintro f cdv A outer s H vs Q E free hr ⟨n, l, ks, rfl, Fk, Ok, few, q⟩
  refine ⟨_, (pss_cons (ps_set (i := 2) sc_fault.nd rfl (Or.inl rfl) (pe_callTy0 cr_set0T (by rfl) T.set (by decide +kernel)))
    (pss_cons (ps_for PassesOwn.never rfl (pi_enum (by rfl) T.enumerate (pa_cons (pv 1) pa_nil)) (pg_tup (by rfl) (pgs_cons (pg_name (i := 3) sc_fault.nd rfl (Or.inl rfl)) (pgs_cons (pg_name (i := 4) sc_fault.nd rfl (Or.inl rfl)) pgs_nil)))
    (pss_cons (ps_set (i := 5) sc_fault.nd rfl (Or.inl rfl) (pe_cal C_set_fault free (hr.mono (by decide)) (pa_cons (pv 0) (pa_cons (pv 4) pa_nil))))
    (pss_cons (ps_if (PW.pt (pw_and (pt_cmpR op_isN (pv 5) pe_non (nomark _)) (pw_and1 (pt_cmpR (op_inT (u64 hr)) (pv 4) (pv 2) (by rfl)))))
    (pss_one (ps_set (i := 5) sc_fault.nd rfl (Or.inl rfl) pe_str))
    pss_nil)
    (pss_cons (ps_if (pt_cmpR op_notN (pv 5) pe_non (nomark _))
    (pss_one (ps_ret (pe_tup (pa_cons (pv 3) (pa_cons (pv 5) pa_nil)))))
    pss_nil)
    (pss_one (ps_expr (pe_addT (u64 hr) (pv 2) (pa_cons (pv 4) pa_nil))))))))
    (pss_one (ps_ret pe_non)))), ?_⟩
  refine ⟨rfl, fun S hS => ?_⟩
  refine ⟨_, rfl, l, _, rfl, SqL.of (same_upd hS _ _ Fk.at_), ?_⟩
  refine for_enum (K := K) (a := l) (xs := refs ks) (fun i σ G => (∃ z3 z4 z5 : Option V, σ = [some (V.int n), some (V.ref l), some (V.ref S), z3, z4, z5]) ∧ Same H G ∧ ∃ L : List (Addr × List Int), G S = some (SetTO P w S L) ∧ L.length ≤ i ∧ (∀ p ∈ L, SqT K G p.1 (p.2.map V.int)) ∧ ∀ p ∈ L, p.2 ∈ (worth ks).take i)
    ⟨⟨_, _, _, rfl⟩, same_upd hS, [], upd_same, Nat.le_refl _, fun p m => by simp at m, fun p m => by simp at m⟩ (fun i σ G h => SqL.of (h.2.1 _ _ Fk.at_)) ?_ ?_
  · rintro i x T σ G hi ⟨⟨z3, z4, z5, rfl⟩, sG, L, kS, lL, tL, wL⟩ hT
    obtain ⟨p, hp, rfl⟩ := refs_at hi
    have pm := List.mem_of_getElem? hp
    have li := (List.getElem?_eq_some_iff.mp hp).1
    have sT := same_upd (o := .tup [.int (i : Nat), .ref p.1]) hT
    refine ⟨T, [.int (i : Nat), .ref p.1], rfl, SqT.of upd_same, rfl, _, _, rfl, _, _, rfl, rfl, ?_⟩
    have tp := sqt_same (sG.trans sT) (Fk.tups p pm)
    refine ⟨_, rfl, _, rfl, n, p.1, p.2, rfl, tp, Ok.well p pm, fun G2 s2 => ?_⟩
    have tp2 := sqt_same s2 tp
    have kS2 := s2 _ _ (sT _ _ kS)
    have tL2 : ∀ q ∈ L, SqT K G2 q.1 (q.2.map V.int) := fun q m => sqt_same (sT.trans s2) (tL q m)
    have wi : (worth ks)[i]? = some p.2 := by unfold worth; rw [List.getElem?_map, hp]; rfl
    have nin : p.2 ∉ L.map (·.2) := fun m => by
      obtain ⟨q, mq, eq⟩ := List.mem_map.mp m
      have h1 := wL q mq
      rw [eq] at h1
      obtain ⟨j, lj, ej⟩ := List.mem_take_iff_getElem.mp h1
      have lj' : j < i := by omega
      have : j = i := by
        have h2 : (worth ks)[j]? = some p.2 := by rw [List.getElem?_eq_getElem (by omega), ej]
        exact (List.getElem?_inj (by omega) Ok.nd).mp (h2.trans wi.symm)
      omega
    refine ⟨_, rfl, rfl, _, rfl, iteT' rfl ?_⟩
    refine ⟨_, rfl, _, rfl, p.1, S, p.2, L, rfl, rfl, kS2, tp2, tL2, _, rfl, ?_⟩
    rw [decide_eq_false nin]
    refine iteF' rfl ?_
    refine ⟨_, rfl, rfl, _, rfl, iteF' rfl ?_⟩
    refine ⟨_, rfl, ⟨S, L, rfl, kS2, tL2⟩, _, rfl, S, p.1, p.2, L, rfl, rfl, kS2, tp2, tL2, by omega, fun L' c1 c2 => ?_⟩
    have pr := c2 nin
    have keep : ∀ {a xs}, SqT K G2 a xs → SqT K (upd G2 S (SetTO P w S L')) a xs := fun {a xs} z => by
      rcases z with (z | ⟨o, z⟩) | z
      · exact .inl (.inl ((upd_ne (ne_of z kS2 (by intro y; cases y))).trans z))
      · exact .inl (.inr ⟨o, (upd_ne (ne_of z kS2 (by intro y; cases y))).trans z⟩)
      · exact .inr z
    refine ⟨⟨_, _, _, rfl⟩, fun b o e => (upd_ne (ne_of_none e hS)).trans (s2 _ _ (sT _ _ (sG _ _ e))), L', upd_same, ?_, fun q m => ?_, fun q m => ?_⟩
    · rw [pr.length_eq, List.length_cons]; omega
    · rcases List.mem_cons.mp (pr.mem_iff.mp m) with rfl | h
      · exact keep tp2
      · exact keep (tL2 q h)
    · rw [List.take_succ, wi]
      rcases List.mem_cons.mp (pr.mem_iff.mp m) with rfl | h
      · exact List.mem_append_right _ (by simp)
      · exact List.mem_append_left _ (wL q h)
  · rintro σ G ⟨⟨z3, z4, z5, rfl⟩, sG, _⟩
    exact q _ sG
structure BlC (mg : Str → Option Value) : Prop where
  seats : ∃ t, mg "SEATS" = some (.int 60 t)
  sets : ∃ t, mg "SETS" = some (.int 200 t)
def spLooked (K : PySem.W.Frag) : Sp := fun vs H Q _ => ∃ (n : Int) (l : Addr) (ks : List (Addr × List Int)), vs = [.int n, .ref l] ∧ (1 ≤ n ∧ n ≤ 60) ∧ Fam K H l ks ∧ FamW n ks ∧ ks.length ≤ 50 ∧ ∀ H', Same H H' → Q .non H'
theorem sc_looked : FnScope ["seats", "sets", "found"] ["seats", "sets"] (defScope s_looked) :=
  ⟨rfl, rfl, rfl, by decide +kernel, rfl, by decide +kernel, by decide +kernel⟩
theorem ok_looked (F : Fn K mg "looked" s_looked) (T : BlF mg) (Cs : BlC mg) (Cfault : Cal P w K mg base "fault" 3 ["seats", "sets"] (spFault K)) : Cal P w K mg base "looked" 4 ["seats", "sets"] (spLooked K) := by
  obtain ⟨t1, hSe⟩ := Cs.seats
  obtain ⟨t2, hSs⟩ := Cs.sets
  refine cal_of F sc_looked
    (fun _ _ _ _ _ _ us hl => match us, hl with | [_, _], _ => rfl) ?_ ?_
  · rintro vs H Q E ⟨n, l, ks, rfl, _⟩
    rfl
  rintro f cdv A outer s H vs Q E free hr ⟨n, l, ks, rfl, ⟨n0, n1⟩, Fk, Ok, few, q⟩
  refine ⟨_, (pss_cons (ps_if (pt_not (pt_chain op_le op_le pe_int (pv 0) (pe_glob (v := .int 60) (by rfl) hSe ⟨_, rfl⟩)))
    (pss_one ps_dead)
    pss_nil)
    (pss_cons (ps_if (pt_cmpR op_gt (pe_callB call_len_seq (by rfl) T.len (by decide +kernel) (pa_cons (pv 1) pa_nil)) (pe_glob (v := .int 200) (by rfl) hSs ⟨_, rfl⟩) (nomark _))
    (pss_one ps_dead)
    pss_nil)
    (pss_cons (ps_set (i := 2) sc_looked.nd rfl (Or.inl rfl) (pe_cal Cfault free (hr.mono (by decide)) (pa_cons (pv 0) (pa_cons (pv 1) pa_nil))))
    (pss_one (ps_if (pt_cmpR op_notN (pv 2) pe_non (nomark _))
    (pss_one ps_dead)
    pss_nil))))), ?_⟩
  refine ⟨_, rfl, _, _, rfl, rfl, _, rfl, iteT' (decide_eq_true n0) ⟨_, _, rfl, rfl, _, rfl, ?_⟩⟩
  refine iteF' (by simp [n1]) ?_
  refine ⟨_, rfl, l, _, rfl, .inl (SqL.of Fk.at_), _, _, rfl, rfl, _, rfl, ?_⟩
  refine iteF' (by unfold refs; rw [List.length_map]; simp; omega) ?_
  refine ⟨_, rfl, _, rfl, n, l, ks, rfl, Fk, Ok, few, fun H' sH => ?_⟩
  refine ⟨_, rfl, rfl, _, rfl, iteF' rfl ?_⟩
  exact q _ sH
end

end G0
namespace G0
open PySem PySem.Spec PyProof.Rows L2
/-! ### comprehensions within comprehensions: the written part named -/
section
variable {X : Cx} {tg : Expr} (K : PySem.W.Frag)
theorem pi_listK {l : Expr} {tl : TE} (hl : PE X l tl) (hK : X.K = K := by rfl) : PI X tg l (iList K tl) := by
  subst hK; exact pi_list hl
theorem pi_tupK {l : Expr} {tl : TE} (hl : PE X l tl) (hK : X.K = K := by rfl) : PI X tg l (iTup K tl) := by
  subst hK; exact pi_tup hl
theorem pi_enumK {e : Expr} {ta : TA} {p pos tpos : Pos} {elts : List Expr} {kk : Nat} (hg : Gl X "enumerate") (hm : X.mg "enumerate" = none) (ha : PA X [e] ta) (hs : starEach [e] X.env = [(false, eval e X.env)] := by rfl) (hK : X.K = K := by rfl) :
    PI X (.Tuple elts kk tpos) (.Call (.Name "enumerate" p) [e] [] pos) (iEnum K ta) := by
  subst hK; exact pi_enum hg hm ha hs
theorem sl_listK (hK : X.K = K := by rfl) : SlR X (rSlL K) := by
  subst hK; exact sl_list
theorem cr_anyK (hc : X.calm = true) (hK : X.K = K := by rfl) : CallR X (.builtin "any") (rAny K) := by
  subst hK; exact cr_any hc
theorem cr_allK (hc : X.calm = true) (hK : X.K = K := by rfl) : CallR X (.builtin "all") (rAll K) := by
  subst hK; exact cr_all hc
end
end G0
namespace G0
open PySem PySem.Spec PyProof.Rows L2
/-! ### comprehensions whose items stand already: what stays, and what is told of it -/
section
variable {K : PySem.W.Frag} {α : Type} {a : Addr} {ks : List α} {g : TG} {tt : TT} {te : TE} {vs : List Nat} {σ : L2.St} {H1 : Hp} {D : Addr} {Qd : Hp → Prop}
theorem vals_atA {f : α → V} {ks : List α} {i : Nat} {x : V} (h : (ks.map f)[i]? = some x) : ∃ k, ks[i]? = some k ∧ x = f k := by
  rw [List.getElem?_map] at h
  cases e : ks[i]? with
  | none => rw [e] at h; cases h
  | some k => rw [e] at h; exact ⟨k, rfl, (Option.some.inj h).symm⟩
theorem filt_nextA (p : α → Bool) {ns : List α} {i : Nat} {k : α} (h : ns[i]? = some k) : (ns.take (i + 1)).filter p = (ns.take i).filter p ++ (if p k = true then [k] else []) := by
  rw [List.take_succ, h, List.filter_append]
  cases z : p k <;> simp [z]
theorem keepL {H H' : Hp} {xs : List V} (c : Same H H') (h : SqL K H a xs) : SqL K H' a xs := c.seq h
theorem keepT {H H' : Hp} {xs : List V} (c : Same H H') (h : SqT K H a xs) : SqT K H' a xs := sqt_same c h
theorem lc_mapL (f : α → V) (p : α → Bool) (r : α → V) (few : ks.length ≤ 10000) (hD : H1 D = none) (hs : SqL K H1 a (ks.map f))
    (step : ∀ (i : Nat) (k : α) (G : Hp) (Y : VK) (B : Hp → Prop), ks[i]? = some k → Same H1 G → (p k = true → ∀ G', Same G G' → Y (r k) G') → (p k = false → ∀ G', Same G G' → B G') → g (f k) (wipe σ vs) G fun σ2 H2 => wipe σ2 vs = wipe σ vs ∧ tt σ2 H2 fun b H3 => if b = true then te σ2 H3 Y else B H3)
    (fin : ∀ G, Same H1 G → G D = some (.lst ((ks.filter p).map r)) → Qd G) :
    ∃ W : Nat → Nat → Hp → Prop, (∃ m, W 0 m (upd H1 D (.lst []))) ∧ ∀ i m G, W i m G →
      ((Itl K a).stop i G ∧ Qd G) ∨ ((Itl K a).go i G ∧ ∃ Nx : Hp → Prop, (∀ G', Nx G' → ∃ m', m' < m ∧ W (i + 1) m' G') ∧ ∀ x G', (Itl K a).yld i G x G' → g x (wipe σ vs) G' fun σ2 H2 => wipe σ2 vs = wipe σ vs ∧ tt σ2 H2 fun b H3 =>
        if b = true then te σ2 H3 fun y H4 => ∃ acc, H4 D = some (.lst acc) ∧ acc.length < sizeLine ∧ Nx (upd H4 D (.lst (acc ++ [y]))) else Nx H3) := by
  refine lc_list (K := K) (a := a) (xs := ks.map f) (fun i G => Same H1 G ∧ G D = some (.lst (((ks.take i).filter p).map r))) ⟨same_upd hD, upd_same⟩ (fun i G _ h => keepL h.1 hs) ?_ ?_
  · rintro i x G hx ⟨sG, kD⟩
    obtain ⟨k, hk, rfl⟩ := vals_atA hx
    have li := (List.getElem?_eq_some_iff.mp hk).1
    refine step i k G _ _ hk sG (fun c G' s' => ?_) (fun c G' s' => ?_)
    · refine ⟨_, s' _ _ kD, ?_, fun b o e => ?_, ?_⟩
      · rw [List.length_map]
        exact Nat.lt_of_lt_of_le (show _ < 20000 from Nat.lt_of_le_of_lt (List.length_filter_le ..) (by rw [List.length_take]; omega)) (by decide)
      · rw [upd_ne (ne_of_none e hD)]
        exact s' _ _ (sG _ _ e)
      · rw [filt_nextA p hk, if_pos c, List.map_append]
        exact upd_same
    · refine ⟨sG.trans s', ?_⟩
      rw [filt_nextA p hk, if_neg (by simp [c]), List.append_nil]
      exact s' _ _ kD
  · rintro G ⟨sG, kD⟩
    rw [List.length_map, List.take_length] at kD
    exact fin G sG kD
theorem lc_mapT (f : α → V) (p : α → Bool) (r : α → V) (few : ks.length ≤ 10000) (hD : H1 D = none) (hs : SqT K H1 a (ks.map f))
    (step : ∀ (i : Nat) (k : α) (G : Hp) (Y : VK) (B : Hp → Prop), ks[i]? = some k → Same H1 G → (p k = true → ∀ G', Same G G' → Y (r k) G') → (p k = false → ∀ G', Same G G' → B G') → g (f k) (wipe σ vs) G fun σ2 H2 => wipe σ2 vs = wipe σ vs ∧ tt σ2 H2 fun b H3 => if b = true then te σ2 H3 Y else B H3)
    (fin : ∀ G, Same H1 G → G D = some (.lst ((ks.filter p).map r)) → Qd G) :
    ∃ W : Nat → Nat → Hp → Prop, (∃ m, W 0 m (upd H1 D (.lst []))) ∧ ∀ i m G, W i m G →
      ((Itt K a).stop i G ∧ Qd G) ∨ ((Itt K a).go i G ∧ ∃ Nx : Hp → Prop, (∀ G', Nx G' → ∃ m', m' < m ∧ W (i + 1) m' G') ∧ ∀ x G', (Itt K a).yld i G x G' → g x (wipe σ vs) G' fun σ2 H2 => wipe σ2 vs = wipe σ vs ∧ tt σ2 H2 fun b H3 =>
        if b = true then te σ2 H3 fun y H4 => ∃ acc, H4 D = some (.lst acc) ∧ acc.length < sizeLine ∧ Nx (upd H4 D (.lst (acc ++ [y]))) else Nx H3) := by
  refine lc_tup (K := K) (a := a) (xs := ks.map f) (fun i G => Same H1 G ∧ G D = some (.lst (((ks.take i).filter p).map r))) ⟨same_upd hD, upd_same⟩ (fun i G _ h => keepT h.1 hs) ?_ ?_
  · rintro i x G hx ⟨sG, kD⟩
    obtain ⟨k, hk, rfl⟩ := vals_atA hx
    have li := (List.getElem?_eq_some_iff.mp hk).1
    refine step i k G _ _ hk sG (fun c G' s' => ?_) (fun c G' s' => ?_)
    · refine ⟨_, s' _ _ kD, ?_, fun b o e => ?_, ?_⟩
      · rw [List.length_map]
        exact Nat.lt_of_lt_of_le (show _ < 20000 from Nat.lt_of_le_of_lt (List.length_filter_le ..) (by rw [List.length_take]; omega)) (by decide)
      · rw [upd_ne (ne_of_none e hD)]
        exact s' _ _ (sG _ _ e)
      · rw [filt_nextA p hk, if_pos c, List.map_append]
        exact upd_same
    · refine ⟨sG.trans s', ?_⟩
      rw [filt_nextA p hk, if_neg (by simp [c]), List.append_nil]
      exact s' _ _ kD
  · rintro G ⟨sG, kD⟩
    rw [List.length_map, List.take_length] at kD
    exact fin G sG kD
theorem filter_tt {α : Type} (xs : List α) : xs.filter (fun _ => true) = xs := by simp
end

end G0
namespace G0
open PySem PySem.Spec PyProof.Rows L2
set_option maxHeartbeats 4000000
set_option pp.deepTerms.threshold 6
section
variable {P : Program} {w : World} {K : PySem.W.Frag} {mg : Str → Option Value} {base : Heap}
theorem none_same' {H H' : Hp} (s : Same H H') {x : Addr} (h : H' x = none) : H x = none := by
  cases z : H x with
  | none => rfl
  | some y => rw [s _ _ z] at h; cases h
/-- whether each seat of the other set stands in the first one -/
def holdsL (us vs : List Int) : Bool := vs.all fun x => decide (x ∈ us)
structure BlK (mg : Str → Option Value) : Prop where
  len : mg "len" = none
  all : mg "all" = none
  any : mg "any" = none
  enumerate : mg "enumerate" = none
  min : mg "min" = none
def spHolds (K : PySem.W.Frag) : Sp := fun vs H Q _ => ∃ (a b : Addr) (us ws : List Int), vs = [.ref a, .ref b] ∧ SqT K H a (us.map V.int) ∧ SqT K H b (ws.map V.int) ∧ ws.length ≤ 60 ∧ ∀ H', Same H H' → Q (.bl (holdsL us ws)) H'
theorem sc_holds : FnScope ["one", "other", "seat"] ["one", "other"] (defScope s_holds) :=
  ⟨rfl, rfl, rfl, by decide +kernel, rfl, by decide +kernel, by decide +kernel⟩
theorem ok_holds (F : Fn K mg "holds" s_holds) (T : BlK mg) : Cal P w K mg base "holds" 1 ["one", "other"] (spHolds K) := by
  refine cal_of F sc_holds
    (fun _ _ _ _ _ _ us hl => match us, hl with | [_, _], _ => rfl) ?_ ?_
  · rintro vs H Q E ⟨_, _, _, _, rfl, _⟩
    rfl
  rintro f cdv A outer s H vs Q E free hr ⟨a, b, us, ws, rfl, ha, hb, lw, q⟩
  refine ⟨_, (pss_one (ps_ret (pe_callB (cr_all (by rfl)) (by rfl) T.all (by decide +kernel) (pa_cons (pe_lc (own := [("seat", 2)]) (g := gName 2) (tt := tYes) (by rfl) sc_holds.nd (pi_tup (pv 1)) (blkOk_by (N := ["one", "other", "seat"]) (sc := defScope s_holds) (by decide +kernel)) (fun _ _ _ _ _ => pg_name (i := 2) sc_holds.nd rfl (Or.inl rfl)) (fun _ _ _ _ _ => pts_nil) (fun _ _ _ _ _ => (pe_cmpR (u_inK K) (pv 2) (pv 0) (by rfl)))) pa_nil)))), ?_⟩
  refine ⟨_, rfl, b, rfl, ⟨_, hb⟩, fun D hD => ?_⟩
  refine lc_mapT (ks := ws) V.int (fun _ => true) (fun x => V.bl (decide (x ∈ us))) (by omega) hD hb (fun i k G Y B ex sG yes no => ?_) (fun G sG kD => ?_)
  · refine ⟨rfl, lc_yes ?_⟩
    refine ⟨_, rfl, _, rfl, .inl ⟨a, _, rfl, .inr (sqt_same sG ha), rfl, flat_ints _, ?_⟩⟩
    show Y (V.bl (inV (V.int k) (us.map V.int))) G
    rw [inV_ints]
    exact yes rfl _ (Same.refl _)
  rw [filter_tt, show ws.map (fun x => V.bl (decide (x ∈ us))) = (ws.map fun x => decide (x ∈ us)).map V.bl by rw [List.map_map]; rfl] at kD
  refine ⟨D, _, rfl, SqL.of kD, ?_⟩
  rw [show (ws.map fun x => decide (x ∈ us)).all id = holdsL us ws by unfold holdsL; rw [List.all_map]; rfl]
  exact q _ sG
def leastB (ks : List (Addr × List Int)) (k : Addr × List Int) : Bool := !(ks.any fun q => decide (k.2 ≠ q.2) && holdsL k.2 q.2)
def spLeast (K : PySem.W.Frag) : Sp := fun vs H Q _ => ∃ (n : Int) (l : Addr) (ks : List (Addr × List Int)), vs = [.int n, .ref l] ∧ (1 ≤ n ∧ n ≤ 60) ∧ Fam K H l ks ∧ FamW n ks ∧ ks.length ≤ 50 ∧
  ∀ D H', H D = none → Same H H' → H' D = some (.lst (refs (ks.filter (leastB ks)))) → Q (.ref D) H'
theorem sc_least_ones : FnScope ["seats", "sets", "one", "other"] ["seats", "sets"] (defScope s_least_ones) :=
  ⟨rfl, rfl, rfl, by decide +kernel, rfl, by decide +kernel, by decide +kernel⟩
theorem ok_least (F : Fn K mg "least_ones" s_least_ones) (T : BlK mg) (Clooked : Cal P w K mg base "looked" 4 ["seats", "sets"] (spLooked K)) (Cholds : Cal P w K mg base "holds" 1 ["one", "other"] (spHolds K)) : Cal P w K mg base "least_ones" 5 ["seats", "sets"] (spLeast K) := by
  refine cal_of F sc_least_ones
    (fun _ _ _ _ _ _ us hl => match us, hl with | [_, _], _ => rfl) ?_ ?_
  · rintro vs H Q E ⟨_, _, _, rfl, _⟩
    rfl
  rintro f cdv A outer s H vs Q E free hr ⟨n, l, ks, rfl, nb, Fk, Ok, few, q⟩
  refine ⟨_, (pss_cons (ps_expr (pe_cal Clooked free (hr.mono (by decide)) (pa_cons (pv 0) (pa_cons (pv 1) pa_nil))))
    (pss_one (ps_ret (pe_lc (own := [("one", 2)]) (g := gName 2)  (by rfl) sc_least_ones.nd (pi_list (pv 1)) (blkOk_by (N := ["seats", "sets", "one", "other"]) (sc := defScope s_least_ones) (by decide +kernel)) (fun _ _ _ _ _ => pg_name (i := 2) sc_least_ones.nd rfl (Or.inr rfl)) (fun _ _ _ _ _ => pts_one (pt_not (pt_val (pe_callB (cr_anyK K (by rfl)) (by rfl) T.any (by decide +kernel) (pa_cons (pe_lc (own := [("other", 3)]) (g := gName 3) (tt := tYes) (by rfl) sc_least_ones.nd (pi_listK K (pv 1)) (blkOk_by (by kernel_rfl)) (fun _ _ _ _ _ => pg_name (i := 3) sc_least_ones.nd rfl (Or.inl rfl)) (fun _ _ _ _ _ => pts_nil) (fun _ _ _ _ _ => (pe_and (pe_cmpR (op_K rNeD K (op_neD (u64 hr)) rfl) (pv 2) (pv 3) (nomark _)) (pe_one (pe_cal Cholds free (hr.mono (by decide)) (pa_cons (pv 2) (pa_cons (pv 3) pa_nil))))))) pa_nil))))) (fun _ _ _ _ _ => (pv 2)))))), ?_⟩
  refine ⟨_, rfl, _, rfl, n, l, ks, rfl, nb, Fk, Ok, few, fun H1 s1 => ?_⟩
  have F1 := Fk.same s1
  refine ⟨_, rfl, l, rfl, ⟨_, SqL.of F1.at_⟩, fun D hD => ?_⟩
  refine lc_mapL (ks := ks) (fun k => V.ref k.1) (leastB ks) (fun k => V.ref k.1) (by omega) hD (SqL.of F1.at_) (fun i k G Y B ex sG yes no => ?_) (fun G sG kD => q D G (none_same' s1 hD) (s1.trans sG) kD)
  have FG := F1.same sG
  have mk := List.mem_of_getElem? ex
  refine ⟨rfl, ?_⟩
  refine ⟨_, rfl, l, rfl, ⟨_, SqL.of FG.at_⟩, fun D2 hD2 => ?_⟩
  refine lc_mapL (ks := ks) (fun k => V.ref k.1) (fun _ => true) (fun q => V.bl (decide (k.2 ≠ q.2) && holdsL k.2 q.2)) (by omega) hD2 (SqL.of FG.at_) (fun i q G2 Y2 B2 ex2 s2 yes2 no2 => ?_) (fun G2 s2 kD2 => ?_)
  · have F2 := FG.same s2
    have mq := List.mem_of_getElem? ex2
    refine ⟨rfl, lc_yes ?_⟩
    refine ⟨_, rfl, _, rfl, tuD k.2, tuD q.2, .tup (F2.tups k mk) (dps_ints _), .tup (F2.tups q mq) (dps_ints _), shaped_tu _, shaped_tu _, ?_⟩
    refine ⟨_, rfl, ?_⟩
    rw [eqv_tu]
    by_cases c : k.2 = q.2
    · refine iteF' (by simp [c]) ?_
      have := yes2 rfl _ (Same.refl _)
      rw [show (decide (k.2 ≠ q.2) && holdsL k.2 q.2) = false by simp [c]] at this
      exact this
    · refine iteT' (by simp [c]) ?_
      refine ⟨_, rfl, _, rfl, k.1, q.1, k.2, q.2, rfl, F2.tups k mk, F2.tups q mq, (Ok.well q mq).few, fun G3 s3 => ?_⟩
      have := yes2 rfl _ s3
      rw [show (decide (k.2 ≠ q.2) && holdsL k.2 q.2) = holdsL k.2 q.2 by simp [c]] at this
      exact this
  rw [filter_tt, show ks.map (fun q => V.bl (decide (k.2 ≠ q.2) && holdsL k.2 q.2)) = (ks.map fun q => decide (k.2 ≠ q.2) && holdsL k.2 q.2).map V.bl by rw [List.map_map]; rfl] at kD2
  refine ⟨D2, _, rfl, SqL.of kD2, _, rfl, ?_⟩
  have el : (!((ks.map fun q => decide (k.2 ≠ q.2) && holdsL k.2 q.2).any id)) = leastB ks k := by
    unfold leastB
    rw [List.any_map]
    rfl
  show if (!((ks.map fun q => decide (k.2 ≠ q.2) && holdsL k.2 q.2).any id)) = true then _ else _
  rw [el]
  cases z : leastB ks k with
  | true => exact iteT ⟨_, rfl, yes z _ s2⟩
  | false => exact iteF (no z _ s2)
end

end G0
namespace G0
open PySem PySem.Spec PyProof.Rows L2
/-! ### min(xs, default=None), xs a list of tuples of ints -/
section
variable {prog : Program} {w : World} {A : Around} {R : Result → Shared → Prop} {I : Addr} {fp wr : List Addr} {n : Nat} {P : Nat → Value → Prop} {St : Nat → Heap → Prop}
def CmpIn (prog : Program) (w : World) (A : Around) (h0 : Heap) (P : Nat → Value → Prop) (bt : Nat → Nat → Bool) : Prop :=
  ∀ i j vi vj (s : Shared) (Q : Value → Shared → Prop) (E : Value → Shared → Prop), (∀ b o, h0.get? b = some o → s.heap.get? b = some o) → P i vi → P j vj → Q (.bool (bt i j)) s → wpAny (model prog w) A (richCompare .Lt vi vj) Q E s
theorem min_loopK (W : Walks prog w A.in1 I fp wr n P St) (bt : Nat → Nat → Bool) (h0 : Heap) (kw : List (Str × Value)) (hcmp : CmpIn prog w A.in1 h0 P bt) (S : Addr) (hSf : S ∉ fp) (hw : ∀ b ∈ wr, h0.get? b = none) (hS0 : h0.get? S = none) :
    ∀ (k j : Nat) (s : Shared) (vb : Value) (c : Nat), n - (j + 1) = k → j + 1 ≤ n → St (j + 1) s.heap → P (argBest bt j) vb → (∀ b o, h0.get? b = some o → s.heap.get? b = some o) →
    s.heap.get? S = some { cls := .type "list", dict := none, data := .seq #[vb, vb] c, slots := #[] } →
    (∀ v h' tk, P (argBest bt (n - 1)) v → (∀ b o, b ∉ wr → b ≠ S → s.heap.get? b = some o → h'.get? b = some o) → R (.ok (.ret v)) { s with heap := h', toks := tk }) →
    codeAny (model prog w) A (.builtin "min.loop" ⟨[.ref I, .none, .ref S], kw⟩) R s := by
  have hSw : S ∉ wr := fun h => hSf (W.sub _ h)
  have hname : (toString "min" ++ toString ".loop" : String) = "min.loop" := by decide
  intro k
  induction k with
  | zero =>
    intro j s vb c hk hj hst hPb h0s hS hR
    have hin : j + 1 = n := by omega
    refine codeAny_builtin F.entry_min_loop ?_
    rw [Around.under_plainId F.plain_min_loop _]
    show wpAny _ A.in1 (seqItems? (.ref S) >>= _) _ _ s
    refine wpAny_bind (wpAny_seqItems hS rfl ?_)
    show wpAny _ A.in1 (tryCatch (pyNext (.ref I)) _ >>= _) _ _ s
    refine wpAny_bind (wpAny_tryCatch (W.done s _ _ (hin ▸ hst) fun h' tk hk' => ?_))
    have hS' := hk' S _ hSw hS
    show wpAny _ A.in1 (updateSeq S (fun _ => #[]) >>= _) _ _ _
    refine wpAny_bind ?_
    refine wpAny_updateSeq hS' rfl (wpAny_bind (wpAny_letGo (wpAny_pure ?_)))
    refine hR vb _ tk (by rw [← hin]; exact hPb) fun b o hbw hbS e => (Heap.get?_update_other _ _ (Ne.symm hbS)).trans (hk' b o hbw e)
  | succ k ih =>
    intro j s vb c hk hj hst hPb h0s hS hR
    have hlt : j + 1 < n := by omega
    refine codeAny_builtin F.entry_min_loop ?_
    rw [Around.under_plainId F.plain_min_loop _]
    show wpAny _ A.in1 (seqItems? (.ref S) >>= _) _ _ s
    refine wpAny_bind (wpAny_seqItems hS rfl ?_)
    show wpAny _ A.in1 (tryCatch (pyNext (.ref I)) _ >>= _) _ _ s
    refine wpAny_bind (wpAny_tryCatch (W.item (j + 1) s _ _ hlt hst fun v h' tk hP hst' hk' => ?_))
    have hS' := hk' S _ hSw hS
    have h0' : ∀ b o, h0.get? b = some o → h'.get? b = some o := fun b o e => hk' b o (fun m => by rw [hw b m] at e; cases e) (h0s b o e)
    show wpAny _ A.in1 (tryCatch (holding [v, v] (richCompare .Lt v vb >>= _)) _ >>= _) _ _ _
    refine wpAny_bind (wpAny_tryCatch (wpAny_holding (wpAny_bind (hcmp (j + 1) (argBest bt j) v vb _ _ _ h0' hP hPb ?_))))
    refine wpAny_bind (wpAny_holding (wpAny_truthy_bool ?_))
    refine wpAny_bind (wpAny_letGo (wpAny_pure ?_))
    have h0S : ∀ b o, h0.get? b = some o → S ≠ b := fun b o e z => by rw [← z, hS0] at e; cases e
    cases hb : bt (j + 1) (argBest bt j) with
    | true =>
      simp only [if_true]
      refine wpAny_bind ?_
      refine wpAny_updateSeq hS' rfl (wpAny_bind (wpAny_letGo ?_))
      rw [hname]
      refine wpAny_pure ⟨plainId_quiet F.plain_min_loop _, ih (j + 1) _ v _ (by omega) hlt (W.frame _ _ _ hst' fun b hbf o e => ?_) (by simp only [argBest, hb, if_true]; exact hP)
        (fun b o e => (Heap.get?_update_other _ _ (h0S b o e)).trans (h0' b o e)) (Heap.get?_update_self _ hS' rfl)
        fun v' h'' tk'' hP' hk'' => ?_⟩
      · exact (Heap.get?_update_other _ _ (fun h : S = b => hSf (by rw [h]; exact hbf))).trans e
      · exact hR v' h'' tk'' hP' fun b o hbw hbS e => hk'' b o hbw hbS ((Heap.get?_update_other _ _ (Ne.symm hbS)).trans (hk' b o hbw e))
    | false =>
      simp only [Bool.false_eq_true, if_false]
      refine wpAny_bind (wpAny_letGo ?_)
      rw [hname]
      refine wpAny_pure ⟨plainId_quiet F.plain_min_loop _, ih (j + 1) _ vb c (by omega) hlt hst' (by simp only [argBest, hb, Bool.false_eq_true, if_false]; exact hPb) h0' hS' fun v' h'' tk'' hP' hk'' => ?_⟩
      exact hR v' h'' tk'' hP' fun b o hbw hbS e => hk'' b o hbw hbS (hk' b o hbw e)
theorem min_firstK (W : Walks prog w A.in1 I fp wr n P St) (bt : Nat → Nat → Bool) (h0 : Heap) (kw : List (Str × Value)) (hcmp : CmpIn prog w A.in1 h0 P bt) (S : Addr) (hSf : S ∉ fp) (hw : ∀ b ∈ wr, h0.get? b = none) (hS0 : h0.get? S = none)
    (hn : 0 < n) {s : Shared} {c : Nat} (hst : St 0 s.heap) (h0s : ∀ b o, h0.get? b = some o → s.heap.get? b = some o)
    (hS : s.heap.get? S = some { cls := .type "list", dict := none, data := .seq #[] c, slots := #[] })
    (hR : ∀ v h' tk, P (argBest bt (n - 1)) v → (∀ b o, b ∉ wr → b ≠ S → s.heap.get? b = some o → h'.get? b = some o) → R (.ok (.ret v)) { s with heap := h', toks := tk }) :
    codeAny (model prog w) A (.builtin "min.loop" ⟨[.ref I, .none, .ref S], kw⟩) R s := by
  have hSw : S ∉ wr := fun h => hSf (W.sub _ h)
  have hname : (toString "min" ++ toString ".loop" : String) = "min.loop" := by decide
  refine codeAny_builtin F.entry_min_loop ?_
  rw [Around.under_plainId F.plain_min_loop _]
  show wpAny _ A.in1 (seqItems? (.ref S) >>= _) _ _ s
  refine wpAny_bind (wpAny_seqItems hS rfl ?_)
  show wpAny _ A.in1 (tryCatch (pyNext (.ref I)) _ >>= _) _ _ s
  refine wpAny_bind (wpAny_tryCatch (W.item 0 s _ _ hn hst fun v h' tk hP hst' hk' => ?_))
  have hS' := hk' S _ hSw hS
  show wpAny _ A.in1 (updateSeq S (fun _ => #[v, v]) >>= _) _ _ _
  refine wpAny_bind ?_
  refine wpAny_updateSeq hS' rfl ?_
  rw [hname]
  refine wpAny_pure ⟨plainId_quiet F.plain_min_loop _, min_loopK W bt h0 kw hcmp S hSf hw hS0 _ 0 _ v _ rfl hn (W.frame _ _ _ hst' fun b hbf o e => ?_) hP (fun b o e => ?_) (Heap.get?_update_self _ hS' rfl) fun v' h'' tk'' hP' hk'' => ?_⟩
  · exact (Heap.get?_update_other _ _ (fun h : S = b => hSf (by rw [h]; exact hbf))).trans e
  · exact (Heap.get?_update_other _ _ (fun z => by rw [← z, hS0] at e; cases e)).trans (hk' b o (fun m => by rw [hw b m] at e; cases e) (h0s b o e))
  · exact hR v' h'' tk'' hP' fun b o hbw hbS e => hk'' b o hbw hbS ((Heap.get?_update_other _ _ (Ne.symm hbS)).trans (hk' b o hbw e))
theorem min_plain {a : Addr} {its : List Value} {bt : Nat → Nat → Bool} {Q : Value → Shared → Prop} (hh : A.handled = none) (hl : s.heap.IsList a its.toArray)
    (hcmp : CmpIn prog w A.in1 s.heap (fun i v => its.toArray[i]? = some v) bt)
    (he : its ≠ [])
    (h1 : ∀ v h' tk, its.toArray[argBest bt (its.toArray.size - 1)]? = some v → (∀ b o, s.heap.get? b = some o → h'.get? b = some o) → Q v { s with heap := h', toks := tk }) :
    wpAny (model prog w) A (call (.builtin "min") [.ref a]) Q E s := by
  have hname : (toString "min" ++ toString ".loop" : String) = "min.loop" := by decide
  have hlt : a < s.heap.objs.size := by obtain ⟨o, e, _⟩ := hl; exact Heap.lt_size e
  refine call_function_tree F.kind_min F.plain_min F.entry_min (F.args_min1 _) ?_
  show wpAny _ A.in1 (Builtin.Builtins.bindParams "min" ["key", "default"] 0 ⟨[], []⟩ >>= _) _ _ s
  refine wpAny_bind (wpAny_of_eq (show Builtin.Builtins.bindParams "min" ["key", "default"] 0 ⟨[], []⟩ = pure [none, none] from rfl) ?_)
  refine wpAny_bind (wpAny_pure ?_)
  refine wpAny_bind (wpAny_pyIter_list hl ?_)
  refine wpAny_bind (wpAny_newObj_type ?_)
  rw [hname]
  have W := Walks.list (prog := prog) (w := w) (A := A.in1) hh s.heap.objs.size a (Nat.ne_of_lt hlt) its.toArray
  have hS : (s.heap.push { cls := .type "list_iterator", data := .fields #[.ref a, .int 0 0] }).objs.size = s.heap.objs.size + 1 := Heap.size_push _ _
  have hit : (s.heap.push { cls := .type "list_iterator", data := .fields #[.ref a, .int 0 0] }).IsListIter s.heap.objs.size a 0 := ⟨_, Heap.get?_push_size _ rfl, rfl, rfl⟩
  have hst : ((s.heap.push { cls := .type "list_iterator", data := .fields #[.ref a, .int 0 0] }).push { cls := .type "list", data := .seq ([] : List Value).toArray }).IsListIter s.heap.objs.size a 0 ∧
      ((s.heap.push { cls := .type "list_iterator", data := .fields #[.ref a, .int 0 0] }).push { cls := .type "list", data := .seq ([] : List Value).toArray }).IsList a its.toArray :=
    ⟨hit.at fun o e => Heap.get?_push_of_some _ e, hl.at fun o e => Heap.get?_push_of_some _ (Heap.get?_push_of_some _ e)⟩
  have keep : ∀ b o, s.heap.get? b = some o → ((s.heap.push { cls := .type "list_iterator", data := .fields #[.ref a, .int 0 0] }).push { cls := .type "list", data := .seq ([] : List Value).toArray }).get? b = some o :=
    fun b o e => Heap.get?_push_of_some _ (Heap.get?_push_of_some _ e)
  have hSf : (s.heap.push { cls := .type "list_iterator", data := .fields #[.ref a, .int 0 0] }).objs.size ∉ [s.heap.objs.size, a] := by
    rw [hS]
    simp only [List.mem_cons, List.not_mem_nil, or_false, not_or]
    exact ⟨Nat.succ_ne_self _, Nat.ne_of_gt (Nat.lt_succ_of_lt hlt)⟩
  have none_at : ∀ b, s.heap.objs.size ≤ b → s.heap.get? b = none := fun b hb => by
    cases e : s.heap.get? b with
    | none => rfl
    | some o => exact absurd (Heap.lt_size e) (Nat.not_lt.mpr hb)
  have back : ∀ h' : Heap, (∀ b o, b ∉ [s.heap.objs.size] → b ≠ (s.heap.push { cls := .type "list_iterator", data := .fields #[.ref a, .int 0 0] }).objs.size →
      ((s.heap.push { cls := .type "list_iterator", data := .fields #[.ref a, .int 0 0] }).push { cls := .type "list", data := .seq ([] : List Value).toArray }).get? b = some o → h'.get? b = some o) →
      ∀ b o, s.heap.get? b = some o → h'.get? b = some o := fun h' hk b o e => by
    have lb := Heap.lt_size e
    exact hk b o (by simp only [List.mem_cons, List.not_mem_nil, or_false]; exact Nat.ne_of_lt lb) (by rw [hS]; exact Nat.ne_of_lt (Nat.lt_succ_of_lt lb)) (keep b o e)
  · refine wpAny_pure ⟨plainId_quiet F.plain_min_loop _, min_firstK W bt s.heap _ hcmp _ hSf (fun b hb => ?_) (none_at _ (by rw [hS]; omega)) ?_ hst keep (Heap.get?_push_size _ rfl) fun v h' tk hP hk => h1 v _ _ hP (back h' hk)⟩
    · rw [List.mem_singleton.mp hb]; exact none_at _ (Nat.le_refl _)
    · rw [List.size_toArray]; exact List.length_pos_iff.mpr he
theorem argBest_le {f : Nat → Int} : ∀ k, argBest (fun i j => decide (f i < f j)) k ≤ k ∧ ∀ j, j ≤ k → f (argBest (fun i j => decide (f i < f j)) k) ≤ f j
  | 0 => ⟨Nat.le_refl _, fun j hj => by rw [Nat.le_zero.mp hj]; exact Int.le_refl _⟩
  | k + 1 => by
    obtain ⟨h1, h2⟩ := argBest_le (f := f) k
    by_cases c : f (k + 1) < f (argBest (fun i j => decide (f i < f j)) k)
    · have e : argBest (fun i j => decide (f i < f j)) (k + 1) = k + 1 := by simp [argBest, c]
      rw [e]
      refine ⟨Nat.le_refl _, fun j hj => ?_⟩
      by_cases z : j = k + 1
      · rw [z]; exact Int.le_refl _
      · have := h2 j (by omega); omega
    · have e : argBest (fun i j => decide (f i < f j)) (k + 1) = argBest (fun i j => decide (f i < f j)) k := by simp [argBest, c]
      rw [e]
      refine ⟨Nat.le_succ_of_le h1, fun j hj => ?_⟩
      by_cases z : j = k + 1
      · rw [z]; omega
      · exact h2 j (by omega)
theorem lex_code {B : Int} : ∀ {n m : List Int}, n.length = m.length → TS.Bd B n → TS.Bd B m → HT.lexLt n m = decide (TS.code B n < TS.code B m)
  | [], [], _, _, _ => by simp [HT.lexLt, TS.code]
  | d :: r, e :: q, hl, hn, hm => by
    have hl' : r.length = q.length := by simpa using hl
    show (if d = e then HT.lexLt r q else decide (d < e)) = _
    by_cases c : d = e
    · subst c
      rw [if_pos rfl, lex_code hl' hn.tail hm.tail]
      exact decide_eq_decide.mpr (TS.code_same hl').symm
    · rw [if_neg c]
      refine decide_eq_decide.mpr ⟨fun x => TS.code_lt hl' hn.tail hm.tail x, fun x => ?_⟩
      rcases Int.lt_trichotomy d e with y | y | y
      · exact y
      · exact absurd y c
      · have := TS.code_lt hl'.symm hm.tail hn.tail y
        omega
end
theorem vals_at : ∀ {xs : List V} {us : List Value}, Vals xs us → ∀ {i : Nat} {u : Value}, us[i]? = some u → ∃ x, xs[i]? = some x ∧ RelV x u
  | [], [], .nil, i, u, e => by simp at e
  | x :: xs, u :: us, .cons r t, i, w, e => by
    cases i with
    | zero => simp at e; subst e; exact ⟨x, rfl, r⟩
    | succ i => exact vals_at t (by simpa using e)
/-! ### min(xs), xs a list of pairs of small ints -/
def PrN (n : List Int) : Prop := n.length = 2 ∧ TS.Bd 100 n
def rMinP (K : PySem.W.Frag) : List V → Hp → VK → Prop := fun xs H Q => ∃ (a : Addr) (vs : List V) (L : List (List Int)), xs = [.ref a] ∧ SqL K H a vs ∧ L.length = vs.length ∧ vs ≠ [] ∧ (∀ (i : Nat) (x : V), vs[i]? = some x → ∃ n : List Int, L[i]? = some n ∧ TupI K H x n ∧ PrN n) ∧
  ∀ x n, x ∈ vs → n ∈ L → TupI K H x n → (∀ m ∈ L, TS.code 100 n ≤ TS.code 100 m) → Q x H
theorem cr_minP {X : Cx} (hc : X.calm = true) (hu : X.A.units + 64 < cLine) : CallR X (.builtin "min") (rMinP X.K) := by
  intro pins s σ H xs us Q I r h
  obtain ⟨a, vs, L, rfl, hs, lL, hne, hL, q1⟩ := h
  obtain ⟨its, rv, hl, _⟩ := I.list hs
  rw [Vals.ref1 r]
  have lv := rv.length
  have at_ : ∀ i v, its.toArray[i]? = some v → ∃ x n, vs[i]? = some x ∧ RelV x v ∧ L[i]? = some n ∧ TupI X.K H x n ∧ PrN n := fun i v e => by
    obtain ⟨x, ex, rx⟩ := vals_at rv (i := i) (u := v) (by rw [List.getElem?_toArray] at e; exact e)
    obtain ⟨n, en, tn, sn⟩ := hL i x ex
    exact ⟨x, n, ex, rx, en, tn, sn⟩
  have getL : ∀ {i : Nat} {n : List Int}, L[i]? = some n → L.getD i [] = n := fun e => by rw [List.getD_eq_getElem?_getD, e]; rfl
  show wpAny _ _ (call (.builtin "min") [.ref a]) _ _ s
  refine min_plain (bt := fun i j => decide (TS.code 100 (L.getD i []) < TS.code 100 (L.getD j []))) (I.ok.hd hc) hl.isList (fun i j vi vj s' Q' E' keep hi hj hQ => ?_) (fun e => hne (List.eq_nil_of_length_eq_zero (by rw [lv, e]; rfl))) (fun v h' tk hv hk => ?_)
  · obtain ⟨xi, ni, e1, r1, e2, ⟨ti, f1, t1⟩, s1⟩ := at_ i vi hi
    obtain ⟨xj, nj, e3, r3, e4, ⟨tj, f3, t3⟩, s3⟩ := at_ j vj hj
    subst f1; subst f3
    obtain rfl : vi = Value.ref ti := r1
    obtain rfl : vj = Value.ref tj := r3
    have hQ : Q' (Value.bool (decide (TS.code 100 (L.getD i []) < TS.code 100 (L.getD j [])))) s' := hQ
    rw [getL e2, getL e4, ← lex_code (s1.1.trans s3.1.symm) s1.2 s3.2] at hQ
    obtain ⟨a1, y1, g1, ⟨o1, k1, c1, m1⟩, i1⟩ := tupI_raw I t1
    obtain ⟨a3, y3, g3, ⟨o3, k3, c3, m3⟩, i3⟩ := tupI_raw I t3
    cases g1; cases g3
    exact HT.lt_tupInts ⟨o1, keep _ _ k1, c1, m1⟩ ⟨o3, keep _ _ k3, c3, m3⟩ i1 i3 (by show X.A.units + 1 < cLine; omega) hQ
  · obtain ⟨x, n, ex, rx, en, tn, sn⟩ := at_ _ v hv
    refine ⟨x, H, I.kept hk, rx, q1 x n (List.mem_of_getElem? ex) (List.mem_of_getElem? en) tn fun m hm => ?_⟩
    obtain ⟨b1, b2⟩ := argBest_le (f := fun i => TS.code 100 (L.getD i [])) (its.toArray.size - 1)
    obtain ⟨j, hj, ej⟩ := List.getElem_of_mem hm
    have := b2 j (by rw [List.size_toArray]; omega)
    have gm : L.getD j [] = m := getL (by rw [List.getElem?_eq_getElem hj, ej])
    have gn : L.getD (argBest (fun i j => decide (TS.code 100 (L.getD i []) < TS.code 100 (L.getD j []))) (its.toArray.size - 1)) [] = n := getL en
    rw [gm, gn] at this
    exact this

end G0
namespace G0
open PySem PySem.Spec PyProof.Rows L2
set_option maxHeartbeats 4000000
set_option pp.deepTerms.threshold 6
/-! ### walks over enumerate and over lists, for any body -/
theorem it_enum {K : PySem.W.Frag} {a : Addr} {xs : List V} {H1 : Hp} {Qd : Hp → Prop} {Body : (Hp → Prop) → V → Hp → Prop} (Pv : Nat → Hp → Prop) (h0 : Pv 0 H1) (here : ∀ i H, Pv i H → SqL K H a xs)
    (turn : ∀ i x (t : Addr) H, xs[i]? = some x → Pv i H → H t = none → Body (Pv (i + 1)) (.ref t) (upd H t (.tup [.int (i : Nat), x]))) (done : ∀ H, Pv xs.length H → Qd H) :
    ∃ W : Nat → Nat → Hp → Prop, (∃ m, W 0 m H1) ∧ ∀ i m H, W i m H → ((Ite K a).stop i H ∧ Qd H) ∨ ((Ite K a).go i H ∧ ∃ Nx : Hp → Prop, (∀ H', Nx H' → ∃ m', m' < m ∧ W (i + 1) m' H') ∧ ∀ x H', (Ite K a).yld i H x H' → Body Nx x H') := by
  refine ⟨fun i m H => m = xs.length - i ∧ i ≤ xs.length ∧ Pv i H, ⟨_, rfl, Nat.zero_le _, h0⟩, ?_⟩
  rintro i m H ⟨rfl, le, pv⟩
  have sq := here i H pv
  rcases Nat.lt_or_ge i xs.length with lt | ge
  · refine .inr ⟨⟨xs, xs[i], sq, List.getElem?_eq_getElem lt⟩, Pv (i + 1), fun H' p' => ⟨xs.length - (i + 1), by omega, rfl, lt, p'⟩, fun v H' told => ?_⟩
    obtain ⟨t, x, rfl, ht, rfl, all⟩ := told
    exact turn i x t H (all xs sq) pv ht
  · have e : i = xs.length := by omega
    subst e
    exact .inl ⟨⟨xs, sq, Nat.le_refl _⟩, done H pv⟩
theorem lc2_yes {A B : Hp → Prop} {σ : L2.St} {H : Hp} (h : A H) : tYes σ H (fun b H3 => if b = true then A H3 else B H3) := by
  show (if true = true then A H else B H)
  exact iteT h
section
variable {P : Program} {w : World} {K : PySem.W.Frag} {mg : Str → Option Value} {base : Heap}
/-! ### the least seat in both -/
def lsV (us ws : List Int) : V := match us.find? (fun x => decide (x ∈ ws)) with | some x => .int x | none => .non
def spLS (K : PySem.W.Frag) : Sp := fun vs H Q _ => ∃ (a b : Addr) (us ws : List Int), vs = [.ref a, .ref b] ∧ SqT K H a (us.map V.int) ∧ SqT K H b (ws.map V.int) ∧ us.length ≤ 60 ∧ ∀ H', Same H H' → Q (lsV us ws) H'
theorem find_none_take {us : List Int} {i : Nat} {p : Int → Bool} {x : Int} (hx : us[i]? = some x) (h : (us.take i).find? p = none) (hp : p x = false) : (us.take (i + 1)).find? p = none := by
  rw [List.take_succ, hx, List.find?_append, h]
  simp [hp]
theorem find_at {us : List Int} {i : Nat} {p : Int → Bool} {x : Int} (hx : us[i]? = some x) (h : (us.take i).find? p = none) (hp : p x = true) : us.find? p = some x := by
  have e : us = us.take i ++ (x :: us.drop (i + 1)) := by
    have l := (List.getElem?_eq_some_iff.mp hx)
    obtain ⟨li, e⟩ := l
    rw [← e, ← List.drop_eq_getElem_cons li, List.take_append_drop]
  rw [e, List.find?_append, h]
  simp [hp]
theorem sc_least_shared : FnScope ["one", "other", "seat"] ["one", "other"] (defScope s_least_shared) :=
  ⟨rfl, rfl, rfl, by decide +kernel, rfl, by decide +kernel, by decide +kernel⟩
theorem ok_ls (F : Fn K mg "_least_shared" s_least_shared) : Cal P w K mg base "_least_shared" 1 ["one", "other"] (spLS K) := by
  refine cal_of F sc_least_shared
    (fun _ _ _ _ _ _ us hl => match us, hl with | [_, _], _ => rfl) ?_ ?_
  · rintro vs H Q E ⟨_, _, _, _, rfl, _⟩
    rfl
  rintro f cdv A outer s H vs Q E free hr ⟨a, b, us, ws, rfl, ha, hb, lw, q⟩
  refine ⟨_, (pss_cons (ps_for PassesOwn.never rfl (pi_tup (pv 0)) (pg_name (i := 2) sc_least_shared.nd rfl (Or.inl rfl))
    (pss_one (ps_if (pt_cmpR u_in (pv 2) (pv 1) (by rfl))
    (pss_one (ps_ret (pv 2)))
    pss_nil)))
    (pss_one (ps_ret pe_non))), ?_⟩
  refine ⟨_, rfl, a, rfl, ⟨_, ha⟩, ?_⟩
  refine for_tup (K := K) (a := a) (xs := us.map V.int) (fun i σ G => (∃ z : Option V, σ = [some (V.ref a), some (V.ref b), z]) ∧ Same H G ∧ (us.take i).find? (fun x => decide (x ∈ ws)) = none) ⟨⟨_, rfl⟩, Same.refl H, rfl⟩ (fun i σ G _ h => sqt_same h.2.1 ha) ?_ ?_
  · rintro i x σ G hx ⟨⟨z, rfl⟩, sG, fn⟩
    obtain ⟨k, hk, rfl⟩ := ints_at hx
    refine ⟨_, rfl, _, rfl, .inl ⟨b, _, rfl, .inr (sqt_same sG hb), rfl, flat_ints _, _, rfl, ?_⟩⟩
    rw [inV_ints]
    refine ite2 (fun c => ?_) (fun c => ?_)
    · have := q G sG
      unfold lsV at this
      rw [find_at hk fn c] at this
      exact ⟨_, rfl, this⟩
    · exact ⟨⟨_, rfl⟩, sG, find_none_take hk fn (by simpa using c)⟩
  · rintro σ G ⟨⟨z, rfl⟩, sG, fn⟩
    rw [List.length_map, List.take_length] at fn
    have := q G sG
    unfold lsV at this
    rw [fn] at this
    exact this
/-! ### meeting -/
def rowV (W : List (List Int)) (i : Nat) : List V := (W.take i).map (lsV (W.getD i []))
/-- the table: a list of lists -/
structure Tab (H : Hp) (t : Addr) (W : List (List Int)) (rs : List Addr) : Prop where
  at_ : H t = some (.lst (rs.map V.ref))
  rows : ∀ (i : Nat) (r : Addr), rs[i]? = some r → H r = some (.lst (rowV W i))
theorem Tab.same {H H' : Hp} {t : Addr} {W : List (List Int)} {rs : List Addr} (T : Tab H t W rs) (s : Same H H') : Tab H' t W rs := ⟨s _ _ T.at_, fun i r e => s _ _ (T.rows i r e)⟩
def Apart (W : List (List Int)) (lo hi : Nat) : Prop := lo < hi ∧ hi < W.length ∧ lsV (W.getD hi []) (W.getD lo []) = .non
theorem rowV_at {W : List (List Int)} {i j : Nat} {v : V} (h : (rowV W i)[j]? = some v) : j < i ∧ j < W.length ∧ v = lsV (W.getD i []) (W.getD j []) := by
  unfold rowV at h
  rw [List.getElem?_map, List.getElem?_take] at h
  by_cases c : j < i
  · rw [if_pos c] at h
    cases e : W[j]? with
    | none => rw [e] at h; cases h
    | some u =>
      rw [e] at h
      refine ⟨c, (List.getElem?_eq_some_iff.mp e).1, ?_⟩
      rw [List.getD_eq_getElem?_getD (l := W) (i := j), e]
      exact (Option.some.inj h).symm
  · rw [if_neg c] at h; cases h
theorem rowV_len {W : List (List Int)} {i : Nat} (h : i ≤ W.length) : (rowV W i).length = i := by
  unfold rowV
  rw [List.length_map, List.length_take]
  omega
theorem cut_take (xs : List V) (i : Nat) (h : i ≤ xs.length) : cutV xs none (some (i : Int)) = xs.take i := by
  unfold cutV
  rw [HT.sIx_none, HT.sIx_nat, Nat.min_eq_left h]
  simp
def spMeet (K : PySem.W.Frag) : Sp := fun vs H Q _ => ∃ (n : Int) (l : Addr) (ks : List (Addr × List Int)), vs = [.int n, .ref l] ∧ (1 ≤ n ∧ n ≤ 60) ∧ Fam K H l ks ∧ FamW n ks ∧ ks.length ≤ 50 ∧
  (∀ lo hi : Nat, Apart (worth ks) lo hi → (∀ lo' hi', Apart (worth ks) lo' hi' → lo < lo' ∨ lo = lo' ∧ hi ≤ hi') → ∀ r H', Same H H' → SqT K H' r [.str "apart", .int (lo : Nat), .int (hi : Nat)] → Q (.ref r) H') ∧
  ((∀ lo hi, ¬ Apart (worth ks) lo hi) → ∀ r t rs H', Same H H' → SqT K H' r [.str "meets", .ref t] → Tab H' t (worth ks) rs → rs.length = ks.length → Q (.ref r) H')
def Prs (K : PySem.W.Frag) (H : Hp) (D : Addr) (L : List (Nat × Nat)) : Prop := ∃ zs, H D = some (.lst zs) ∧ zs.length = L.length ∧ ∀ (i : Nat) (x : V), zs[i]? = some x → ∃ p : Nat × Nat, L[i]? = some p ∧ ∃ a, x = .ref a ∧ SqT K H a [.int (p.1 : Nat), .int (p.2 : Nat)]
theorem Prs.same {H H' : Hp} {D : Addr} {L : List (Nat × Nat)} (h : Prs K H D L) (s : Same H H') : Prs K H' D L := by
  obtain ⟨zs, h1, h2, h3⟩ := h
  exact ⟨zs, s _ _ h1, h2, fun i x e => by
    obtain ⟨p, e1, a, e2, e3⟩ := h3 i x e
    exact ⟨p, e1, a, e2, sqt_same s e3⟩⟩
theorem sc_meeting : FnScope ["seats", "sets", "table", "other", "number", "one", "apart", "row", "lower", "seat"] ["seats", "sets"] (defScope s_meeting) :=
  ⟨rfl, rfl, rfl, by decide +kernel, rfl, by decide +kernel, by decide +kernel⟩
theorem ok_meeting (F : Fn K mg "meeting" s_meeting) (T : BlK mg) (Clooked : Cal P w K mg base "looked" 4 ["seats", "sets"] (spLooked K)) (C_least_shared : Cal P w K mg base "_least_shared" 1 ["one", "other"] (spLS K)) : Cal P w K mg base "meeting" 5 ["seats", "sets"] (spMeet K) := by
  refine cal_of F sc_meeting
    (fun _ _ _ _ _ _ us hl => match us, hl with | [_, _], _ => rfl) ?_ ?_
  · rintro vs H Q E ⟨_, _, _, rfl, _⟩
    rfl
  rintro f cdv A outer s H vs Q E free hr ⟨n, l, ks, rfl, nb, Fk, Ok, few, qA, qM⟩
  refine ⟨_, (pss_cons (ps_expr (pe_cal Clooked free (hr.mono (by decide)) (pa_cons (pv 0) (pa_cons (pv 1) pa_nil))))
    (pss_cons (ps_setLc (i := 2) (own := [("number", 4), ("one", 5)]) (g := gTup K 2 (gCons (gName 4) (gCons (gName 5) gNil))) (tt := tYes) (by rfl) sc_meeting.nd rfl rfl (sw_true rfl rfl rfl (by decide +kernel)) (pi_enum (by rfl) T.enumerate (pa_cons (pv 1) pa_nil)) (blkOk_by (N := ["seats", "sets", "table", "other", "number", "one", "apart", "row", "lower", "seat"]) (sc := defScope s_meeting) (by decide +kernel)) (fun _ _ _ _ _ => pg_tup (by rfl) (pgs_cons (pg_name (i := 4) sc_meeting.nd rfl (Or.inl rfl)) (pgs_cons (pg_name (i := 5) sc_meeting.nd rfl (Or.inr rfl)) pgs_nil))) (fun _ _ _ _ _ => pts_nil) (fun _ _ _ _ _ => (pe_lc (own := [("other", 3)]) (g := gName 3) (tt := tYes) (by rfl) sc_meeting.nd (pi_listK K (pe_slice (sl_listK K) (pv 1) po_none (po_some (pv 4)))) (blkOk_by (by kernel_rfl)) (fun _ _ _ _ _ => pg_name (i := 3) sc_meeting.nd rfl (Or.inl rfl)) (fun _ _ _ _ _ => pts_nil) (fun _ _ _ _ _ => (pe_cal C_least_shared free (hr.mono (by decide)) (pa_cons (pv 5) (pa_cons (pv 3) pa_nil)))))))
    (pss_cons (ps_setLc2 (i := 6) (own := [("other", 3), ("row", 7), ("lower", 8), ("seat", 9)]) (vs1 := [8, 9]) (g := gTup K 2 (gCons (gName 3) (gCons (gName 7) gNil))) (tt := tYes) (g1 := gTup K 2 (gCons (gName 8) (gCons (gName 9) gNil)))  (by rfl) sc_meeting.nd rfl rfl (sw_true rfl rfl rfl (by decide +kernel)) (pi_enum (by rfl) T.enumerate (pa_cons (pv 2) pa_nil)) (blkOk_by (N := ["seats", "sets", "table", "other", "number", "one", "apart", "row", "lower", "seat"]) (sc := defScope s_meeting) (by decide +kernel)) (by decide) (fun _ _ _ _ _ => pg_tup (by rfl) (pgs_cons (pg_name (i := 3) sc_meeting.nd rfl (Or.inl rfl)) (pgs_cons (pg_name (i := 7) sc_meeting.nd rfl (Or.inl rfl)) pgs_nil))) (fun _ _ _ _ _ => pts_nil) (fun _ _ _ _ _ => (pi_enumK K (by rfl) T.enumerate (pa_cons (pv 7) pa_nil))) (fun _ _ _ _ _ => pg_tup (by rfl) (pgs_cons (pg_name (i := 8) sc_meeting.nd rfl (Or.inl rfl)) (pgs_cons (pg_name (i := 9) sc_meeting.nd rfl (Or.inl rfl)) pgs_nil))) (fun _ _ _ _ _ => pts_one (pt_cmpR op_isN (pv 9) pe_non (nomark _))) (fun _ _ _ _ _ => (pe_tup (pa_cons (pv 8) (pa_cons (pv 3) pa_nil)))))
    (pss_cons (ps_if (pt_cmpR op_gt (pe_callB call_len_seq (by rfl) T.len (by decide +kernel) (pa_cons (pv 6) pa_nil)) pe_int (nomark _))
    (pss_one (ps_ret (pe_op op_catA (pe_tup (pa_cons pe_str pa_nil)) (pe_callB (cr_minP (by rfl) (u64 hr)) (by rfl) T.min (by decide +kernel) (pa_cons (pv 6) pa_nil)))))
    pss_nil)
    (pss_one (ps_ret (pe_tup (pa_cons pe_str (pa_cons (pv 2) pa_nil))))))))), ?_⟩
  refine ⟨_, rfl, _, rfl, n, l, ks, rfl, nb, Fk, Ok, few, fun H1 s1 => ?_⟩
  have F1 := Fk.same s1
  have lW : (worth ks).length = ks.length := by unfold worth; rw [List.length_map]
  have lR : (refs ks).length = ks.length := by unfold refs; rw [List.length_map]
  have wAt : ∀ {i : Nat} {k : Addr × List Int}, ks[i]? = some k → (worth ks).getD i [] = k.2 := fun {i k} e => by
    rw [List.getD_eq_getElem?_getD]
    unfold worth
    rw [List.getElem?_map, e]
    rfl
  refine ⟨_, rfl, l, _, rfl, SqL.of F1.at_, fun D hD => ?_⟩
  refine it_enum (K := K) (a := l) (xs := refs ks) (fun i G => Same H1 G ∧ ∃ rs : List Addr, rs.length = i ∧ Tab G D (worth ks) rs ∧ D ∉ rs) ⟨same_upd hD, [], rfl, ⟨upd_same, fun i r e => by simp at e⟩, by simp⟩ (fun i G h => SqL.of (h.1 _ _ F1.at_)) ?_ ?_
  · rintro i x t G hx ⟨sG, rs, lr, TG, nD⟩ ht
    obtain ⟨k, hk, rfl⟩ := refs_at hx
    have mk := List.mem_of_getElem? hk
    have li := (List.getElem?_eq_some_iff.mp hk).1
    have u1 := same_upd (o := .tup [.int (i : Nat), .ref k.1]) ht
    refine ⟨t, [.int (i : Nat), .ref k.1], rfl, SqT.of upd_same, rfl, _, _, rfl, _, _, rfl, rfl, rfl, ?_⟩
    refine lc_yes ?_
    have F2 := F1.same (sG.trans u1)
    refine ⟨_, rfl, _, rfl, _, rfl, l, _, rfl, SqL.of F2.at_, fun p hp => ?_⟩
    rw [cut_take _ _ (by omega)]
    have u2 := same_upd (o := .lst ((refs ks).take i)) hp
    have kp : upd (upd G t (.tup [.int (i : Nat), .ref k.1])) p (.lst ((refs ks).take i)) p = some (.lst ((ks.take i).map fun q => V.ref q.1)) := by
      rw [upd_same]
      unfold refs
      rw [List.map_take]
    obtain ⟨G3, e3⟩ : ∃ G3, G3 = upd (upd G t (.tup [.int (i : Nat), .ref k.1])) p (.lst ((refs ks).take i)) := ⟨_, rfl⟩
    have s3 : Same G G3 := by rw [e3]; exact u1.trans u2
    rw [← e3] at kp
    rw [← e3]
    clear e3
    refine ⟨p, rfl, ⟨_, SqL.of kp⟩, fun D2 hD2 => ?_⟩
    refine lc_mapL (ks := ks.take i) (fun q => V.ref q.1) (fun _ => true) (fun q => lsV k.2 q.2) (by rw [List.length_take]; omega) hD2 (SqL.of kp) (fun j q G4 Y4 B4 ex s4 yes no => ?_) (fun G4 s4 kD2 => ?_)
    · have F4 := F1.same (sG.trans (s3.trans s4))
      have mq := List.mem_of_mem_take (List.mem_of_getElem? ex)
      refine ⟨rfl, lc_yes ?_⟩
      refine ⟨_, rfl, _, rfl, k.1, q.1, k.2, q.2, rfl, F4.tups k mk, F4.tups q mq, (Ok.well k mk).few, fun G5 s5 => yes rfl _ s5⟩
    rw [filter_tt, show (ks.take i).map (fun q => lsV k.2 q.2) = rowV (worth ks) i by unfold rowV; rw [wAt hk]; unfold worth; rw [← List.map_take, List.map_map]; rfl] at kD2
    have s14 := s3.trans s4
    have kD := s14 _ _ TG.at_
    have nD2 : D2 ≠ D := (ne_of_none (s3 _ _ TG.at_) hD2).symm
    have u6 := (upd_ne (H := G4) (o := .lst ((rs ++ [D2]).map V.ref)) nD2).trans kD2
    refine ⟨_, kD, ?_, fun b o e => ?_, rs ++ [D2], by rw [List.length_append, lr]; rfl, ⟨by rw [List.map_append]; exact upd_same, fun j r e => ?_⟩, fun m => ?_⟩
    · rw [List.length_map]
      exact Nat.lt_of_lt_of_le (show rs.length < 100 by omega) (by decide)
    · rw [upd_ne (ne_of_none e hD)]
      exact s14 _ _ (sG _ _ e)
    · rcases Nat.lt_or_ge j rs.length with c | c
      · rw [List.getElem?_append_left c] at e
        have nr : r ≠ D := fun z => nD (z ▸ List.mem_of_getElem? e)
        rw [upd_ne nr]
        exact s14 _ _ (TG.rows j r e)
      · rw [List.getElem?_append_right c] at e
        cases z : j - rs.length with
        | zero =>
          rw [z] at e
          simp at e
          rw [← e, show j = i by omega, upd_ne nD2]
          exact kD2
        | succ u => rw [z] at e; simp at e
    · rcases List.mem_append.mp m with m | m
      · exact nD m
      · exact nD2 (List.mem_singleton.mp m).symm
  · rintro G ⟨sG, rs, lr, TG, nD⟩
    rw [lR] at lr
    refine ⟨_, rfl, D, _, rfl, SqL.of TG.at_, fun D3 hD3 => ?_⟩
    refine it_enum (K := K) (a := D) (xs := rs.map V.ref) (fun o G2 => Same G G2 ∧ ∃ L, Prs K G2 D3 L ∧ L.length ≤ 50 * o ∧ ∀ lo hi, (lo, hi) ∈ L ↔ Apart (worth ks) lo hi ∧ hi < o) ⟨same_upd hD3, [], ⟨[], upd_same, rfl, fun i x e => by simp at e⟩, Nat.zero_le _, fun lo hi => by simp⟩ (fun o G2 h => SqL.of (h.1 _ _ TG.at_)) ?_ ?_
    · rintro o x t G2 hx ⟨s2, L, PL, lL, mL⟩ ht
      rw [List.getElem?_map] at hx
      cases hr2 : rs[o]? with
      | none => rw [hr2] at hx; cases hx
      | some r =>
        rw [hr2] at hx
        cases (Option.some.inj hx)
        have lo9 := (List.getElem?_eq_some_iff.mp hr2).1
        have u1 := same_upd (o := .tup [.int (o : Nat), .ref r]) ht
        refine ⟨t, [.int (o : Nat), .ref r], rfl, SqT.of upd_same, rfl, _, _, rfl, _, _, rfl, rfl, rfl, ?_⟩
        refine lc2_yes ?_
        have s12 := s2.trans u1
        have kr := s12 _ _ (TG.rows o r hr2)
        have lrow : (rowV (worth ks) o).length = o := rowV_len (by omega)
        refine ⟨_, rfl, r, rowV (worth ks) o, rfl, SqL.of kr, ?_⟩
        refine it_enum (K := K) (a := r) (xs := rowV (worth ks) o) (fun j G3 => Same G G3 ∧ ∃ L, Prs K G3 D3 L ∧ L.length ≤ 50 * o + j ∧ ∀ lo hi, (lo, hi) ∈ L ↔ Apart (worth ks) lo hi ∧ (hi < o ∨ hi = o ∧ lo < j)) ⟨s12, L, PL.same u1, by omega, fun lo hi => by rw [mL]; simp⟩ (fun j G3 h => SqL.of (h.1 _ _ (TG.rows o r hr2))) ?_ ?_
        · rintro j v t2 G3 hv ⟨s3, L3, P3, lL3, mL3⟩ ht2
          obtain ⟨jo, jW, rfl⟩ := rowV_at hv
          have u3 := same_upd (o := .tup [.int (j : Nat), lsV ((worth ks).getD o []) ((worth ks).getD j [])]) ht2
          refine ⟨t2, [.int (j : Nat), lsV ((worth ks).getD o []) ((worth ks).getD j [])], rfl, SqT.of upd_same, rfl, _, _, rfl, _, _, rfl, rfl, rfl, ?_⟩
          refine ⟨_, rfl, rfl, _, rfl, ?_⟩
          have s33 := s3.trans u3
          refine ite2 (fun c => ?_) (fun c => ?_)
          · have ap : Apart (worth ks) j o := ⟨jo, by omega, of_decide_eq_true c⟩
            obtain ⟨zs, kz, lz, az⟩ := P3
            refine ⟨_, rfl, _, rfl, by show 2 ≤ sizeLine; decide, fun t3 ht3 => ?_⟩
            have u4 := same_upd (o := .tup [.int (j : Nat), .int (o : Nat)]) ht3
            have kz4 := u4 _ _ (u3 _ _ kz)
            have n3 : t3 ≠ D3 := (ne_of_none (u3 _ _ kz) ht3).symm
            have sq5 : ∀ {a : Addr} {xs : List V}, SqT K (upd (upd G3 t2 (.tup [.int (j : Nat), lsV ((worth ks).getD o []) ((worth ks).getD j [])])) t3 (.tup [.int (j : Nat), .int (o : Nat)])) a xs → SqT K (upd (upd (upd G3 t2 (.tup [.int (j : Nat), lsV ((worth ks).getD o []) ((worth ks).getD j [])])) t3 (.tup [.int (j : Nat), .int (o : Nat)])) D3 (.lst (zs ++ [.ref t3]))) a xs := fun z => sqt_chg ⟨_, kz4⟩ Chg.self z
            refine ⟨zs, kz4, Nat.lt_of_lt_of_le (show zs.length < 10000 by omega) (by decide), fun b o' e => ?_, L3 ++ [(j, o)], ⟨zs ++ [.ref t3], upd_same, by rw [List.length_append, List.length_append, lz]; rfl, fun i x e => ?_⟩, by rw [List.length_append, List.length_singleton]; omega, fun lo hi => ?_⟩
            · rw [upd_ne (ne_of_none e hD3)]
              exact u4 _ _ (s33 _ _ e)
            · rcases Nat.lt_or_ge i zs.length with c2 | c2
              · rw [List.getElem?_append_left c2] at e
                obtain ⟨p, e1, a, e2, e3⟩ := az i x e
                exact ⟨p, by rw [List.getElem?_append_left (by omega)]; exact e1, a, e2, sq5 (sqt_same (u3.trans u4) e3)⟩
              · rw [List.getElem?_append_right c2] at e
                cases z : i - zs.length with
                | zero =>
                  rw [z] at e
                  simp at e
                  exact ⟨(j, o), by rw [List.getElem?_append_right (by omega), show i - L3.length = 0 by omega]; rfl, t3, e.symm, sq5 (SqT.of upd_same)⟩
                | succ u => rw [z] at e; simp at e
            · rw [List.mem_append, mL3, List.mem_singleton, Prod.mk.injEq]
              constructor
              · rintro (⟨h1, h2⟩ | ⟨rfl, rfl⟩)
                · exact ⟨h1, by omega⟩
                · exact ⟨ap, by omega⟩
              · rintro ⟨h1, h2⟩
                by_cases z : lo = j ∧ hi = o
                · exact .inr z
                · exact .inl ⟨h1, by omega⟩
          · have nap : ¬ Apart (worth ks) j o := fun h => c (decide_eq_true h.2.2)
            refine ⟨s33, L3, P3.same u3, by omega, fun lo hi => ?_⟩
            rw [mL3]
            constructor
            · rintro ⟨h1, h2⟩
              exact ⟨h1, by omega⟩
            · rintro ⟨h1, h2⟩
              refine ⟨h1, ?_⟩
              by_cases z : lo = j ∧ hi = o
              · exact absurd (z.1 ▸ z.2 ▸ h1) nap
              · omega
        · rintro G3 ⟨s3, L3, P3, lL3, mL3⟩
          rw [lrow] at lL3 mL3
          refine ⟨s3, L3, P3, by omega, fun lo hi => ?_⟩
          rw [mL3]
          constructor
          · rintro ⟨h1, h2⟩
            exact ⟨h1, by omega⟩
          · rintro ⟨h1, h2⟩
            have := h1.1
            exact ⟨h1, by omega⟩
    · rintro G2 ⟨s2, L, ⟨zs, kz, lz, az⟩, lL, mL⟩
      rw [List.length_map, lr] at mL
      have mL' : ∀ lo hi, (lo, hi) ∈ L ↔ Apart (worth ks) lo hi := fun lo hi => by
        rw [mL]
        exact ⟨fun h => h.1, fun h => ⟨h, by have := h.2.1; omega⟩⟩
      have s02 := s1.trans (sG.trans s2)
      refine ⟨_, rfl, D3, _, rfl, .inl (SqL.of kz), _, _, rfl, rfl, _, rfl, ?_⟩
      refine ite2 (fun c => ?_) (fun c => ?_)
      · have z0 : 0 < zs.length := by
          have c' : ((zs.length : Nat) : Int) > 0 := of_decide_eq_true c
          omega
        refine ⟨by show 1 ≤ sizeLine; decide, fun ta hta => ?_⟩
        have u5 := same_upd (o := .tup [.str "apart"]) hta
        refine ⟨_, rfl, D3, zs, L.map fun p => [((p.1 : Nat) : Int), ((p.2 : Nat) : Int)], rfl, SqL.of (u5 _ _ kz), by rw [List.length_map, lz], fun z => by rw [z] at z0; simp at z0, fun i x e => ?_, fun x nn mx mn tx lx => ?_⟩
        · obtain ⟨p, e1, a, e2, e3⟩ := az i x e
          have ap := (mL' p.1 p.2).mp (List.mem_of_getElem? e1)
          refine ⟨[((p.1 : Nat) : Int), ((p.2 : Nat) : Int)], by rw [List.getElem?_map, e1]; rfl, ⟨a, e2, sqt_same u5 e3⟩, rfl, fun m hm => ?_⟩
          have := ap.1
          have := ap.2.1
          simp only [List.mem_cons, List.not_mem_nil, or_false] at hm
          rcases hm with rfl | rfl <;> omega
        · obtain ⟨⟨lo, hi⟩, mp, rfl⟩ := List.mem_map.mp mn
          obtain ⟨ti, rfl, qi⟩ := tx
          have ap := (mL' lo hi).mp mp
          refine ⟨ta, ti, [.str "apart"], [.int (lo : Nat), .int (hi : Nat)], rfl, rfl, SqT.of upd_same, qi, by show 3 ≤ sizeLine; decide, (fun z => nomatch z), (fun _ z => nomatch z), fun _ _ p hp => ?_⟩
          have u6 := same_upd (o := .tup ([.str "apart"] ++ [.int (lo : Nat), .int (hi : Nat)])) hp
          refine qA lo hi ap (fun lo' hi' ap' => ?_) p _ (s02.trans (u5.trans u6)) (SqT.of upd_same)
          have h9 := lx [((lo' : Nat) : Int), ((hi' : Nat) : Int)] (List.mem_map.mpr ⟨(lo', hi'), (mL' lo' hi').mpr ap', rfl⟩)
          simp only [TS.code, List.length_cons, List.length_nil] at h9
          have := ap.2.1
          have := ap'.2.1
          omega
      · have zs0 : L = [] := List.eq_nil_of_length_eq_zero (by
          have c' : ¬ ((zs.length : Nat) : Int) > 0 := fun z => c (decide_eq_true z)
          omega)
        have none_ : ∀ lo hi, ¬ Apart (worth ks) lo hi := fun lo hi h => by
          have := (mL' lo hi).mpr h
          rw [zs0] at this
          cases this
        refine ⟨_, rfl, by show 2 ≤ sizeLine; decide, fun r hr => ?_⟩
        have u5 := same_upd (o := .tup [.str "meets", .ref D]) hr
        exact qM none_ r D rs _ (s02.trans u5) (SqT.of upd_same) (TG.same (s2.trans u5)) lr
end

end G0
namespace G0
open PySem PySem.Spec PyProof.Rows L2
set_option maxHeartbeats 4000000
set_option pp.deepTerms.threshold 6
section
variable {P : Program} {w : World} {K : PySem.W.Frag} {mg : Str → Option Value} {base : Heap}
theorem ints_nilE (ws : List Int) : PyData.eqv (.list (ws.map PyData.int)) (.list []) = decide (ws = []) := by
  cases ws with
  | nil => simp [PyData.eqv, PyData.eqvAll]
  | cons a S => simp [PyData.eqv, PyData.eqvAll]
theorem holds_nil (us : List Int) : ∀ ws : List Int, decide ((ws.filter fun x => !decide (x ∈ us)) = []) = holdsL us ws
  | [] => rfl
  | x :: ws => by
    have ih := holds_nil us ws
    unfold holdsL at ih ⊢
    rw [List.filter_cons, List.all_cons]
    by_cases c : x ∈ us
    · rw [if_neg (by simp [c]), decide_eq_true c, Bool.true_and]
      exact ih
    · rw [if_pos (by simp [c]), decide_eq_false c, Bool.false_and]
      simp
theorem ones_ints {α : Type} (ws : List α) : ws.map (fun _ => V.int 1) = (ws.map fun _ => (1 : Int)).map V.int := by rw [List.map_map]; rfl
theorem map_nil {α β : Type} (f : α → β) (ws : List α) : decide (ws.map f = []) = decide (ws = []) := by cases ws <;> simp
/-! ### _law_whole, _law_is_set, _law_holds, _law_shared -/
def spWhole : Sp := fun vs H Q _ => ∃ x : Int, vs = [.int x] ∧ Q (.bl true) H
theorem sc_law_whole : FnScope ["thing"] ["thing"] (defScope s_law_whole) :=
  ⟨rfl, rfl, rfl, by decide +kernel, rfl, by decide +kernel, by decide +kernel⟩
theorem ok_whole (F : Fn K mg "_law_whole" s_law_whole) (T : BlF mg) : Cal P w K mg base "_law_whole" 1 ["thing"] spWhole := by
  refine cal_of F sc_law_whole
    (fun _ _ _ _ _ _ us hl => match us, hl with | [_], _ => rfl) ?_ ?_
  · rintro vs H Q E ⟨x, rfl, _⟩
    rfl
  rintro f cdv A outer s H vs Q E free hr ⟨x, rfl, q⟩
  refine ⟨_, (pss_one (ps_ret (pe_and (pe_callB call_isi (by rfl) T.isinstance (by decide +kernel) (pa_cons (pv 0) (pa_cons (pe_bltn (v := .ty "int") (by rfl) T.int (by decide +kernel) rfl) pa_nil))) (pe_one (pe_not (pe_callB call_isi (by rfl) T.isinstance (by decide +kernel) (pa_cons (pv 0) (pa_cons (pe_bltn (v := .ty "bool") (by rfl) T.bool (by decide +kernel) rfl) pa_nil)))))))), ?_⟩
  refine ⟨_, rfl, _, .ty "int", _, _, _, rfl, .ty _, .base (.int x), kit_ty (r := true) (by decide +kernel), _, rfl, iteT' rfl ?_⟩
  exact ⟨_, rfl, _, .ty "bool", _, _, _, rfl, .ty _, .base (.int x), kit_ty (r := false) (by decide +kernel), _, rfl, q⟩
def spIsSet (K : PySem.W.Frag) : Sp := fun vs H Q _ => ∃ (a : Addr) (us : List Int), vs = [.ref a] ∧ SqT K H a (us.map V.int) ∧ us.length ≤ 60 ∧ ∀ H', Same H H' → Q (.bl true) H'
theorem ty_sqtI {H : Hp} {a : Addr} {us : List Int} (h : SqT K H a (us.map V.int)) : TyX K H (.ref a) (.type "tuple") := by
  rcases h with (z | ⟨o, z⟩) | ⟨o, its, n, h1, h2, _⟩
  · exact .base (.tup z)
  · exact .fTuple z
  · exact .kTuple h1 h2
theorem sc_law_is_set : FnScope ["thing", "one"] ["thing"] (defScope s_law_is_set) :=
  ⟨rfl, rfl, rfl, by decide +kernel, rfl, by decide +kernel, by decide +kernel⟩
theorem ok_isset (F : Fn K mg "_law_is_set" s_law_is_set) (T : BlF mg) (C_whole : Cal P w K mg base "_law_whole" 1 ["thing"] spWhole) : Cal P w K mg base "_law_is_set" 2 ["thing"] (spIsSet K) := by
  refine cal_of F sc_law_is_set
    (fun _ _ _ _ _ _ us hl => match us, hl with | [_], _ => rfl) ?_ ?_
  · rintro vs H Q E ⟨a, us, rfl, _⟩
    rfl
  rintro f cdv A outer s H vs Q E free hr ⟨a, us, rfl, ha, lu, q⟩
  refine ⟨_, (pss_one (ps_ret (pe_and (pe_callB call_isi (by rfl) T.isinstance (by decide +kernel) (pa_cons (pv 0) (pa_cons (pe_bltn (v := .ty "tuple") (by rfl) T.tuple (by decide +kernel) rfl) pa_nil))) (pe_one (pe_cmpR (op_eqD (u64 hr)) (pe_lc (own := [("one", 1)]) (g := gName 1)  (by rfl) sc_law_is_set.nd (pi_tup (pv 0)) (blkOk_by (N := ["thing", "one"]) (sc := defScope s_law_is_set) (by decide +kernel)) (fun _ _ _ _ _ => pg_name (i := 1) sc_law_is_set.nd rfl (Or.inl rfl)) (fun _ _ _ _ _ => pts_one (pt_not (pt_val (pe_cal C_whole free (hr.mono (by decide)) (pa_cons (pv 1) pa_nil))))) (fun _ _ _ _ _ => pe_int)) (pe_lst pa_nil) (nomark _)))))), ?_⟩
  refine ⟨_, rfl, _, .ty "tuple", _, _, _, rfl, .ty _, ty_sqtI ha, kit_ty (r := true) (by decide +kernel), _, rfl, iteT' rfl ?_⟩
  refine ⟨_, rfl, a, rfl, ⟨_, ha⟩, fun D hD => ?_⟩
  refine lc_mapT (ks := us) V.int (fun _ => false) (fun _ => V.int 1) (by omega) hD ha (fun i k G Y B ex sG yes no => ?_) (fun G sG kD => ?_)
  · refine ⟨rfl, ?_⟩
    exact ⟨_, rfl, k, rfl, _, rfl, iteF' rfl (no rfl _ (Same.refl _))⟩
  refine ⟨Nat.zero_le _, fun e he => ?_⟩
  have s2 := same_upd (o := .lst []) he
  refine ⟨.list [], .list [], .lst (SqL.of ((s2 _ _ kD).trans (by simp))) .nil, .lst (SqL.of upd_same) .nil, by decide, by decide, ?_⟩
  exact q _ (sG.trans s2)
def spLHolds (K : PySem.W.Frag) : Sp := spHolds K
theorem sc_law_holds : FnScope ["one", "other", "seat"] ["one", "other"] (defScope s_law_holds) :=
  ⟨rfl, rfl, rfl, by decide +kernel, rfl, by decide +kernel, by decide +kernel⟩
theorem ok_lholds (F : Fn K mg "_law_holds" s_law_holds) (T : BlF mg) : Cal P w K mg base "_law_holds" 1 ["one", "other"] (spHolds K) := by
  refine cal_of F sc_law_holds
    (fun _ _ _ _ _ _ us hl => match us, hl with | [_, _], _ => rfl) ?_ ?_
  · rintro vs H Q E ⟨_, _, _, _, rfl, _⟩
    rfl
  rintro f cdv A outer s H vs Q E free hr ⟨a, b, us, ws, rfl, ha, hb, lw, q⟩
  refine ⟨_, (pss_one (ps_ret (pe_cmpR (op_eqD (u64 hr)) (pe_lc (own := [("seat", 2)]) (g := gName 2)  (by rfl) sc_law_holds.nd (pi_tup (pv 1)) (blkOk_by (N := ["one", "other", "seat"]) (sc := defScope s_law_holds) (by decide +kernel)) (fun _ _ _ _ _ => pg_name (i := 2) sc_law_holds.nd rfl (Or.inl rfl)) (fun _ _ _ _ _ => pts_one (pt_cmpR (u_notinK K) (pv 2) (pv 0) (by rfl))) (fun _ _ _ _ _ => pe_int)) (pe_lst pa_nil) (nomark _)))), ?_⟩
  refine ⟨_, rfl, b, rfl, ⟨_, hb⟩, fun D hD => ?_⟩
  refine lc_mapT (ks := ws) V.int (fun x => !decide (x ∈ us)) (fun _ => V.int 1) (by omega) hD hb (fun i k G Y B ex sG yes no => ?_) (fun G sG kD => ?_)
  · refine ⟨rfl, ?_⟩
    refine ⟨_, rfl, _, rfl, .inl ⟨a, _, rfl, .inr (sqt_same sG ha), rfl, flat_ints _, _, rfl, ?_⟩⟩
    rw [inV_ints]
    exact ite2 (fun c => yes c _ (Same.refl _)) (fun c => no (by simpa using c) _ (Same.refl _))
  refine ⟨Nat.zero_le _, fun e he => ?_⟩
  have s2 := same_upd (o := .lst []) he
  rw [ones_ints] at kD
  refine ⟨_, .list [], .lst (SqL.of (s2 _ _ kD)) (dps_ints _), .lst (SqL.of upd_same) .nil, shaped_ints _, by decide, ?_⟩
  rw [ints_nilE, map_nil, holds_nil]
  exact q _ (sG.trans s2)
theorem sc_law_shared : FnScope ["one", "other", "seat"] ["one", "other"] (defScope s_law_shared) :=
  ⟨rfl, rfl, rfl, by decide +kernel, rfl, by decide +kernel, by decide +kernel⟩
theorem ok_shared (F : Fn K mg "_law_shared" s_law_shared) : Cal P w K mg base "_law_shared" 1 ["one", "other"] (spLS K) := by
  refine cal_of F sc_law_shared
    (fun _ _ _ _ _ _ us hl => match us, hl with | [_, _], _ => rfl) ?_ ?_
  · rintro vs H Q E ⟨_, _, _, _, rfl, _⟩
    rfl
  rintro f cdv A outer s H vs Q E free hr ⟨a, b, us, ws, rfl, ha, hb, lw, q⟩
  refine ⟨_, (pss_cons (ps_for PassesOwn.never rfl (pi_tup (pv 0)) (pg_name (i := 2) sc_law_shared.nd rfl (Or.inl rfl))
    (pss_one (ps_if (pt_cmpR u_in (pv 2) (pv 1) (by rfl))
    (pss_one (ps_ret (pv 2)))
    pss_nil)))
    (pss_one (ps_ret pe_non))), ?_⟩
  refine ⟨_, rfl, a, rfl, ⟨_, ha⟩, ?_⟩
  refine for_tup (K := K) (a := a) (xs := us.map V.int) (fun i σ G => (∃ z : Option V, σ = [some (V.ref a), some (V.ref b), z]) ∧ Same H G ∧ (us.take i).find? (fun x => decide (x ∈ ws)) = none) ⟨⟨_, rfl⟩, Same.refl H, rfl⟩ (fun i σ G _ h => sqt_same h.2.1 ha) ?_ ?_
  · rintro i x σ G hx ⟨⟨z, rfl⟩, sG, fn⟩
    obtain ⟨k, hk, rfl⟩ := ints_at hx
    refine ⟨_, rfl, _, rfl, .inl ⟨b, _, rfl, .inr (sqt_same sG hb), rfl, flat_ints _, _, rfl, ?_⟩⟩
    rw [inV_ints]
    refine ite2 (fun c => ?_) (fun c => ?_)
    · have := q G sG
      unfold lsV at this
      rw [find_at hk fn c] at this
      exact ⟨_, rfl, this⟩
    · exact ⟨⟨_, rfl⟩, sG, find_none_take hk fn (by simpa using c)⟩
  · rintro σ G ⟨⟨z, rfl⟩, sG, fn⟩
    rw [List.length_map, List.take_length] at fn
    have := q G sG
    unfold lsV at this
    rw [fn] at this
    exact this
end

end G0
namespace G0
open PySem PySem.Spec PyProof.Rows L2
set_option maxHeartbeats 4000000
set_option pp.deepTerms.threshold 6
theorem tus_nil (L : List (List Int)) : PyData.eqv (.list (L.map tuD)) (.list []) = decide (L = []) := by
  cases L with
  | nil => simp [PyData.eqv, PyData.eqvAll]
  | cons a S => simp [PyData.eqv, PyData.eqvAll]
section
variable {P : Program} {w : World} {K : PySem.W.Frag} {mg : Str → Option Value} {base : Heap}
/-! ### _law_drawn -/
def spDrawn (K : PySem.W.Frag) : Sp := fun vs H Q _ => ∃ (H0 : Hp) (s p : Addr) (ns : List Int) (n : Nat) (m : Int), vs = [.ref s, .ref p, .int m] ∧ Fd K H0 s p ns n H ∧ n < 1000000 ∧ 0 < m ∧ m ≤ 60 ∧
  ∀ (l : Addr) (ks : List (Addr × List Int)) H', H0 l = none → l ≠ p → Fd K H0 s p ns (n + 400) H' → Chg p H H' → Fam K H' l ks → FamW m ks → ks.length ≤ 25 → Q (.ref l) H'
theorem sc_law_drawn : FnScope ["script", "pot", "seats", "found", "k", "one"] ["script", "pot", "seats"] (defScope s_law_drawn) :=
  ⟨rfl, rfl, rfl, by decide +kernel, rfl, by decide +kernel, by decide +kernel⟩
theorem ok_drawn (F : Fn K mg "_law_drawn" s_law_drawn) (T : BlF mg) (C_take : Cal P w K mg base "_law_take" 2 ["script", "pot", "many"] (spTake K)) (C_set : Cal P w K mg base "_law_set" 3 ["script", "pot", "seats"] (spLSet K)) (C_family : Cal P w K mg base "_law_family" 4 ["script", "pot", "seats", "most"] (spFamily K)) :
    Cal P w K mg base "_law_drawn" 5 ["script", "pot", "seats"] (spDrawn K) := by
  refine cal_of F sc_law_drawn
    (fun _ _ _ _ _ _ us hl => match us, hl with | [_, _, _], _ => rfl) ?_ ?_
  · rintro vs H Q E ⟨H0, s, p, ns, n, m, rfl, _⟩
    rfl
  rintro f cdv A outer s' H vs Q E free hr ⟨H0, s, p, ns, n, m, rfl, D, nb, m0, mb, q⟩
  refine ⟨_, (pss_cons (ps_set (i := 3) sc_law_drawn.nd rfl (Or.inl rfl) (pe_cal C_family free (hr.mono (by decide)) (pa_cons (pv 0) (pa_cons (pv 1) (pa_cons (pv 2) (pa_cons pe_int pa_nil))))))
    (pss_cons (ps_for PassesOwn.never rfl (pi_range1 (by rfl) T.range (pa_cons (pe_cal C_take free (hr.mono (by decide)) (pa_cons (pv 0) (pa_cons (pv 1) (pa_cons pe_int pa_nil)))) pa_nil)) (pg_name (i := 4) sc_law_drawn.nd rfl (Or.inl rfl))
    (pss_one (ps_if (pt_cmpR (op_neD (u64 hr)) (pv 3) (pe_lst pa_nil) (nomark _))
    (pss_cons (ps_set (i := 5) sc_law_drawn.nd rfl (Or.inl rfl) (pe_ix ix_list (pv 3) (pe_cal C_take free (hr.mono (by decide)) (pa_cons (pv 0) (pa_cons (pv 1) (pa_cons (pe_callB call_len_seq (by rfl) T.len (by decide +kernel) (pa_cons (pv 3) pa_nil)) pa_nil)))) (fun _ _ => rfl)))
    (pss_cons (ps_set (i := 5) sc_law_drawn.nd rfl (Or.inl rfl) (pe_callTy call_tuple_of (by rfl) T.tuple (by decide +kernel) (pa_cons (pe_callB (cr_sortedSet (by rfl)) (by rfl) T.sorted (by decide +kernel) (pa_cons (pe_callTy (cr_setOfTI (by rfl)) (by rfl) T.set (by decide +kernel) (pa_cons (pe_op op_catA (pv 5) (pe_cal C_set free (hr.mono (by decide)) (pa_cons (pv 0) (pa_cons (pv 1) (pa_cons (pv 2) pa_nil))))) pa_nil)) pa_nil)) pa_nil)))
    (pss_one (ps_if (pt_cmpR (op_notInD (u65 hr)) (pv 5) (pv 3) (by rfl))
    (pss_one (ps_expr (pe_bm PySem.F.plainAttrs_list PySem.F.slot_list_insert PySem.F.type_list_insert mt_insert (pv 3) (pa_cons (pe_cal C_take free (hr.mono (by decide)) (pa_cons (pv 0) (pa_cons (pv 1) (pa_cons (pe_op op_add (pe_callB call_len_seq (by rfl) T.len (by decide +kernel) (pa_cons (pv 3) pa_nil)) pe_int) pa_nil)))) (pa_cons (pv 5) pa_nil)))))
    pss_nil))))
    pss_nil)))
    (pss_one (ps_ret (pv 3))))), ?_⟩
  refine ⟨_, rfl, _, rfl, _, rfl, H0, s, p, ns, n, m, rfl, D, by omega, m0, mb, fun l ks H1 hl D1 c1 F1 O1 lks => ?_⟩
  have lp : l ≠ p := D.ne hl
  have l0 : H0 l = none := D.old.free hl
  refine ⟨_, rfl, _, rfl, H0, s, p, ns, n + 300, 3, rfl, D1, by omega, by decide, by decide, fun d y d0 d1 Y => ?_⟩
  have D2 := D1.put Y
  refine ⟨_, rfl, by omega, by omega, ?_⟩
  refine for_range (lo := 0) (n := d.toNat) (fun i σ G => (∃ z4 z5 : Option V, σ = [some (V.ref s), some (V.ref p), some (V.int m), some (V.ref l), z4, z5]) ∧
    ∃ ks, Fam K G l ks ∧ FamW m ks ∧ ks.length ≤ 12 + i ∧ (∀ k ∈ ks, k.2.length ≤ 10 * (i + 1)) ∧ Fd K H0 s p ns (n + 301 + 25 * i) G ∧ Chg p H G)
    ⟨⟨_, _, rfl⟩, ks, F1.chg D1.lst Chg.self lp, O1.w, by omega, fun k mk => Nat.le_trans (O1.well k mk).few (by omega), D2, c1.trans Chg.self⟩ ?_ ?_
  · rintro i σ G hi ⟨⟨z4, z5, rfl⟩, ks, Fk, Ok, lk, sm, DG, cG⟩
    refine ⟨_, rfl, Nat.zero_le _, fun e he => ?_⟩
    have u0 := same_upd (o := .lst []) he
    have F0 := Fk.same u0
    have D0 := DG.same u0
    have c0 := cG.trans (Chg.same u0)
    refine ⟨_, .list [], F0.dp, .lst (SqL.of upd_same) .nil, shaped_tus _, by decide, _, rfl, ?_⟩
    rw [tus_nil]
    obtain ⟨G0, e0⟩ : ∃ G0, G0 = upd G e (.lst []) := ⟨_, rfl⟩
    rw [← e0] at F0 D0 c0
    rw [← e0]
    clear e0 u0
    have lR : (refs ks).length = ks.length := by unfold refs; rw [List.length_map]
    refine ite2 (fun c => ?_) (fun c => ?_)
    · have kne : ks ≠ [] := fun z => by rw [z] at c; exact absurd c (by decide)
      have k0 : 0 < ks.length := List.length_pos_iff.mpr kne
      refine ⟨_, rfl, _, rfl, _, rfl, _, rfl, l, _, rfl, .inl (SqL.of F0.at_), ?_⟩
      rw [lR]
      refine ⟨H0, s, p, ns, n + 301 + 25 * i, ks.length, rfl, D0, by omega, by omega, by omega, fun d2 y2 d20 d21 Y2 => ?_⟩
      have D2' := D0.put Y2
      have F2 := F0.chg D0.lst (Chg.self (o := .lst y2)) lp
      have c2 := c0.trans (Chg.self (o := .lst y2))
      have hd2 : d2.toNat < ks.length := by omega
      obtain ⟨k, hk⟩ : ∃ k, ks[d2.toNat]? = some k := ⟨_, List.getElem?_eq_getElem hd2⟩
      have mk := List.mem_of_getElem? hk
      have ak : atI (refs ks) d2 = some (.ref k.1) := by
        have := atI_nat (xs := refs ks) (j := d2.toNat) (v := .ref k.1) (by unfold refs; rw [List.getElem?_map, hk]; rfl)
        rwa [show ((d2.toNat : Nat) : Int) = d2 by omega] at this
      refine ⟨l, _, d2, _, rfl, rfl, SqL.of F2.at_, ak, ?_⟩
      refine ⟨_, rfl, _, rfl, _, rfl, _, rfl, H0, s, p, ns, _, m, rfl, D2', by omega, m0, mb, fun t us G3 ht D3 c3 qt Ou => ?_⟩
      have F3 := F2.chg D2'.lst c3 lp
      have nk := (Ok.well k mk).ne
      have smk := sm k mk
      have smu := Ou.few
      refine ⟨k.1, t, _, _, rfl, rfl, F3.tups k mk, qt, by rw [List.length_map, List.length_map]; exact Nat.le_trans (show _ ≤ 100 by omega) (by decide), fun z => absurd z (by simpa using nk), fun _ z => absurd z (by simpa using Ou.ne), fun _ _ p3 hp3 => ?_⟩
      rw [← List.map_append]
      have u3 := same_upd (o := .tup ((k.2 ++ us).map V.int)) hp3
      refine ⟨p3, k.2 ++ us, rfl, SqT.of upd_same, by rw [List.length_append]; omega, fun sa sc hsa lsc => ?_⟩
      rw [List.length_append] at lsc
      have u4 := same_upd (o := SetO w sa (fun j => decide (j ∈ k.2 ++ us)) sc) hsa
      refine ⟨sa, _, sc, rfl, upd_same, by omega, fun vs la up mem lvs hla => ?_⟩
      have u5 := same_upd (o := .lst (vs.map V.int)) hla
      refine ⟨la, _, rfl, .inl ⟨SqL.of upd_same, fun t2 ht2 => ?_⟩⟩
      have u6 := same_upd (o := .tup (vs.map V.int)) ht2
      have u36 := u3.trans (u4.trans (u5.trans u6))
      have qv : SqT K (upd (upd (upd (upd G3 p3 (.tup ((k.2 ++ us).map V.int))) sa (SetO w sa (fun j => decide (j ∈ k.2 ++ us)) sc)) la (.lst (vs.map V.int))) t2 (.tup (vs.map V.int))) t2 (vs.map V.int) := SqT.of upd_same
      have F6 := F3.same u36
      have D6 := D3.same u36
      have c6 := (c2.trans c3).trans (Chg.same u36)
      have mem' : ∀ x, x ∈ vs ↔ x ∈ k.2 ++ us := fun x => by rw [mem x]; simp
      have Wv : SetW m vs := by
        refine ⟨fun z => ?_, up, fun x hx => ?_, by omega⟩
        · obtain ⟨x, r, er⟩ := List.exists_cons_of_ne_nil nk
          have : x ∈ vs := (mem' x).mpr (by rw [er]; simp)
          rw [z] at this
          cases this
        · rcases List.mem_append.mp ((mem' x).mp hx) with h | h
          · exact (Ok.well k mk).low x h
          · exact Ou.low x h
      refine ⟨_, rfl, _, rfl, tuD vs, (worth ks).map tuD, .tup qv (dps_ints vs), F6.dp, shaped_tu vs, shaped_tus _, _, rfl, ?_⟩
      rw [any_tu]
      refine ite2 (fun c9 => ?_) (fun c9 => ?_)
      · have nin : vs ∉ worth ks := by simpa using c9
        refine ⟨_, rfl, .inl ⟨rfl, _, SqL.of F6.at_⟩, ?_⟩
        have lk6 : (refs ks).length = ks.length := lR
        refine ⟨_, rfl, _, rfl, _, rfl, l, _, rfl, .inl (SqL.of F6.at_), _, _, rfl, rfl, ?_⟩
        rw [lR]
        refine ⟨H0, s, p, ns, _, ((ks.length : Nat) : Int) + 1, rfl, D6, by omega, by omega, by omega, fun d9 y9 d90 d91 Y9 => ?_⟩
        have D9 := D6.put Y9
        have F9 := F6.chg D6.lst (Chg.self (o := .lst y9)) lp
        have q9 := sqt_chg D6.lst (Chg.self (o := .lst y9)) qv
        have c9' := c6.trans (Chg.self (o := .lst y9))
        refine ⟨_, rfl, l, _, d9, _, rfl, rfl, F9.at_, by rw [lR]; exact Nat.lt_of_lt_of_le (show ks.length < 100 by omega) (by decide), d90, by omega, ?_⟩
        obtain ⟨ks', eks⟩ : ∃ ks', ks' = ks.take d9.toNat ++ [(t2, vs)] ++ ks.drop d9.toNat := ⟨_, rfl⟩
        have er : (refs ks).take d9.toNat ++ [V.ref t2] ++ (refs ks).drop d9.toNat = refs ks' := by
          rw [eks]
          unfold refs
          rw [List.map_append, List.map_append, List.map_take, List.map_drop]
          rfl
        have memk : ∀ k', k' ∈ ks' → k' = (t2, vs) ∨ k' ∈ ks := fun k' h => by
          rw [eks] at h
          rcases List.mem_append.mp h with h | h
          · rcases List.mem_append.mp h with h | h
            · exact .inr (List.mem_of_mem_take h)
            · exact .inl (List.mem_singleton.mp h)
          · exact .inr (List.mem_of_mem_drop h)
        have lk' : ks'.length = ks.length + 1 := by
          rw [eks, List.length_append, List.length_append, List.length_take, List.length_drop, List.length_singleton]
          omega
        have ndk : (worth ks').Nodup := by
          have pm : ks'.Perm ((t2, vs) :: ks) := by
            rw [eks]
            have := List.perm_middle (a := (t2, vs)) (l₁ := ks.take d9.toNat) (l₂ := ks.drop d9.toNat)
            rw [List.take_append_drop] at this
            rw [List.append_assoc]
            exact this
          have pw : (worth ks').Perm (vs :: worth ks) := pm.map _
          exact pw.nodup_iff.mpr (List.nodup_cons.mpr ⟨nin, Ok.nd⟩)
        rw [er]
        have keep : ∀ {a : Addr} {xs : List V}, SqT K _ a xs → SqT K (upd _ l (.lst (refs ks'))) a xs := fun z => sqt_chg ⟨_, F9.at_⟩ (Chg.self (o := .lst (refs ks'))) z
        refine ⟨⟨_, _, rfl⟩, ks', ⟨upd_same, fun k' mk' => ?_⟩, ⟨fun k' mk' => ?_, ndk⟩, by omega, fun k' mk' => ?_, (D9.mono (by omega)).mut l0 lp, fun b o nb' e => ?_⟩
        · rcases memk k' mk' with rfl | h
          · exact keep q9
          · exact keep (F9.tups k' h)
        · rcases memk k' mk' with rfl | h
          · exact Wv
          · exact Ok.well k' h
        · rcases memk k' mk' with rfl | h
          · show vs.length ≤ _
            omega
          · exact Nat.le_trans (sm k' h) (by omega)
        · rw [upd_ne (ne_of_none e hl)]
          exact c9' _ _ nb' e
      · exact ⟨⟨_, _, rfl⟩, ks, F6, Ok, by omega, fun k' mk' => Nat.le_trans (sm k' mk') (by omega), D6.mono (by omega), c6⟩
    · exact ⟨⟨_, _, rfl⟩, ks, F0, Ok, by omega, fun k mk => Nat.le_trans (sm k mk) (by omega), D0.mono (by omega), c0⟩
  · rintro σ G ⟨⟨z4, z5, rfl⟩, ks, Fk, Ok, lk, sm, DG, cG⟩
    exact ⟨_, rfl, q l ks G l0 lp (DG.mono (by omega)) cG Fk Ok (by omega)⟩
end

end G0
namespace G0
open PySem PySem.Spec PyProof.Rows L2
set_option maxHeartbeats 4000000
set_option pp.deepTerms.threshold 6
/-! ### the crosses of a grid -/
def crossN (c many k : Nat) : List Nat := (List.range many).filter fun s => s / c == k / c || s % c == k % c
def farB (c many k k' : Nat) : Bool := k == k' || decide (2 ≤ ((crossN c many k).filter fun x => !(crossN c many k').contains x).length)
def gridB : Bool := [3, 4, 5].all fun r => [3, 4, 5].all fun c => (List.range (r * c)).all fun k => decide (2 ≤ (crossN c (r * c) k).length) && decide ((crossN c (r * c) k).length ≤ 9) && (List.range (r * c)).all fun k' => farB c (r * c) k k'
theorem grid : gridB = true := by decide +kernel
def crossI (c many k : Nat) : List Int := (crossN c many k).map fun (x : Nat) => (x : Int)
def Near (X Y : List Int) : Prop := Y = X ∨ ∃ t, t < X.length ∧ Y = X.eraseIdx t
theorem erase_pm {α : Type} : ∀ (xs : List α) (i : Nat) (v : α), xs[i]? = some v → (v :: xs.eraseIdx i).Perm xs
  | [], _, _, h => by simp at h
  | x :: xs, 0, v, h => by
    have e : x = v := by simpa using h
    rw [e]
    exact .refl _
  | x :: xs, i + 1, v, h => (List.Perm.swap x v _).trans ((erase_pm xs i v (by simpa using h)).cons x)
theorem near_sub {X Y : List Int} (h : Near X Y) : Y.Sublist X := by
  rcases h with rfl | ⟨t, _, rfl⟩
  · exact List.Sublist.refl _
  · exact List.eraseIdx_sublist ..
theorem near_ne {X X' Y Y' : List Int} (far : 2 ≤ (X.filter fun x => !decide (x ∈ X')).length) (h : Near X Y) (h' : Near X' Y') : Y ≠ Y' := fun e => by
  have sub : ∀ y ∈ Y, y ∈ X' := fun y hy => (near_sub h').subset (e ▸ hy)
  have zero : Y.filter (fun x => !decide (x ∈ X')) = [] := List.filter_eq_nil_iff.mpr fun y hy => by simp [sub y hy]
  rcases h with rfl | ⟨t, ht, rfl⟩
  · rw [zero] at far
    simp at far
  · have pm := (erase_pm X t X[t] (List.getElem?_eq_getElem ht)).filter (fun x => !decide (x ∈ X'))
    rw [List.filter_cons, zero] at pm
    have := pm.length_eq
    split at this <;> simp at this <;> omega
theorem erase_map {α β : Type} (f : α → β) : ∀ (xs : List α) (i : Nat), (xs.map f).eraseIdx i = (xs.eraseIdx i).map f
  | [], i => by simp
  | x :: xs, 0 => by simp
  | x :: xs, i + 1 => by simp [erase_map f xs i]
theorem goJ {A : Prop} {D : L2.Ends} (R : L2.St → Hp → Prop) (h1 : (∀ σ H, R σ H → D.nx σ H) → A) (h : ∀ σ H, R σ H → D.nx σ H) : A := h1 h
theorem cross_up (c many k : Nat) : (crossI c many k).Pairwise (· < ·) := by
  unfold crossI crossN
  rw [List.pairwise_map]
  exact ((List.pairwise_lt_range).filter _).imp fun {a b} h => by omega
theorem cross_low {c many k : Nat} {x : Int} (h : x ∈ crossI c many k) : 0 ≤ x ∧ x < (many : Int) := by
  unfold crossI crossN at h
  obtain ⟨y, hy, rfl⟩ := List.mem_map.mp h
  have := List.mem_range.mp (List.mem_filter.mp hy).1
  omega
theorem far_I {c many k k' : Nat} (h : 2 ≤ ((crossN c many k).filter fun x => !(crossN c many k').contains x).length) : 2 ≤ ((crossI c many k).filter fun x => !decide (x ∈ crossI c many k')).length := by
  unfold crossI
  rw [List.filter_map, List.length_map]
  have e : ((crossN c many k).filter ((fun x => !decide (x ∈ (crossN c many k').map fun (x : Nat) => (x : Int))) ∘ fun (x : Nat) => (x : Int))) = (crossN c many k).filter fun x => !(crossN c many k').contains x := by
    refine List.filter_congr fun x _ => ?_
    show (!decide (((x : Nat) : Int) ∈ (crossN c many k').map fun (x : Nat) => (x : Int))) = _
    congr 1
    rw [List.contains_eq_mem]
    refine decide_eq_decide.mpr ⟨fun h => ?_, fun h => List.mem_map.mpr ⟨x, h, rfl⟩⟩
    obtain ⟨y, hy, e⟩ := List.mem_map.mp h
    have : y = x := by omega
    exact this ▸ hy
  rw [e]
  exact h
theorem grid_at {R C i : Nat} (hR : R = 3 ∨ R = 4 ∨ R = 5) (hC : C = 3 ∨ C = 4 ∨ C = 5) (hi : i < R * C) : 2 ≤ (crossI C (R * C) i).length ∧ (crossI C (R * C) i).length ≤ 9 ∧ ∀ j, j < R * C → i ≠ j → 2 ≤ ((crossI C (R * C) i).filter fun x => !decide (x ∈ crossI C (R * C) j)).length := by
  have gr := grid
  unfold gridB at gr
  have h1 := List.all_eq_true.mp gr R (by rcases hR with rfl | rfl | rfl <;> simp)
  have h2 := List.all_eq_true.mp h1 C (by rcases hC with rfl | rfl | rfl <;> simp)
  have h3 := List.all_eq_true.mp h2 i (List.mem_range.mpr hi)
  simp only [Bool.and_eq_true, decide_eq_true_eq] at h3
  have lX : (crossI C (R * C) i).length = (crossN C (R * C) i).length := by unfold crossI; rw [List.length_map]
  refine ⟨by omega, by omega, fun j hj ne => ?_⟩
  have h4 := List.all_eq_true.mp h3.2 j (List.mem_range.mpr hj)
  unfold farB at h4
  rw [Bool.or_eq_true] at h4
  rcases h4 with z | z
  · exact absurd (by simpa using z) ne
  · exact far_I (of_decide_eq_true z)
theorem near_ok {R C i : Nat} {Y : List Int} (hR : R = 3 ∨ R = 4 ∨ R = 5) (hC : C = 3 ∨ C = 4 ∨ C = 5) (hi : i < R * C) (h : Near (crossI C (R * C) i) Y) : SetW ((R * C : Nat) : Int) Y := by
  obtain ⟨g1, g2, _⟩ := grid_at hR hC hi
  have sub := near_sub h
  have ln := sub.length_le
  refine ⟨fun z => ?_, (cross_up _ _ _).sublist sub, fun x hx => cross_low (sub.subset hx), by omega⟩
  rcases h with rfl | ⟨t, ht, rfl⟩
  · rw [z] at g1; simp at g1
  · have := List.length_eraseIdx_of_lt ht
    rw [z] at this
    simp at this
    omega
section
variable {P : Program} {w : World} {K : PySem.W.Frag} {mg : Str → Option Value} {base : Heap}
/-! ### _law_crossed -/
def spCrossed (K : PySem.W.Frag) : Sp := fun vs H Q _ => ∃ (H0 : Hp) (s p : Addr) (ns : List Int) (n : Nat), vs = [.ref s, .ref p] ∧ Fd K H0 s p ns n H ∧ n < 1000000 ∧
  ∀ (r l : Addr) (m : Int) (ks : List (Addr × List Int)) H', H0 l = none → l ≠ p → 1 ≤ m → m ≤ 60 → Fd K H0 s p ns (n + 100) H' → Chg p H H' → SqL K H' r [.int m, .ref l] → Fam K H' l ks → FamW m ks → ks.length ≤ 25 → Q (.ref r) H'
theorem sc_law_crossed : FnScope ["script", "pot", "rows", "columns", "many", "found", "k", "one", "seat"] ["script", "pot"] (defScope s_law_crossed) :=
  ⟨rfl, rfl, rfl, by decide +kernel, rfl, by decide +kernel, by decide +kernel⟩
theorem ok_crossed (F : Fn K mg "_law_crossed" s_law_crossed) (T : BlF mg) (C_take : Cal P w K mg base "_law_take" 2 ["script", "pot", "many"] (spTake K)) :
    Cal P w K mg base "_law_crossed" 3 ["script", "pot"] (spCrossed K) := by
  refine cal_of F sc_law_crossed
    (fun _ _ _ _ _ _ us hl => match us, hl with | [_, _], _ => rfl) ?_ ?_
  · rintro vs H Q E ⟨H0, s, p, ns, n, rfl, _⟩
    rfl
  rintro f cdv A outer s' H vs Q E free hr ⟨H0, s, p, ns, n, rfl, D, nb, q⟩
  refine ⟨_, (pss_cons (ps_asg (pe_tup (pa_cons (pe_op op_add pe_int (pe_cal C_take free (hr.mono (by decide)) (pa_cons (pv 0) (pa_cons (pv 1) (pa_cons pe_int pa_nil))))) (pa_cons (pe_op op_add pe_int (pe_cal C_take free (hr.mono (by decide)) (pa_cons (pv 0) (pa_cons (pv 1) (pa_cons pe_int pa_nil))))) pa_nil))) (pg_tup (by rfl) (pgs_cons (pg_name (i := 2) sc_law_crossed.nd rfl (Or.inl rfl)) (pgs_cons (pg_name (i := 3) sc_law_crossed.nd rfl (Or.inr rfl)) pgs_nil))))
    (pss_cons (ps_set (i := 4) sc_law_crossed.nd rfl (Or.inl rfl) (pe_op op_mul (pv 2) (pv 3)))
    (pss_cons (ps_set (i := 5) sc_law_crossed.nd rfl (Or.inl rfl) (pe_lst pa_nil))
    (pss_cons (ps_for PassesOwn.never rfl (pi_range1 (by rfl) T.range (pa_cons (pv 4) pa_nil)) (pg_name (i := 6) sc_law_crossed.nd rfl (Or.inr rfl))
    (pss_cons (ps_setLc (i := 7) (own := [("seat", 8)]) (g := gName 8)  (by rfl) sc_law_crossed.nd rfl rfl (sw_true rfl rfl rfl (by decide +kernel)) (pi_range1 (by rfl) T.range (pa_cons (pv 4) pa_nil)) (blkOk_by (N := ["script", "pot", "rows", "columns", "many", "found", "k", "one", "seat"]) (sc := defScope s_law_crossed) (by decide +kernel)) (fun _ _ _ _ _ => pg_name (i := 8) sc_law_crossed.nd rfl (Or.inl rfl)) (fun _ _ _ _ _ => pts_one (PW.pt (pw_or (pt_cmpR op_eq (pe_op op_fdivW (pv 8) (pv 3)) (pe_op op_fdivW (pv 6) (pv 3)) (nomark _)) (pw_or1 (pt_cmpR op_eq (pe_op op_mod (pv 8) (pv 3)) (pe_op op_mod (pv 6) (pv 3)) (nomark _)))))) (fun _ _ _ _ _ => (pv 8)))
    (pss_cons (ps_if (pt_cmpR op_eq (pe_cal C_take free (hr.mono (by decide)) (pa_cons (pv 0) (pa_cons (pv 1) (pa_cons pe_int pa_nil)))) pe_int (nomark _))
    (pss_one (ps_expr (pe_bm PySem.F.plainAttrs_list PySem.F.slot_list_pop PySem.F.type_list_pop mt_popAt (pv 7) (pa_cons (pe_cal C_take free (hr.mono (by decide)) (pa_cons (pv 0) (pa_cons (pv 1) (pa_cons (pe_callB call_len_seq (by rfl) T.len (by decide +kernel) (pa_cons (pv 7) pa_nil)) pa_nil)))) pa_nil))))
    pss_nil)
    (pss_one (ps_expr (pe_bm PySem.F.plainAttrs_list PySem.F.slot_list_append PySem.F.type_list_append mt_append (pv 5) (pa_cons (pe_callTy call_tuple_of (by rfl) T.tuple (by decide +kernel) (pa_cons (pv 7) pa_nil)) pa_nil)))))))
    (pss_one (ps_ret (pe_lst (pa_cons (pv 4) (pa_cons (pv 5) pa_nil))))))))), ?_⟩
  refine ⟨_, rfl, _, rfl, H0, s, p, ns, n, 3, rfl, D, by omega, by decide, by decide, fun d y d0 d1 Y => ?_⟩
  have D1 := D.put Y
  refine ⟨_, _, rfl, rfl, _, rfl, _, rfl, H0, s, p, ns, n + 1, 3, rfl, D1, by omega, by decide, by decide, fun d' y' d0' d1' Y' => ?_⟩
  have D2 := D1.put Y'
  refine ⟨_, _, rfl, rfl, by show 2 ≤ sizeLine; decide, fun t ht => ?_⟩
  have u1 := same_upd (o := .tup [.int (3 + d), .int (3 + d')]) ht
  have D3 := D2.same u1
  have c3 : Chg p H _ := ((Chg.self (o := .lst y)).trans (Chg.self (o := .lst y'))).trans (Chg.same u1)
  refine ⟨t, _, rfl, SqT.of upd_same, rfl, _, _, rfl, _, _, rfl, rfl, ?_⟩
  refine ⟨_, rfl, _, rfl, _, _, rfl, rfl, .inl ⟨by omega, by omega⟩, ?_⟩
  refine ⟨Nat.zero_le _, fun l hl => ?_⟩
  have u4 := same_upd (o := .lst []) hl
  have lp : l ≠ p := D3.ne hl
  have l0 : H0 l = none := D3.old.free hl
  have l1 : H l = none := c3.back hl lp
  have D4 := D3.same u4
  have c4 := c3.trans (Chg.same u4)
  obtain ⟨R, eR⟩ : ∃ R : Nat, 3 + d = (R : Int) := ⟨(3 + d).toNat, by omega⟩
  obtain ⟨C, eC⟩ : ∃ C : Nat, 3 + d' = (C : Int) := ⟨(3 + d').toNat, by omega⟩
  have hR : R = 3 ∨ R = 4 ∨ R = 5 := by omega
  have hC : C = 3 ∨ C = 4 ∨ C = 5 := by omega
  have C0 : 0 < C := by omega
  have hM : (3 + d) * (3 + d') = ((R * C : Nat) : Int) := by rw [eR, eC]; rfl
  have M25 : R * C ≤ 25 ∧ 9 ≤ R * C := by rcases hR with rfl | rfl | rfl <;> rcases hC with rfl | rfl | rfl <;> decide
  have lC : ((3 + d')).natAbs.log2 < 9000 := by rw [eC]; rcases hC with rfl | rfl | rfl <;> decide
  have dv : ∀ x : Nat, (0 + (x : Int)) / (3 + d') = ((x / C : Nat) : Int) := fun x => by rw [eC, Int.zero_add]; rfl
  have dm : ∀ x : Nat, (0 + (x : Int)) % (3 + d') = ((x % C : Nat) : Int) := fun x => by rw [eC, Int.zero_add]; rfl
  show gName 5 _ (((List.set (L2.start _ _) 2 _).set 3 _).set 4 (some (V.int ((3 + d) * (3 + d'))))) _ _
  refine ⟨_, rfl, _, rfl, by rw [hM]; omega, by rw [hM]; omega, ?_⟩
  rw [show ((3 + d) * (3 + d')).toNat = R * C by rw [hM]; exact Int.toNat_natCast _]
  refine for_range (lo := 0) (n := R * C) (fun i σ G => (∃ z6 z7 : Option V, σ = [some (V.ref s), some (V.ref p), some (V.int (3 + d)), some (V.int (3 + d')), some (V.int ((3 + d) * (3 + d'))), some (V.ref l), z6, z7, none]) ∧
    ∃ ks, Fam K G l ks ∧ ks.length = i ∧ (∀ (j : Nat) k, ks[j]? = some k → Near (crossI C (R * C) j) k.2) ∧ Fd K H0 s p ns (n + 2 + 2 * i) G ∧ Chg p H G)
    ⟨⟨_, _, rfl⟩, [], ⟨upd_same, fun k mk => by simp at mk⟩, rfl, fun j k e => by simp at e, D4, c4⟩ ?_ ?_
  · rintro i σ G hi ⟨⟨z6, z7, rfl⟩, ks, Fk, lk, near, DG, cG⟩
    refine ⟨_, rfl, _, rfl, by rw [hM]; omega, by rw [hM]; omega, fun J hJ => ?_⟩
    rw [show ((3 + d) * (3 + d')).toNat = R * C by rw [hM]; exact Int.toNat_natCast _]
    refine lc_range (lo := 0) (n := R * C) (fun j G2 => Same G G2 ∧ G2 J = some (.lst ((((List.range j).filter fun x => x / C == i / C || x % C == i % C).map fun (x : Nat) => (x : Int)).map V.int))) ⟨same_upd hJ, upd_same⟩ ?_ ?_
    · rintro j G2 hj ⟨s2, kJ⟩
      have yes : (j / C == i / C || j % C == i % C) = true → ∃ acc, G2 J = some (.lst acc) ∧ acc.length < sizeLine ∧ (Same G (upd G2 J (.lst (acc ++ [V.int (0 + (j : Int))]))) ∧ upd G2 J (.lst (acc ++ [V.int (0 + (j : Int))])) J = some (.lst ((((List.range (j + 1)).filter fun x => x / C == i / C || x % C == i % C).map fun (x : Nat) => (x : Int)).map V.int))) := fun c => by
        refine ⟨_, kJ, ?_, fun b o e => ?_, ?_⟩
        · rw [List.length_map, List.length_map]
          exact Nat.lt_of_lt_of_le (show _ < 100 from Nat.lt_of_le_of_lt (List.length_filter_le ..) (by rw [List.length_range]; omega)) (by decide)
        · rw [upd_ne (ne_of_none e hJ)]
          exact s2 _ _ e
        · rw [upd_same, List.range_succ, List.filter_append, List.filter_cons, if_pos c, Int.zero_add, List.map_append, List.map_append]
          rfl
      have no : (j / C == i / C || j % C == i % C) = false → Same G G2 ∧ G2 J = some (.lst ((((List.range (j + 1)).filter fun x => x / C == i / C || x % C == i % C).map fun (x : Nat) => (x : Int)).map V.int)) := fun c => by
        rw [List.range_succ, List.filter_append, List.filter_cons, if_neg (by simp [c])]
        simp only [List.filter_nil, List.append_nil]
        exact ⟨s2, kJ⟩
      refine ⟨rfl, ?_⟩
      refine ⟨_, rfl, _, rfl, _, _, rfl, rfl, ⟨by omega, lC⟩, _, rfl, _, rfl, _, _, rfl, rfl, ⟨by omega, lC⟩, rfl, ?_⟩
      rw [dec_ii, dv, dv]
      by_cases c1 : j / C = i / C
      · refine ⟨_, rfl, iteT' (decide_eq_true (by rw [c1])) (iteT ?_)⟩
        exact ⟨_, rfl, yes (by simp [c1])⟩
      refine ⟨_, rfl, iteF' (decide_eq_false (by omega)) ?_⟩
      refine ⟨_, rfl, _, rfl, _, _, rfl, rfl, by omega, _, rfl, _, rfl, _, _, rfl, rfl, by omega, rfl, ?_⟩
      rw [dec_ii, dm, dm]
      by_cases c2 : j % C = i % C
      · refine ⟨_, rfl, iteT' (decide_eq_true (by rw [c2])) ?_⟩
        exact ⟨_, rfl, yes (by simp [c2])⟩
      · refine ⟨_, rfl, iteF' (decide_eq_false (by omega)) ?_⟩
        exact no (by simp [c1, c2])
    · rintro G2 ⟨s2, kJ⟩
      have kJ' : G2 J = some (.lst ((crossI C (R * C) i).map V.int)) := kJ
      have D2' := DG.same s2
      have F2 := Fk.same s2
      have Jp : J ≠ p := DG.ne hJ
      have Jl : J ≠ l := (ne_of_none Fk.at_ hJ).symm
      have J0 : H0 J = none := DG.old.free hJ
      have J1 : H J = none := cG.back hJ Jp
      obtain ⟨g1, g2, _⟩ := grid_at hR hC hi
      refine ⟨_, rfl, _, rfl, H0, s, p, ns, _, 4, rfl, D2', by omega, by decide, by decide, fun d4 y4 d40 d41 Y4 => ?_⟩
      have D5 := D2'.put Y4
      have F5 := F2.chg D2'.lst (Chg.self (o := .lst y4)) lp
      have kJ5 := (upd_ne (o := .lst y4) Jp).trans kJ'
      have c5 := (cG.trans (Chg.same s2)).trans (Chg.self (o := .lst y4))
      refine ⟨rfl, _, rfl, ?_⟩
      rw [dec_ii]
      apply goJ (fun σ' G' => σ' = [some (V.ref s), some (V.ref p), some (V.int (3 + d)), some (V.int (3 + d')), some (V.int ((3 + d) * (3 + d'))), some (V.ref l), some (V.int (0 + (i : Int))), some (V.ref J), none] ∧ ∃ Y : List Int, Near (crossI C (R * C) i) Y ∧ G' J = some (.lst (Y.map V.int)) ∧ Fd K H0 s p ns (n + 2 + 2 * i + 2) G' ∧ Fam K G' l ks ∧ Chg p H G')
      · intro Jn
        refine ite2 (fun c => ?_) (fun c => ?_)
        · have lX : ((crossI C (R * C) i).map V.int).length = (crossI C (R * C) i).length := List.length_map _
          refine ⟨_, rfl, .inl ⟨rfl, _, SqL.of kJ5⟩, _, rfl, _, rfl, _, rfl, J, _, rfl, .inl (SqL.of kJ5), ?_⟩
          rw [lX]
          refine ⟨H0, s, p, ns, _, (((crossI C (R * C) i).length : Nat) : Int), rfl, D5, by omega, by omega, by omega, fun d6 y6 d60 d61 Y6 => ?_⟩
          have D6 := D5.put Y6
          have F6 := F5.chg D5.lst (Chg.self (o := .lst y6)) lp
          have kJ6 := (upd_ne (o := .lst y6) Jp).trans kJ5
          have c6 := c5.trans (Chg.self (o := .lst y6))
          have ht : d6.toNat < (crossI C (R * C) i).length := by omega
          refine ⟨J, _, d6, d6.toNat, _, rfl, rfl, kJ6, by omega, by omega, PySem.seqIndex_of d60 (by rw [lX]; omega), by rw [List.getElem?_map, List.getElem?_eq_getElem ht]; rfl, ?_⟩
          refine Jn _ _ ⟨rfl, (crossI C (R * C) i).eraseIdx d6.toNat, .inr ⟨_, ht, rfl⟩, by rw [upd_same, erase_map], (D6.mono (by omega)).mut J0 Jp, F6.chg ⟨_, kJ6⟩ Chg.self Jl.symm, fun b o nb' e => ?_⟩
          rw [upd_ne (ne_of_none e J1)]
          exact c6 _ _ nb' e
        · exact Jn _ _ ⟨rfl, _, .inl rfl, kJ5, D5.mono (by omega), F5, c5⟩
      · rintro σ' G' ⟨rfl, Yl, nY, kJ7, D7, F7, c7⟩
        refine ⟨_, rfl, .inl ⟨rfl, _, SqL.of F7.at_⟩, _, rfl, J, _, rfl, .inl ⟨SqL.of kJ7, fun t2 ht2 => ?_⟩⟩
        have u7 := same_upd (o := .tup (Yl.map V.int)) ht2
        have F8 := F7.same u7
        refine ⟨l, _, _, rfl, rfl, F8.at_, ?_, ?_⟩
        · unfold refs
          rw [List.length_map]
          exact Nat.lt_of_lt_of_le (show ks.length < 100 by omega) (by decide)
        have keep : ∀ {a : Addr} {xs : List V}, SqT K (upd G' t2 (.tup (Yl.map V.int))) a xs → SqT K (upd (upd G' t2 (.tup (Yl.map V.int))) l (.lst (refs ks ++ [.ref t2]))) a xs := fun z => sqt_chg ⟨_, F8.at_⟩ (Chg.self (o := .lst (refs ks ++ [.ref t2]))) z
        refine ⟨⟨_, _, rfl⟩, ks ++ [(t2, Yl)], ⟨by rw [upd_same]; unfold refs; rw [List.map_append]; rfl, fun k mk => ?_⟩, by rw [List.length_append, lk]; rfl, fun j k e => ?_, ((D7.same u7).mono (by omega)).mut l0 lp, fun b o nb' e => ?_⟩
        · rcases List.mem_append.mp mk with h | h
          · exact keep (F8.tups k h)
          · rw [List.mem_singleton.mp h]
            exact keep (SqT.of upd_same)
        · rcases Nat.lt_or_ge j ks.length with c | c
          · rw [List.getElem?_append_left c] at e
            exact near j k e
          · rw [List.getElem?_append_right c] at e
            cases z : j - ks.length with
            | zero =>
              rw [z] at e
              simp at e
              rw [← e, show j = i by omega]
              exact nY
            | succ u => rw [z] at e; simp at e
        · rw [upd_ne (ne_of_none e l1)]
          exact u7 _ _ (c7 _ _ nb' e)
  · rintro σ G ⟨⟨z6, z7, rfl⟩, ks, Fk, lk, near, DG, cG⟩
    refine ⟨_, rfl, _, rfl, by show 2 ≤ sizeLine; decide, fun r hr => ?_⟩
    have u9 := same_upd (o := .lst [V.int ((3 + d) * (3 + d')), .ref l]) hr
    have Fr := Fk.same u9
    refine q r l _ ks _ l0 lp (by rw [hM]; omega) (by rw [hM]; omega) ((DG.same u9).mono (by omega)) (cG.trans (Chg.same u9)) (SqL.of upd_same) Fr ?_ (by omega)
    rw [hM]
    refine ⟨fun k mk => ?_, ?_⟩
    · obtain ⟨j, hj⟩ := List.mem_iff_getElem?.mp mk
      have := (List.getElem?_eq_some_iff.mp hj).1
      exact near_ok hR hC (by omega) (near j k hj)
    · refine List.pairwise_iff_getElem.mpr fun a b ha hb hab => ?_
      have lw : (worth ks).length = R * C := by unfold worth; rw [List.length_map, lk]
      have at_ : ∀ {j : Nat} (h : j < (worth ks).length), Near (crossI C (R * C) j) (worth ks)[j] := fun {j} h => by
        have hk : ks[j]? = some ks[j] := List.getElem?_eq_getElem (by omega)
        have := near j _ hk
        have e : (worth ks)[j]? = some (ks[j]'(by omega)).2 := by unfold worth; rw [List.getElem?_map, hk]; rfl
        rw [List.getElem?_eq_getElem h] at e
        rw [Option.some.inj e]
        exact this
      exact near_ne ((grid_at hR hC (by omega)).2.2 b (by omega) (by omega)) (at_ ha) (at_ hb)
end

end G0
namespace G0
open PySem PySem.Spec PyProof.Rows L2
set_option maxHeartbeats 4000000
set_option pp.deepTerms.threshold 6
theorem eqvL_self (L : List (List Int)) : PyData.eqv (.list (L.map tuD)) (.list (L.map tuD)) = true := by
  simp [PyData.eqv, eqv_tus]
theorem least_nil (ks : List (Addr × List Int)) (k : Addr × List Int) : decide ((ks.filter fun q => decide (q.2 ≠ k.2) && holdsL k.2 q.2) = []) = leastB ks k := by
  unfold leastB
  generalize ks = L
  induction L with
  | nil => rfl
  | cons q L ih =>
    rw [List.filter_cons, List.any_cons, Bool.not_or, ← ih]
    have e : (decide (q.2 ≠ k.2) && holdsL k.2 q.2) = (decide (k.2 ≠ q.2) && holdsL k.2 q.2) := by
      congr 1
      exact decide_eq_decide.mpr ⟨fun h z => h z.symm, fun h z => h z.symm⟩
    rw [e]
    cases (decide (k.2 ≠ q.2) && holdsL k.2 q.2) <;> simp
section
variable {P : Program} {w : World} {K : PySem.W.Frag} {mg : Str → Option Value} {base : Heap}
/-! ### _law_least_right -/
def spRight (K : PySem.W.Frag) : Sp := fun vs H Q _ => ∃ (n : Int) (l : Addr) (ks : List (Addr × List Int)), vs = [.int n, .ref l] ∧ (1 ≤ n ∧ n ≤ 60) ∧ Fam K H l ks ∧ FamW n ks ∧ ks.length ≤ 50 ∧ ∀ H', Same H H' → Q (.bl true) H'
theorem sc_law_least_right : FnScope ["seats", "sets", "due", "one", "other", "handed", "found"] ["seats", "sets"] (defScope s_law_least_right) :=
  ⟨rfl, rfl, rfl, by decide +kernel, rfl, by decide +kernel, by decide +kernel⟩
theorem ok_lright (F : Fn K mg "_law_least_right" s_law_least_right) (T : BlF mg) (C_holds : Cal P w K mg base "_law_holds" 1 ["one", "other"] (spHolds K)) (Cleast_ones : Cal P w K mg base "least_ones" 5 ["seats", "sets"] (spLeast K)) (C_is_set : Cal P w K mg base "_law_is_set" 2 ["thing"] (spIsSet K)) : Cal P w K mg base "_law_least_right" 6 ["seats", "sets"] (spRight K) := by
  refine cal_of F sc_law_least_right
    (fun _ _ _ _ _ _ us hl => match us, hl with | [_, _], _ => rfl) ?_ ?_
  · rintro vs H Q E ⟨_, _, _, rfl, _⟩
    rfl
  rintro f cdv A outer s H vs Q E free hr ⟨n, l, ks, rfl, nb, Fk, Ok, few, q⟩
  refine ⟨_, (pss_cons (ps_set (i := 2) sc_law_least_right.nd rfl (Or.inl rfl) (pe_lst pa_nil))
    (pss_cons (ps_for PassesOwn.never rfl (pi_list (pv 1)) (pg_name (i := 3) sc_law_least_right.nd rfl (Or.inr rfl))
    (pss_one (ps_if (pt_cmpR (op_eqD (u64 hr)) (pe_lc (own := [("other", 4)]) (g := gName 4)  (by rfl) sc_law_least_right.nd (pi_list (pv 1)) (blkOk_by (N := ["seats", "sets", "due", "one", "other", "handed", "found"]) (sc := defScope s_law_least_right) (by decide +kernel)) (fun _ _ _ _ _ => pg_name (i := 4) sc_law_least_right.nd rfl (Or.inl rfl)) (fun _ _ _ _ _ => pts_one (PW.pt (pw_and (pt_cmpR (op_K rNeD K (op_neD (u64 hr)) rfl) (pv 4) (pv 3) (nomark _)) (pw_and1 (pt_val (pe_cal C_holds free (hr.mono (by decide)) (pa_cons (pv 3) (pa_cons (pv 4) pa_nil)))))))) (fun _ _ _ _ _ => pe_int)) (pe_lst pa_nil) (nomark _))
    (pss_one (ps_expr (pe_bm PySem.F.plainAttrs_list PySem.F.slot_list_append PySem.F.type_list_append mt_append (pv 2) (pa_cons (pv 3) pa_nil))))
    pss_nil)))
    (pss_cons (ps_set (i := 5) sc_law_least_right.nd rfl (Or.inl rfl) (pe_callTy call_list_of (by rfl) T.list (by decide +kernel) (pa_cons (pv 1) pa_nil)))
    (pss_cons (ps_set (i := 6) sc_law_least_right.nd rfl (Or.inl rfl) (pe_cal Cleast_ones free (hr.mono (by decide)) (pa_cons (pv 0) (pa_cons (pv 5) pa_nil))))
    (pss_cons (ps_if (PW.pt (pw_or (pt_not (pt_val (pe_callB call_isi (by rfl) T.isinstance (by decide +kernel) (pa_cons (pv 6) (pa_cons (pe_bltn (v := .ty "list") (by rfl) T.list (by decide +kernel) rfl) pa_nil))))) (pw_or1 (pt_cmpR (op_neD (u64 hr)) (pe_lc (own := [("one", 3)]) (g := gName 3)  (by rfl) sc_law_least_right.nd (pi_list (pv 6)) (blkOk_by (N := ["seats", "sets", "due", "one", "other", "handed", "found"]) (sc := defScope s_law_least_right) (by decide +kernel)) (fun _ _ _ _ _ => pg_name (i := 3) sc_law_least_right.nd rfl (Or.inl rfl)) (fun _ _ _ _ _ => pts_one (pt_not (pt_val (pe_cal C_is_set free (hr.mono (by decide)) (pa_cons (pv 3) pa_nil))))) (fun _ _ _ _ _ => pe_int)) (pe_lst pa_nil) (nomark _)))))
    (pss_one (ps_ret pe_bl))
    pss_nil)
    (pss_cons (ps_if (PW.pt (pw_or (pt_cmpR (op_neD (u64 hr)) (pv 6) (pv 2) (nomark _)) (pw_or1 (pt_cmpR (op_neD (u64 hr)) (pv 5) (pv 1) (nomark _)))))
    (pss_one (ps_ret pe_bl))
    pss_nil)
    (pss_cons (ps_expr (pe_bm PySem.F.plainAttrs_list PySem.F.slot_list_append PySem.F.type_list_append mt_append (pv 6) (pa_cons (pe_tup pa_nil) pa_nil)))
    (pss_one (ps_ret (pe_cmpR (op_eqD (u64 hr)) (pv 5) (pv 1) (nomark _))))))))))), ?_⟩
  refine ⟨Nat.zero_le _, fun D hD => ?_⟩
  have u1 := same_upd (o := .lst []) hD
  have lD : l ≠ D := ne_of_none Fk.at_ hD
  have sqD : ∀ {G : Hp} {xs ys : List V} {a : Addr} {zs : List V}, G D = some (.lst xs) → SqT K G a zs → SqT K (upd G D (.lst ys)) a zs := fun e z => sqt_chg ⟨_, e⟩ Chg.self z
  refine ⟨_, rfl, l, rfl, ⟨_, SqL.of (u1 _ _ Fk.at_)⟩, ?_⟩
  refine for_list (K := K) (a := l) (xs := refs ks) (fun i σ G => (∃ z2 z3 z4 z5 : Option V, σ = [some (V.int n), some (V.ref l), some (V.ref D), z2, none, z3, z4]) ∧ Same H G ∧ G D = some (.lst (refs ((ks.take i).filter (leastB ks))))) ⟨⟨_, _, _, none, rfl⟩, u1, upd_same⟩ (fun i σ G _ h => SqL.of (h.2.1 _ _ Fk.at_)) ?_ ?_
  · rintro i x σ G hx ⟨⟨z2, z3, z4, z5, rfl⟩, sG, kD⟩
    obtain ⟨k, hk, rfl⟩ := refs_at hx
    have mk := List.mem_of_getElem? hk
    have li := (List.getElem?_eq_some_iff.mp hk).1
    have FG := Fk.same sG
    refine ⟨_, rfl, l, rfl, ⟨_, SqL.of FG.at_⟩, fun D2 hD2 => ?_⟩
    refine lc_mapL (ks := ks) (fun q => V.ref q.1) (fun q => decide (q.2 ≠ k.2) && holdsL k.2 q.2) (fun _ => V.int 1) (by omega) hD2 (SqL.of FG.at_) (fun j q G2 Y B ex s2 yes no => ?_) (fun G2 s2 kD2 => ?_)
    · have F2 := FG.same s2
      have mq := List.mem_of_getElem? ex
      refine ⟨rfl, ?_⟩
      refine ⟨_, rfl, _, rfl, tuD q.2, tuD k.2, .tup (F2.tups q mq) (dps_ints _), .tup (F2.tups k mk) (dps_ints _), shaped_tu _, shaped_tu _, _, rfl, ?_⟩
      rw [eqv_tu]
      by_cases c : q.2 = k.2
      · exact iteF' (by simp [c]) (iteF (no (by simp [c]) _ (Same.refl _)))
      · refine iteT' (by simp [c]) ?_
        refine ⟨_, rfl, _, rfl, k.1, q.1, k.2, q.2, rfl, F2.tups k mk, F2.tups q mq, (Ok.well q mq).few, fun G3 s3 => ⟨_, rfl, ?_⟩⟩
        exact ite2 (fun h => yes (by simp [c, h]) _ s3) (fun h => no (by simp [c]; simpa using h) _ s3)
    refine ⟨Nat.zero_le _, fun e he => ?_⟩
    have s3 := same_upd (o := .lst []) he
    rw [ones_ints] at kD2
    refine ⟨_, .list [], .lst (SqL.of (s3 _ _ kD2)) (dps_ints _), .lst (SqL.of upd_same) .nil, shaped_ints _, by decide, _, rfl, ?_⟩
    rw [ints_nilE, map_nil, least_nil]
    have s13 := s2.trans s3
    have kD3 := s13 _ _ kD
    rw [filt_nextA (leastB ks) hk]
    refine ite2 (fun c => ?_) (fun c => ?_)
    · rw [if_pos c]
      refine ⟨_, rfl, .inl ⟨rfl, _, SqL.of kD3⟩, _, rfl, D, _, _, rfl, rfl, kD3, ?_, ?_⟩
      · unfold refs
        rw [List.length_map]
        exact Nat.lt_of_lt_of_le (show _ < 100 from Nat.lt_of_le_of_lt (List.length_filter_le ..) (by rw [List.length_take]; omega)) (by decide)
      · refine ⟨⟨_, _, _, none, rfl⟩, fun b o e2 => ?_, ?_⟩
        · rw [upd_ne (ne_of_none e2 hD)]
          exact s13 _ _ (sG _ _ e2)
        · rw [upd_same]
          unfold refs
          rw [List.map_append]
          rfl
    · rw [if_neg c, List.append_nil]
      exact ⟨⟨_, _, _, none, rfl⟩, sG.trans s13, kD3⟩
  · rintro σ G ⟨⟨z2, z3, z4, z5, rfl⟩, sG, kD⟩
    have lR : (refs ks).length = ks.length := by unfold refs; rw [List.length_map]
    rw [lR, List.take_length] at kD
    have FG := Fk.same sG
    refine ⟨_, rfl, l, _, rfl, .inl (SqL.of FG.at_), fun hd hhd => ?_⟩
    have u2 := same_upd (o := .lst (refs ks)) hhd
    have F2 : Fam K (upd G hd (.lst (refs ks))) hd ks := ⟨upd_same, (FG.same u2).tups⟩
    refine ⟨_, rfl, _, rfl, n, hd, ks, rfl, nb, F2, Ok, few, fun fo G3 hfo s3 kfo => ?_⟩
    have F3 := F2.same s3
    have s23 := u2.trans s3
    have L3 := FG.same s23
    have kD3 := s23 _ _ kD
    obtain ⟨kb, ekb⟩ : ∃ kb, kb = ks.filter (leastB ks) := ⟨_, rfl⟩
    have mkb : ∀ k ∈ kb, k ∈ ks := fun k m => by
      rw [ekb] at m
      exact (List.mem_filter.mp m).1
    have lkb : kb.length ≤ 50 := by rw [ekb]; exact Nat.le_trans (List.length_filter_le ..) few
    rw [← ekb] at kD3 kfo
    have Fo : Fam K G3 fo kb := ⟨kfo, fun k m => L3.tups k (mkb k m)⟩
    have Fd3 : Fam K G3 D kb := ⟨kD3, fun k m => L3.tups k (mkb k m)⟩
    refine ⟨_, rfl, _, .ty "list", _, _, _, rfl, .ty _, .base (.lst kfo), kit_ty (r := true) (by decide +kernel), _, rfl, iteF' rfl ?_⟩
    refine ⟨_, rfl, fo, rfl, ⟨_, SqL.of kfo⟩, fun D4 hD4 => ?_⟩
    refine lc_mapL (ks := kb) (fun q => V.ref q.1) (fun _ => false) (fun _ => V.int 1) (by omega) hD4 (SqL.of kfo) (fun j k G4 Y B ex s4 yes no => ?_) (fun G4 s4 kD4 => ?_)
    · have mk := List.mem_of_getElem? ex
      refine ⟨rfl, ?_⟩
      exact ⟨_, rfl, k.1, k.2, rfl, (Fo.same s4).tups k mk, (Ok.well k (mkb k mk)).few, fun G5 s5 => ⟨_, rfl, iteF' rfl (no rfl _ s5)⟩⟩
    refine ⟨Nat.zero_le _, fun e he => ?_⟩
    have s5 := same_upd (o := .lst []) he
    refine ⟨.list [], .list [], .lst (SqL.of ((s5 _ _ kD4).trans (by simp))) .nil, .lst (SqL.of upd_same) .nil, by decide, by decide, _, rfl, iteF' (by decide) ?_⟩
    have s35 := s4.trans s5
    have dFo := (Fo.same s35).dp
    have dDu := (Fd3.same s35).dp
    have dHd := (F3.same s35).dp
    have dSe := (L3.same s35).dp
    refine ⟨_, rfl, _, rfl, _, _, dFo, dDu, shaped_tus _, shaped_tus _, _, rfl, iteF' (by rw [eqvL_self]; rfl) ?_⟩
    refine ⟨_, rfl, _, rfl, _, _, dHd, dSe, shaped_tus _, shaped_tus _, _, rfl, iteF' (by rw [eqvL_self]; rfl) ?_⟩
    have kfo5 := s35 _ _ kfo
    refine ⟨_, rfl, .inl ⟨rfl, _, SqL.of kfo5⟩, Nat.zero_le _, fun t ht => ?_⟩
    have s6 := same_upd (o := .tup []) ht
    have kfo6 := s6 _ _ kfo5
    refine ⟨fo, _, _, rfl, rfl, kfo6, ?_, ?_⟩
    · unfold refs
      rw [List.length_map]
      exact Nat.lt_of_lt_of_le (show kb.length < 100 by omega) (by decide)
    have n1 : hd ≠ fo := ne_of_none F2.at_ hfo
    have n2 : l ≠ fo := ne_of_none (u2 _ _ FG.at_) hfo
    have F6 := ((F3.same s35).same s6).chg (p := fo) ⟨_, kfo6⟩ (Chg.self (o := .lst (refs kb ++ [V.ref t]))) n1
    have L6 := ((L3.same s35).same s6).chg (p := fo) ⟨_, kfo6⟩ (Chg.self (o := .lst (refs kb ++ [V.ref t]))) n2
    refine ⟨_, rfl, _, rfl, _, _, F6.dp, L6.dp, shaped_tus _, shaped_tus _, ?_⟩
    rw [eqvL_self]
    refine q _ fun b o e2 => ?_
    rw [upd_ne (ne_of_none (u2 _ _ (sG _ _ e2)) hfo)]
    exact s6 _ _ (s35 _ _ (s23 _ _ (sG _ _ e2)))
end

end G0
namespace G0
open PySem PySem.Spec PyProof.Rows L2
set_option maxHeartbeats 4000000
set_option pp.deepTerms.threshold 6
theorem find_least {p : Int → Bool} : ∀ {us : List Int} {x : Int}, us.Pairwise (· < ·) → us.find? p = some x → x ∈ us ∧ p x = true ∧ ∀ y ∈ us, p y = true → x ≤ y
  | [], x, _, h => by simp at h
  | u :: us, x, pw, h => by
    rw [List.pairwise_cons] at pw
    rw [List.find?_cons] at h
    cases c : p u with
    | true =>
      rw [c] at h
      cases (Option.some.inj h)
      exact ⟨List.mem_cons_self, c, fun y hy _ => by
        rcases List.mem_cons.mp hy with rfl | hy
        · exact Int.le_refl _
        · exact Int.le_of_lt (pw.1 y hy)⟩
    | false =>
      rw [c] at h
      obtain ⟨a, b, d⟩ := find_least pw.2 h
      exact ⟨List.mem_cons_of_mem _ a, b, fun y hy py => by
        rcases List.mem_cons.mp hy with rfl | hy
        · rw [c] at py; cases py
        · exact d y hy py⟩
theorem lsV_comm {us ws : List Int} (h1 : us.Pairwise (· < ·)) (h2 : ws.Pairwise (· < ·)) : lsV us ws = lsV ws us := by
  unfold lsV
  cases e1 : us.find? (fun x => decide (x ∈ ws)) with
  | none =>
    cases e2 : ws.find? (fun x => decide (x ∈ us)) with
    | none => rfl
    | some y =>
      obtain ⟨a, b, _⟩ := find_least h2 e2
      have := List.find?_eq_none.mp e1 y (of_decide_eq_true b)
      exact absurd (decide_eq_true a) this
  | some x =>
    obtain ⟨a, b, c⟩ := find_least h1 e1
    cases e2 : ws.find? (fun x => decide (x ∈ us)) with
    | none =>
      have := List.find?_eq_none.mp e2 x (of_decide_eq_true b)
      exact absurd (decide_eq_true a) this
    | some y =>
      obtain ⟨a', b', c'⟩ := find_least h2 e2
      have h3 := c y (of_decide_eq_true b') (decide_eq_true a')
      have h4 := c' x (of_decide_eq_true b) (decide_eq_true a)
      rw [Int.le_antisymm h3 h4]
section
variable {P : Program} {w : World} {K : PySem.W.Frag} {mg : Str → Option Value} {base : Heap}
/-! ### _law_meeting_due -/
def spMDue (K : PySem.W.Frag) : Sp := fun vs H Q _ => ∃ (n : Int) (l : Addr) (ks : List (Addr × List Int)), vs = [.ref l] ∧ Fam K H l ks ∧ FamW n ks ∧ ks.length ≤ 50 ∧
  (∀ lo hi : Nat, Apart (worth ks) lo hi → (∀ lo' hi', Apart (worth ks) lo' hi' → lo < lo' ∨ lo = lo' ∧ hi ≤ hi') → ∀ r H', Same H H' → SqT K H' r [.str "apart", .int (lo : Nat), .int (hi : Nat)] → Q (.ref r) H') ∧
  ((∀ lo hi, ¬ Apart (worth ks) lo hi) → ∀ r t rs H', Same H H' → SqT K H' r [.str "meets", .ref t] → Tab H' t (worth ks) rs → rs.length = ks.length → Q (.ref r) H')
theorem sc_law_meeting_due : FnScope ["sets", "low", "high", "table"] ["sets"] (defScope s_law_meeting_due) :=
  ⟨rfl, rfl, rfl, by decide +kernel, rfl, by decide +kernel, by decide +kernel⟩
theorem ok_mdue (F : Fn K mg "_law_meeting_due" s_law_meeting_due) (T : BlF mg) (C_shared : Cal P w K mg base "_law_shared" 1 ["one", "other"] (spLS K)) : Cal P w K mg base "_law_meeting_due" 2 ["sets"] (spMDue K) := by
  refine cal_of F sc_law_meeting_due
    (fun _ _ _ _ _ _ us hl => match us, hl with | [_], _ => rfl) ?_ ?_
  · rintro vs H Q E ⟨_, _, _, rfl, _⟩
    rfl
  rintro f cdv A outer s H vs Q E free hr ⟨n, l, ks, rfl, Fk, Ok, few, qA, qM⟩
  refine ⟨_, (pss_cons (ps_for PassesOwn.never rfl (pi_range1 (by rfl) T.range (pa_cons (pe_callB call_len_seq (by rfl) T.len (by decide +kernel) (pa_cons (pv 0) pa_nil)) pa_nil)) (pg_name (i := 1) sc_law_meeting_due.nd rfl (Or.inl rfl))
    (pss_one (ps_for PassesOwn.never rfl (pi_range2 (by rfl) T.range (pa_cons (pe_op op_add (pv 1) pe_int) (pa_cons (pe_callB call_len_seq (by rfl) T.len (by decide +kernel) (pa_cons (pv 0) pa_nil)) pa_nil))) (pg_name (i := 2) sc_law_meeting_due.nd rfl (Or.inr rfl))
    (pss_one (ps_if (pt_cmpR op_isN (pe_cal C_shared free (hr.mono (by decide)) (pa_cons (pe_ix ix_list (pv 0) (pv 1) (fun _ _ => rfl)) (pa_cons (pe_ix ix_list (pv 0) (pv 2) (fun _ _ => rfl)) pa_nil))) pe_non (nomark _))
    (pss_one (ps_ret (pe_tup (pa_cons pe_str (pa_cons (pv 1) (pa_cons (pv 2) pa_nil))))))
    pss_nil)))))
    (pss_cons (ps_set (i := 3) sc_law_meeting_due.nd rfl (Or.inl rfl) (pe_lst pa_nil))
    (pss_cons (ps_for PassesOwn.never rfl (pi_range1 (by rfl) T.range (pa_cons (pe_callB call_len_seq (by rfl) T.len (by decide +kernel) (pa_cons (pv 0) pa_nil)) pa_nil)) (pg_name (i := 2) sc_law_meeting_due.nd rfl (Or.inr rfl))
    (pss_one (ps_expr (pe_bm PySem.F.plainAttrs_list PySem.F.slot_list_append PySem.F.type_list_append mt_append (pv 3) (pa_cons (pe_lc (own := [("low", 1)]) (g := gName 1) (tt := tYes) (by rfl) sc_law_meeting_due.nd (pi_range1 (by rfl) T.range (pa_cons (pv 2) pa_nil)) (blkOk_by (N := ["sets", "low", "high", "table"]) (sc := defScope s_law_meeting_due) (by decide +kernel)) (fun _ _ _ _ _ => pg_name (i := 1) sc_law_meeting_due.nd rfl (Or.inl rfl)) (fun _ _ _ _ _ => pts_nil) (fun _ _ _ _ _ => (pe_cal C_shared free (hr.mono (by decide)) (pa_cons (pe_ix (ix_listK K) (pv 0) (pv 1) (fun _ _ => rfl)) (pa_cons (pe_ix (ix_listK K) (pv 0) (pv 2) (fun _ _ => rfl)) pa_nil))))) pa_nil)))))
    (pss_one (ps_ret (pe_tup (pa_cons pe_str (pa_cons (pv 3) pa_nil)))))))), ?_⟩
  have lR : (refs ks).length = ks.length := by unfold refs; rw [List.length_map]
  have lW : (worth ks).length = ks.length := by unfold worth; rw [List.length_map]
  have wAt : ∀ {i : Nat} {k : Addr × List Int}, ks[i]? = some k → (worth ks).getD i [] = k.2 := fun {i k} e => by
    rw [List.getD_eq_getElem?_getD]
    unfold worth
    rw [List.getElem?_map, e]
    rfl
  have rAt : ∀ {i : Nat} {k : Addr × List Int}, ks[i]? = some k → atI (refs ks) ((i : Nat) : Int) = some (.ref k.1) := fun {i k} e => atI_nat (by unfold refs; rw [List.getElem?_map, e]; rfl)
  have comm : ∀ {i j : Nat} {k k' : Addr × List Int}, ks[i]? = some k → ks[j]? = some k' → lsV k.2 k'.2 = lsV k'.2 k.2 := fun {i j k k'} e e' => lsV_comm (Ok.well k (List.mem_of_getElem? e)).up (Ok.well k' (List.mem_of_getElem? e')).up
  refine ⟨_, rfl, l, _, rfl, .inl (SqL.of Fk.at_), _, rfl, by rw [lR]; omega, by rw [lR]; omega, ?_⟩
  rw [lR, Int.toNat_natCast]
  refine for_range (lo := 0) (n := ks.length) (fun i σ G => (∃ z1 z2 z3 : Option V, σ = [some (V.ref l), z1, z2, z3]) ∧ Same H G ∧ ∀ lo hi, lo < i → ¬ Apart (worth ks) lo hi) ⟨⟨_, _, _, rfl⟩, Same.refl H, fun lo hi h => absurd h (Nat.not_lt_zero _)⟩ ?_ ?_
  · rintro i σ G hi ⟨⟨z1, z2, z3, rfl⟩, sG, na⟩
    have FG := Fk.same sG
    refine ⟨_, rfl, _, _, rfl, rfl, _, rfl, l, _, rfl, .inl (SqL.of FG.at_), _, _, rfl, ⟨by omega, by omega, by rw [lR]; omega, by rw [lR]; omega⟩, ?_⟩
    rw [lR]
    obtain ⟨k, hk⟩ : ∃ k, ks[i]? = some k := ⟨_, List.getElem?_eq_getElem hi⟩
    have aLow : atI (refs ks) (0 + (i : Int)) = some (.ref k.1) := by rw [Int.zero_add]; exact rAt hk
    refine for_range (lo := 0 + (i : Int) + 1) (n := (((ks.length : Nat) : Int) - (0 + (i : Int) + 1)).toNat) (fun j σ G2 => (∃ z2 z3 : Option V, σ = [some (V.ref l), some (V.int (0 + (i : Int))), z2, z3]) ∧ Same H G2 ∧ ∀ hi, hi < i + 1 + j → ¬ Apart (worth ks) i hi) ⟨⟨_, _, rfl⟩, sG, fun hi h z => by have := z.1; omega⟩ ?_ ?_
    · rintro j σ G2 hj ⟨⟨z2, z3, rfl⟩, s2, na2⟩
      have F2 := Fk.same s2
      have hj' : i + 1 + j < ks.length := by omega
      obtain ⟨k', hk'⟩ : ∃ k, ks[i + 1 + j]? = some k := ⟨_, List.getElem?_eq_getElem hj'⟩
      have aHigh : atI (refs ks) (0 + (i : Int) + 1 + (j : Int)) = some (.ref k'.1) := by
        have := rAt hk'
        rwa [show (((i + 1 + j : Nat)) : Int) = 0 + (i : Int) + 1 + (j : Int) by omega] at this
      refine ⟨_, rfl, _, rfl, l, _, _, _, rfl, rfl, SqL.of F2.at_, aLow, _, rfl, _, rfl, l, _, _, _, rfl, rfl, SqL.of F2.at_, aHigh, k.1, k'.1, k.2, k'.2, rfl, F2.tups k (List.mem_of_getElem? hk), F2.tups k' (List.mem_of_getElem? hk'), (Ok.well k (List.mem_of_getElem? hk)).few, fun G3 s3 => ?_⟩
      have apE : Apart (worth ks) i (i + 1 + j) ↔ lsV k.2 k'.2 = .non := by
        unfold Apart
        rw [wAt hk, wAt hk', comm hk hk']
        exact ⟨fun h => h.2.2, fun h => ⟨by omega, by omega, h⟩⟩
      refine ⟨rfl, _, rfl, ?_⟩
      refine ite2 (fun c => ?_) (fun c => ?_)
      · have ap := apE.mpr (of_decide_eq_true c)
        refine ⟨_, rfl, _, rfl, by show 3 ≤ sizeLine; decide, fun r hr => ?_⟩
        have u := same_upd (o := .tup [.str "apart", .int (0 + (i : Int)), .int (0 + (i : Int) + 1 + (j : Int))]) hr
        refine qA i (i + 1 + j) ap (fun lo' hi' ap' => ?_) r _ (s2.trans (s3.trans u)) (SqT.of (upd_same.trans ?_))
        · have h1 : ¬ lo' < i := fun h => na lo' hi' h ap'
          by_cases e : lo' = i
          · have h2 : ¬ hi' < i + 1 + j := fun h => na2 hi' h (e ▸ ap')
            omega
          · omega
        · rw [show 0 + (i : Int) = (i : Int) by omega, show (((i + 1 + j : Nat)) : Int) = (i : Int) + 1 + (j : Int) by omega]
      · have nap : ¬ Apart (worth ks) i (i + 1 + j) := fun h => c (decide_eq_true (apE.mp h))
        refine ⟨⟨_, _, rfl⟩, s2.trans s3, fun hi h z => ?_⟩
        by_cases e : hi = i + 1 + j
        · exact nap (e ▸ z)
        · exact na2 hi (by omega) z
    · rintro σ G2 ⟨⟨z2, z3, rfl⟩, s2, na2⟩
      refine ⟨⟨_, _, _, rfl⟩, s2, fun lo hi2 h z => ?_⟩
      by_cases e : lo = i
      · have h2 := z.2.1
        exact na2 hi2 (by omega) (e ▸ z)
      · exact na lo hi2 (by omega) z
  · rintro σ G ⟨⟨z1, z2, z3, rfl⟩, sG, na⟩
    have none_ : ∀ lo hi, ¬ Apart (worth ks) lo hi := fun lo hi z => na lo hi (by have := z.1; have := z.2.1; omega) z
    refine ⟨Nat.zero_le _, fun D hD => ?_⟩
    have u0 := same_upd (o := .lst []) hD
    have F0 := Fk.same (sG.trans u0)
    refine ⟨_, rfl, l, _, rfl, .inl (SqL.of F0.at_), _, rfl, by rw [lR]; omega, by rw [lR]; omega, ?_⟩
    rw [lR, Int.toNat_natCast]
    refine for_range (lo := 0) (n := ks.length) (fun i σ G2 => (∃ z1 z2 : Option V, σ = [some (V.ref l), z1, z2, some (V.ref D)]) ∧ Same G G2 ∧ ∃ rs : List Addr, rs.length = i ∧ Tab G2 D (worth ks) rs ∧ D ∉ rs) ⟨⟨_, _, rfl⟩, u0, [], rfl, ⟨upd_same, fun i r e => by simp at e⟩, by simp⟩ ?_ ?_
    · rintro i σ G2 hi ⟨⟨z1, z2, rfl⟩, s2, rs, lr, TG, nD⟩
      obtain ⟨k, hk⟩ : ∃ k, ks[i]? = some k := ⟨_, List.getElem?_eq_getElem hi⟩
      have F2 := Fk.same (sG.trans s2)
      refine ⟨_, rfl, .inl ⟨rfl, _, SqL.of TG.at_⟩, ?_⟩
      refine ⟨_, rfl, _, rfl, by omega, by omega, fun D2 hD2 => ?_⟩
      have lrow : (rowV (worth ks) i).length = i := rowV_len (by omega)
      refine lc_range (lo := 0) (n := (0 + (i : Int)).toNat) (fun j G3 => Same G2 G3 ∧ G3 D2 = some (.lst ((rowV (worth ks) i).take j))) ⟨same_upd hD2, by rw [List.take_zero]; exact upd_same⟩ ?_ ?_
      · rintro j G3 hj ⟨s3, kD2⟩
        have hj' : j < i := by omega
        obtain ⟨k', hk'⟩ : ∃ k, ks[j]? = some k := ⟨_, List.getElem?_eq_getElem (by omega)⟩
        have F3 := F2.same s3
        refine ⟨rfl, lc_yes ?_⟩
        refine ⟨_, rfl, _, rfl, l, _, _, _, rfl, rfl, SqL.of F3.at_, by rw [Int.zero_add]; exact rAt hk', _, rfl, _, rfl, l, _, _, _, rfl, rfl, SqL.of F3.at_, by rw [Int.zero_add]; exact rAt hk, k'.1, k.1, k'.2, k.2, rfl, F3.tups k' (List.mem_of_getElem? hk'), F3.tups k (List.mem_of_getElem? hk), (Ok.well k' (List.mem_of_getElem? hk')).few, fun G4 s4 => ?_⟩
        have rj : (rowV (worth ks) i)[j]? = some (lsV k'.2 k.2) := by
          have e0 : (worth ks)[j]? = some k'.2 := by unfold worth; rw [List.getElem?_map, hk']; rfl
          unfold rowV
          rw [List.getElem?_map, List.getElem?_take, if_pos hj', e0, wAt hk, comm hk' hk]
          rfl
        refine ⟨_, s4 _ _ kD2, ?_, fun b o e => ?_, ?_⟩
        · rw [List.length_take, lrow]
          exact Nat.lt_of_lt_of_le (show min j i < 100 by omega) (by decide)
        · rw [upd_ne (ne_of_none e hD2)]
          exact s4 _ _ (s3 _ _ e)
        · rw [List.take_succ, rj]
          exact upd_same
      · rintro G3 ⟨s3, kD2⟩
        rw [List.take_of_length_le (by rw [lrow]; omega)] at kD2
        have kD := s3 _ _ TG.at_
        have nD2 : D2 ≠ D := (ne_of_none TG.at_ hD2).symm
        refine ⟨D, _, _, rfl, rfl, kD, ?_, ?_⟩
        · rw [List.length_map]
          exact Nat.lt_of_lt_of_le (show rs.length < 100 by omega) (by decide)
        refine ⟨⟨_, _, rfl⟩, fun b o e => ?_, rs ++ [D2], by rw [List.length_append, lr]; rfl, ⟨by rw [List.map_append]; exact upd_same, fun j r e => ?_⟩, fun m => ?_⟩
        · rw [upd_ne (ne_of_none e hD)]
          exact s3 _ _ (s2 _ _ e)
        · rcases Nat.lt_or_ge j rs.length with c | c
          · rw [List.getElem?_append_left c] at e
            have nr : r ≠ D := fun z => nD (z ▸ List.mem_of_getElem? e)
            rw [upd_ne nr]
            exact s3 _ _ (TG.rows j r e)
          · rw [List.getElem?_append_right c] at e
            cases z : j - rs.length with
            | zero =>
              rw [z] at e
              simp at e
              rw [← e, show j = i by omega, upd_ne nD2]
              exact kD2
            | succ u => rw [z] at e; simp at e
        · rcases List.mem_append.mp m with m | m
          · exact nD m
          · exact nD2 (List.mem_singleton.mp m).symm
    · rintro σ G2 ⟨⟨z1, z2, rfl⟩, s2, rs, lr, TG, nD⟩
      refine ⟨_, rfl, by show 2 ≤ sizeLine; decide, fun r hr => ?_⟩
      have u5 := same_upd (o := .tup [.str "meets", .ref D]) hr
      exact qM none_ r D rs _ (sG.trans (s2.trans u5)) (SqT.of upd_same) (TG.same u5) lr
end

end G0
namespace G0
open PySem PySem.Spec PyProof.Rows L2
set_option maxHeartbeats 4000000
set_option pp.deepTerms.threshold 6
theorem dec_str {a b : Str} : decide (V.str a = V.str b) = decide (a = b) := decide_eq_decide.mpr ⟨fun h => by cases h; rfl, fun h => by rw [h]⟩
def liD (n : List Int) : PyData := .list (n.map PyData.int)
theorem lay_lis : ∀ L : List (List Int), PyData.canLayAll0 (L.map liD) = true
  | [] => by simp [PyData.canLayAll0]
  | n :: L => by simp [PyData.canLayAll0, PyData.canLay0, liD, lay_ints n, lay_lis L]
theorem deep_lis : ∀ L : List (List Int), PyData.depthAll (L.map liD) ≤ 1
  | [] => by simp [PyData.depthAll]
  | n :: L => by
    have := deep_lis L
    simp [PyData.depthAll, PyData.depth, liD, deep_ints n]
    omega
def apD (lo hi : Nat) : PyData := .tuple [.str "apart", .int (lo : Nat), .int (hi : Nat)]
def meD (L : List (List Int)) : PyData := .tuple [.str "meets", .list (L.map liD)]
theorem shaped_ap (lo hi : Nat) : SeqAt.shaped (apD lo hi) = true := by
  show ((apD lo hi).canLay0 && decide ((apD lo hi).depth ≤ 64)) = true
  simp [apD, PyData.canLay0, PyData.canLayAll0, PyData.depth, PyData.depthAll]
  decide +kernel
theorem shaped_me (L : List (List Int)) : SeqAt.shaped (meD L) = true := by
  show ((meD L).canLay0 && decide ((meD L).depth ≤ 64)) = true
  have h1 := lay_lis L
  have h2 := deep_lis L
  have h3 : (PyData.str "meets").canLay0 = true := by decide +kernel
  have e : (meD L).depth ≤ 64 := by
    simp only [meD, PyData.depth, PyData.depthAll]
    omega
  rw [decide_eq_true e]
  simp [meD, PyData.canLay0, PyData.canLayAll0, h1]
  decide +kernel
theorem eqv_is_self (n : List Int) : PyData.eqvAll (n.map PyData.int) (n.map PyData.int) = true := by
  have := eqv_is n n
  simpa using this
theorem eqv_lis : ∀ L : List (List Int), PyData.eqvAll (L.map liD) (L.map liD) = true
  | [] => by simp [PyData.eqvAll]
  | n :: L => by
    simp only [List.map_cons, PyData.eqvAll, eqv_lis L, Bool.and_true]
    simp only [liD, PyData.eqv]
    exact eqv_is_self n
theorem eqv_me (L : List (List Int)) : PyData.eqv (meD L) (meD L) = true := by
  simp [meD, PyData.eqv, PyData.eqvAll, eqv_lis]
theorem eqv_ap (lo hi : Nat) : PyData.eqv (apD lo hi) (apD lo hi) = true := by
  simp [apD, PyData.eqv, PyData.eqvAll]
def lsI (us ws : List Int) : Int := (us.find? (fun x => decide (x ∈ ws))).getD 0
def rowI (W : List (List Int)) (i : Nat) : List Int := (W.take i).map (lsI (W.getD i []))
theorem rowI_V {W : List (List Int)} {i : Nat} (h : i < W.length) (na : ∀ lo hi, ¬ Apart W lo hi) : rowV W i = (rowI W i).map V.int := by
  unfold rowV rowI
  rw [List.map_map]
  refine List.map_congr_left fun u hu => ?_
  obtain ⟨j, hj, e⟩ := List.mem_take_iff_getElem.mp hu
  have hj' : j < i ∧ j < W.length := by omega
  have eg : W.getD j [] = u := by rw [List.getD_eq_getElem?_getD, List.getElem?_eq_getElem hj'.2, ← e]; rfl
  have nv : lsV (W.getD i []) u ≠ .non := fun z => na j i ⟨hj'.1, h, by rw [eg]; exact z⟩
  show lsV (W.getD i []) u = V.int (lsI (W.getD i []) u)
  unfold lsV at nv ⊢
  unfold lsI
  cases z : (W.getD i []).find? (fun x => decide (x ∈ u)) with
  | none => rw [z] at nv; exact absurd rfl nv
  | some x => rfl
section
variable {P : Program} {w : World} {K : PySem.W.Frag} {mg : Str → Option Value} {base : Heap}
theorem tab_rows {H : Hp} {t : Addr} {W : List (List Int)} {rs : List Addr} (T : Tab H t W rs) (l : rs.length = W.length) (na : ∀ lo hi, ¬ Apart W lo hi) : DpAll K H (rs.map V.ref) (((List.range rs.length).map (rowI W)).map liD) := by
  have go : ∀ (m : Nat), m ≤ rs.length → DpAll K H ((rs.take m).map V.ref) (((List.range m).map (rowI W)).map liD) := fun m => by
    induction m with
    | zero => intro _; exact .nil
    | succ m ih =>
      intro hm
      have e : rs[m]? = some rs[m] := List.getElem?_eq_getElem (by omega)
      rw [List.take_succ, e, List.range_succ, List.map_append, List.map_append, List.map_append]
      refine dps_app (ih (by omega)) (.cons ?_ .nil)
      have kr := T.rows m _ e
      rw [rowI_V (by omega) na] at kr
      exact .lst (SqL.of kr) (dps_ints _)
  have := go rs.length (Nat.le_refl _)
  rwa [List.take_length] at this
theorem ty_sqtV {H : Hp} {a : Addr} {xs : List V} (h : SqT K H a xs) : TyX K H (.ref a) (.type "tuple") := by
  rcases h with (z | ⟨o, z⟩) | ⟨o, its, n, h1, h2, _⟩
  · exact .base (.tup z)
  · exact .fTuple z
  · exact .kTuple h1 h2
/-! ### _law_meeting_right -/
theorem sc_law_meeting_right : FnScope ["seats", "sets", "due", "handed", "found", "row", "seat"] ["seats", "sets"] (defScope s_law_meeting_right) :=
  ⟨rfl, rfl, rfl, by decide +kernel, rfl, by decide +kernel, by decide +kernel⟩
theorem ok_mright (F : Fn K mg "_law_meeting_right" s_law_meeting_right) (T : BlF mg) (C_meeting_due : Cal P w K mg base "_law_meeting_due" 2 ["sets"] (spMDue K)) (Cmeeting : Cal P w K mg base "meeting" 5 ["seats", "sets"] (spMeet K)) (C_whole : Cal P w K mg base "_law_whole" 1 ["thing"] spWhole) : Cal P w K mg base "_law_meeting_right" 6 ["seats", "sets"] (spRight K) := by
  refine cal_of F sc_law_meeting_right
    (fun _ _ _ _ _ _ us hl => match us, hl with | [_, _], _ => rfl) ?_ ?_
  · rintro vs H Q E ⟨_, _, _, rfl, _⟩
    rfl
  rintro f cdv A outer s H vs Q E free hr ⟨n, l, ks, rfl, nb, Fk, Ok, few, q⟩
  refine ⟨_, (pss_cons (ps_set (i := 2) sc_law_meeting_right.nd rfl (Or.inl rfl) (pe_cal C_meeting_due free (hr.mono (by decide)) (pa_cons (pv 1) pa_nil)))
    (pss_cons (ps_set (i := 3) sc_law_meeting_right.nd rfl (Or.inl rfl) (pe_callTy call_list_of (by rfl) T.list (by decide +kernel) (pa_cons (pv 1) pa_nil)))
    (pss_cons (ps_set (i := 4) sc_law_meeting_right.nd rfl (Or.inl rfl) (pe_cal Cmeeting free (hr.mono (by decide)) (pa_cons (pv 0) (pa_cons (pv 3) pa_nil))))
    (pss_cons (ps_if (PW.pt (pw_or (pt_not (pt_val (pe_callB call_isi (by rfl) T.isinstance (by decide +kernel) (pa_cons (pv 4) (pa_cons (pe_bltn (v := .ty "tuple") (by rfl) T.tuple (by decide +kernel) rfl) pa_nil))))) (pw_or (pt_cmpR (op_neD (u64 hr)) (pv 3) (pv 1) (nomark _)) (pw_or1 (pt_cmpR (op_neD (u64 hr)) (pv 4) (pv 2) (nomark _))))))
    (pss_one (ps_ret pe_bl))
    pss_nil)
    (pss_cons (ps_if (pt_cmpR op_eq (pe_ix ix_tup (pv 2) pe_int (fun _ _ => rfl)) pe_str (nomark _))
    (pss_one (ps_ret (pe_and (pe_cal C_whole free (hr.mono (by decide)) (pa_cons (pe_ix ix_tup (pv 4) pe_int (fun _ _ => rfl)) pa_nil)) (pe_one (pe_cal C_whole free (hr.mono (by decide)) (pa_cons (pe_ix ix_tup (pv 4) pe_int (fun _ _ => rfl)) pa_nil))))))
    pss_nil)
    (pss_cons (ps_if (PW.pt (pw_or (pt_not (pt_val (pe_callB call_isi (by rfl) T.isinstance (by decide +kernel) (pa_cons (pe_ix ix_tup (pv 4) pe_int (fun _ _ => rfl)) (pa_cons (pe_bltn (v := .ty "list") (by rfl) T.list (by decide +kernel) rfl) pa_nil))))) (pw_or1 (pt_cmpR (op_neD (u64 hr)) (pe_lc (own := [("row", 5)]) (g := gName 5)  (by rfl) sc_law_meeting_right.nd (pi_list (pe_ix ix_tup (pv 4) pe_int (fun _ _ => rfl))) (blkOk_by (N := ["seats", "sets", "due", "handed", "found", "row", "seat"]) (sc := defScope s_law_meeting_right) (by decide +kernel)) (fun _ _ _ _ _ => pg_name (i := 5) sc_law_meeting_right.nd rfl (Or.inl rfl)) (fun _ _ _ _ _ => pts_one (pt_not (pt_val (pe_callB (call_K rIsi K call_isi rfl) (by rfl) T.isinstance (by decide +kernel) (pa_cons (pv 5) (pa_cons (pe_bltn (v := .ty "list") (by rfl) T.list (by decide +kernel) rfl) pa_nil)))))) (fun _ _ _ _ _ => pe_int)) (pe_lst pa_nil) (nomark _)))))
    (pss_one (ps_ret pe_bl))
    pss_nil)
    (pss_cons (ps_for PassesOwn.never rfl (pi_list (pe_ix ix_tup (pv 4) pe_int (fun _ _ => rfl))) (pg_name (i := 5) sc_law_meeting_right.nd rfl (Or.inl rfl))
    (pss_one (ps_if (pt_cmpR (op_neD (u64 hr)) (pe_lc (own := [("seat", 6)]) (g := gName 6)  (by rfl) sc_law_meeting_right.nd (pi_list (pv 5)) (blkOk_by (N := ["seats", "sets", "due", "handed", "found", "row", "seat"]) (sc := defScope s_law_meeting_right) (by decide +kernel)) (fun _ _ _ _ _ => pg_name (i := 6) sc_law_meeting_right.nd rfl (Or.inl rfl)) (fun _ _ _ _ _ => pts_one (pt_not (pt_val (pe_cal C_whole free (hr.mono (by decide)) (pa_cons (pv 6) pa_nil))))) (fun _ _ _ _ _ => pe_int)) (pe_lst pa_nil) (nomark _))
    (pss_one (ps_ret pe_bl))
    pss_nil)))
    (pss_one (ps_ret pe_bl))))))))), ?_⟩
  refine ⟨_, rfl, n, l, ks, rfl, Fk, Ok, few, fun lo hi ap least r H1 s1 qr => ?_, fun none_ r t rs H1 s1 qr T1 lrs => ?_⟩
  · refine ⟨_, rfl, l, _, rfl, .inl (SqL.of (Fk.same s1).at_), fun hd hhd => ?_⟩
    have u2 := same_upd (o := .lst (refs ks)) hhd
    have F2 : Fam K (upd H1 hd (.lst (refs ks))) hd ks := ⟨upd_same, (Fk.same (s1.trans u2)).tups⟩
    refine ⟨_, rfl, _, rfl, n, hd, ks, rfl, nb, F2, Ok, few, fun lo' hi' ap' least' r' H2 s2 qr' => ?_, fun none' => absurd ap (none' lo hi)⟩
    obtain ⟨rfl, rfl⟩ : lo = lo' ∧ hi = hi' := by
      have h1 := least lo' hi' ap'
      have h2 := least' lo hi ap
      omega
    have s3 := s1.trans (u2.trans s2)
    have L3 := Fk.same s3
    have H3 := F2.same s2
    refine ⟨_, rfl, _, .ty "tuple", _, _, _, rfl, .ty _, ty_sqtV qr', kit_ty (r := true) (by decide +kernel), _, rfl, iteF' rfl ?_⟩
    refine ⟨_, rfl, _, rfl, _, _, H3.dp, L3.dp, shaped_tus _, shaped_tus _, _, rfl, iteF' (by rw [eqvL_self]; rfl) ?_⟩
    have qr2 := sqt_same (u2.trans s2) qr
    refine ⟨_, rfl, _, rfl, apD lo hi, apD lo hi, .tup qr' (.cons (.str _) (.cons (.int _) (.cons (.int _) .nil))), .tup qr2 (.cons (.str _) (.cons (.int _) (.cons (.int _) .nil))), shaped_ap _ _, shaped_ap _ _, _, rfl, iteF' (by rw [eqv_ap]; rfl) ?_⟩
    refine ⟨_, rfl, r, _, _, _, rfl, rfl, qr2, atI_nat (j := 0) rfl, rfl, _, rfl, iteT' (by rw [dec_str]; decide +kernel) ?_⟩
    refine ⟨_, rfl, r', _, _, _, rfl, rfl, qr', atI_nat (j := 1) rfl, _, rfl, _, rfl, iteT' rfl ?_⟩
    exact ⟨_, rfl, r', _, _, _, rfl, rfl, qr', atI_nat (j := 2) rfl, _, rfl, q _ s3⟩
  · refine ⟨_, rfl, l, _, rfl, .inl (SqL.of (Fk.same s1).at_), fun hd hhd => ?_⟩
    have u2 := same_upd (o := .lst (refs ks)) hhd
    have F2 : Fam K (upd H1 hd (.lst (refs ks))) hd ks := ⟨upd_same, (Fk.same (s1.trans u2)).tups⟩
    refine ⟨_, rfl, _, rfl, n, hd, ks, rfl, nb, F2, Ok, few, fun lo' hi' ap' => absurd ap' (none_ lo' hi'), fun _ r' t' rs' H2 s2 qr' T2 lrs' => ?_⟩
    have s3 := s1.trans (u2.trans s2)
    have L3 := Fk.same s3
    have H3 := F2.same s2
    refine ⟨_, rfl, _, .ty "tuple", _, _, _, rfl, .ty _, ty_sqtV qr', kit_ty (r := true) (by decide +kernel), _, rfl, iteF' rfl ?_⟩
    refine ⟨_, rfl, _, rfl, _, _, H3.dp, L3.dp, shaped_tus _, shaped_tus _, _, rfl, iteF' (by rw [eqvL_self]; rfl) ?_⟩
    have qr2 := sqt_same (u2.trans s2) qr
    have T1' := T1.same (u2.trans s2)
    have lW : (worth ks).length = ks.length := by unfold worth; rw [List.length_map]
    have d1 : Dp K H2 (.ref r') (meD ((List.range ks.length).map (rowI (worth ks)))) := .tup qr' (.cons (.str _) (.cons (.lst (SqL.of T2.at_) (by have := tab_rows (K := K) T2 (by omega) none_; rwa [lrs'] at this)) .nil))
    have d2 : Dp K H2 (.ref r) (meD ((List.range ks.length).map (rowI (worth ks)))) := .tup qr2 (.cons (.str _) (.cons (.lst (SqL.of T1'.at_) (by have := tab_rows (K := K) T1' (by omega) none_; rwa [lrs] at this)) .nil))
    refine ⟨_, rfl, _, rfl, _, _, d1, d2, shaped_me _, shaped_me _, _, rfl, iteF' (by rw [eqv_me]; rfl) ?_⟩
    refine ⟨_, rfl, r, _, _, _, rfl, rfl, qr2, atI_nat (j := 0) rfl, rfl, _, rfl, iteF' (by rw [dec_str]; decide +kernel) ?_⟩
    refine ⟨_, rfl, r', _, _, _, rfl, rfl, qr', atI_nat (j := 1) rfl, _, .ty "list", _, _, _, rfl, .ty _, .base (.lst T2.at_), kit_ty (r := true) (by decide +kernel), _, rfl, iteF' rfl ?_⟩
    refine ⟨_, rfl, r', _, _, _, rfl, rfl, qr', atI_nat (j := 1) rfl, t', rfl, ⟨_, SqL.of T2.at_⟩, fun D4 hD4 => ?_⟩
    refine lc_mapL (ks := rs') V.ref (fun _ => false) (fun _ => V.int 1) (by omega) hD4 (SqL.of T2.at_) (fun j r0 G4 Y B ex s4 yes no => ?_) (fun G4 s4 kD4 => ?_)
    · refine ⟨rfl, ?_⟩
      exact ⟨_, rfl, _, .ty "list", _, _, _, rfl, .ty _, .base (.lst (s4 _ _ (T2.rows j r0 ex))), kit_ty (r := true) (by decide +kernel), _, rfl, iteF' rfl (no rfl _ (Same.refl _))⟩
    refine ⟨Nat.zero_le _, fun e he => ?_⟩
    have s5 := same_upd (o := .lst []) he
    refine ⟨.list [], .list [], .lst (SqL.of ((s5 _ _ kD4).trans (by simp))) .nil, .lst (SqL.of upd_same) .nil, by decide, by decide, _, rfl, iteF' (by decide) ?_⟩
    have s45 := s4.trans s5
    have qr5 := sqt_same s45 qr'
    have T5 := T2.same s45
    refine ⟨_, rfl, r', _, _, _, rfl, rfl, qr5, atI_nat (j := 1) rfl, t', rfl, ⟨_, SqL.of T5.at_⟩, ?_⟩
    refine for_list (K := K) (a := t') (xs := rs'.map V.ref) (fun j σ G => (∃ z5 z6 : Option V, σ = [some (V.int n), some (V.ref l), some (V.ref r), some (V.ref hd), some (V.ref r'), z5, z6]) ∧ Same (upd G4 e (.lst [])) G) ⟨⟨_, _, rfl⟩, Same.refl _⟩ (fun j σ G _ h => SqL.of (h.2 _ _ T5.at_)) ?_ ?_
    · rintro j x σ G hx ⟨⟨z5, z6, rfl⟩, sG⟩
      obtain ⟨r0, hr0, rfl⟩ := vals_atA hx
      have lj := (List.getElem?_eq_some_iff.mp hr0).1
      have kr := sG _ _ (T5.rows j r0 hr0)
      rw [rowI_V (by omega) none_] at kr
      refine ⟨_, rfl, r0, rfl, ⟨_, SqL.of kr⟩, fun D6 hD6 => ?_⟩
      refine lc_mapL (ks := rowI (worth ks) j) V.int (fun _ => false) (fun _ => V.int 1) ?_ hD6 (SqL.of kr) (fun i k G6 Y B ex s6 yes no => ?_) (fun G6 s6 kD6 => ?_)
      · unfold rowI
        rw [List.length_map, List.length_take]
        omega
      · refine ⟨rfl, ?_⟩
        exact ⟨_, rfl, k, rfl, _, rfl, iteF' rfl (no rfl _ (Same.refl _))⟩
      refine ⟨Nat.zero_le _, fun e2 he2 => ?_⟩
      have s7 := same_upd (o := .lst []) he2
      refine ⟨.list [], .list [], .lst (SqL.of ((s7 _ _ kD6).trans (by simp))) .nil, .lst (SqL.of upd_same) .nil, by decide, by decide, _, rfl, iteF' (by decide) ?_⟩
      exact ⟨⟨_, _, rfl⟩, sG.trans (s6.trans s7)⟩
    · rintro σ G ⟨⟨z5, z6, rfl⟩, sG⟩
      exact q _ (s3.trans (s45.trans sG))
end

end G0
namespace G0
open PySem PySem.Spec PyProof.Rows L2
set_option maxHeartbeats 8000000
set_option pp.deepTerms.threshold 6
theorem cut_drop (xs : List V) (i : Nat) (h : i ≤ xs.length) : cutV xs (some (i : Int)) none = xs.drop i := by
  unfold cutV
  rw [HT.sIx_none, HT.sIx_nat, Nat.min_eq_left h]
  rw [List.take_of_length_le (by rw [List.length_drop]; omega)]
theorem FamW.sub {n : Int} {ks ks' : List (Addr × List Int)} (h : FamW n ks) (s : ks'.Sublist ks) : FamW n ks' := ⟨fun p m => h.well p (s.subset m), h.nd.sublist (s.map _)⟩
theorem FamW.perm {n : Int} {ks ks' : List (Addr × List Int)} (h : FamW n ks) (s : ks'.Perm ks) : FamW n ks' := ⟨fun p m => h.well p (s.mem_iff.mp m), by have pw : (worth ks').Perm (worth ks) := s.map _; exact pw.nodup_iff.mpr h.nd⟩
section
variable {P : Program} {w : World} {K : PySem.W.Frag} {mg : Str → Option Value} {base : Heap}
/-! ### the law -/
def spLaw (K : PySem.W.Frag) : Sp := fun vs H Q _ => ∃ (a : Addr) (ns : List Int), vs = [.ref a] ∧ SqL K H a (ns.map V.int) ∧ ∀ H', Q (.bl true) H'
theorem sc_law : FnScope ["script", "pot", "turn", "seats", "sets", "kept", "one", "other", "at"] ["script"] (defScope s_law) :=
  ⟨rfl, rfl, rfl, by decide +kernel, rfl, by decide +kernel, by decide +kernel⟩
theorem ok_law (F : Fn K mg "law" s_law) (T : BlF mg) (C_take : Cal P w K mg base "_law_take" 2 ["script", "pot", "many"] (spTake K)) (C_many_seats : Cal P w K mg base "_law_many_seats" 3 ["script", "pot"] (spMany K)) (C_drawn : Cal P w K mg base "_law_drawn" 5 ["script", "pot", "seats"] (spDrawn K))
    (C_crossed : Cal P w K mg base "_law_crossed" 3 ["script", "pot"] (spCrossed K)) (C_shared : Cal P w K mg base "_law_shared" 1 ["one", "other"] (spLS K)) (C_least_right : Cal P w K mg base "_law_least_right" 6 ["seats", "sets"] (spRight K)) (C_meeting_right : Cal P w K mg base "_law_meeting_right" 6 ["seats", "sets"] (spRight K)) :
    Cal P w K mg base "law" 7 ["script"] (spLaw K) := by
  refine cal_of F sc_law
    (fun _ _ _ _ _ _ us hl => match us, hl with | [_], _ => rfl) ?_ ?_
  · rintro vs H Q E ⟨_, _, rfl, _⟩
    rfl
  rintro f cdv A outer s' H vs Q E free hr ⟨sa, ns, rfl, hS, q⟩
  refine ⟨_, (pss_cons (ps_set (i := 1) sc_law.nd rfl (Or.inl rfl) (pe_lst (pa_cons pe_int (pa_cons pe_int pa_nil))))
    (pss_cons (ps_for PassesOwn.never rfl (pi_range1 (by rfl) T.range (pa_cons pe_int pa_nil)) (pg_name (i := 2) sc_law.nd rfl (Or.inl rfl))
    (pss_cons (ps_set (i := 3) sc_law.nd rfl (Or.inl rfl) (pe_cal C_many_seats free (hr.mono (by decide)) (pa_cons (pv 0) (pa_cons (pv 1) pa_nil))))
    (pss_cons (ps_set (i := 4) sc_law.nd rfl (Or.inl rfl) (pe_cal C_drawn free (hr.mono (by decide)) (pa_cons (pv 0) (pa_cons (pv 1) (pa_cons (pv 3) pa_nil)))))
    (pss_cons (ps_if (PW.pt (pw_and (pt_cmpR op_eq (pv 2) pe_int (nomark _)) (pw_and1 (pt_cmpR op_eq (pe_cal C_take free (hr.mono (by decide)) (pa_cons (pv 0) (pa_cons (pv 1) (pa_cons pe_int pa_nil)))) pe_int (nomark _)))))
    (pss_one (ps_asg (pe_cal C_crossed free (hr.mono (by decide)) (pa_cons (pv 0) (pa_cons (pv 1) pa_nil))) (pg_lst (by rfl) (pgs_cons (pg_name (i := 3) sc_law.nd rfl (Or.inl rfl)) (pgs_cons (pg_name (i := 4) sc_law.nd rfl (Or.inl rfl)) pgs_nil)))))
    pss_nil)
    (pss_cons (ps_if (pt_cmpR op_eq (pe_cal C_take free (hr.mono (by decide)) (pa_cons (pv 0) (pa_cons (pv 1) (pa_cons pe_int pa_nil)))) pe_int (nomark _))
    (pss_cons (ps_set (i := 5) sc_law.nd rfl (Or.inl rfl) (pe_lst pa_nil))
    (pss_cons (ps_for PassesOwn.never rfl (pi_list (pv 4)) (pg_name (i := 6) sc_law.nd rfl (Or.inr rfl))
    (pss_one (ps_if (pt_cmpR (op_eqD (u64 hr)) (pe_lc (own := [("other", 7)]) (g := gName 7)  (by rfl) sc_law.nd (pi_list (pv 5)) (blkOk_by (N := ["script", "pot", "turn", "seats", "sets", "kept", "one", "other", "at"]) (sc := defScope s_law) (by decide +kernel)) (fun _ _ _ _ _ => pg_name (i := 7) sc_law.nd rfl (Or.inl rfl)) (fun _ _ _ _ _ => pts_one (pt_cmpR op_isN (pe_cal C_shared free (hr.mono (by decide)) (pa_cons (pv 6) (pa_cons (pv 7) pa_nil))) pe_non (nomark _))) (fun _ _ _ _ _ => pe_int)) (pe_lst pa_nil) (nomark _))
    (pss_one (ps_expr (pe_bm PySem.F.plainAttrs_list PySem.F.slot_list_append PySem.F.type_list_append mt_append (pv 5) (pa_cons (pv 6) pa_nil))))
    pss_nil)))
    (pss_one (ps_set (i := 4) sc_law.nd rfl (Or.inl rfl) (pv 5)))))
    pss_nil)
    (pss_cons (ps_if (PW.pt (pw_or (pt_not (pt_val (pe_cal C_least_right free (hr.mono (by decide)) (pa_cons (pv 3) (pa_cons (pv 4) pa_nil))))) (pw_or1 (pt_not (pt_val (pe_cal C_meeting_right free (hr.mono (by decide)) (pa_cons (pv 3) (pa_cons (pv 4) pa_nil))))))))
    (pss_one (ps_ret pe_bl))
    pss_nil)
    (pss_cons (ps_set (i := 8) sc_law.nd rfl (Or.inl rfl) (pe_cal C_take free (hr.mono (by decide)) (pa_cons (pv 0) (pa_cons (pv 1) (pa_cons (pe_op op_add (pe_callB call_len_seq (by rfl) T.len (by decide +kernel) (pa_cons (pv 4) pa_nil)) pe_int) pa_nil)))))
    (pss_cons (ps_set (i := 4) sc_law.nd rfl (Or.inl rfl) (pe_op op_cat (pe_slice sl_list (pv 4) (po_some (pv 8)) po_none) (pe_slice sl_list (pv 4) po_none (po_some (pv 8)))))
    (pss_cons (ps_if (PW.pt (pw_or (pt_not (pt_val (pe_cal C_least_right free (hr.mono (by decide)) (pa_cons (pv 3) (pa_cons (pv 4) pa_nil))))) (pw_or1 (pt_not (pt_val (pe_cal C_meeting_right free (hr.mono (by decide)) (pa_cons (pv 3) (pa_cons (pv 4) pa_nil))))))))
    (pss_one (ps_ret pe_bl))
    pss_nil)
    (pss_one (ps_if (pt_cmpR op_ge (pe_ix ix_list (pv 1) pe_int (fun _ _ => rfl)) (pe_callB call_len_seq (by rfl) T.len (by decide +kernel) (pa_cons (pv 0) pa_nil)) (nomark _))
    (pss_one (ps_ret pe_bl))
    pss_nil)))))))))))
    (pss_one (ps_ret pe_bl)))), ?_⟩
  refine ⟨by show 2 ≤ sizeLine; decide, fun p hp => ?_⟩
  have D0 : Fd K H sa p ns 0 (upd H p (.lst [.int 0, .int 0])) := ⟨same_upd hp, hp, hS, _, upd_same, 0, 0, rfl, Nat.le_refl _, Int.le_refl _⟩
  refine ⟨_, rfl, by decide, by decide, ?_⟩
  refine for_range (lo := 0) (n := 63) (fun i σ G => (∃ z2 z3 z4 z5 z6 z8 : Option V, σ = [some (V.ref sa), some (V.ref p), z2, z3, z4, z5, z6, none, z8]) ∧ Fd K H sa p ns (1000 * i) G) ⟨⟨_, _, _, _, _, _, rfl⟩, D0⟩ ?_ ?_
  · rintro i σ G hi ⟨⟨z2, z3, z4, z5, z6, z8, rfl⟩, D⟩
    refine ⟨_, rfl, _, rfl, H, sa, p, ns, 1000 * i, rfl, D, by omega, fun m G1 m0 m1 D1 c1 => ?_⟩
    refine ⟨_, rfl, _, rfl, _, rfl, H, sa, p, ns, 1000 * i + 2, m, rfl, D1, by omega, by omega, m1, fun l ks G2 l0 lp D2 c2 Fk Ok lk => ?_⟩
    apply goJ (fun σ' G' => ∃ (m : Int) (l : Addr) (ks : List (Addr × List Int)), σ' = [some (V.ref sa), some (V.ref p), some (V.int (0 + (i : Int))), some (V.int m), some (V.ref l), z5, z6, none, z8] ∧ 1 ≤ m ∧ m ≤ 60 ∧ H l = none ∧ l ≠ p ∧ Fd K H sa p ns (1000 * i + 600) G' ∧ Fam K G' l ks ∧ FamW m ks ∧ ks.length ≤ 25)
    · intro J
      refine ⟨_, rfl, rfl, _, rfl, ?_⟩
      rw [dec_ii]
      refine ite2 (fun c => ?_) (fun c => ?_)
      · refine ⟨_, rfl, _, rfl, H, sa, p, ns, _, 6, rfl, D2, by omega, by decide, by decide, fun d y d0 d1 Y => ?_⟩
        have D3 := D2.put Y
        have F3 := Fk.chg D2.lst (Chg.self (o := .lst y)) lp
        refine ⟨rfl, _, rfl, ?_⟩
        rw [dec_ii]
        refine ite2 (fun c => ?_) (fun c => ?_)
        · refine ⟨_, rfl, _, rfl, H, sa, p, ns, _, rfl, D3, by omega, fun r l' m' ks' G4 l0' lp' m0' m1' D4 c4 hr4 F4 O4 lk4 => ?_⟩
          refine ⟨r, _, rfl, hr4, rfl, _, _, rfl, _, _, rfl, rfl, ?_⟩
          exact J _ _ ⟨m', l', ks', rfl, m0', m1', l0', lp', D4.mono (by omega), F4, O4, lk4⟩
        · exact J _ _ ⟨m, l, ks, rfl, m0, m1, l0, lp, D3.mono (by omega), F3, Ok, lk⟩
      · exact iteF (J _ _ ⟨m, l, ks, rfl, m0, m1, l0, lp, D2.mono (by omega), Fk, Ok, lk⟩)
    clear Ok Fk D2 c2 l0 lp D1 c1 m0 m1 lk
    rintro σ' G' ⟨m, l, ks, rfl, m0, m1, l0, lp, D3, F3, Ok, lk⟩
    apply goJ (fun σ' G' => ∃ (z5 z6 : Option V) (l : Addr) (ks : List (Addr × List Int)), σ' = [some (V.ref sa), some (V.ref p), some (V.int (0 + (i : Int))), some (V.int m), some (V.ref l), z5, z6, none, z8] ∧ H l = none ∧ l ≠ p ∧ Fd K H sa p ns (1000 * i + 700) G' ∧ Fam K G' l ks ∧ FamW m ks ∧ ks.length ≤ 25)
    · intro J
      refine ⟨_, rfl, _, rfl, H, sa, p, ns, _, 2, rfl, D3, by omega, by decide, by decide, fun d y d0 d1 Y => ?_⟩
      have D4 := D3.put Y
      have F4 := F3.chg D3.lst (Chg.self (o := .lst y)) lp
      refine ⟨rfl, _, rfl, ?_⟩
      rw [dec_ii]
      refine ite2 (fun c => ?_) (fun c => ?_)
      · refine ⟨Nat.zero_le _, fun Dk hDk => ?_⟩
        have u1 := same_upd (o := .lst []) hDk
        have D5 := D4.same u1
        have F5 := F4.same u1
        have kp : Dk ≠ p := D4.ne hDk
        have k0 : H Dk = none := D4.old.free hDk
        have lk9 : l ≠ Dk := ne_of_none F4.at_ hDk
        have lR : (refs ks).length = ks.length := by unfold refs; rw [List.length_map]
        refine ⟨_, rfl, l, rfl, ⟨_, SqL.of F5.at_⟩, ?_⟩
        refine for_list (K := K) (a := l) (xs := refs ks) (fun j σ G2 => (∃ z6 : Option V, σ = [some (V.ref sa), some (V.ref p), some (V.int (0 + (i : Int))), some (V.int m), some (V.ref l), some (V.ref Dk), z6, none, z8]) ∧ Fam K G2 l ks ∧ Fd K H sa p ns (1000 * i + 700) G2 ∧ ∃ kk : List (Addr × List Int), kk.Sublist (ks.take j) ∧ G2 Dk = some (.lst (refs kk)))
          ⟨⟨_, rfl⟩, F5, D5.mono (by omega), [], List.nil_sublist _, upd_same⟩ (fun j σ G2 _ h => SqL.of h.2.1.at_) ?_ ?_
        · rintro j x σ G2 hx ⟨⟨z6', rfl⟩, F6, D6, kk, sub, kD⟩
          obtain ⟨k, hk, rfl⟩ := refs_at hx
          have mk := List.mem_of_getElem? hk
          have ljk := (List.getElem?_eq_some_iff.mp hk).1
          have mkk : ∀ q ∈ kk, q ∈ ks := fun q h => List.mem_of_mem_take (sub.subset h)
          have lkk : kk.length ≤ 25 := by have := sub.length_le; rw [List.length_take] at this; omega
          refine ⟨_, rfl, Dk, rfl, ⟨_, SqL.of kD⟩, fun E2 hE2 => ?_⟩
          refine lc_mapL (ks := kk) (fun q => V.ref q.1) (fun q => decide (lsV k.2 q.2 = .non)) (fun _ => V.int 1) (by omega) hE2 (SqL.of kD) (fun j2 q G3 Y2 B2 ex s3 yes no => ?_) (fun G3 s3 kE => ?_)
          · have F7 := F6.same s3
            have mq := mkk q (List.mem_of_getElem? ex)
            refine ⟨rfl, ?_⟩
            refine ⟨_, rfl, _, rfl, k.1, q.1, k.2, q.2, rfl, F7.tups k mk, F7.tups q mq, (Ok.well k mk).few, fun G4 s4 => ?_⟩
            refine ⟨rfl, _, rfl, ?_⟩
            exact ite2 (fun c => yes c _ s4) (fun c => no (by simpa using c) _ s4)
          refine ⟨Nat.zero_le _, fun e he => ?_⟩
          have s5 := same_upd (o := .lst []) he
          rw [ones_ints] at kE
          refine ⟨_, .list [], .lst (SqL.of (s5 _ _ kE)) (dps_ints _), .lst (SqL.of upd_same) .nil, shaped_ints _, by decide, _, rfl, ?_⟩
          have s35 := s3.trans s5
          have F8 := F6.same s35
          have D8 := D6.same s35
          have kD8 := s35 _ _ kD
          refine ite2 (fun c => ?_) (fun c => ?_)
          · refine ⟨_, rfl, .inl ⟨rfl, _, SqL.of kD8⟩, _, rfl, Dk, _, _, rfl, rfl, kD8, ?_, ?_⟩
            · unfold refs
              rw [List.length_map]
              exact Nat.lt_of_lt_of_le (show kk.length < 100 by omega) (by decide)
            refine ⟨⟨_, rfl⟩, F8.chg ⟨_, kD8⟩ Chg.self lk9, D8.mut k0 kp, kk ++ [k], ?_, ?_⟩
            · rw [List.take_succ, hk]
              exact sub.append (List.Sublist.refl _)
            · rw [upd_same]
              unfold refs
              rw [List.map_append]
              rfl
          · refine ⟨⟨_, rfl⟩, F8, D8, kk, ?_, kD8⟩
            rw [List.take_succ]
            exact sub.trans (List.sublist_append_left _ _)
        · rintro σ G2 ⟨⟨z6', rfl⟩, F6, D6, kk, sub, kD⟩
          rw [lR, List.take_length] at sub
          refine ⟨_, rfl, ?_⟩
          exact J _ _ ⟨_, _, Dk, kk, rfl, k0, kp, D6, ⟨kD, fun q h => F6.tups q (sub.subset h)⟩, Ok.sub sub, Nat.le_trans sub.length_le lk⟩
      · exact J _ _ ⟨_, _, l, ks, rfl, l0, lp, D4.mono (by omega), F4, Ok, lk⟩
    clear Ok F3 D3 l0 lp lk z5 z6
    rintro σ' G' ⟨z5, z6, l, ks, rfl, l0, lp, D3, F3, Ok, lk⟩
    refine ⟨_, rfl, _, rfl, m, l, ks, rfl, ⟨m0, m1⟩, F3, Ok, by omega, fun G1 s1 => ⟨_, rfl, iteF' rfl ?_⟩⟩
    refine ⟨_, rfl, _, rfl, m, l, ks, rfl, ⟨m0, m1⟩, (F3).same s1, Ok, by omega, fun G2 s2 => ⟨_, rfl, iteF' rfl ?_⟩⟩
    have s12 := s1.trans s2
    have D4 := D3.same s12
    have F4 := F3.same s12
    have lR : (refs ks).length = ks.length := by unfold refs; rw [List.length_map]
    refine ⟨_, rfl, _, rfl, _, rfl, l, _, rfl, .inl (SqL.of F4.at_), _, _, rfl, rfl, ?_⟩
    rw [lR]
    refine ⟨H, sa, p, ns, _, ((ks.length : Nat) : Int) + 1, rfl, D4, by omega, by omega, by omega, fun d y d0 d1 Y => ?_⟩
    have D5 := D4.put Y
    have F5 := F4.chg D4.lst (Chg.self (o := .lst y)) lp
    obtain ⟨dn, rfl⟩ : ∃ dn : Nat, d = (dn : Int) := ⟨d.toNat, by omega⟩
    refine ⟨_, rfl, _, rfl, _, rfl, l, _, rfl, SqL.of F5.at_, fun p1 hp1 => ?_⟩
    rw [cut_drop _ _ (by omega)]
    have u1 := same_upd (o := .lst ((refs ks).drop dn)) hp1
    have F6 := F5.same u1
    refine ⟨_, rfl, _, rfl, _, rfl, l, _, rfl, SqL.of F6.at_, fun p2 hp2 => ?_⟩
    rw [cut_take _ _ (by omega)]
    have u2 := same_upd (o := .lst ((refs ks).take dn)) hp2
    refine ⟨p1, p2, _, _, rfl, rfl, u2 _ _ upd_same, upd_same, by rw [List.length_drop, List.length_take]; exact Nat.le_trans (show _ ≤ 100 by omega) (by decide), fun l3 hl3 => ?_⟩
    obtain ⟨k3, ek3⟩ : ∃ k3, k3 = ks.drop dn ++ ks.take dn := ⟨_, rfl⟩
    have er : (refs ks).drop dn ++ (refs ks).take dn = refs k3 := by
      rw [ek3]
      unfold refs
      rw [List.map_append, List.map_drop, List.map_take]
    rw [er]
    have u3 := same_upd (o := .lst (refs k3)) hl3
    have u := u1.trans (u2.trans u3)
    have m3 : ∀ q ∈ k3, q ∈ ks := fun q h => by
      rw [ek3] at h
      rcases List.mem_append.mp h with h | h
      · exact List.mem_of_mem_drop h
      · exact List.mem_of_mem_take h
    have pm : k3.Perm ks := by
      rw [ek3]
      have := List.perm_append_comm (l₁ := ks.drop dn) (l₂ := ks.take dn)
      rwa [List.take_append_drop] at this
    have O3 := Ok.perm pm
    have lk3 : k3.length ≤ 25 := by rw [pm.length_eq]; exact lk
    have F7 : Fam K (upd (upd (upd (upd G2 p (.lst y)) p1 (.lst ((refs ks).drop dn))) p2 (.lst ((refs ks).take dn))) l3 (.lst (refs k3))) l3 k3 := ⟨upd_same, fun q h => (F5.same u).tups q (m3 q h)⟩
    have D7 := D5.same u
    refine ⟨_, rfl, _, rfl, m, l3, k3, rfl, ⟨m0, m1⟩, F7, O3, by omega, fun G8 s1 => ⟨_, rfl, iteF' rfl ?_⟩⟩
    refine ⟨_, rfl, _, rfl, m, l3, k3, rfl, ⟨m0, m1⟩, (F7).same s1, O3, by omega, fun G9 s2 => ⟨_, rfl, iteF' rfl ?_⟩⟩
    have D9 := D7.same (s1.trans s2)
    obtain ⟨xs, kp, a, v, rfl, ia, v0⟩ := D9.at_
    have hS9 := D9.old.seq D9.sq
    refine ⟨_, rfl, p, _, _, _, rfl, rfl, SqL.of kp, rfl, _, rfl, sa, _, rfl, .inl hS9, _, _, rfl, rfl, _, rfl, ?_⟩
    refine ite2 (fun c => ?_) (fun c => ?_)
    · exact q _
    · exact ⟨⟨_, _, _, _, _, _, rfl⟩, D9.mono (by omega)⟩
  · rintro σ G ⟨_, D⟩
    exact q _
end

end G0
namespace G0
open PySem PySem.Spec PyProof.Rows L2
theorem whole {P : Program} {w : World} {K : PySem.W.Frag} {mg : Str → Option Value} {base : Heap} (T : BlF mg) (Cs : BlC mg) (TK : BlK mg)
    (F_is_below : Fn K mg "is_below" s_is_below) (F_fault : Fn K mg "fault" s_fault) (F_looked : Fn K mg "looked" s_looked) (F_set_fault : Fn K mg "_set_fault" s_set_fault) (F_least_ones : Fn K mg "least_ones" s_least_ones) (F_holds : Fn K mg "holds" s_holds) (F_meeting : Fn K mg "meeting" s_meeting) (F_least_shared : Fn K mg "_least_shared" s_least_shared) (F_law_wide : Fn K mg "_law_wide" s_law_wide) (F_law_take : Fn K mg "_law_take" s_law_take) (F_law_set : Fn K mg "_law_set" s_law_set) (F_law_many_seats : Fn K mg "_law_many_seats" s_law_many_seats) (F_law_family : Fn K mg "_law_family" s_law_family) (F_law_whole : Fn K mg "_law_whole" s_law_whole) (F_law_is_set : Fn K mg "_law_is_set" s_law_is_set) (F_law_drawn : Fn K mg "_law_drawn" s_law_drawn) (F_law_crossed : Fn K mg "_law_crossed" s_law_crossed) (F_law_holds : Fn K mg "_law_holds" s_law_holds) (F_law_least_right : Fn K mg "_law_least_right" s_law_least_right) (F_law_shared : Fn K mg "_law_shared" s_law_shared) (F_law_meeting_due : Fn K mg "_law_meeting_due" s_law_meeting_due) (F_law_meeting_right : Fn K mg "_law_meeting_right" s_law_meeting_right) (F_law : Fn K mg "law" s_law) : Cal P w K mg base "law" 7 ["script"] (spLaw K) := by
  have B := ok_bel (P := P) (w := w) (base := base) F_is_below T
  have Tk := ok_take (P := P) (w := w) (base := base) F_law_take T (ok_wide F_law_wide)
  have S := ok_set (P := P) (w := w) (base := base) F_law_set T Tk
  have Lo := ok_looked F_looked T Cs (ok_fault F_fault T (ok_setf F_set_fault T B))
  have Ho := ok_holds (P := P) (w := w) (base := base) F_holds TK
  have Wh := ok_whole (P := P) (w := w) (base := base) F_law_whole T
  have Sh := ok_shared (P := P) (w := w) (K := K) (base := base) F_law_shared
  exact ok_law F_law T Tk (ok_many F_law_many_seats Tk) (ok_drawn F_law_drawn T Tk S (ok_family F_law_family T Tk S)) (ok_crossed F_law_crossed T Tk) Sh
    (ok_lright F_law_least_right T (ok_lholds F_law_holds T) (ok_least F_least_ones TK Lo Ho) (ok_isset F_law_is_set T Wh))
    (ok_mright F_law_meeting_right T (ok_mdue F_law_meeting_due T Sh) (ok_meeting F_meeting TK Lo (ok_ls F_least_shared)) Wh)
theorem all_mk {P : Program} {w : World} {K : PySem.W.Frag} {h : Heap} {mg : Str → Option Value} {fa : Addr}
    {f1 : Addr} {od1 an1 : Option Addr} {sl1 : Array (Option Value)} {oc1 kV1 dc1 pm1 cd1 ct1 : Value} {f2 : Addr} {od2 an2 : Option Addr} {sl2 : Array (Option Value)} {oc2 kV2 dc2 pm2 cd2 ct2 : Value} {f3 : Addr} {od3 an3 : Option Addr} {sl3 : Array (Option Value)} {oc3 kV3 dc3 pm3 cd3 ct3 : Value} {f4 : Addr} {od4 an4 : Option Addr} {sl4 : Array (Option Value)} {oc4 kV4 dc4 pm4 cd4 ct4 : Value} {f5 : Addr} {od5 an5 : Option Addr} {sl5 : Array (Option Value)} {oc5 kV5 dc5 pm5 cd5 ct5 : Value} {f6 : Addr} {od6 an6 : Option Addr} {sl6 : Array (Option Value)} {oc6 kV6 dc6 pm6 cd6 ct6 : Value} {f7 : Addr} {od7 an7 : Option Addr} {sl7 : Array (Option Value)} {oc7 kV7 dc7 pm7 cd7 ct7 : Value} {f8 : Addr} {od8 an8 : Option Addr} {sl8 : Array (Option Value)} {oc8 kV8 dc8 pm8 cd8 ct8 : Value} {f9 : Addr} {od9 an9 : Option Addr} {sl9 : Array (Option Value)} {oc9 kV9 dc9 pm9 cd9 ct9 : Value} {f10 : Addr} {od10 an10 : Option Addr} {sl10 : Array (Option Value)} {oc10 kV10 dc10 pm10 cd10 ct10 : Value} {f11 : Addr} {od11 an11 : Option Addr} {sl11 : Array (Option Value)} {oc11 kV11 dc11 pm11 cd11 ct11 : Value} {f12 : Addr} {od12 an12 : Option Addr} {sl12 : Array (Option Value)} {oc12 kV12 dc12 pm12 cd12 ct12 : Value} {f13 : Addr} {od13 an13 : Option Addr} {sl13 : Array (Option Value)} {oc13 kV13 dc13 pm13 cd13 ct13 : Value} {f14 : Addr} {od14 an14 : Option Addr} {sl14 : Array (Option Value)} {oc14 kV14 dc14 pm14 cd14 ct14 : Value} {f15 : Addr} {od15 an15 : Option Addr} {sl15 : Array (Option Value)} {oc15 kV15 dc15 pm15 cd15 ct15 : Value} {f16 : Addr} {od16 an16 : Option Addr} {sl16 : Array (Option Value)} {oc16 kV16 dc16 pm16 cd16 ct16 : Value} {f17 : Addr} {od17 an17 : Option Addr} {sl17 : Array (Option Value)} {oc17 kV17 dc17 pm17 cd17 ct17 : Value} {f18 : Addr} {od18 an18 : Option Addr} {sl18 : Array (Option Value)} {oc18 kV18 dc18 pm18 cd18 ct18 : Value} {f19 : Addr} {od19 an19 : Option Addr} {sl19 : Array (Option Value)} {oc19 kV19 dc19 pm19 cd19 ct19 : Value} {f20 : Addr} {od20 an20 : Option Addr} {sl20 : Array (Option Value)} {oc20 kV20 dc20 pm20 cd20 ct20 : Value} {f21 : Addr} {od21 an21 : Option Addr} {sl21 : Array (Option Value)} {oc21 kV21 dc21 pm21 cd21 ct21 : Value} {f22 : Addr} {od22 an22 : Option Addr} {sl22 : Array (Option Value)} {oc22 kV22 dc22 pm22 cd22 ct22 : Value} {f23 : Addr} {od23 an23 : Option Addr} {sl23 : Array (Option Value)} {oc23 kV23 dc23 pm23 cd23 ct23 : Value} {t1 t2 : Tok}
    (X : K.In h) (G : h.Ns mainGlobals mg) (hfa : mg "law" = some (.ref fa))
    (a1 : PySem.W.nsIn K mainGlobals "is_below" = some (some (.ref f1)))
    (l1 : K.lookup f1 = some ⟨oc1, od1, .func (PySem.W.fnOf "is_below" "is_below" (defArgs s_is_below) (defBody s_is_below) (defScope s_is_below) .none kV1 dc1 pm1 an1 cd1 ct1), sl1⟩)
    (c1 : PySem.W.codeIn K cd1 "is_below" = true)
    (k1 : PySem.W.keepIn K (.ref f1) = true)
    (a2 : PySem.W.nsIn K mainGlobals "fault" = some (some (.ref f2)))
    (l2 : K.lookup f2 = some ⟨oc2, od2, .func (PySem.W.fnOf "fault" "fault" (defArgs s_fault) (defBody s_fault) (defScope s_fault) .none kV2 dc2 pm2 an2 cd2 ct2), sl2⟩)
    (c2 : PySem.W.codeIn K cd2 "fault" = true)
    (k2 : PySem.W.keepIn K (.ref f2) = true)
    (a3 : PySem.W.nsIn K mainGlobals "looked" = some (some (.ref f3)))
    (l3 : K.lookup f3 = some ⟨oc3, od3, .func (PySem.W.fnOf "looked" "looked" (defArgs s_looked) (defBody s_looked) (defScope s_looked) .none kV3 dc3 pm3 an3 cd3 ct3), sl3⟩)
    (c3 : PySem.W.codeIn K cd3 "looked" = true)
    (k3 : PySem.W.keepIn K (.ref f3) = true)
    (a4 : PySem.W.nsIn K mainGlobals "_set_fault" = some (some (.ref f4)))
    (l4 : K.lookup f4 = some ⟨oc4, od4, .func (PySem.W.fnOf "_set_fault" "_set_fault" (defArgs s_set_fault) (defBody s_set_fault) (defScope s_set_fault) .none kV4 dc4 pm4 an4 cd4 ct4), sl4⟩)
    (c4 : PySem.W.codeIn K cd4 "_set_fault" = true)
    (k4 : PySem.W.keepIn K (.ref f4) = true)
    (a5 : PySem.W.nsIn K mainGlobals "least_ones" = some (some (.ref f5)))
    (l5 : K.lookup f5 = some ⟨oc5, od5, .func (PySem.W.fnOf "least_ones" "least_ones" (defArgs s_least_ones) (defBody s_least_ones) (defScope s_least_ones) .none kV5 dc5 pm5 an5 cd5 ct5), sl5⟩)
    (c5 : PySem.W.codeIn K cd5 "least_ones" = true)
    (k5 : PySem.W.keepIn K (.ref f5) = true)
    (a6 : PySem.W.nsIn K mainGlobals "holds" = some (some (.ref f6)))
    (l6 : K.lookup f6 = some ⟨oc6, od6, .func (PySem.W.fnOf "holds" "holds" (defArgs s_holds) (defBody s_holds) (defScope s_holds) .none kV6 dc6 pm6 an6 cd6 ct6), sl6⟩)
    (c6 : PySem.W.codeIn K cd6 "holds" = true)
    (k6 : PySem.W.keepIn K (.ref f6) = true)
    (a7 : PySem.W.nsIn K mainGlobals "meeting" = some (some (.ref f7)))
    (l7 : K.lookup f7 = some ⟨oc7, od7, .func (PySem.W.fnOf "meeting" "meeting" (defArgs s_meeting) (defBody s_meeting) (defScope s_meeting) .none kV7 dc7 pm7 an7 cd7 ct7), sl7⟩)
    (c7 : PySem.W.codeIn K cd7 "meeting" = true)
    (k7 : PySem.W.keepIn K (.ref f7) = true)
    (a8 : PySem.W.nsIn K mainGlobals "_least_shared" = some (some (.ref f8)))
    (l8 : K.lookup f8 = some ⟨oc8, od8, .func (PySem.W.fnOf "_least_shared" "_least_shared" (defArgs s_least_shared) (defBody s_least_shared) (defScope s_least_shared) .none kV8 dc8 pm8 an8 cd8 ct8), sl8⟩)
    (c8 : PySem.W.codeIn K cd8 "_least_shared" = true)
    (k8 : PySem.W.keepIn K (.ref f8) = true)
    (a9 : PySem.W.nsIn K mainGlobals "_law_wide" = some (some (.ref f9)))
    (l9 : K.lookup f9 = some ⟨oc9, od9, .func (PySem.W.fnOf "_law_wide" "_law_wide" (defArgs s_law_wide) (defBody s_law_wide) (defScope s_law_wide) .none kV9 dc9 pm9 an9 cd9 ct9), sl9⟩)
    (c9 : PySem.W.codeIn K cd9 "_law_wide" = true)
    (k9 : PySem.W.keepIn K (.ref f9) = true)
    (a10 : PySem.W.nsIn K mainGlobals "_law_take" = some (some (.ref f10)))
    (l10 : K.lookup f10 = some ⟨oc10, od10, .func (PySem.W.fnOf "_law_take" "_law_take" (defArgs s_law_take) (defBody s_law_take) (defScope s_law_take) .none kV10 dc10 pm10 an10 cd10 ct10), sl10⟩)
    (c10 : PySem.W.codeIn K cd10 "_law_take" = true)
    (k10 : PySem.W.keepIn K (.ref f10) = true)
    (a11 : PySem.W.nsIn K mainGlobals "_law_set" = some (some (.ref f11)))
    (l11 : K.lookup f11 = some ⟨oc11, od11, .func (PySem.W.fnOf "_law_set" "_law_set" (defArgs s_law_set) (defBody s_law_set) (defScope s_law_set) .none kV11 dc11 pm11 an11 cd11 ct11), sl11⟩)
    (c11 : PySem.W.codeIn K cd11 "_law_set" = true)
    (k11 : PySem.W.keepIn K (.ref f11) = true)
    (a12 : PySem.W.nsIn K mainGlobals "_law_many_seats" = some (some (.ref f12)))
    (l12 : K.lookup f12 = some ⟨oc12, od12, .func (PySem.W.fnOf "_law_many_seats" "_law_many_seats" (defArgs s_law_many_seats) (defBody s_law_many_seats) (defScope s_law_many_seats) .none kV12 dc12 pm12 an12 cd12 ct12), sl12⟩)
    (c12 : PySem.W.codeIn K cd12 "_law_many_seats" = true)
    (k12 : PySem.W.keepIn K (.ref f12) = true)
    (a13 : PySem.W.nsIn K mainGlobals "_law_family" = some (some (.ref f13)))
    (l13 : K.lookup f13 = some ⟨oc13, od13, .func (PySem.W.fnOf "_law_family" "_law_family" (defArgs s_law_family) (defBody s_law_family) (defScope s_law_family) .none kV13 dc13 pm13 an13 cd13 ct13), sl13⟩)
    (c13 : PySem.W.codeIn K cd13 "_law_family" = true)
    (k13 : PySem.W.keepIn K (.ref f13) = true)
    (a14 : PySem.W.nsIn K mainGlobals "_law_whole" = some (some (.ref f14)))
    (l14 : K.lookup f14 = some ⟨oc14, od14, .func (PySem.W.fnOf "_law_whole" "_law_whole" (defArgs s_law_whole) (defBody s_law_whole) (defScope s_law_whole) .none kV14 dc14 pm14 an14 cd14 ct14), sl14⟩)
    (c14 : PySem.W.codeIn K cd14 "_law_whole" = true)
    (k14 : PySem.W.keepIn K (.ref f14) = true)
    (a15 : PySem.W.nsIn K mainGlobals "_law_is_set" = some (some (.ref f15)))
    (l15 : K.lookup f15 = some ⟨oc15, od15, .func (PySem.W.fnOf "_law_is_set" "_law_is_set" (defArgs s_law_is_set) (defBody s_law_is_set) (defScope s_law_is_set) .none kV15 dc15 pm15 an15 cd15 ct15), sl15⟩)
    (c15 : PySem.W.codeIn K cd15 "_law_is_set" = true)
    (k15 : PySem.W.keepIn K (.ref f15) = true)
    (a16 : PySem.W.nsIn K mainGlobals "_law_drawn" = some (some (.ref f16)))
    (l16 : K.lookup f16 = some ⟨oc16, od16, .func (PySem.W.fnOf "_law_drawn" "_law_drawn" (defArgs s_law_drawn) (defBody s_law_drawn) (defScope s_law_drawn) .none kV16 dc16 pm16 an16 cd16 ct16), sl16⟩)
    (c16 : PySem.W.codeIn K cd16 "_law_drawn" = true)
    (k16 : PySem.W.keepIn K (.ref f16) = true)
    (a17 : PySem.W.nsIn K mainGlobals "_law_crossed" = some (some (.ref f17)))
    (l17 : K.lookup f17 = some ⟨oc17, od17, .func (PySem.W.fnOf "_law_crossed" "_law_crossed" (defArgs s_law_crossed) (defBody s_law_crossed) (defScope s_law_crossed) .none kV17 dc17 pm17 an17 cd17 ct17), sl17⟩)
    (c17 : PySem.W.codeIn K cd17 "_law_crossed" = true)
    (k17 : PySem.W.keepIn K (.ref f17) = true)
    (a18 : PySem.W.nsIn K mainGlobals "_law_holds" = some (some (.ref f18)))
    (l18 : K.lookup f18 = some ⟨oc18, od18, .func (PySem.W.fnOf "_law_holds" "_law_holds" (defArgs s_law_holds) (defBody s_law_holds) (defScope s_law_holds) .none kV18 dc18 pm18 an18 cd18 ct18), sl18⟩)
    (c18 : PySem.W.codeIn K cd18 "_law_holds" = true)
    (k18 : PySem.W.keepIn K (.ref f18) = true)
    (a19 : PySem.W.nsIn K mainGlobals "_law_least_right" = some (some (.ref f19)))
    (l19 : K.lookup f19 = some ⟨oc19, od19, .func (PySem.W.fnOf "_law_least_right" "_law_least_right" (defArgs s_law_least_right) (defBody s_law_least_right) (defScope s_law_least_right) .none kV19 dc19 pm19 an19 cd19 ct19), sl19⟩)
    (c19 : PySem.W.codeIn K cd19 "_law_least_right" = true)
    (k19 : PySem.W.keepIn K (.ref f19) = true)
    (a20 : PySem.W.nsIn K mainGlobals "_law_shared" = some (some (.ref f20)))
    (l20 : K.lookup f20 = some ⟨oc20, od20, .func (PySem.W.fnOf "_law_shared" "_law_shared" (defArgs s_law_shared) (defBody s_law_shared) (defScope s_law_shared) .none kV20 dc20 pm20 an20 cd20 ct20), sl20⟩)
    (c20 : PySem.W.codeIn K cd20 "_law_shared" = true)
    (k20 : PySem.W.keepIn K (.ref f20) = true)
    (a21 : PySem.W.nsIn K mainGlobals "_law_meeting_due" = some (some (.ref f21)))
    (l21 : K.lookup f21 = some ⟨oc21, od21, .func (PySem.W.fnOf "_law_meeting_due" "_law_meeting_due" (defArgs s_law_meeting_due) (defBody s_law_meeting_due) (defScope s_law_meeting_due) .none kV21 dc21 pm21 an21 cd21 ct21), sl21⟩)
    (c21 : PySem.W.codeIn K cd21 "_law_meeting_due" = true)
    (k21 : PySem.W.keepIn K (.ref f21) = true)
    (a22 : PySem.W.nsIn K mainGlobals "_law_meeting_right" = some (some (.ref f22)))
    (l22 : K.lookup f22 = some ⟨oc22, od22, .func (PySem.W.fnOf "_law_meeting_right" "_law_meeting_right" (defArgs s_law_meeting_right) (defBody s_law_meeting_right) (defScope s_law_meeting_right) .none kV22 dc22 pm22 an22 cd22 ct22), sl22⟩)
    (c22 : PySem.W.codeIn K cd22 "_law_meeting_right" = true)
    (k22 : PySem.W.keepIn K (.ref f22) = true)
    (a23 : PySem.W.nsIn K mainGlobals "law" = some (some (.ref f23)))
    (l23 : K.lookup f23 = some ⟨oc23, od23, .func (PySem.W.fnOf "law" "law" (defArgs s_law) (defBody s_law) (defScope s_law) .none kV23 dc23 pm23 an23 cd23 ct23), sl23⟩)
    (c23 : PySem.W.codeIn K cd23 "law" = true)
    (k23 : PySem.W.keepIn K (.ref f23) = true)
    (m1 : PySem.W.nsIn K mainGlobals "SEATS" = some (some (.int 60 t1)))
    (m2 : PySem.W.nsIn K mainGlobals "SETS" = some (some (.int 200 t2)))
    (b_len : PySem.W.nsIn K mainGlobals "len" = some none)
    (b_range : PySem.W.nsIn K mainGlobals "range" = some none)
    (b_sum : PySem.W.nsIn K mainGlobals "sum" = some none)
    (b_sorted : PySem.W.nsIn K mainGlobals "sorted" = some none)
    (b_set : PySem.W.nsIn K mainGlobals "set" = some none)
    (b_tuple : PySem.W.nsIn K mainGlobals "tuple" = some none)
    (b_list : PySem.W.nsIn K mainGlobals "list" = some none)
    (b_isinstance : PySem.W.nsIn K mainGlobals "isinstance" = some none)
    (b_int : PySem.W.nsIn K mainGlobals "int" = some none)
    (b_bool : PySem.W.nsIn K mainGlobals "bool" = some none)
    (b_min : PySem.W.nsIn K mainGlobals "min" = some none)
    (b_all : PySem.W.nsIn K mainGlobals "all" = some none)
    (b_enumerate : PySem.W.nsIn K mainGlobals "enumerate" = some none)
    (b_any : PySem.W.nsIn K mainGlobals "any" = some none) :
    ∃ fd : FuncData, (∀ (s : Shared) (v : Value), BindsTo s fd ⟨[v], []⟩ [("script", v)]) ∧
      ∀ base : Heap, K.In base → base.Ns mainGlobals mg → FnG P w K mg base CX0 7 fa fd ["script"] (spLaw K) := by
  have F_is_below : Fn K mg "is_below" s_is_below := fn_top X G a1 l1 c1 k1
  have F_fault : Fn K mg "fault" s_fault := fn_top X G a2 l2 c2 k2
  have F_looked : Fn K mg "looked" s_looked := fn_top X G a3 l3 c3 k3
  have F_set_fault : Fn K mg "_set_fault" s_set_fault := fn_top X G a4 l4 c4 k4
  have F_least_ones : Fn K mg "least_ones" s_least_ones := fn_top X G a5 l5 c5 k5
  have F_holds : Fn K mg "holds" s_holds := fn_top X G a6 l6 c6 k6
  have F_meeting : Fn K mg "meeting" s_meeting := fn_top X G a7 l7 c7 k7
  have F_least_shared : Fn K mg "_least_shared" s_least_shared := fn_top X G a8 l8 c8 k8
  have F_law_wide : Fn K mg "_law_wide" s_law_wide := fn_top X G a9 l9 c9 k9
  have F_law_take : Fn K mg "_law_take" s_law_take := fn_top X G a10 l10 c10 k10
  have F_law_set : Fn K mg "_law_set" s_law_set := fn_top X G a11 l11 c11 k11
  have F_law_many_seats : Fn K mg "_law_many_seats" s_law_many_seats := fn_top X G a12 l12 c12 k12
  have F_law_family : Fn K mg "_law_family" s_law_family := fn_top X G a13 l13 c13 k13
  have F_law_whole : Fn K mg "_law_whole" s_law_whole := fn_top X G a14 l14 c14 k14
  have F_law_is_set : Fn K mg "_law_is_set" s_law_is_set := fn_top X G a15 l15 c15 k15
  have F_law_drawn : Fn K mg "_law_drawn" s_law_drawn := fn_top X G a16 l16 c16 k16
  have F_law_crossed : Fn K mg "_law_crossed" s_law_crossed := fn_top X G a17 l17 c17 k17
  have F_law_holds : Fn K mg "_law_holds" s_law_holds := fn_top X G a18 l18 c18 k18
  have F_law_least_right : Fn K mg "_law_least_right" s_law_least_right := fn_top X G a19 l19 c19 k19
  have F_law_shared : Fn K mg "_law_shared" s_law_shared := fn_top X G a20 l20 c20 k20
  have F_law_meeting_due : Fn K mg "_law_meeting_due" s_law_meeting_due := fn_top X G a21 l21 c21 k21
  have F_law_meeting_right : Fn K mg "_law_meeting_right" s_law_meeting_right := fn_top X G a22 l22 c22 k22
  have F_law : Fn K mg "law" s_law := fn_top X G a23 l23 c23 k23
  have B_len := PySem.W.mg_none_of X G b_len
  have B_range := PySem.W.mg_none_of X G b_range
  have B_sum := PySem.W.mg_none_of X G b_sum
  have B_sorted := PySem.W.mg_none_of X G b_sorted
  have B_set := PySem.W.mg_none_of X G b_set
  have B_tuple := PySem.W.mg_none_of X G b_tuple
  have B_list := PySem.W.mg_none_of X G b_list
  have B_isinstance := PySem.W.mg_none_of X G b_isinstance
  have B_int := PySem.W.mg_none_of X G b_int
  have B_bool := PySem.W.mg_none_of X G b_bool
  have B_min := PySem.W.mg_none_of X G b_min
  have B_all := PySem.W.mg_none_of X G b_all
  have B_enumerate := PySem.W.mg_none_of X G b_enumerate
  have B_any := PySem.W.mg_none_of X G b_any
  exact law_end F_law hfa (fun _ _ _ _ _ _ s v => .of_eq rfl) fun base _ _ => whole ⟨B_len, B_range, B_sum, B_sorted, B_set, B_tuple, B_list, B_isinstance, B_int, B_bool, B_min, B_all, B_enumerate⟩ ⟨⟨t1, PySem.W.mg_of X G m1⟩, ⟨t2, PySem.W.mg_of X G m2⟩⟩ ⟨B_len, B_all, B_any, B_enumerate, B_min⟩
    F_is_below F_fault F_looked F_set_fault F_least_ones F_holds F_meeting F_least_shared F_law_wide F_law_take F_law_set F_law_many_seats F_law_family F_law_whole F_law_is_set F_law_drawn F_law_crossed F_law_holds F_law_least_right F_law_shared F_law_meeting_due F_law_meeting_right F_law
end G0
open PySem PySem.W PyProof.Rows in
set_option maxRecDepth 100000 in
set_option maxHeartbeats 0 in
set_option pp.maxSteps 20 in
theorem PySem.Challenge.cw_soleseat_k49_each_two_sets_holds : PySem.Challenge.rw_soleseat_k49_each_two_sets.Holds := by
  w_on; o_law; k_head; (case hw => w_witness2)
  k_fill
  refine G0.walk_ofG (l := PySem.Challenge.rw_soleseat_k49_each_two_sets) (n := 63) (k := 7) (x := "script") (sp := G0.spLaw) rfl (by decide) rfl ⟨rfl, by decide, by decide⟩ (fun w h Y => PySem.W.kIn_of Y) ?F (fun K H a ns hl _ hS => ⟨a, ns, rfl, hS, fun _ => rfl⟩)
  case F =>
    intro w mg fa h KX G hmg
    refine' G0.all_mk KX G hmg ?a1 ?l1 ?c1 ?k1 ?a2 ?l2 ?c2 ?k2 ?a3 ?l3 ?c3 ?k3 ?a4 ?l4 ?c4 ?k4 ?a5 ?l5 ?c5 ?k5 ?a6 ?l6 ?c6 ?k6 ?a7 ?l7 ?c7 ?k7 ?a8 ?l8 ?c8 ?k8 ?a9 ?l9 ?c9 ?k9 ?a10 ?l10 ?c10 ?k10 ?a11 ?l11 ?c11 ?k11 ?a12 ?l12 ?c12 ?k12 ?a13 ?l13 ?c13 ?k13 ?a14 ?l14 ?c14 ?k14 ?a15 ?l15 ?c15 ?k15 ?a16 ?l16 ?c16 ?k16 ?a17 ?l17 ?c17 ?k17 ?a18 ?l18 ?c18 ?k18 ?a19 ?l19 ?c19 ?k19 ?a20 ?l20 ?c20 ?k20 ?a21 ?l21 ?c21 ?k21 ?a22 ?l22 ?c22 ?k22 ?a23 ?l23 ?c23 ?k23 ?m1 ?m2 ?b_len ?b_range ?b_sum ?b_sorted ?b_set ?b_tuple ?b_list ?b_isinstance ?b_int ?b_bool ?b_min ?b_all ?b_enumerate ?b_any
    (case a1 => k_is)
    (case l1 => k_is)
    (case c1 => k_is)
    (case k1 => k_is)
    (case a2 => k_is)
    (case l2 => k_is)
    (case c2 => k_is)
    (case k2 => k_is)
    (case a3 => k_is)
    (case l3 => k_is)
    (case c3 => k_is)
    (case k3 => k_is)
    (case a4 => k_is)
    (case l4 => k_is)
    (case c4 => k_is)
    (case k4 => k_is)
    (case a5 => k_is)
    (case l5 => k_is)
    (case c5 => k_is)
    (case k5 => k_is)
    (case a6 => k_is)
    (case l6 => k_is)
    (case c6 => k_is)
    (case k6 => k_is)
    (case a7 => k_is)
    (case l7 => k_is)
    (case c7 => k_is)
    (case k7 => k_is)
    (case a8 => k_is)
    (case l8 => k_is)
    (case c8 => k_is)
    (case k8 => k_is)
    (case a9 => k_is)
    (case l9 => k_is)
    (case c9 => k_is)
    (case k9 => k_is)
    (case a10 => k_is)
    (case l10 => k_is)
    (case c10 => k_is)
    (case k10 => k_is)
    (case a11 => k_is)
    (case l11 => k_is)
    (case c11 => k_is)
    (case k11 => k_is)
    (case a12 => k_is)
    (case l12 => k_is)
    (case c12 => k_is)
    (case k12 => k_is)
    (case a13 => k_is)
    (case l13 => k_is)
    (case c13 => k_is)
    (case k13 => k_is)
    (case a14 => k_is)
    (case l14 => k_is)
    (case c14 => k_is)
    (case k14 => k_is)
    (case a15 => k_is)
    (case l15 => k_is)
    (case c15 => k_is)
    (case k15 => k_is)
    (case a16 => k_is)
    (case l16 => k_is)
    (case c16 => k_is)
    (case k16 => k_is)
    (case a17 => k_is)
    (case l17 => k_is)
    (case c17 => k_is)
    (case k17 => k_is)
    (case a18 => k_is)
    (case l18 => k_is)
    (case c18 => k_is)
    (case k18 => k_is)
    (case a19 => k_is)
    (case l19 => k_is)
    (case c19 => k_is)
    (case k19 => k_is)
    (case a20 => k_is)
    (case l20 => k_is)
    (case c20 => k_is)
    (case k20 => k_is)
    (case a21 => k_is)
    (case l21 => k_is)
    (case c21 => k_is)
    (case k21 => k_is)
    (case a22 => k_is)
    (case l22 => k_is)
    (case c22 => k_is)
    (case k22 => k_is)
    (case a23 => k_is)
    (case l23 => k_is)
    (case c23 => k_is)
    (case k23 => k_is)
    (case m1 => k_is)
    (case m2 => k_is)
    (case b_len => k_is)
    (case b_range => k_is)
    (case b_sum => k_is)
    (case b_sorted => k_is)
    (case b_set => k_is)
    (case b_tuple => k_is)
    (case b_list => k_is)
    (case b_isinstance => k_is)
    (case b_int => k_is)
    (case b_bool => k_is)
    (case b_min => k_is)
    (case b_all => k_is)
    (case b_enumerate => k_is)
    (case b_any => k_is)
#print axioms PySem.Challenge.cw_soleseat_k49_each_two_sets_holds
namespace G0

end G0
