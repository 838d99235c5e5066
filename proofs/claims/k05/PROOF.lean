import PyProof.Rows.All
import Wide.All
import OpenK.AllK
import Wide.FinOn
import KE.DatumIndex
import PyProof.ReprRoads
import PyProof.ReprLen
import HandS.ForMost
import HandS.WordsExc
import HandS.Wide
import HandS.Evl
import HandS.Style
import HandS.Conv
import HandS.Zip
import HandS.TupMul
import HandS.TupAny
import HandS.TupLe
import HandS.Defaults
import HandS.Head0
import HandS.Head1
import HandS.Head2
import HandS.HeadEnd
import HandS.HeadHook1
import HandS.HeadHook2
import PySem.Challenge.RW_stepforms_k05_tables_reckoned
set_option Elab.async false
set_option linter.all false
set_option maxRecDepth 100000
set_option maxHeartbeats 4000000
namespace Gd
open PySem PySem.Spec PyProof.Rows L2
/-- a def that is called where no repr is under way -/
structure FnG (P : Program) (w : World) (K : PySem.W.Frag) (mg : Str → Option Value)
    (base : Heap) (k : Nat) (f : Addr) (fd : FuncData) (ps : List Str) (sp : Sp) : Prop where
  len : ∀ vs H Q E, sp vs H Q E → vs.length = ps.length
  go : ∀ (A : Around) (outer : List Env) (s : Shared) (H : Hp) (args : Args)
    (us : List Value) (vs : List V) (Q : VK) (E : XK),
    A.guards = some [] → Room k A → Env0 P w K mg base A outer s H →
    BindsTo s fd args (ps.zip us) → Vals vs us → sp vs H Q E →
    codeAny (model P w) A (.call (.ref f) args) (CR CX0 outer P w H s Q E) s
theorem guards_deeper {A : Around} {env : Env} (h : A.guards = some []) :
    (A.deeper env).guards = some [] := by
  first
    | exact h
    | (unfold Around.deeper; exact h)
    | simp [Around.deeper, h]
section
variable {P : Program} {w : World} {K : PySem.W.Frag} {mg : Str → Option Value} {base : Heap}
  {x qual : Str} {params : Arguments} {body : List Stmt} {scope : Scope} {dvs : List V}
  {kws : List (Str × V)} {f : Addr} {fd : FuncData}
/-- such a def by its body; the body knows that no repr is under way -/
theorem okG {N ps : List Str} {k : Nat} {sp : Sp}
    (F : FunD K x qual params body scope dvs kws f fd) (S : FnScope N ps scope)
    (len : ∀ vs H Q E, sp vs H Q E → vs.length = ps.length)
    (hbody : ∀ (cdv : Value) (A : Around) (outer : List Env) (s : Shared) (H : Hp)
      (vs : List V) (Q : VK) (E : XK),
      (A.deeper (envOfC qual scope s.heap.objs.size f cdv)).guards = some [] →
      Room k (A.deeper (envOfC qual scope s.heap.objs.size f cdv)) → sp vs H Q E →
      ∃ t, PSs (cxOf CX0 P w K mg base N qual scope f cdv A outer s H E) body t ∧
        t { nx := fun _ H' => Q .non H', rt := Q } (start N vs) H) :
    FnG P w K mg base (k + 1) f fd ps sp := by
  obtain ⟨oc, od, dV, kV, doc, pm, an, cdv, ct, osl, rfl, hat, hcode, _, _⟩ := F.ex
  refine ⟨len, ?_⟩
  intro A outer s H args us vs Q E hG room env bind rel want
  have kin : K.In s.heap :=
    env.mod.kin.keeps (fun b o e => (env.bs b o e).1)
  have nolim : s.heap.NoLimit :=
    env.mod.nolimit.keeps (fun b o e => (env.bs b o e).1)
  refine codeAny_call_function room.depth (kin _ _ hat) rfl S.co S.gen rfl
    (PySem.W.codeRec_of kin hcode) (bind _ _ _ _ ?_)
  refine wpAny_newFunctionEnv_cells S.kind ?_ ?_
  · rintro ⟨n, v⟩ hy
    cases S.par n (List.of_mem_zip hy).1 with
    | inl q => exact Or.inl q
    | inr q => exact Or.inr ⟨q, PySem.W.cellsFrom_some _ _ _ (.inl q)⟩
  · intro en he s1 made
    subst he
    refine ⟨nolim.keeps made.toInCall.keep, codeAny_func ?_⟩
    obtain ⟨t, derived, told⟩ :=
      hbody cdv A outer s H vs Q E (guards_deeper hG) (room.deeper _) want
    have inv0 := inv_start (CX := CX0) (E := E) S room.hd env (len _ _ _ _ want) rel made
    refine wpAny_mono (derived.run [] s1 (start N vs) H _ inv0 told) ?_ (fun _ _ z => z)
    intro fl s' hs
    cases fl with
    | brk => exact False.elim hs.choose_spec.choose_spec.2
    | cont => exact False.elim hs.choose_spec.choose_spec.2
    | next =>
      obtain ⟨_, H', J, q⟩ := hs
      exact ⟨.non, H', J.os, J.bare, J.base, J.hok, rfl, q⟩
    | ret u =>
      obtain ⟨v, _, H', J, rv, q⟩ := hs
      exact ⟨v, H', J.os, J.bare, J.base, J.hok, rv, q⟩
end
section
variable {X : Cx} {k : Nat} {f : Addr} {fd : FuncData} {ps : List Str} {sp : Sp}
  {E : XK} {x : Str} {p pos : Pos} {e : Expr} {es : List Expr} {t : TA}
/-- the call of such a def from a body that knows the same -/
theorem pe_callG (F : FnG X.prog X.w X.K X.mg X.base k f fd ps sp)
    (hG : X.A.guards = some []) (hr : Room k X.A) (hg : Gl X x)
    (hm : X.mg x = some (.ref f)) (hk : PySem.W.keepIn X.K (.ref f) = true)
    (hb : Binds X.K fd ps []) (ha : PA X (e :: es) t)
    (hdb : (x == ("__debug__" : Str)) = false := by decide)
    (he : starEach (e :: es) X.env = (false, eval e X.env) :: starEach es X.env := by rfl)
    (hpl : (backTo pos (starEach es X.env)).any (·.1) = false := by rfl) :
    PE X (.Call (.Name x p) (e :: es) [] pos) (tCall sp [] E0 t) := by
  constructor
  intro pins s σ H Q I h
  refine wpAny_Call_Name_kw (ld_glob I hg hm ?_ hdb)
  refine PySem.W.callWith_K (h₀ := X.base) I.ok.mod.kin hk (thn (ha.run pos pins s σ H _ I h) ?_) he hpl
  rintro us s1 ⟨vs, H1, I1, r, q⟩
  refine ⟨I1.kIn, ?_⟩
  have q' : sp (vs ++ []) H1 Q E0 := q
  rw [List.append_nil] at q'
  have hl : (us ++ []).length = ps.length := by
    rw [List.append_nil, ← r.length]
    exact F.len _ _ _ _ q'
  have hbb := hb s1 us I1.kIn hl
  rw [List.append_nil] at hbb
  refine wpAny_call (codeAny_mono (F.go X.A X.stack s1 H1 ⟨us, []⟩ us vs Q E0 hG hr I1.env0 hbb r q') ?_)
  intro r s' hq
  cases r with
  | error e => exact False.elim hq
  | ok fl =>
    cases fl with
    | next => exact False.elim hq
    | brk => exact False.elim hq
    | cont => exact False.elim hq
    | ret u => exact I1.after hq
end
section
variable {X : Cx}
/-- repr of data -/
def rRepr (K : PySem.W.Frag) : List V → Hp → VK → Prop := fun vs H Q =>
  ∃ (a : Addr) (d : PyData), vs = [.ref a] ∧ Dp K H (.ref a) d ∧ d.showable = true ∧
    d.hasDict = false ∧ d.depth ≤ 60 ∧ d.shown.length ≤ sizeLine ∧ Q (.str d.shown) H
theorem call_repr (hG : X.A.guards = some []) (hu : X.A.units + 64 < cLine) :
    CallR X (.builtin "repr") (rRepr X.K) := by
  intro pins s σ H xs us Q I r h
  obtain ⟨a, d, rfl, hd, hs, hn, hdp, hz, q⟩ := h
  have hu1 := Vals.ref1 r
  rw [hu1]
  obtain ⟨as, rd⟩ := Dp.reads I d _ _ hd (show RelV (.ref a) (.ref a) from rfl)
  refine repr_of_reads' rd hs (fun e => by rw [hn] at e; cases e) hG (by omega) (fun _ _ e => e) ?_ hz
  intro h' u tk hk
  exact ⟨.str d.shown, H, I.kept hk, ⟨u, rfl⟩, q⟩
/-- floor division by any great divisor but 0 -/
def CDivA (_ j : Int) : Prop := j ≠ 0 ∧ j.natAbs.log2 < 9000
theorem op_fdivA : OpR X (binaryOp .FloorDiv) (rI CDivA fun i j => .int (i.fdiv j)) :=
  opI fun i j _ _ _ _ _ hc q =>
    floordiv_int hc.1 q (.inl (PyProof.noPylong_of_log2 hc.2))
end
end Gd
namespace Gd
open PySem PySem.Spec PyProof.Rows L2
section
variable {P : Program} {w : World} {K : PySem.W.Frag} {mg mb : Str → Option Value}
  {k : Nat} {fa a : Addr} {fd : FuncData} {x : Str} {sp : Sp} {s : Shared}
  {vs : List Value} {ns : List Int}
/-- the abstract heap of a law's entry tracks the script alone -/
theorem law_coreG (kin : K.In s.heap) (hns : s.heap.Ns mainGlobals mg)
    (hb : s.heap.Ns builtinsNs mb) (hbb : ∀ x : Str, x ≠ "__name__" → mb x = bootBuiltins x)
    (hlim : s.heap.NoLimit) (hgens : s.gens = #[])
    (hat : s.heap.get? a = some { cls := .type "list", data := .seq vs.toArray })
    (hr : Room k callerA)
    (F : ∀ base : Heap, K.In base → base.Ns mainGlobals mg → FnG P w K mg base k fa fd [x] sp)
    (hbind : ∀ (s : Shared) (u : Value), BindsTo s fd ⟨[u], []⟩ [(x, u)])
    (H : Hp) (hO : Only H) (hok : HOk P w H s.heap) (hA : ∀ b, H b ≠ none → b = a)
    (hK : H a ≠ none → K.lookup a = none)
    (hsp : sp [.ref a] H (fun v _ => v = .bl true) E0) :
    codeAny (model P w) callerA (.call (.ref fa) ⟨[.ref a], []⟩)
      (fun r s' => r = .ok (.ret (.bool true)) ∧ OldK s.heap s'.heap ∧ s'.os = s.os ∧
        AllBare s'.gens) s := by
  have free_of : ∀ b : Addr, b ≠ a → H b = none := by
    intro b hb
    cases q : H b with
    | none => rfl
    | some u => exact absurd (hA b (by rw [q]; exact Option.some_ne_none u)) hb
  have dictFree : ∀ {b : Addr} {o : Obj} {es : Array DictEntry} {ep : Nat},
      s.heap.get? b = some o → o.data = .dict es ep → H b = none := by
    intro b o es ep e d
    refine free_of b ?_
    rintro rfl
    rw [hat] at e
    cases e
    cases d
  have nsHid : ∀ {b : Addr} {m : Str → Option Value},
      s.heap.Ns b m → (hidT s.heap H).Ns b m := by
    rintro b m ⟨o, es, ep, e, d, r⟩
    exact ⟨o, es, ep, hidT_get e (dictFree e d), d, r⟩
  have kinHid : K.In (hidT s.heap H) := by
    intro b o e
    refine hidT_get (kin b o e) ?_
    by_cases h : b = a
    · subst h
      cases q : H b with
      | none => rfl
      | some u =>
        rw [hK (by rw [q]; exact Option.some_ne_none u)] at e
        cases e
    · exact free_of b h
  obtain ⟨mc, hl1, hl2⟩ := hlim
  have modHid : Mod K mg (hidT s.heap H) :=
    ⟨kinHid, nsHid hns, ⟨mb, nsHid hb, hbb⟩, ⟨mc, nsHid hl1, hl2⟩⟩
  have env : Env0 P w K mg (hidT s.heap H) callerA [] s H := by
    refine ⟨rfl, modHid, fun b o e => of_hidT e, Nat.le_of_eq (hidT_size _ _), trivial, ?_, hok, .of_eq hgens⟩
    intro b hb
    cases hb
  have run := (F _ kinHid (nsHid hns)).go callerA [] s H ⟨[.ref a], []⟩ [.ref a] [.ref a] _ _
    rfl hr env (hbind s (.ref a)) (.cons rfl .nil) hsp
  refine codeAny_mono run ?_
  intro r s' h
  cases r with
  | error e => exact False.elim h
  | ok fl =>
    cases fl with
    | next => exact False.elim h
    | brk => exact False.elim h
    | cont => exact False.elim h
    | ret u =>
      obtain ⟨v, H', os, bare, un, hok', rel, rfl⟩ := h
      cases rel
      refine ⟨rfl, OldK.of_keep ?_, os, bare⟩
      intro b o e
      cases q : H b with
      | none => exact un.keep b o e q (fun z => by cases z) (fun z => by cases z)
      | some u =>
        rcases hO b with z | ⟨ob, xs, z⟩
        · rw [q] at z
          cases z
        · have e1 := (hok b _ z).1
          have e2 := (hok' b _ (un.frzs b ob _ z)).1
          rw [e] at e1
          cases e1
          exact e2
theorem law_goG (kin : K.In s.heap) (hns : s.heap.Ns mainGlobals mg)
    (hb : s.heap.Ns builtinsNs mb) (hbb : ∀ x : Str, x ≠ "__name__" → mb x = bootBuiltins x)
    (hlim : s.heap.NoLimit) (hgens : s.gens = #[])
    (hat : s.heap.get? a = some { cls := .type "list", data := .seq vs.toArray })
    (hi : IntsAre vs ns) (hl : ns.length ≤ sizeLine) (hr : Room k callerA)
    (F : ∀ base : Heap, K.In base → base.Ns mainGlobals mg → FnG P w K mg base k fa fd [x] sp)
    (hbind : ∀ (s : Shared) (u : Value), BindsTo s fd ⟨[u], []⟩ [(x, u)])
    (hsp : ∀ H : Hp, Only H → SqL K H a (ns.map V.int) →
      sp [.ref a] H (fun v _ => v = .bl true) E0) :
    codeAny (model P w) callerA (.call (.ref fa) ⟨[.ref a], []⟩)
      (fun r s' => r = .ok (.ret (.bool true)) ∧ OldK s.heap s'.heap ∧ s'.os = s.os ∧
        AllBare s'.gens) s := by
  have rel := vals_ints hi
  have lenEq := hi.length
  cases hk : K.lookup a with
  | some o =>
    have e := kin a o hk
    rw [hat] at e
    cases e
    have hO : Only (fun _ => none) := fun _ => Or.inl rfl
    have hS : SqL K (fun _ => none) a (ns.map V.int) :=
      Or.inr ⟨_, vs.toArray, _, hk, rfl, rfl, rfl,
        by rw [List.size_toArray, lenEq]; exact hl, by simpa using rel⟩
    exact law_coreG kin hns hb hbb hlim hgens hat hr F hbind _ hO
      (fun b u z => nomatch z) (fun b z => absurd rfl z) (fun z => absurd rfl z) (hsp _ hO hS)
  | none =>
    let H : Hp := fun b => if b = a then
      some (.frz { cls := .type "list", data := .seq vs.toArray } (.lst (ns.map V.int))) else none
    have at_a : H a = some (.frz { cls := .type "list", data := .seq vs.toArray }
      (.lst (ns.map V.int))) := if_pos rfl
    have off : ∀ b, b ≠ a → H b = none := fun b h => if_neg h
    have hO : Only H := by
      intro b
      by_cases h : b = a
      · subst h
        exact Or.inr ⟨_, _, at_a⟩
      · exact Or.inl (off b h)
    have hS : SqL K H a (ns.map V.int) := Or.inl (Or.inr ⟨_, at_a⟩)
    refine law_coreG kin hns hb hbb hlim hgens hat hr F hbind H hO ?_ ?_ (fun _ => hk) (hsp H hO hS)
    · intro b u z
      by_cases h : b = a
      · subst h
        rw [at_a] at z
        cases z
        exact ⟨hat, by rw [List.length_map]; exact hl, vs, _, rel, hat⟩
      · rw [off b h] at z
        cases z
    · intro b z
      by_cases h : b = a
      · exact h
      · exact absurd (off b h) z
end
/-- a law's end -/
theorem walkG {l : PySem.W.OpenLaw} {n k : Nat} {q : Program} {loose : List Str}
    {XP : (Str → Option Value) → Heap → Prop} {YP : World → Heap → Prop} {d : DefRec} {x : Str}
    (hn : l.most = some n) (hn2 : n ≤ sizeLine) (hdf : d.params.defaults = [])
    (hr : Room k callerA)
    (F : ∀ (w : World) (mg : Str → Option Value) (fa : Addr) (h : Heap), YP w h →
      h.Ns mainGlobals mg → mg d.name = some (.ref fa) →
      ∃ (K : PySem.W.Frag) (fd : FuncData) (sp : Sp), K.In h ∧
        (∀ (s : Shared) (u : Value), BindsTo s fd ⟨[u], []⟩ [(x, u)]) ∧
        (∀ (H : Hp) (a : Addr) (ns : List Int), ns.length ≤ n → Only H →
          SqL K H a (ns.map V.int) → sp [.ref a] H (fun v _ => v = .bl true) E0) ∧
        ∀ base : Heap, K.In base → base.Ns mainGlobals mg → FnG l.prog w K mg base k fa fd [x] sp) :
    PySem.W.WalkO q loose XP YP l.row.toRowW d [] (fun f vs => PySem.call f vs) := by
  refine Att.attach_call hn hdf ?_
  intro w s₀ s₁ mg mb fa o pm cd doc a vs ns G Y _ _ _ hmg hobj hints hlen hgens
  obtain ⟨K, fd, sp, kin, hb, hsp, hF⟩ := F w mg fa _ Y G.T.g hmg
  exact law_goG kin G.T.g G.T.b G.T.builtins G.T.nolimit hgens hobj hints
    (Nat.le_trans hlen hn2) hr hF hb (fun H hO hS => hsp H a ns hlen hO hS)
end Gd
namespace Gd
open PySem PySem.Spec PyProof.Rows L2
/-- the def x of the text stands at its name -/
def Df (K : PySem.W.Frag) (mg : Str → Option Value) (x : Str) (st : Stmt) : Prop :=
  ∃ f fd, FunD K x x (defArgs st) (defBody st) (defScope st) [] [] f fd ∧ mg x = some (.ref f)
/-- the def x keeps its promise; the same where no repr is under way -/
def Has (P : Program) (w : World) (K : PySem.W.Frag) (mg : Str → Option Value) (base : Heap)
    (x : Str) (k : Nat) (ps : List Str) (sp : Sp) : Prop :=
  ∃ f fd, FnOk P w K mg base CX0 k f fd ps sp ∧ mg x = some (.ref f) ∧
    PySem.W.keepIn K (.ref f) = true ∧ Binds K fd ps []
def HasG (P : Program) (w : World) (K : PySem.W.Frag) (mg : Str → Option Value) (base : Heap)
    (x : Str) (k : Nat) (ps : List Str) (sp : Sp) : Prop :=
  ∃ f fd, FnG P w K mg base k f fd ps sp ∧ mg x = some (.ref f) ∧
    PySem.W.keepIn K (.ref f) = true ∧ Binds K fd ps []
abbrev BndOk (x : Str) (st : Stmt) (ps : List Str) : Prop :=
  ∀ (kV doc pm : Value) (an : Option Addr) (cdv ct : Value) (us : List Value),
    us.length = ps.length →
    bindArgs (PySem.W.fnOf x x (defArgs st) (defBody st) (defScope st) .none kV doc pm an cdv ct)
      ⟨us, []⟩ = pure (ps.zip us)
section
variable {P : Program} {w : World} {K : PySem.W.Frag} {mg : Str → Option Value} {base : Heap}
  {x : Str} {st : Stmt} {N ps : List Str} {k : Nat} {sp : Sp}
theorem has_of (D : Df K mg x st) (S : FnScope N ps (defScope st)) (hb : BndOk x st ps)
    (len : ∀ vs H Q E, sp vs H Q E → vs.length = ps.length)
    (hbody : ∀ (f : Addr) (cdv : Value) (A : Around) (outer : List Env) (s : Shared) (H : Hp)
      (vs : List V) (Q : VK) (E : XK),
      Room k (A.deeper (envOfC x (defScope st) s.heap.objs.size f cdv)) → sp vs H Q E →
      ∃ t, PSs (cxOf CX0 P w K mg base N x (defScope st) f cdv A outer s H E).nox (defBody st) t ∧
        t { nx := fun _ H' => Q .non H', rt := Q } (start N vs) H) :
    Has P w K mg base x (k + 1) ps sp := by
  obtain ⟨f, fd, F, hm⟩ := D
  refine ⟨f, fd, F.ok S len ?_, hm, F.kp, F.bindsN hb⟩
  intro cdv A outer s H vs Q E hr h
  obtain ⟨t, h1, h2⟩ := hbody f cdv A outer s H vs Q E hr h
  exact ⟨t, PSs.nox h1, h2⟩
theorem hasG_of (D : Df K mg x st) (S : FnScope N ps (defScope st)) (hb : BndOk x st ps)
    (len : ∀ vs H Q E, sp vs H Q E → vs.length = ps.length)
    (hbody : ∀ (f : Addr) (cdv : Value) (A : Around) (outer : List Env) (s : Shared) (H : Hp)
      (vs : List V) (Q : VK) (E : XK),
      (A.deeper (envOfC x (defScope st) s.heap.objs.size f cdv)).guards = some [] →
      Room k (A.deeper (envOfC x (defScope st) s.heap.objs.size f cdv)) → sp vs H Q E →
      ∃ t, PSs (cxOf CX0 P w K mg base N x (defScope st) f cdv A outer s H E).nox (defBody st) t ∧
        t { nx := fun _ H' => Q .non H', rt := Q } (start N vs) H) :
    HasG P w K mg base x (k + 1) ps sp := by
  obtain ⟨f, fd, F, hm⟩ := D
  refine ⟨f, fd, okG F S len ?_, hm, F.kp, F.bindsN hb⟩
  intro cdv A outer s H vs Q E hG hr h
  obtain ⟨t, h1, h2⟩ := hbody f cdv A outer s H vs Q E hG hr h
  exact ⟨t, PSs.nox h1, h2⟩
end
section
variable {X : Cx} {k : Nat} {ps : List Str} {sp : Sp} {x : Str} {p pos : Pos} {e : Expr}
  {es : List Expr} {t : TA}
theorem pe_has (F : Has X.prog X.w X.K X.mg X.base x k ps sp) (hr : Room k X.A) (hg : Gl X x)
    (ha : PA X (e :: es) t) (hdb : (x == ("__debug__" : Str)) = false := by decide)
    (he : starEach (e :: es) X.env = (false, eval e X.env) :: starEach es X.env := by rfl)
    (hpl : (backTo pos (starEach es X.env)).any (·.1) = false := by rfl) :
    PE X (.Call (.Name x p) (e :: es) [] pos) (tCall sp [] E0 t) := by
  obtain ⟨f, fd, G, hm, kp, hb⟩ := F
  exact pe_call G hr hg hm kp hb .nil pass0 ha hdb he hpl
theorem pe_hasG (F : HasG X.prog X.w X.K X.mg X.base x k ps sp) (hG : X.A.guards = some [])
    (hr : Room k X.A) (hg : Gl X x)
    (ha : PA X (e :: es) t) (hdb : (x == ("__debug__" : Str)) = false := by decide)
    (he : starEach (e :: es) X.env = (false, eval e X.env) :: starEach es X.env := by rfl)
    (hpl : (backTo pos (starEach es X.env)).any (·.1) = false := by rfl) :
    PE X (.Call (.Name x p) (e :: es) [] pos) (tCall sp [] E0 t) := by
  obtain ⟨f, fd, G, hm, kp, hb⟩ := F
  exact pe_callG G hG hr hg hm kp hb ha hdb he hpl
end
/-! ### heaps -/
/-- all but what stands at a is as it was -/
def Sb (a : Addr) (H H' : Hp) : Prop := ∀ b o, b ≠ a → H b = some o → H' b = some o
theorem Sb.refl (a : Addr) (H : Hp) : Sb a H H := fun _ _ _ h => h
theorem Sb.trans {a : Addr} {H H1 H2 : Hp} (x : Sb a H H1) (y : Sb a H1 H2) : Sb a H H2 :=
  fun b o n h => y b o n (x b o n h)
theorem Sb.of {a : Addr} {H H1 : Hp} (x : Same H H1) : Sb a H H1 := fun b o _ h => x b o h
theorem Same.new {H : Hp} {p : Addr} {o : HO} (h : H p = none) : Same H (upd H p o) :=
  fun b u e => by rw [upd_ne (ne_of_none e h)]; exact e
/-- an object that H does not know may change -/
theorem Same.mut {H H' : Hp} {p : Addr} {o : HO} (e : Same H H') (h : H p = none) :
    Same H (upd H' p o) := fun a u ha => by
  rw [upd_ne (ne_of_none ha h)]
  exact e a u ha
theorem Sb.mut {a : Addr} {H H' : Hp} {p : Addr} {o : HO} (e : Sb a H H') (h : H p = none) :
    Sb a H (upd H' p o) := fun b u n hb => by
  rw [upd_ne (ne_of_none hb h)]
  exact e b u n hb
theorem Sb.own {a : Addr} {H H' : Hp} {o : HO} (e : Sb a H H') : Sb a H (upd H' a o) :=
  fun b u n hb => by rw [upd_ne n]; exact e b u n hb
theorem Sb.new {a : Addr} {H : Hp} {p : Addr} {o : HO} (h : H p = none) : Sb a H (upd H p o) :=
  Sb.of (Same.new h)
theorem Sb.free {a p : Addr} {H H' : Hp} (e : Sb a H H') (n : p ≠ a) (h : H' p = none) :
    H p = none := by
  cases q : H p with
  | none => rfl
  | some o => rw [e p o n q] at h; cases h
/-- the feed of a law at a: its cells at s (the script's first ones), where it stands, what is left,
how many draws there were (n at most) -/
def Fd (H : Hp) (a s : Addr) (n : Nat) : Prop :=
  ∃ (ns : List Int) (p l c : Int),
    H a = some (.lst [.ref s, .int p, .int l, .int c]) ∧ H s = some (.lst (ns.map V.int)) ∧
    ns.length ≤ 63 ∧ 0 ≤ p ∧ 0 ≤ c ∧ c ≤ (n : Int)
theorem Fd.mono {H : Hp} {a s : Addr} {n m : Nat} (h : Fd H a s n) (e : n ≤ m) : Fd H a s m := by
  obtain ⟨ns, p, l, c, h1, h2, h3, h4, h5, h6⟩ := h
  exact ⟨ns, p, l, c, h1, h2, h3, h4, h5, by omega⟩
theorem Fd.same {H H' : Hp} {a s : Addr} {n : Nat} (h : Fd H a s n) (e : Same H H') : Fd H' a s n := by
  obtain ⟨ns, p, l, c, h1, h2, h3, h4, h5, h6⟩ := h
  exact ⟨ns, p, l, c, e _ _ h1, e _ _ h2, h3, h4, h5, h6⟩
theorem Fd.at {H : Hp} {a s : Addr} {n : Nat} (h : Fd H a s n) : ∃ xs, H a = some (.lst xs) := by
  obtain ⟨ns, p, l, c, h1, _⟩ := h
  exact ⟨_, h1⟩
/-- another object changes -/
theorem Fd.upd {H : Hp} {a s D : Addr} {n : Nat} {o : HO} (h : Fd H a s n) (h1 : D ≠ a) (h2 : D ≠ s) :
    Fd (L2.upd H D o) a s n := by
  obtain ⟨ns, p, l, c, e1, e2, h3, h4, h5, h6⟩ := h
  exact ⟨ns, p, l, c, by rw [upd_ne h1.symm]; exact e1, by rw [upd_ne h2.symm]; exact e2, h3, h4, h5, h6⟩
/-- what is new is none of the feed's -/
theorem Fd.apart {H : Hp} {a s D : Addr} {n : Nat} (h : Fd H a s n) (hD : H D = none) : D ≠ a ∧ D ≠ s := by
  obtain ⟨ns, p, l, c, e1, e2, _⟩ := h
  constructor
  · intro z
    rw [z, e1] at hD
    cases hD
  · intro z
    rw [z, e2] at hD
    cases hD
theorem Fd.tk {H H' : Hp} {a s : Addr} {n : Nat} (h : Fd H a s n) (e : Sb a H H') :
    ∀ b o, (∀ xs, o ≠ .lst xs) → H b = some o → H' b = some o := by
  obtain ⟨xs, hx⟩ := h.at
  intro b o no hb
  refine e b o ?_ hb
  rintro rfl
  rw [hx] at hb
  cases hb
  exact no _ rfl
end Gd
namespace Gd
open PySem PySem.Spec PyProof.Rows L2
/-- data whose repr is known: of this depth at most, its text of so many signs at most -/
def Sh (k n : Nat) (d : PyData) : Prop :=
  d.showable = true ∧ d.hasDict = false ∧ d.depth ≤ k ∧ d.shown.length ≤ n
theorem Sh.mono {k k' n n' : Nat} {d : PyData} (h : Sh k n d) (hk : k ≤ k') (hn : n ≤ n') :
    Sh k' n' d := ⟨h.1, h.2.1, Nat.le_trans h.2.2.1 hk, Nat.le_trans h.2.2.2 hn⟩
theorem Sh.int {i : Int} (h : i.natAbs < 2 ^ 1900) : Sh 0 1901 (.int i) := by
  have hl : i.natAbs.log2 < 1900 := PySem.Flt.log2_lt_of (by decide) h
  refine ⟨?_, ?_, ?_, ?_⟩
  · simp only [PyData.showable, decide_eq_true_eq]
    omega
  · simp only [PyData.hasDict]
  · simp only [PyData.depth]
    omega
  · have e := PySem.int_text_length_le (a := i) (k := 1900) (by decide) hl
    simp only [PyData.shown]
    have e2 := PySem.ofString_length (toString i)
    show (Str.ofString (toString i)).length ≤ 1901
    omega
theorem sh_all {k n : Nat} : ∀ ds : List PyData, (∀ d ∈ ds, Sh k n d) →
    PyData.showableAll ds = true ∧ PyData.hasDictAll ds = false ∧ PyData.depthAll ds ≤ k ∧
    ((PyData.shownAll ds).map (·.length)).sum ≤ ds.length * n ∧ (PyData.shownAll ds).length = ds.length
  | [], _ => by
    refine ⟨?_, ?_, ?_, ?_, ?_⟩
    · simp only [PyData.showableAll]
    · simp only [PyData.hasDictAll]
    · simp only [PyData.depthAll]
      omega
    · simp only [PyData.shownAll, List.map_nil, List.sum_nil, List.length_nil]
      omega
    · simp only [PyData.shownAll, List.length_nil]
  | d :: ds, h => by
    obtain ⟨a1, a2, a3, a4⟩ := h d (List.mem_cons_self ..)
    obtain ⟨b1, b2, b3, b4, b5⟩ := sh_all ds (fun x hx => h x (List.mem_cons_of_mem _ hx))
    refine ⟨?_, ?_, ?_, ?_, ?_⟩
    · simp only [PyData.showableAll, a1, b1, Bool.and_self]
    · simp only [PyData.hasDictAll, a2, b2, Bool.or_self]
    · simp only [PyData.depthAll]
      omega
    · simp only [PyData.shownAll, List.map_cons, List.sum_cons, List.length_cons, Nat.add_mul,
        Nat.one_mul]
      omega
    · simp only [PyData.shownAll, List.length_cons, b5]
theorem Sh.tup {k n m : Nat} {ds : List PyData} (h : ∀ d ∈ ds, Sh k n d) (hl : ds.length ≤ m) :
    Sh (k + 1) (m * (n + 2) + 3) (.tuple ds) := by
  obtain ⟨b1, b2, b3, b4, b5⟩ := sh_all ds h
  refine ⟨?_, ?_, ?_, ?_⟩
  · simp only [PyData.showable, b1]
  · simp only [PyData.hasDict, b2]
  · simp only [PyData.depth]
    omega
  · have e := PySem.tupleText_len_le (PyData.shownAll ds)
    simp only [PyData.shown]
    have e2 : ds.length * n ≤ m * n := Nat.mul_le_mul_right _ hl
    rw [Nat.mul_add]
    omega
theorem Sh.lst {k n m : Nat} {ds : List PyData} (h : ∀ d ∈ ds, Sh k n d) (hl : ds.length ≤ m) :
    Sh (k + 1) (m * (n + 2) + 3) (.list ds) := by
  obtain ⟨b1, b2, b3, b4, b5⟩ := sh_all ds h
  refine ⟨?_, ?_, ?_, ?_⟩
  · simp only [PyData.showable, b1]
  · simp only [PyData.hasDict, b2]
  · simp only [PyData.depth]
    omega
  · have e := PySem.listText_len_le (PyData.shownAll ds)
    simp only [PyData.shown]
    have e2 : ds.length * n ≤ m * n := Nat.mul_le_mul_right _ hl
    rw [Nat.mul_add]
    omega
theorem repr_at {K : PySem.W.Frag} {H : Hp} {a : Addr} {d : PyData} {k n : Nat} {Q : VK}
    (hd : Dp K H (.ref a) d) (hs : Sh k n d) (hk : k ≤ 60) (hn : n ≤ 16000000)
    (q : Q (.str d.shown) H) : rRepr K [.ref a] H Q :=
  ⟨a, d, rfl, hd, hs.1, hs.2.1, Nat.le_trans hs.2.2.1 hk,
    Nat.le_trans hs.2.2.2 (Nat.le_trans hn (by decide)), q⟩
/-- data that are there stay while what is tracked stays -/
theorem sql_same {K : PySem.W.Frag} {H H' : Hp} {a : Addr} {xs : List V} (e : Same H H')
    (h : SqL K H a xs) : SqL K H' a xs := e.seq h
theorem sqt_same {K : PySem.W.Frag} {H H' : Hp} {a : Addr} {xs : List V} (e : Same H H')
    (h : SqT K H a xs) : SqT K H' a xs := by
  rcases h with (h | ⟨o, h⟩) | h
  · exact Or.inl (Or.inl (e _ _ h))
  · exact Or.inl (Or.inr ⟨o, e _ _ h⟩)
  · exact Or.inr h
mutual
theorem Dp.same {K : PySem.W.Frag} {H H' : Hp} (e : Same H H') : ∀ (d : PyData) (v : V),
    Dp K H v d → Dp K H' v d
  | .none, _, h => by cases h; exact .non
  | .bool b, _, h => by cases h; exact .bl b
  | .int i, _, h => by cases h; exact .int i
  | .str x, _, h => by cases h; exact .str x
  | .list ds, _, h => by
    cases h with
    | lst hs ha => exact .lst (sql_same e hs) (DpAll.same e ds _ ha)
  | .tuple ds, _, h => by
    cases h with
    | tup hs ha => exact .tup (sqt_same e hs) (DpAll.same e ds _ ha)
  | .dict _, _, h => by cases h
theorem DpAll.same {K : PySem.W.Frag} {H H' : Hp} (e : Same H H') : ∀ (ds : List PyData)
    (vs : List V), DpAll K H vs ds → DpAll K H' vs ds
  | [], _, h => by cases h; exact .nil
  | d :: ds, _, h => by
    cases h with
    | cons h1 h2 => exact .cons (Dp.same e d _ h1) (DpAll.same e ds _ h2)
end
end Gd
namespace Gd
open PySem PySem.Spec PyProof.Rows L2
theorem tup_mul_one (l : Addr) (items : Array Value) (n : Nat) (dd : Option Addr)
    (sl : Array (Option Value)) (u : Tok) :
    Meets (Builtin.«tuple.__mul__» ⟨[.ref l, .int 1 u], []⟩) (fun _ R s =>
      s.heap.get? l = some { cls := .type "tuple", dict := dd, data := .seq items n, slots := sl } ∧
      R (.ok (.ret (Value.ref l))) s) :=
  .of_wp fun prog w A R s h => by
    obtain ⟨hp, g, d, tk, os⟩ := s
    obtain ⟨hl, h⟩ := h
    have f1 := AutoSeq1.idx_int
    have c1 : (items.isEmpty || (1 : Int) == 1) = true := by simp
    wp_walk using wpAny_loadPart' hl
    all_goals (try (refine wpAny_ite_true (decide_eq_true c1) ?_; wp_walk using wpAny_loadPart' hl))
    all_goals exact ⟨_, rfl, h⟩
theorem tup_mul_none (l : Addr) (items : Array Value) (n : Nat) (dd : Option Addr)
    (sl : Array (Option Value)) (x : Int) (u : Tok) (hx : x ≤ 0) (hx0 : -1000 ≤ x) (hi : items.isEmpty = false) :
    Meets (Builtin.«tuple.__mul__» ⟨[.ref l, .int x u], []⟩) (fun _ R s =>
      s.heap.get? l = some { cls := .type "tuple", dict := dd, data := .seq items n, slots := sl } ∧
      R (.ok (.ret (Value.ref s.heap.objs.size)))
        { s with heap := s.heap.push { cls := Value.type "tuple", data := Data.seq #[] }, toks := s.toks }) :=
  .of_wp fun prog w A R s h => by
    obtain ⟨hp, g, d, tk, os⟩ := s
    obtain ⟨hl, h⟩ := h
    have f1 := AutoSeq1.idx_int
    have c0 : (decide (x < -(2 ^ 63)) || decide (x ≥ 2 ^ 63)) = false := by
      rw [decide_eq_false (by omega), decide_eq_false (by omega)]; rfl
    have c1 : (items.isEmpty || x == 1) = false := by
      rw [hi, Bool.false_or]
      exact beq_eq_false_iff_ne.mpr (by omega)
    have c2 : (decide (x ≤ 0) || items.isEmpty) = true := by
      rw [decide_eq_true hx]; rfl
    wp_walk using wpAny_loadPart' hl
    repeat (first
      | (refine wpAny_ite_false (decide_eq_false (by rw [c0]; exact Bool.false_ne_true)) ?_; wp_walk using wpAny_loadPart' hl)
      | (refine wpAny_ite_false (decide_eq_false (by rw [c1]; exact Bool.false_ne_true)) ?_; wp_walk using wpAny_loadPart' hl)
      | (refine wpAny_ite_true (decide_eq_true c2) ?_; wp_walk using wpAny_loadPart' hl))
    exact ⟨_, rfl, h⟩
section
variable {X : Cx}
/-- t * k of a tuple with items, k small, of either sign -/
def rRepA (K : PySem.W.Frag) : R2 := fun x y H Q => ∃ (l : Addr) (k : Int) (xs : List V),
  x = .ref l ∧ y = .int k ∧ SqT K H l xs ∧ xs ≠ [] ∧ -1000 ≤ k ∧ k ≤ 1000 ∧ xs.length ≤ 1000 ∧
  ∀ (p : Addr) (H' : Hp), Same H H' → SqT K H' p (List.replicate k.toNat xs).flatten → Q (.ref p) H'
theorem op_repA : OpR X (binaryOp .Mult) (rRepA X.K) := by
  intro pins s σ H x y v u Q I rx ry h
  obtain ⟨l, k, xs, rfl, rfl, hT, hne, h1, h2, hz, q⟩ := h
  by_cases hk : 2 ≤ k
  · exact op_repT pins s σ H _ _ v u Q I rx ry ⟨l, k, xs, rfl, rfl, hT, hne, hk, h2, hz,
      fun p np => q p _ (Same.new np) (SqT.of upd_same)⟩
  · cases rx
    obtain ⟨t, rfl⟩ := ry
    obtain ⟨its, r, ⟨⟨cls, dd, data, sl⟩, ho, hc, n, hd⟩, hs⟩ := I.tuple hT
    simp only at hc hd
    subst hc hd
    by_cases hk1 : k = 1
    · subst hk1
      refine wpAny_binaryOp_repeat_ref (T := "tuple") (U := "int") (by decide) ⟨_, ho, rfl⟩
        (fun s' => typeIs_int s' 1 t) noFill_tuple_mul F.fills_int_mul F.slot_int_rmul repeat_tuple
        F.slot_int_index.lookup
        (call_meets F.slot_int_rmul (typeIs_int s 1 t) F.entry_int_rmul (F.args_int_rmul_2 _ _)
          (int_rmul_tuple 1 t l its.toArray n dd sl)
          ⟨ho, rfl, ⟨_, ho, rfl⟩, call_meets F.slot_tuple_mul ⟨_, ho, rfl⟩ F.entry_tuple_mul
            (F.args_tuple_mul_2 _ _) (tup_mul_one l its.toArray n dd sl t) ⟨ho, ?_⟩⟩)
      refine ⟨.ref l, H, I, rfl, q l H (Same.refl H) ?_⟩
      have e : (List.replicate (Int.toNat 1) xs).flatten = xs := by simp
      rw [e]
      exact hT
    · have hi : its.toArray.isEmpty = false := by
        have hle : its.length = xs.length := r.length.symm
        cases its with
        | nil => exact absurd (List.eq_nil_of_length_eq_zero hle.symm) hne
        | cons a b => rfl
      refine wpAny_binaryOp_repeat_ref (T := "tuple") (U := "int") (by decide) ⟨_, ho, rfl⟩
        (fun s' => typeIs_int s' k t) noFill_tuple_mul F.fills_int_mul F.slot_int_rmul repeat_tuple
        F.slot_int_index.lookup
        (call_meets F.slot_int_rmul (typeIs_int s k t) F.entry_int_rmul (F.args_int_rmul_2 _ _)
          (int_rmul_tuple k t l its.toArray n dd sl)
          ⟨ho, rfl, ⟨_, ho, rfl⟩, call_meets F.slot_tuple_mul ⟨_, ho, rfl⟩ F.entry_tuple_mul
            (F.args_tuple_mul_2 _ _) (tup_mul_none l its.toArray n dd sl k t (by omega) h1 hi) ⟨ho, ?_⟩⟩)
      have nf : H s.heap.objs.size = none := I.hok.fresh (Nat.le_refl _)
      refine ⟨.ref s.heap.objs.size, upd H s.heap.objs.size (.tup []), I.laid (t' := s.toks)
        (o := .tup []) (fun b ob q => Heap.get?_push_of_some _ q) (Nat.le_refl _) ?_, rfl, ?_⟩
      · exact ⟨Nat.zero_le _, [], .nil, IsTup.new _ _⟩
      · refine q _ _ (Same.new nf) ?_
        have e : (List.replicate k.toNat xs).flatten = [] := by
          rw [show k.toNat = 0 from by omega]
          rfl
        rw [e]
        exact SqT.of upd_same
end
end Gd
namespace Gd
open PySem PySem.Spec PyProof.Rows L2
/-! ### data of tuples -/
/-- all that is no list is kept -/
def Tk (H H' : Hp) : Prop := ∀ b o, (∀ xs, o ≠ .lst xs) → H b = some o → H' b = some o
theorem Tk.refl (H : Hp) : Tk H H := fun _ _ _ h => h
theorem Tk.trans {H H1 H2 : Hp} (x : Tk H H1) (y : Tk H1 H2) : Tk H H2 :=
  fun b o n h => y b o n (x b o n h)
theorem Tk.of {H H' : Hp} (e : Same H H') : Tk H H' := fun b o _ h => e b o h
theorem Tk.sb {a : Addr} {H H' : Hp} {xs : List V} (ha : H a = some (.lst xs)) (e : Sb a H H') :
    Tk H H' := fun b o n h => by
  refine e b o ?_ h
  rintro rfl
  rw [ha] at h
  cases h
  exact n _ rfl
theorem Tk.lst {H : Hp} {p : Addr} {o : HO} {xs : List V} (h : H p = some (.lst xs)) :
    Tk H (upd H p o) := fun b u n hb => by
  rw [upd_ne ?_]
  · exact hb
  · rintro rfl
    rw [h] at hb
    cases hb
    exact n _ rfl
mutual
/-- no list, no dict within -/
def tupOnly : PyData → Bool
  | .none | .bool _ | .int _ | .str _ => true
  | .tuple ds => tupAll ds
  | .list _ | .dict _ => false
def tupAll : List PyData → Bool
  | [] => true
  | d :: ds => tupOnly d && tupAll ds
end
theorem tupAll_iff : ∀ ds : List PyData, tupAll ds = true ↔ ∀ d ∈ ds, tupOnly d = true
  | [] => by simp [tupAll]
  | d :: ds => by
    simp only [tupAll, Bool.and_eq_true, List.mem_cons, forall_eq_or_imp, tupAll_iff ds]
theorem sqt_tk {K : PySem.W.Frag} {H H' : Hp} {a : Addr} {xs : List V} (e : Tk H H')
    (h : SqT K H a xs) : SqT K H' a xs := by
  rcases h with (h | ⟨o, h⟩) | h
  · exact Or.inl (Or.inl (e _ _ (fun _ z => by cases z) h))
  · exact Or.inl (Or.inr ⟨o, e _ _ (fun _ z => by cases z) h⟩)
  · exact Or.inr h
mutual
theorem Dp.tk {K : PySem.W.Frag} {H H' : Hp} (e : Tk H H') : ∀ (d : PyData) (v : V),
    tupOnly d = true → Dp K H v d → Dp K H' v d
  | .none, _, _, h => by cases h; exact .non
  | .bool b, _, _, h => by cases h; exact .bl b
  | .int i, _, _, h => by cases h; exact .int i
  | .str x, _, _, h => by cases h; exact .str x
  | .list ds, _, t, h => by simp [tupOnly] at t
  | .tuple ds, _, t, h => by
    cases h with
    | tup hs ha => exact .tup (sqt_tk e hs) (DpAll.tk e ds _ (by simpa [tupOnly] using t) ha)
  | .dict _, _, t, h => by simp [tupOnly] at t
theorem DpAll.tk {K : PySem.W.Frag} {H H' : Hp} (e : Tk H H') : ∀ (ds : List PyData)
    (vs : List V), tupAll ds = true → DpAll K H vs ds → DpAll K H' vs ds
  | [], _, _, h => by cases h; exact .nil
  | d :: ds, _, t, h => by
    have t' : tupOnly d = true ∧ tupAll ds = true := by simpa [tupAll] using t
    cases h with
    | cons h1 h2 => exact .cons (Dp.tk e d _ t'.1 h1) (DpAll.tk e ds _ t'.2 h2)
end
theorem dp_tup {K : PySem.W.Frag} {H : Hp} {v : V} {ds : List PyData} (h : Dp K H v (.tuple ds)) :
    ∃ a xs, v = .ref a ∧ SqT K H a xs ∧ DpAll K H xs ds := by
  cases h with
  | tup hs ha => exact ⟨_, _, rfl, hs, ha⟩
theorem dp_lst {K : PySem.W.Frag} {H : Hp} {v : V} {ds : List PyData} (h : Dp K H v (.list ds)) :
    ∃ a xs, v = .ref a ∧ SqL K H a xs ∧ DpAll K H xs ds := by
  cases h with
  | lst hs ha => exact ⟨_, _, rfl, hs, ha⟩
theorem dp_int {K : PySem.W.Frag} {H : Hp} {v : V} {i : Int} (h : Dp K H v (.int i)) : v = .int i := by
  cases h
  rfl
theorem dpa_cons {K : PySem.W.Frag} {H : Hp} {xs : List V} {d : PyData} {ds : List PyData}
    (h : DpAll K H xs (d :: ds)) : ∃ v vs, xs = v :: vs ∧ Dp K H v d ∧ DpAll K H vs ds := by
  cases h with
  | cons h1 h2 => exact ⟨_, _, rfl, h1, h2⟩
theorem dpa_nil {K : PySem.W.Frag} {H : Hp} {xs : List V} (h : DpAll K H xs []) : xs = [] := by
  cases h
  rfl
theorem dpa_ints {K : PySem.W.Frag} {H : Hp} : ∀ (r : List Int) (xs : List V),
    DpAll K H xs (r.map PyData.int) → xs = r.map V.int
  | [], xs, h => dpa_nil h
  | i :: r, xs, h => by
    obtain ⟨v, vs, rfl, h1, h2⟩ := dpa_cons h
    rw [dp_int h1, dpa_ints r vs h2]
    rfl
theorem dpa_len {K : PySem.W.Frag} {H : Hp} : ∀ (ds : List PyData) (xs : List V),
    DpAll K H xs ds → xs.length = ds.length
  | [], xs, h => by rw [dpa_nil h]; rfl
  | d :: ds, xs, h => by
    obtain ⟨v, vs, rfl, _, h2⟩ := dpa_cons h
    simp [dpa_len ds vs h2]
theorem dpa_get {K : PySem.W.Frag} {H : Hp} : ∀ (ds : List PyData) (xs : List V) (i : Nat) (x : V),
    DpAll K H xs ds → xs[i]? = some x → ∃ d, ds[i]? = some d ∧ Dp K H x d
  | [], xs, i, x, h, e => by rw [dpa_nil h] at e; simp at e
  | d :: ds, xs, i, x, h, e => by
    obtain ⟨v, vs, rfl, h1, h2⟩ := dpa_cons h
    cases i with
    | zero =>
      simp at e
      subst e
      exact ⟨d, rfl, h1⟩
    | succ i => exact dpa_get ds vs i x h2 (by simpa using e)
theorem dpa_at {K : PySem.W.Frag} {H : Hp} : ∀ (ds : List PyData) (xs : List V) (i : Nat) (d : PyData),
    DpAll K H xs ds → ds[i]? = some d → ∃ x, xs[i]? = some x ∧ Dp K H x d
  | [], xs, i, d, h, e => by simp at e
  | d0 :: ds, xs, i, d, h, e => by
    obtain ⟨v, vs, rfl, h1, h2⟩ := dpa_cons h
    cases i with
    | zero =>
      simp at e
      subst e
      exact ⟨v, rfl, h1⟩
    | succ i => exact dpa_at ds vs i d h2 (by simpa using e)
theorem dpa_snoc {K : PySem.W.Frag} {H : Hp} : ∀ (ds : List PyData) (xs : List V) (v : V) (d : PyData),
    DpAll K H xs ds → Dp K H v d → DpAll K H (xs ++ [v]) (ds ++ [d])
  | [], xs, v, d, h, e => by rw [dpa_nil h]; exact .cons e .nil
  | d0 :: ds, xs, v, d, h, e => by
    obtain ⟨x, vs, rfl, h1, h2⟩ := dpa_cons h
    exact .cons h1 (dpa_snoc ds vs v d h2 e)
theorem dpa_append {K : PySem.W.Frag} {H : Hp} : ∀ (ds es : List PyData) (xs ys : List V),
    DpAll K H xs ds → DpAll K H ys es → DpAll K H (xs ++ ys) (ds ++ es)
  | [], es, xs, ys, h, e => by rw [dpa_nil h]; exact e
  | d0 :: ds, es, xs, ys, h, e => by
    obtain ⟨x, vs, rfl, h1, h2⟩ := dpa_cons h
    exact .cons h1 (dpa_append ds es vs ys h2 e)
/-! ### rows and tables -/
def rowD (r : List Int) : PyData := .tuple (r.map .int)
def rowsD (rs : List (List Int)) : PyData := .tuple (rs.map rowD)
def tabD (w : Int) (rs : List (List Int)) : PyData := .tuple [.int w, rowsD rs]
theorem ints_tup : ∀ r : List Int, tupAll (r.map .int) = true
  | [] => by simp [tupAll]
  | i :: r => by simp [tupAll, tupOnly, ints_tup r]
theorem rowD_tup (r : List Int) : tupOnly (rowD r) = true := by simp [rowD, tupOnly, ints_tup]
theorem rows_tup : ∀ rs : List (List Int), tupAll (rs.map rowD) = true
  | [] => by simp [tupAll]
  | r :: rs => by simp [tupAll, rowD_tup, rows_tup rs]
theorem rowsD_tup (rs : List (List Int)) : tupOnly (rowsD rs) = true := by simp [rowsD, tupOnly, rows_tup]
theorem tabD_tup (w : Int) (rs : List (List Int)) : tupOnly (tabD w rs) = true := by
  simp [tabD, tupOnly, tupAll, rowsD_tup]
theorem dp_row {K : PySem.W.Frag} {H : Hp} {v : V} {r : List Int} (h : Dp K H v (rowD r)) :
    ∃ p, v = .ref p ∧ SqT K H p (r.map V.int) := by
  obtain ⟨a, xs, rfl, hs, ha⟩ := dp_tup h
  rw [dpa_ints r xs ha] at hs
  exact ⟨a, rfl, hs⟩
theorem dp_rows {K : PySem.W.Frag} {H : Hp} {v : V} {rs : List (List Int)} (h : Dp K H v (rowsD rs)) :
    ∃ p xs, v = .ref p ∧ SqT K H p xs ∧ DpAll K H xs (rs.map rowD) ∧ xs.length = rs.length := by
  obtain ⟨a, xs, rfl, hs, ha⟩ := dp_tup h
  exact ⟨a, xs, rfl, hs, ha, by rw [dpa_len _ _ ha, List.length_map]⟩
theorem dp_tab {K : PySem.W.Frag} {H : Hp} {v : V} {w : Int} {rs : List (List Int)}
    (h : Dp K H v (tabD w rs)) : ∃ p u, v = .ref p ∧ SqT K H p [.int w, u] ∧ Dp K H u (rowsD rs) := by
  obtain ⟨a, xs, rfl, hs, ha⟩ := dp_tup h
  obtain ⟨v1, vs, rfl, h1, h2⟩ := dpa_cons ha
  obtain ⟨v2, vs, rfl, h3, h4⟩ := dpa_cons h2
  rw [dpa_nil h4] at hs
  rw [dp_int h1] at hs
  exact ⟨a, v2, rfl, hs, h3⟩
theorem mk_row {K : PySem.W.Frag} {H : Hp} {p : Addr} {r : List Int} (h : SqT K H p (r.map V.int)) :
    Dp K H (.ref p) (rowD r) := by
  refine .tup h ?_
  clear h
  induction r with
  | nil => exact .nil
  | cons i r ih => exact .cons (.int i) ih
theorem mk_tab {K : PySem.W.Frag} {H : Hp} {p : Addr} {w : Int} {u : V} {rs : List (List Int)}
    (h : SqT K H p [.int w, u]) (hu : Dp K H u (rowsD rs)) : Dp K H (.ref p) (tabD w rs) :=
  .tup h (.cons (.int w) (.cons hu .nil))
theorem rows_at {K : PySem.W.Frag} {H : Hp} {xs : List V} {rs : List (List Int)} {i : Nat} {x : V}
    (h : DpAll K H xs (rs.map rowD)) (e : xs[i]? = some x) :
    rs[i]? = some (rs.getD i []) ∧ Dp K H x (rowD (rs.getD i [])) := by
  obtain ⟨d, h1, h2⟩ := dpa_get _ _ i x h e
  rw [List.getElem?_map] at h1
  cases q : rs[i]? with
  | none => rw [q] at h1; cases h1
  | some r =>
    rw [q] at h1
    cases h1
    have e2 : rs.getD i [] = r := by rw [List.getD_eq_getElem?_getD, q]; rfl
    rw [e2]
    exact ⟨rfl, h2⟩
theorem at_row {r : List Int} {i : Nat} (h : i < r.length) :
    atI (r.map V.int) (i : Int) = some (V.int (r.getD i 0)) := by
  refine atI_nat ?_
  rw [List.getElem?_map, List.getElem?_eq_getElem h, List.getD_eq_getElem?_getD,
    List.getElem?_eq_getElem h]
  rfl
/-! ### comprehensions that change nothing -/
section
variable {K : PySem.W.Frag}
/-- what stands at the list under way: the first i data -/
def Lw (K : PySem.W.Frag) (H : Hp) (f : Nat → PyData) (D : Addr) (i : Nat) (H' : Hp) : Prop :=
  Same H H' ∧ ∃ ys, H' D = some (.lst ys) ∧ DpAll K H' ys ((List.range i).map f)
theorem Lw.start {H : Hp} {f : Nat → PyData} {D : Addr} (h : H D = none) :
    Lw K H f D 0 (upd H D (.lst [])) := ⟨Same.new h, [], upd_same, .nil⟩
theorem Lw.len {H H' : Hp} {f : Nat → PyData} {D : Addr} {i : Nat} (h : Lw K H f D i H') :
    ∃ ys, H' D = some (.lst ys) ∧ ys.length = i := by
  obtain ⟨_, ys, h1, h2⟩ := h
  refine ⟨ys, h1, ?_⟩
  rw [dpa_len _ _ h2, List.length_map, List.length_range]
theorem Lw.turn {H H' H'' : Hp} {f : Nat → PyData} {D : Addr} {i : Nat} {y : V} (hD : H D = none)
    (ht : ∀ j, j ≤ i → tupOnly (f j) = true) (h : Lw K H f D i H') (e : Same H' H'')
    (hy : Dp K H'' y (f i)) (hi : i < 100000) :
    ∃ acc, H'' D = some (.lst acc) ∧ acc.length < sizeLine ∧
      Lw K H f D (i + 1) (upd H'' D (.lst (acc ++ [y]))) := by
  obtain ⟨h0, ys, h1, h2⟩ := h
  have h1' := e _ _ h1
  have hl : ys.length = i := by rw [dpa_len _ _ h2, List.length_map, List.length_range]
  refine ⟨ys, h1', by rw [hl]; exact Nat.lt_trans hi (by decide), Same.mut (h0.trans e) hD, _, upd_same, ?_⟩
  rw [List.range_succ, List.map_append]
  have tk : Tk H'' (upd H'' D (.lst (ys ++ [y]))) := Tk.lst h1'
  refine dpa_snoc _ _ _ _ (DpAll.tk tk _ _ ?_ (DpAll.same e _ _ h2)) (Dp.tk tk _ _ (ht i (Nat.le_refl _)) hy)
  rw [tupAll_iff]
  intro d hd
  obtain ⟨j, hj, rfl⟩ := List.mem_map.mp hd
  exact ht j (Nat.le_of_lt (List.mem_range.mp hj))
end
end Gd
namespace Gd
open PySem PySem.Spec PyProof.Rows L2
section
variable {K : PySem.W.Frag} {te : TE} {vs : List Nat} {σ : L2.St} {H : Hp} {D : Addr} {Qd : Hp → Prop}
theorem tupOnly_le {f : Nat → PyData} {n i : Nat} (ht : ∀ j, j < n → tupOnly (f j) = true) (hi : i < n) :
    ∀ j, j ≤ i → tupOnly (f j) = true := fun j hj => ht j (Nat.lt_of_le_of_lt hj hi)
/-- [e for x in range(n)], e data of tuples that changes nothing -/
theorem lcr {j n : Nat} (f : Nat → PyData) (hD : H D = none) (hn : n ≤ 50000)
    (ht : ∀ i, i < n → tupOnly (f i) = true)
    (hw : ∀ x, wipe ((wipe σ vs).set j (some x)) vs = wipe σ vs)
    (hs : ∀ (i : Nat) (H1 : Hp) (Q : VK), i < n → Same H H1 →
      (∀ y H2, Same H1 H2 → Dp K H2 y (f i) → Q y H2) →
      te ((wipe σ vs).set j (some (.int (0 + (i : Int))))) H1 Q)
    (hd : ∀ H' ys, Same H H' → H' D = some (.lst ys) → DpAll K H' ys ((List.range n).map f) → Qd H') :
    ∃ W : Nat → Nat → Hp → Prop, (∃ m, W 0 m (upd H D (.lst []))) ∧ ∀ i m H, W i m H →
      ((Itr 0 n).stop i H ∧ Qd H) ∨ ((Itr 0 n).go i H ∧ ∃ Nx : Hp → Prop,
        (∀ H', Nx H' → ∃ m', m' < m ∧ W (i + 1) m' H') ∧
        ∀ x H', (Itr 0 n).yld i H x H' → gName j x (wipe σ vs) H' fun σ2 H2 =>
          wipe σ2 vs = wipe σ vs ∧ tYes σ2 H2 fun b H3 =>
            if b = true then te σ2 H3 fun y H4 => ∃ acc, H4 D = some (.lst acc) ∧
              acc.length < sizeLine ∧ Nx (upd H4 D (.lst (acc ++ [y]))) else Nx H3) := by
  refine lc_range (lo := 0) (n := n) (Lw K H f D) (Lw.start hD) ?_ ?_
  · intro i H' hi p
    refine ⟨hw _, ?_⟩
    unfold tYes
    dsimp only
    rw [if_pos rfl]
    exact hs i H' _ hi p.1 fun y H2 e hy => Lw.turn hD (tupOnly_le ht hi) p e hy (by omega)
  · rintro H' ⟨h0, ys, h1, h2⟩
    exact hd H' ys h0 h1 h2
/-- [e for x in t], t a tuple -/
theorem lct {j : Nat} {a : Addr} {xs : List V} (f : Nat → PyData) (hD : H D = none)
    (hx : SqT K H a xs) (hn : xs.length ≤ 50000)
    (ht : ∀ i, i < xs.length → tupOnly (f i) = true)
    (hw : ∀ x, wipe ((wipe σ vs).set j (some x)) vs = wipe σ vs)
    (hs : ∀ (i : Nat) (x : V) (H1 : Hp) (Q : VK), xs[i]? = some x → Same H H1 →
      (∀ y H2, Same H1 H2 → Dp K H2 y (f i) → Q y H2) →
      te ((wipe σ vs).set j (some x)) H1 Q)
    (hd : ∀ H' ys, Same H H' → H' D = some (.lst ys) → DpAll K H' ys ((List.range xs.length).map f) → Qd H') :
    ∃ W : Nat → Nat → Hp → Prop, (∃ m, W 0 m (upd H D (.lst []))) ∧ ∀ i m H, W i m H →
      ((Itt K a).stop i H ∧ Qd H) ∨ ((Itt K a).go i H ∧ ∃ Nx : Hp → Prop,
        (∀ H', Nx H' → ∃ m', m' < m ∧ W (i + 1) m' H') ∧
        ∀ x H', (Itt K a).yld i H x H' → gName j x (wipe σ vs) H' fun σ2 H2 =>
          wipe σ2 vs = wipe σ vs ∧ tYes σ2 H2 fun b H3 =>
            if b = true then te σ2 H3 fun y H4 => ∃ acc, H4 D = some (.lst acc) ∧
              acc.length < sizeLine ∧ Nx (upd H4 D (.lst (acc ++ [y]))) else Nx H3) := by
  refine lc_tup (xs := xs) (Lw K H f D) (Lw.start hD) (fun i H' _ p => sqt_same p.1 hx) ?_ ?_
  · intro i x H' hi p
    have hlt := (List.getElem?_eq_some_iff.mp hi).1
    refine ⟨hw _, ?_⟩
    unfold tYes
    dsimp only
    rw [if_pos rfl]
    exact hs i x H' _ hi p.1 fun y H2 e hy => Lw.turn hD (tupOnly_le ht hlt) p e hy (by omega)
  · rintro H' ⟨h0, ys, h1, h2⟩
    exact hd H' ys h0 h1 h2
/-- [e for x, y in zip(t, u)], tuples of one length -/
theorem lcz {g : TG} {j1 j2 : Nat} {a b : Addr} {xs zs : List V} (f : Nat → PyData) (hD : H D = none)
    (hl : xs.length = zs.length) (hx : SqT K H a xs) (hz : SqT K H b zs) (hn : xs.length ≤ 50000)
    (ht : ∀ i, i < xs.length → tupOnly (f i) = true)
    (hw : ∀ x y, wipe (((wipe σ vs).set j1 (some x)).set j2 (some y)) vs = wipe σ vs)
    (hg : ∀ (T : Addr) (x y : V) (H1 : Hp) (R : L2.St → Hp → Prop), H1 T = some (.tup [x, y]) →
      R (((wipe σ vs).set j1 (some x)).set j2 (some y)) H1 → g (.ref T) (wipe σ vs) H1 R)
    (hs : ∀ (i : Nat) (x y : V) (H1 : Hp) (Q : VK), xs[i]? = some x → zs[i]? = some y → Same H H1 →
      (∀ y H2, Same H1 H2 → Dp K H2 y (f i) → Q y H2) →
      te (((wipe σ vs).set j1 (some x)).set j2 (some y)) H1 Q)
    (hd : ∀ H' ys, Same H H' → H' D = some (.lst ys) → DpAll K H' ys ((List.range xs.length).map f) → Qd H') :
    ∃ W : Nat → Nat → Hp → Prop, (∃ m, W 0 m (upd H D (.lst []))) ∧ ∀ i m H, W i m H →
      ((RZ.ItzT K a b).stop i H ∧ Qd H) ∨ ((RZ.ItzT K a b).go i H ∧ ∃ Nx : Hp → Prop,
        (∀ H', Nx H' → ∃ m', m' < m ∧ W (i + 1) m' H') ∧
        ∀ x H', (RZ.ItzT K a b).yld i H x H' → g x (wipe σ vs) H' fun σ2 H2 =>
          wipe σ2 vs = wipe σ vs ∧ tYes σ2 H2 fun b H3 =>
            if b = true then te σ2 H3 fun y H4 => ∃ acc, H4 D = some (.lst acc) ∧
              acc.length < sizeLine ∧ Nx (upd H4 D (.lst (acc ++ [y]))) else Nx H3) := by
  refine ⟨fun i m H' => m = xs.length - i ∧ i ≤ xs.length ∧ Lw K H f D i H',
    ⟨xs.length, rfl, Nat.zero_le _, Lw.start hD⟩, ?_⟩
  rintro i m H' ⟨rfl, hi, p⟩
  have qx := sqt_same p.1 hx
  have qz := sqt_same p.1 hz
  by_cases hlt : i < xs.length
  · have e1 : xs[i]? = some xs[i] := List.getElem?_eq_getElem hlt
    have hlt2 : i < zs.length := by omega
    have e2 : zs[i]? = some zs[i] := List.getElem?_eq_getElem hlt2
    refine .inr ⟨⟨xs, zs, _, _, qx, qz, e1, e2⟩, Lw K H f D (i + 1),
      fun H2 p2 => ⟨xs.length - (i + 1), by omega, rfl, hlt, p2⟩, ?_⟩
    intro v H2 hy
    obtain ⟨T, x', y', rfl, hT, rfl, f1, f2⟩ := hy
    have eT := Same.new (o := .tup [x', y']) hT
    refine hg T x' y' _ _ upd_same ⟨hw _ _, ?_⟩
    unfold tYes
    dsimp only
    rw [if_pos rfl]
    refine hs i x' y' _ _ (f1 xs qx) (f2 zs qz) (p.1.trans eT) ?_
    intro y H3 e hy
    exact Lw.turn hD (tupOnly_le ht hlt) p (eT.trans e) hy (by omega)
  · have e : i = xs.length := by omega
    subst e
    obtain ⟨h0, ys, h1, h2⟩ := p
    exact .inl ⟨⟨xs, zs, qx, qz, Or.inl (Nat.le_refl _)⟩, hd H' ys h0 h1 h2⟩
end
end Gd
namespace Gd
open PySem PySem.Spec PyProof.Rows L2
/-! ### tables of numbers, reckoned -/
def ent (rs : List (List Int)) (i k : Nat) : Int := (rs.getD i []).getD k 0
def unitRow (n k : Nat) : List Int := (List.range n).map fun c => if c = k then 1 else 0
def unitR (n : Nat) : List (List Int) := (List.range n).map (unitRow n)
def mulRow (r : List Int) (w : Nat) (rs : List (List Int)) : List Int :=
  (List.range w).map fun k => ((List.range r.length).map fun i => r.getD i 0 * ent rs i k).sum
def mulR (rs : List (List Int)) (w : Nat) (ts : List (List Int)) : List (List Int) :=
  (List.range rs.length).map fun i => mulRow (rs.getD i []) w ts
def turnR (w : Nat) (rs : List (List Int)) : List (List Int) :=
  (List.range w).map fun k => (List.range rs.length).map fun i => ent rs i k
/-- a table of this width, not too great -/
def Tb (w : Nat) (rs : List (List Int)) : Prop := rs.length ≤ 1000 ∧ w ≤ 1000 ∧ ∀ r ∈ rs, r.length = w
/-- numbers of less than 64 bits -/
def Sm (r : List Int) : Prop := ∀ x ∈ r, -(2 ^ 64) < x ∧ x < 2 ^ 64
theorem getD_mem {α : Type} {l : List α} {i : Nat} {d : α} (h : i < l.length) : l.getD i d ∈ l := by
  rw [List.getD_eq_getElem?_getD, List.getElem?_eq_getElem h]
  exact List.getElem_mem h
theorem Tb.len {w : Nat} {rs : List (List Int)} (h : Tb w rs) {i : Nat} (hi : i < rs.length) :
    (rs.getD i []).length = w := h.2.2 _ (getD_mem hi)
theorem Sm.at {r : List Int} (h : Sm r) (i : Nat) : -(2 ^ 64) < r.getD i 0 ∧ r.getD i 0 < 2 ^ 64 := by
  by_cases hi : i < r.length
  · exact h _ (getD_mem hi)
  · rw [List.getD_eq_getElem?_getD, List.getElem?_eq_none (by omega)]
    exact ⟨by decide, by decide⟩
theorem at_row0 {r : List Int} {i : Nat} (h : i < r.length) :
    atI (r.map V.int) (0 + (i : Int)) = some (V.int (r.getD i 0)) := by
  rw [Int.zero_add]
  exact at_row h
theorem mk_rowR {K : PySem.W.Frag} {H : Hp} {p : Addr} {ys : List V} {n : Nat} {g : Nat → Int}
    (h : SqT K H p ys) (ha : DpAll K H ys ((List.range n).map fun i => PyData.int (g i))) :
    Dp K H (.ref p) (rowD ((List.range n).map g)) := by
  unfold rowD
  rw [List.map_map]
  exact .tup h ha
theorem mk_rowsR {K : PySem.W.Frag} {H : Hp} {p : Addr} {ys : List V} {n : Nat} {g : Nat → List Int}
    (h : SqT K H p ys) (ha : DpAll K H ys ((List.range n).map fun i => rowD (g i))) :
    Dp K H (.ref p) (rowsD ((List.range n).map g)) := by
  unfold rowsD
  rw [List.map_map]
  exact .tup h ha
theorem intsR {K : PySem.W.Frag} {H : Hp} {ys : List V} {n : Nat} {g : Nat → Int}
    (ha : DpAll K H ys ((List.range n).map fun i => PyData.int (g i))) :
    ys = ((List.range n).map g).map V.int := by
  refine dpa_ints (K := K) (H := H) _ _ ?_
  rw [List.map_map]
  exact ha
theorem row_get {r : List Int} {i : Nat} {x : V} (e : (r.map V.int)[i]? = some x) :
    i < r.length ∧ x = .int (r.getD i 0) := by
  rw [List.getElem?_map] at e
  cases q : r[i]? with
  | none => rw [q] at e; cases e
  | some z =>
    rw [q] at e
    cases e
    refine ⟨(List.getElem?_eq_some_iff.mp q).1, ?_⟩
    rw [List.getD_eq_getElem?_getD, q]
    rfl
theorem rows_lt {K : PySem.W.Frag} {H : Hp} {xs : List V} {rs : List (List Int)} {i : Nat} {x : V}
    (h : DpAll K H xs (rs.map rowD)) (e : xs[i]? = some x) :
    i < rs.length ∧ ∃ p, x = .ref p ∧ SqT K H p ((rs.getD i []).map V.int) := by
  obtain ⟨h1, h2⟩ := rows_at h e
  exact ⟨(List.getElem?_eq_some_iff.mp h1).1, dp_row h2⟩
theorem rows_ix {K : PySem.W.Frag} {H : Hp} {xs : List V} {rs : List (List Int)} {i : Nat}
    (h : DpAll K H xs (rs.map rowD)) (hi : i < rs.length) :
    ∃ p, xs[i]? = some (.ref p) ∧ SqT K H p ((rs.getD i []).map V.int) := by
  have hl : xs.length = rs.length := by rw [dpa_len _ _ h, List.length_map]
  have e : xs[i]? = some xs[i] := List.getElem?_eq_getElem (by omega)
  obtain ⟨_, p, hp, hs⟩ := rows_lt h e
  rw [hp] at e
  exact ⟨p, e, hs⟩
end Gd
namespace Gd
open PySem PySem.Spec PyProof.Rows L2
/-! ### rules that name the written part by its letter -/
section
variable {X : Cx} {K : PySem.W.Frag}
theorem ix_tupK (hK : X.K = K) : IxR X (rIxT K) := by subst hK; exact ix_tup
theorem ix_listK (hK : X.K = K) : IxR X (rIxL K) := by subst hK; exact ix_list
theorem sl_listK (hK : X.K = K) : SlR X (rSlL K) := by subst hK; exact sl_list
theorem sl_tupK (hK : X.K = K) : SlR X (rSlA K) := by subst hK; exact sl_tupA
def rLenK (K : PySem.W.Frag) : List V → Hp → VK → Prop := fun xs H Q =>
  ∃ p ys, xs = [.ref p] ∧ (SqL K H p ys ∨ SqT K H p ys) ∧ Q (.int ys.length) H
theorem call_lenK (hK : X.K = K) : CallR X (.builtin "len") (rLenK K) := by
  subst hK; exact call_len_seq
def rTupleK (K : PySem.W.Frag) : List V → Hp → VK → Prop := fun xs H Q =>
  ∃ p ys, xs = [.ref p] ∧ ((SqL K H p ys ∧ ∀ l, H l = none → Q (.ref l) (upd H l (.tup ys))) ∨
    (SqT K H p ys ∧ Q (.ref p) H))
theorem call_tupleK (hK : X.K = K) : CallR X (.type "tuple") (rTupleK K) := by
  subst hK; exact call_tuple_of
def rListK (K : PySem.W.Frag) : List V → Hp → VK → Prop := fun xs H Q =>
  ∃ p ys, xs = [.ref p] ∧ (SqL K H p ys ∨ SqT K H p ys) ∧
    ∀ l, H l = none → Q (.ref l) (upd H l (.lst ys))
theorem call_listK (hK : X.K = K) : CallR X (.type "list") (rListK K) := by
  subst hK; exact call_list_of
theorem call_sumK (hK : X.K = K) (hc : X.calm = true) : CallR X (.builtin "sum") (rSum K) := by
  subst hK; exact cr_sum hc
theorem op_eqK (hK : X.K = K) (hu : X.A.units + 64 < cLine) : OpR X (compareOp .Eq) (rEqD K) := by
  subst hK; exact op_eqD hu
theorem op_neK (hK : X.K = K) (hu : X.A.units + 64 < cLine) : OpR X (compareOp .NotEq) (rNeD K) := by
  subst hK; exact op_neD hu
theorem op_catK (hK : X.K = K) : OpR X (binaryOp .Add) (rCatA K) := by subst hK; exact op_catA
theorem op_repK (hK : X.K = K) : OpR X (binaryOp .Mult) (rRepA K) := by subst hK; exact op_repA
theorem call_reprK (hK : X.K = K) (hG : X.A.guards = some []) (hu : X.A.units + 64 < cLine) :
    CallR X (.builtin "repr") (rRepr K) := by
  subst hK; exact call_repr hG hu
theorem pi_listK {tg l : Expr} {tl : TE} (hK : X.K = K) (hl : PE X l tl) : PI X tg l (iList K tl) := by
  subst hK; exact pi_list hl
theorem pi_tupK {tg l : Expr} {tl : TE} (hK : X.K = K) (hl : PE X l tl) : PI X tg l (iTup K tl) := by
  subst hK; exact pi_tup hl
theorem pi_zipK {e e2 : Expr} {ta : TA} {p pos tpos : Pos} {elts : List Expr} {kk : Nat}
    (hK : X.K = K) (hg : Gl X "zip") (hm : X.mg "zip" = none) (ha : PA X [e, e2] ta)
    (hs : starEach [e, e2] X.env = (false, eval e X.env) :: starEach [e2] X.env := by rfl)
    (hpl : (backTo pos (starEach [e2] X.env)).any (·.1) = false := by rfl) :
    PI X (.Tuple elts kk tpos) (.Call (.Name "zip" p) [e, e2] [] pos) (RZ.iZipA K ta) := by
  subst hK; exact RZ.pi_zipA hg hm ha hs hpl
theorem pg_tupK {es : List Expr} {k n : Nat} {t : TGs} {pos : Pos} (hK : X.K = K) (hc : X.calm = true)
    (h : PGs X es t) (hn : (assignEach es X.env).length = n := by rfl)
    (hst : (assignEach es X.env).findIdx? (·.1) = none := by rfl) :
    PG X (.Tuple es k pos) (gTup K n t) := by
  subst hK; exact pg_tup hc h hn hst
end
end Gd
namespace Gd
open PySem PySem.Spec PyProof.Rows L2
/-! ### readings told by data -/
section
variable {K : PySem.W.Frag} {H : Hp} {Q : VK} {x y : V} {ds es : List PyData} {d : PyData}
theorem ix_dp {i : Nat} (hx : Dp K H x (.tuple ds)) (hi : ds[i]? = some d)
    (k : ∀ v, Dp K H v d → Q v H) : rIxT K x (.int (i : Int)) H Q := by
  obtain ⟨a, xs, rfl, hs, ha⟩ := dp_tup hx
  obtain ⟨v, hv, hd⟩ := dpa_at _ _ i d ha hi
  exact ⟨a, xs, _, v, rfl, rfl, hs, atI_nat hv, k v hd⟩
theorem ix_dp0 {i : Nat} (hx : Dp K H x (.tuple ds)) (hi : ds[i]? = some d)
    (k : ∀ v, Dp K H v d → Q v H) : rIxT K x (.int (0 + (i : Int))) H Q := by
  rw [Int.zero_add]
  exact ix_dp hx hi k
theorem ix_dpI {i : Int} {j : Nat} (hj : i = (j : Int)) (hx : Dp K H x (.tuple ds)) (hi : ds[j]? = some d)
    (k : ∀ v, Dp K H v d → Q v H) : rIxT K x (.int i) H Q := by
  rw [hj]
  exact ix_dp hx hi k
theorem len_dp (hx : Dp K H x (.tuple ds)) (k : Q (.int (ds.length : Int)) H) : rLenK K [x] H Q := by
  obtain ⟨a, xs, rfl, hs, ha⟩ := dp_tup hx
  refine ⟨a, xs, rfl, .inr hs, ?_⟩
  rw [dpa_len _ _ ha]
  exact k
theorem cat_dp (hx : Dp K H x (.tuple ds)) (hy : Dp K H y (.tuple es))
    (hl : ds.length + es.length ≤ 100000)
    (k : ∀ v H', Same H H' → Dp K H' v (.tuple (ds ++ es)) → Q v H') : rCatA K x y H Q := by
  obtain ⟨a, xs, rfl, hs, ha⟩ := dp_tup hx
  obtain ⟨b, ys, rfl, hs2, hb⟩ := dp_tup hy
  have l1 := dpa_len _ _ ha
  have l2 := dpa_len _ _ hb
  refine ⟨a, b, xs, ys, rfl, rfl, hs, hs2, Nat.le_trans (by omega : _ ≤ 100000) (by decide), ?_, ?_, ?_⟩
  · intro h
    subst h
    have e : ds = [] := List.eq_nil_of_length_eq_zero (by rw [← l1]; rfl)
    subst e
    exact k _ _ (Same.refl H) (.tup hs2 hb)
  · intro _ h
    subst h
    have e : es = [] := List.eq_nil_of_length_eq_zero (by rw [← l2]; rfl)
    subst e
    exact k _ _ (Same.refl H) (by rw [List.append_nil]; exact .tup hs ha)
  · intro _ _ p np
    have e := Same.new (o := .tup (xs ++ ys)) np
    exact k _ _ e (.tup (SqT.of upd_same) (dpa_append _ _ _ _ (DpAll.same e _ _ ha) (DpAll.same e _ _ hb)))
theorem ints_rep (z : Int) : ∀ n : Nat, (List.replicate n [V.int z]).flatten = (List.replicate n z).map V.int
  | 0 => rfl
  | n + 1 => by
    rw [List.replicate_succ, List.replicate_succ, List.flatten_cons, List.map_cons, ints_rep z n]
    rfl
theorem rep_dp {z k : Int} (hx : Dp K H x (rowD [z])) (h1 : -1000 ≤ k) (h2 : k ≤ 1000)
    (q : ∀ v H', Same H H' → Dp K H' v (rowD (List.replicate k.toNat z)) → Q v H') :
    rRepA K x (.int k) H Q := by
  obtain ⟨p, rfl, hs⟩ := dp_row hx
  refine ⟨p, k, _, rfl, rfl, hs, (by simp), h1, h2, (by simp), ?_⟩
  intro p2 H2 e h
  have h' : SqT K H2 p2 ((List.replicate k.toNat z).map V.int) := by
    rw [← ints_rep]
    exact h
  exact q _ _ e (mk_row h')
theorem tupL_dp {p : Addr} {ys : List V} (h : H p = some (.lst ys)) (ha : DpAll K H ys ds)
    (k : ∀ v H', Same H H' → Dp K H' v (.tuple ds) → Q v H') : rTupleK K [.ref p] H Q := by
  refine ⟨p, ys, rfl, .inl ⟨SqL.of h, fun l nl => ?_⟩⟩
  have e := Same.new (o := .tup ys) nl
  exact k _ _ e (.tup (SqT.of upd_same) (DpAll.same e _ _ ha))
theorem listT_dp (hx : Dp K H x (.tuple ds))
    (k : ∀ l H' ys, H l = none → Same H H' → H' l = some (.lst ys) → DpAll K H' ys ds → Q (.ref l) H') :
    rListK K [x] H Q := by
  obtain ⟨a, xs, rfl, hs, ha⟩ := dp_tup hx
  refine ⟨a, xs, rfl, .inr hs, fun l nl => ?_⟩
  have e := Same.new (o := .lst xs) nl
  exact k l _ xs nl e upd_same (DpAll.same e _ _ ha)
theorem tup_dp {xs : List V} (ha : DpAll K H xs ds) (hl : ds.length ≤ 100000)
    (k : ∀ v H', Same H H' → Dp K H' v (.tuple ds) → Q v H') :
    xs.length ≤ sizeLine ∧ ∀ p, H p = none → Q (.ref p) (upd H p (.tup xs)) := by
  refine ⟨?_, fun p np => ?_⟩
  · rw [dpa_len _ _ ha]
    exact Nat.le_trans hl (by decide)
  · have e := Same.new (o := .tup xs) np
    exact k _ _ e (.tup (SqT.of upd_same) (DpAll.same e _ _ ha))
theorem lst_dp {xs : List V} (ha : DpAll K H xs ds) (hl : ds.length ≤ 100000)
    (k : ∀ l H', H l = none → Same H H' → H' l = some (.lst xs) → DpAll K H' xs ds → Q (.ref l) H') :
    xs.length ≤ sizeLine ∧ ∀ p, H p = none → Q (.ref p) (upd H p (.lst xs)) := by
  refine ⟨?_, fun p np => ?_⟩
  · rw [dpa_len _ _ ha]
    exact Nat.le_trans hl (by decide)
  · have e := Same.new (o := .lst xs) np
    exact k p _ np e upd_same (DpAll.same e _ _ ha)
theorem catL_dp {l b : Addr} {xs zs : List V} (h1 : H l = some (.lst xs)) (h2 : H b = some (.lst zs))
    (ha : DpAll K H xs ds) (hb : DpAll K H zs es) (hl : ds.length + es.length ≤ 100000)
    (k : ∀ p H', H p = none → Same H H' → H' p = some (.lst (xs ++ zs)) → DpAll K H' (xs ++ zs) (ds ++ es) → Q (.ref p) H') :
    rCat (.ref l) (.ref b) H Q := by
  have l1 := dpa_len _ _ ha
  have l2 := dpa_len _ _ hb
  refine ⟨l, b, xs, zs, rfl, rfl, h1, h2, Nat.le_trans (by omega : _ ≤ 100000) (by decide), fun p np => ?_⟩
  have e := Same.new (o := .lst (xs ++ zs)) np
  exact k p _ np e upd_same (dpa_append _ _ _ _ (DpAll.same e _ _ ha) (DpAll.same e _ _ hb))
theorem rows_getD {rs : List (List Int)} {i : Nat} (hi : i < rs.length) :
    (rs.map rowD)[i]? = some (rowD (rs.getD i [])) := by
  rw [List.getElem?_map, List.getElem?_eq_getElem hi, List.getD_eq_getElem?_getD, List.getElem?_eq_getElem hi]
  rfl
theorem row_getD {r : List Int} {i : Nat} (hi : i < r.length) :
    (r.map PyData.int)[i]? = some (.int (r.getD i 0)) := by
  rw [List.getElem?_map, List.getElem?_eq_getElem hi, List.getD_eq_getElem?_getD, List.getElem?_eq_getElem hi]
  rfl
theorem mapR_row {n : Nat} {g : Nat → Int} :
    PyData.tuple ((List.range n).map fun i => PyData.int (g i)) = rowD ((List.range n).map g) := by
  unfold rowD
  rw [List.map_map]
  rfl
theorem mapR_rows {n : Nat} {g : Nat → List Int} :
    PyData.tuple ((List.range n).map fun i => rowD (g i)) = rowsD ((List.range n).map g) := by
  unfold rowsD
  rw [List.map_map]
  rfl
end
end Gd
namespace Gd
open PySem PySem.Spec PyProof.Rows L2
theorem lst_new {K : PySem.W.Frag} {H : Hp} {l : Addr} {xs : List V} {ds : List PyData} (nl : H l = none)
    (ha : DpAll K H xs ds) : ∃ H', upd H l (.lst xs) = H' ∧ Same H H' ∧ H' l = some (.lst xs) ∧ DpAll K H' xs ds :=
  ⟨_, rfl, Same.new nl, upd_same, DpAll.same (Same.new nl) _ _ ha⟩
theorem tup_new {K : PySem.W.Frag} {H : Hp} {l : Addr} {xs : List V} {ds : List PyData} (nl : H l = none)
    (ha : DpAll K H xs ds) : ∃ H', upd H l (.tup xs) = H' ∧ Same H H' ∧ Dp K H' (.ref l) (.tuple ds) :=
  ⟨_, rfl, Same.new nl, .tup (SqT.of upd_same) (DpAll.same (Same.new nl) _ _ ha)⟩
end Gd
namespace Gd
open PySem PySem.Spec PyProof.Rows L2
theorem fmod_lt' {a b : Int} (hb : 0 < b) : a.fmod b < b := Int.fmod_lt_of_pos a hb
theorem fmod_nn {a b : Int} (hb : 0 < b) : 0 ≤ a.fmod b := Int.fmod_nonneg_of_pos a hb
/-! ### the feed -/
def spFeed (K : PySem.W.Frag) : Sp := fun vs H Q _ => ∃ (sc : Addr) (ns : List Int), vs = [.ref sc] ∧
  SqL K H sc (ns.map V.int) ∧ ns.length ≤ 63 ∧
  ∀ (a s : Addr) (H' : Hp), H a = none → H s = none → Same H H' → Fd H' a s 0 → Q (.ref a) H'
def spDraw : Sp := fun vs H Q _ => ∃ (a s : Addr) (m : Int) (n : Nat),
  vs = [.ref a, .int m] ∧ Fd H a s n ∧ n ≤ 1000000 ∧ 1 ≤ m ∧ m ≤ 1000000 ∧
  ∀ (r : Int) (H' : Hp), 0 ≤ r → r < m → Sb a H H' → Fd H' a s (n + 1) → Q (.int r) H'
theorem cut_ints (ns : List Int) (lo hi : Option Int) :
    ∃ ms : List Int, cutV (ns.map V.int) lo hi = ms.map V.int ∧ ms.length ≤ ns.length := by
  refine ⟨(ns.drop (HT.sIx ns.length 0 lo)).take (HT.sIx ns.length ns.length hi - HT.sIx ns.length 0 lo), ?_, ?_⟩
  · unfold cutV
    rw [List.length_map, List.map_take, List.map_drop]
  · rw [List.length_take, List.length_drop]
    omega
theorem ints_shaped (ns : List Int) : SeqAt.shaped (.list (ns.map PyData.int)) = true := by
  have h1 : ∀ l : List Int, PyData.canLayAll0 (l.map PyData.int) = true := by
    intro l
    induction l with
    | nil => simp [PyData.canLayAll0]
    | cons a l ih => simp [PyData.canLayAll0, PyData.canLay0, ih]
  have h2 : ∀ l : List Int, PyData.depthAll (l.map PyData.int) = 0 := by
    intro l
    induction l with
    | nil => simp [PyData.depthAll]
    | cons a l ih => simp [PyData.depthAll, PyData.depth, ih]
  simp [SeqAt.shaped, PyData.canLay0, PyData.depth, h1, h2]
theorem ints_nil (ns : List Int) : PyData.eqv (.list (ns.map PyData.int)) (.list []) = decide (ns = []) := by
  cases ns <;> simp [PyData.eqv, PyData.eqvAll]
theorem dp_ints {K : PySem.W.Frag} {H : Hp} : ∀ ns : List Int, DpAll K H (ns.map V.int) (ns.map PyData.int)
  | [] => .nil
  | n :: ns => .cons (.int n) (dp_ints ns)
theorem at_ints {ns : List Int} {i : Int} (h0 : 0 ≤ i) (h1 : i < ns.length) :
    ∃ z : Int, atI (ns.map V.int) i = some (V.int z) := by
  obtain ⟨j, rfl⟩ := Int.eq_ofNat_of_zero_le h0
  have hj : j < ns.length := by omega
  exact ⟨ns[j], atI_nat (by rw [List.getElem?_map, List.getElem?_eq_getElem hj]; rfl)⟩
theorem ref_ints {s : Addr} {ns : List Int} {r : List V} : HO.lst (ns.map V.int) ≠ HO.lst (.ref s :: r) := by
  intro z
  cases ns with
  | nil => cases z
  | cons n ns => cases z

/-- numbers drawn: from lo to below hi, by at most j draws -/
def spNum (lo hi : Int) (j : Nat) : Sp := fun vs H Q _ => ∃ (a s : Addr) (n : Nat),
  vs = [.ref a] ∧ Fd H a s n ∧ n + j ≤ 1000000 ∧
  ∀ (r : Int) (H' : Hp), lo ≤ r → r < hi → Sb a H H' → Fd H' a s (n + j) → Q (.int r) H'
theorem spNum_len {lo hi : Int} {j : Nat} : ∀ vs H Q E, spNum lo hi j vs H Q E → vs.length = 1 := by
  rintro vs H Q E ⟨a, s, n, rfl, _⟩
  rfl
section
variable {te : TE} {vs : List Nat} {σ : L2.St} {H : Hp} {D : Addr} {Qd : Hp → Prop}
/-- [e for x in range(m)], e a number that draws -/
theorem lcrF {j m n c : Nat} {a s : Addr} (Pz : Int → Prop) (hD : H D = none) (hf : Fd H a s n) (hm : m ≤ 50000)
    (hw : ∀ x, wipe ((wipe σ vs).set j (some x)) vs = wipe σ vs)
    (hs : ∀ (i : Nat) (H1 : Hp) (Q : VK), i < m → Sb a H H1 → Fd H1 a s (n + c * i) →
      (∀ (z : Int) (H2 : Hp), Sb a H1 H2 → Fd H2 a s (n + c * (i + 1)) → Pz z → Q (.int z) H2) →
      te ((wipe σ vs).set j (some (.int (0 + (i : Int))))) H1 Q)
    (hd : ∀ (H' : Hp) (ns : List Int), Sb a H H' → Fd H' a s (n + c * m) → H' D = some (.lst (ns.map V.int)) →
      ns.length = m → (∀ x ∈ ns, Pz x) → Qd H') :
    ∃ W : Nat → Nat → Hp → Prop, (∃ m, W 0 m (upd H D (.lst []))) ∧ ∀ i k H, W i k H →
      ((Itr 0 m).stop i H ∧ Qd H) ∨ ((Itr 0 m).go i H ∧ ∃ Nx : Hp → Prop,
        (∀ H', Nx H' → ∃ k', k' < k ∧ W (i + 1) k' H') ∧
        ∀ x H', (Itr 0 m).yld i H x H' → gName j x (wipe σ vs) H' fun σ2 H2 =>
          wipe σ2 vs = wipe σ vs ∧ tYes σ2 H2 fun b H3 =>
            if b = true then te σ2 H3 fun y H4 => ∃ acc, H4 D = some (.lst acc) ∧
              acc.length < sizeLine ∧ Nx (upd H4 D (.lst (acc ++ [y]))) else Nx H3) := by
  obtain ⟨dA, dS⟩ := hf.apart hD
  refine lc_range (lo := 0) (n := m) (fun i H' => Sb a H H' ∧ Fd H' a s (n + c * i) ∧ ∃ ns : List Int,
    H' D = some (.lst (ns.map V.int)) ∧ ns.length = i ∧ ∀ x ∈ ns, Pz x) ?_ ?_ ?_
  · exact ⟨Sb.new hD, (hf.upd dA dS).mono (by omega), [], upd_same, rfl, fun x h => by cases h⟩
  · rintro i H' hi ⟨sb, f, ns, h1, h2, h3⟩
    refine ⟨hw _, ?_⟩
    unfold tYes
    dsimp only
    rw [if_pos rfl]
    refine hs i H' _ hi sb f ?_
    intro z H2 sb2 f2 pz
    have h1' := sb2 _ _ dA h1
    refine ⟨_, h1', ?_, (Sb.trans sb sb2).mut hD, f2.upd dA dS, ns ++ [z], ?_, ?_, ?_⟩
    · rw [List.length_map, h2]
      exact Nat.lt_of_lt_of_le (show i < 50000 by omega) (by decide)
    · rw [upd_same, List.map_append]
      rfl
    · rw [List.length_append, h2]
      rfl
    · intro x hx
      rcases List.mem_append.mp hx with h | h
      · exact h3 x h
      · rw [List.mem_singleton.mp h]
        exact pz
  · rintro H' ⟨sb, f, ns, h1, h2, h3⟩
    exact hd H' ns sb f h1 h2 h3
end
/-- a drawn table's rows -/
def OkT (m w : Nat) (rs : List (List Int)) : Prop :=
  rs.length = m ∧ ∀ r ∈ rs, r.length = w ∧ ∀ x ∈ r, -99 ≤ x ∧ x ≤ 99
theorem OkT.tb {m w : Nat} {rs : List (List Int)} (h : OkT m w rs) (hm : m ≤ 1000) (hw : w ≤ 1000) : Tb w rs :=
  ⟨by rw [h.1]; exact hm, hw, fun r hr => (h.2 r hr).1⟩
theorem OkT.sm {m w : Nat} {rs : List (List Int)} (h : OkT m w rs) : ∀ r ∈ rs, Sm r := fun r hr x hx => by
  have := (h.2 r hr).2 x hx
  omega
end Gd
namespace Gd
open PySem PySem.Spec PyProof.Rows L2
theorem rows_shaped (rs : List (List Int)) : SeqAt.shaped (.list (rs.map rowD)) = true := by
  have a1 : ∀ l : List Int, PyData.canLayAll0 (l.map PyData.int) = true := by
    intro l
    induction l with
    | nil => simp [PyData.canLayAll0]
    | cons a l ih => simp [PyData.canLayAll0, PyData.canLay0, ih]
  have a2 : ∀ l : List Int, PyData.depthAll (l.map PyData.int) = 0 := by
    intro l
    induction l with
    | nil => simp [PyData.depthAll]
    | cons a l ih => simp [PyData.depthAll, PyData.depth, ih]
  have h1 : ∀ l : List (List Int), PyData.canLayAll0 (l.map rowD) = true := by
    intro l
    induction l with
    | nil => simp [PyData.canLayAll0]
    | cons a l ih => simp [PyData.canLayAll0, rowD, PyData.canLay0, a1, ih]
  have h2 : ∀ l : List (List Int), PyData.depthAll (l.map rowD) ≤ 1 := by
    intro l
    induction l with
    | nil => simp [PyData.depthAll]
    | cons a l ih =>
      simp only [List.map_cons, PyData.depthAll, rowD, PyData.depth, a2]
      omega
  have h3 := h2 rs
  show (PyData.canLay0 (.list (rs.map rowD)) && decide (PyData.depth (.list (rs.map rowD)) ≤ 64)) = true
  rw [Bool.and_eq_true]
  refine ⟨?_, decide_eq_true ?_⟩
  · simp only [PyData.canLay0]
    exact h1 rs
  · simp only [PyData.depth]
    omega
theorem rows_nil (rs : List (List Int)) : PyData.eqv (.list (rs.map rowD)) (.list []) = decide (rs = []) := by
  cases rs <;> simp [PyData.eqv, PyData.eqvAll]
end Gd
namespace Gd
open PySem PySem.Spec PyProof.Rows L2
/-! ### tables whose repr is known -/
def Rr (r : List Int) : Prop := r.length ≤ 8 ∧ ∀ x ∈ r, x.natAbs < 2 ^ 1900
def Rk (rs : List (List Int)) : Prop := rs.length ≤ 8 ∧ ∀ r ∈ rs, Rr r
theorem sh_row {r : List Int} (h : Rr r) : Sh 1 16000 (rowD r) := by
  refine (Sh.tup (k := 0) (n := 1901) (m := 8) ?_ (by rw [List.length_map]; exact h.1)).mono (by decide) (by decide)
  intro d hd
  obtain ⟨x, hx, rfl⟩ := List.mem_map.mp hd
  exact Sh.int (h.2 x hx)
theorem sh_rows {rs : List (List Int)} (h : Rk rs) : Sh 2 130000 (rowsD rs) := by
  refine (Sh.tup (k := 1) (n := 16000) (m := 8) ?_ (by rw [List.length_map]; exact h.1)).mono (by decide) (by decide)
  intro d hd
  obtain ⟨x, hx, rfl⟩ := List.mem_map.mp hd
  exact sh_row (h.2 x hx)
theorem sh_tab {w : Int} {rs : List (List Int)} (hw : w.natAbs < 2 ^ 1900) (h : Rk rs) : Sh 3 270000 (tabD w rs) := by
  refine (Sh.tup (k := 2) (n := 130000) (m := 2) ?_ (by simp)).mono (by decide) (by decide)
  intro d hd
  simp only [List.mem_cons, List.not_mem_nil, or_false] at hd
  rcases hd with rfl | rfl
  · exact (Sh.int hw).mono (by decide) (by decide)
  · exact sh_rows h
theorem nat_1900 {n : Nat} (h : n ≤ 1000000) : ((n : Int)).natAbs < 2 ^ 1900 :=
  Nat.lt_of_le_of_lt (by omega : _ ≤ 1000000) (Nat.lt_of_lt_of_le (by decide : 1000000 < 2 ^ 20) (Nat.pow_le_pow_right (by decide) (by decide)))
theorem int_1900 {x : Int} (h : -(10 ^ 30) ≤ x ∧ x ≤ 10 ^ 30) : x.natAbs < 2 ^ 1900 :=
  Nat.lt_of_le_of_lt (by omega : _ ≤ 10 ^ 30) (Nat.lt_of_lt_of_le (by decide : 10 ^ 30 < 2 ^ 100) (Nat.pow_le_pow_right (by decide) (by decide)))
/-- numbers from -b to b -/
def Bd (b : Int) (r : List Int) : Prop := ∀ x ∈ r, -b ≤ x ∧ x ≤ b
def Bs (b : Int) (rs : List (List Int)) : Prop := ∀ r ∈ rs, Bd b r
theorem Bd.at {b : Int} {r : List Int} (h : Bd b r) (hb : 0 ≤ b) (i : Nat) : -b ≤ r.getD i 0 ∧ r.getD i 0 ≤ b := by
  by_cases hi : i < r.length
  · exact h _ (getD_mem hi)
  · rw [List.getD_eq_getElem?_getD, List.getElem?_eq_none (by omega)]
    show -b ≤ 0 ∧ 0 ≤ b
    omega
theorem Bs.at {b : Int} {rs : List (List Int)} (h : Bs b rs) (hb : 0 ≤ b) (i k : Nat) : -b ≤ ent rs i k ∧ ent rs i k ≤ b := by
  unfold ent
  by_cases hi : i < rs.length
  · exact (h _ (getD_mem hi)).at hb k
  · rw [List.getD_eq_getElem?_getD (l := rs), List.getElem?_eq_none (by omega)]
    show -b ≤ ([] : List Int).getD k 0 ∧ ([] : List Int).getD k 0 ≤ b
    rw [List.getD_nil]
    omega
theorem sum_bd {b : Int} : ∀ l : List Int, Bd b l → -(b * l.length) ≤ l.sum ∧ l.sum ≤ b * l.length
  | [], _ => by simp
  | x :: l, h => by
    have h1 := h x (List.mem_cons_self ..)
    have h2 := sum_bd l (fun y hy => h y (List.mem_cons_of_mem _ hy))
    rw [List.sum_cons, List.length_cons]
    have e : b * ((l.length + 1 : Nat) : Int) = b * (l.length : Int) + b := by
      rw [Int.natCast_succ, Int.mul_add, Int.mul_one]
    rw [e]
    omega
theorem mul_bd {a b x y : Int} (ha : 0 ≤ a) (hb : 0 ≤ b) (hx : -a ≤ x ∧ x ≤ a) (hy : -b ≤ y ∧ y ≤ b) :
    -(a * b) ≤ x * y ∧ x * y ≤ a * b := by
  have h1 : x.natAbs ≤ a.natAbs := by omega
  have h2 : y.natAbs ≤ b.natAbs := by omega
  have h3 : (x * y).natAbs ≤ (a * b).natAbs := by
    rw [Int.natAbs_mul, Int.natAbs_mul]
    exact Nat.mul_le_mul h1 h2
  have h4 : 0 ≤ a * b := Int.mul_nonneg ha hb
  omega
theorem mulRow_bd {a b : Int} {r : List Int} {w : Nat} {ts : List (List Int)} {m : Nat} (ha : 0 ≤ a) (hb : 0 ≤ b)
    (hr : Bd a r) (ht : Bs b ts) (hm : r.length ≤ m) : Bd (a * b * m) (mulRow r w ts) := by
  intro x hx
  obtain ⟨k, hk, rfl⟩ := List.mem_map.mp hx
  have h0 : 0 ≤ a * b := Int.mul_nonneg ha hb
  have h := sum_bd (b := a * b) ((List.range r.length).map fun i => r.getD i 0 * ent ts i k) (by
    intro y hy
    obtain ⟨i, hi, rfl⟩ := List.mem_map.mp hy
    exact mul_bd ha hb (hr.at ha i) (ht.at hb i k))
  rw [List.length_map, List.length_range] at h
  have h2 : a * b * (r.length : Int) ≤ a * b * (m : Int) := Int.mul_le_mul_of_nonneg_left (by omega) h0
  omega
theorem mulRow_len {r : List Int} {w : Nat} {ts : List (List Int)} : (mulRow r w ts).length = w := by
  unfold mulRow
  rw [List.length_map, List.length_range]
theorem OkT.bs {m wd : Nat} {rs : List (List Int)} (h : OkT m wd rs) : Bs 99 rs := fun r hr x hx => (h.2 r hr).2 x hx
theorem rr_bd {r : List Int} (hl : r.length ≤ 8) (h : Bd 1000000 r) : Rr r :=
  ⟨hl, fun x hx => int_1900 (by have := h x hx; omega)⟩
theorem Bd.mono {a b : Int} {r : List Int} (h : Bd a r) (e : a ≤ b) : Bd b r := fun x hx => by
  have := h x hx
  omega
theorem rk_ok {m wd : Nat} {rs : List (List Int)} (h : OkT m wd rs) (hm : m ≤ 8) (hw : wd ≤ 8) : Rk rs :=
  ⟨by rw [h.1]; exact hm, fun r hr => rr_bd (by rw [(h.2 r hr).1]; exact hw) (Bd.mono (h.bs r hr) (by decide))⟩
theorem rk_unit {n : Nat} (h : n ≤ 8) : Rk (unitR n) := by
  refine ⟨by simp [unitR, h], fun r hr => ?_⟩
  obtain ⟨k, hk, rfl⟩ := List.mem_map.mp hr
  refine rr_bd (by simp [unitRow, h]) ?_
  intro x hx
  obtain ⟨c, hc, rfl⟩ := List.mem_map.mp hx
  split <;> decide
end Gd

set_option Elab.async false
set_option linter.all false
set_option maxRecDepth 100000
set_option maxHeartbeats 4000000
namespace K05
open PySem L2 Gd
def top (i : Nat) : Stmt := PySem.Challenge.pw_stepforms_k05_tables_reckoned.main.body.getD i (.Pass ⟨0, 0, 0, 0⟩)
abbrev s_unit : Stmt := top 1
abbrev n_unit : List Str := ["n", "k"]
abbrev p_unit : List Str := ["n"]
theorem sc_unit : FnScope n_unit p_unit (defScope s_unit) := ⟨rfl, rfl, rfl, by decide +kernel, rfl, by decide +kernel, by decide +kernel⟩
theorem bn_unit : BndOk "unit" s_unit p_unit := fun _ _ _ _ _ _ us hl => match us, hl with | [_], _ => rfl
abbrev s_unit_row : Stmt := top 2
abbrev n_unit_row : List Str := ["n", "k", "column"]
abbrev p_unit_row : List Str := ["n", "k"]
theorem sc_unit_row : FnScope n_unit_row p_unit_row (defScope s_unit_row) := ⟨rfl, rfl, rfl, by decide +kernel, rfl, by decide +kernel, by decide +kernel⟩
theorem bn_unit_row : BndOk "unit_row" s_unit_row p_unit_row := fun _ _ _ _ _ _ us hl => match us, hl with | [_, _], _ => rfl
abbrev s_row_times : Stmt := top 3
abbrev n_row_times : List Str := ["row", "table", "wide", "rows", "k", "number", "other"]
abbrev p_row_times : List Str := ["row", "table"]
theorem sc_row_times : FnScope n_row_times p_row_times (defScope s_row_times) := ⟨rfl, rfl, rfl, by decide +kernel, rfl, by decide +kernel, by decide +kernel⟩
theorem bn_row_times : BndOk "row_times" s_row_times p_row_times := fun _ _ _ _ _ _ us hl => match us, hl with | [_, _], _ => rfl
abbrev s_times : Stmt := top 4
abbrev n_times : List Str := ["one", "other", "row"]
abbrev p_times : List Str := ["one", "other"]
theorem sc_times : FnScope n_times p_times (defScope s_times) := ⟨rfl, rfl, rfl, by decide +kernel, rfl, by decide +kernel, by decide +kernel⟩
theorem bn_times : BndOk "times" s_times p_times := fun _ _ _ _ _ _ us hl => match us, hl with | [_, _], _ => rfl
abbrev s_turned_over : Stmt := top 5
abbrev n_turned_over : List Str := ["table", "wide", "rows", "k", "row"]
abbrev p_turned_over : List Str := ["table"]
theorem sc_turned_over : FnScope n_turned_over p_turned_over (defScope s_turned_over) := ⟨rfl, rfl, rfl, by decide +kernel, rfl, by decide +kernel, by decide +kernel⟩
theorem bn_turned_over : BndOk "turned_over" s_turned_over p_turned_over := fun _ _ _ _ _ _ us hl => match us, hl with | [_], _ => rfl
abbrev s_stacked : Stmt := top 6
abbrev n_stacked : List Str := ["one", "other"]
abbrev p_stacked : List Str := ["one", "other"]
theorem sc_stacked : FnScope n_stacked p_stacked (defScope s_stacked) := ⟨rfl, rfl, rfl, by decide +kernel, rfl, by decide +kernel, by decide +kernel⟩
theorem bn_stacked : BndOk "stacked" s_stacked p_stacked := fun _ _ _ _ _ _ us hl => match us, hl with | [_, _], _ => rfl
abbrev s_l_feed : Stmt := top 8
abbrev n_l_feed : List Str := ["_law_script"]
abbrev p_l_feed : List Str := ["_law_script"]
theorem sc_l_feed : FnScope n_l_feed p_l_feed (defScope s_l_feed) := ⟨rfl, rfl, rfl, by decide +kernel, rfl, by decide +kernel, by decide +kernel⟩
theorem bn_l_feed : BndOk "_law_feed" s_l_feed p_l_feed := fun _ _ _ _ _ _ us hl => match us, hl with | [_], _ => rfl
abbrev s_l_draw : Stmt := top 9
abbrev n_l_draw : List Str := ["_law_feed_here", "_law_many", "_law_found", "_law_cell", "_law_mixed"]
abbrev p_l_draw : List Str := ["_law_feed_here", "_law_many"]
theorem sc_l_draw : FnScope n_l_draw p_l_draw (defScope s_l_draw) := ⟨rfl, rfl, rfl, by decide +kernel, rfl, by decide +kernel, by decide +kernel⟩
theorem bn_l_draw : BndOk "_law_draw" s_l_draw p_l_draw := fun _ _ _ _ _ _ us hl => match us, hl with | [_, _], _ => rfl
abbrev s_l_number : Stmt := top 10
abbrev n_l_number : List Str := ["_law_feed_here", "_law_way"]
abbrev p_l_number : List Str := ["_law_feed_here"]
theorem sc_l_number : FnScope n_l_number p_l_number (defScope s_l_number) := ⟨rfl, rfl, rfl, by decide +kernel, rfl, by decide +kernel, by decide +kernel⟩
theorem bn_l_number : BndOk "_law_number" s_l_number p_l_number := fun _ _ _ _ _ _ us hl => match us, hl with | [_], _ => rfl
abbrev s_l_rows : Stmt := top 11
abbrev n_l_rows : List Str := ["_law_feed_here", "_law_many", "_law_wide", "_law_rows_here", "_law_k", "_law_way", "_law_row", "_law_j", "_law_number_here"]
abbrev p_l_rows : List Str := ["_law_feed_here", "_law_many", "_law_wide"]
theorem sc_l_rows : FnScope n_l_rows p_l_rows (defScope s_l_rows) := ⟨rfl, rfl, rfl, by decide +kernel, rfl, by decide +kernel, by decide +kernel⟩
theorem bn_l_rows : BndOk "_law_rows" s_l_rows p_l_rows := fun _ _ _ _ _ _ us hl => match us, hl with | [_, _, _], _ => rfl
abbrev s_l_table : Stmt := top 12
abbrev n_l_table : List Str := ["_law_feed_here", "_law_many", "_law_wide"]
abbrev p_l_table : List Str := ["_law_feed_here", "_law_many", "_law_wide"]
theorem sc_l_table : FnScope n_l_table p_l_table (defScope s_l_table) := ⟨rfl, rfl, rfl, by decide +kernel, rfl, by decide +kernel, by decide +kernel⟩
theorem bn_l_table : BndOk "_law_table" s_l_table p_l_table := fun _ _ _ _ _ _ us hl => match us, hl with | [_, _, _], _ => rfl
abbrev s_l_row_times : Stmt := top 13
abbrev n_l_row_times : List Str := ["_law_row", "_law_table_here", "_law_found", "_law_k", "_law_i"]
abbrev p_l_row_times : List Str := ["_law_row", "_law_table_here"]
theorem sc_l_row_times : FnScope n_l_row_times p_l_row_times (defScope s_l_row_times) := ⟨rfl, rfl, rfl, by decide +kernel, rfl, by decide +kernel, by decide +kernel⟩
theorem bn_l_row_times : BndOk "_law_row_times" s_l_row_times p_l_row_times := fun _ _ _ _ _ _ us hl => match us, hl with | [_, _], _ => rfl
abbrev s_l_turned : Stmt := top 14
abbrev n_l_turned : List Str := ["_law_table_here", "_law_columns", "_law_k", "_law_column", "_law_row"]
abbrev p_l_turned : List Str := ["_law_table_here"]
theorem sc_l_turned : FnScope n_l_turned p_l_turned (defScope s_l_turned) := ⟨rfl, rfl, rfl, by decide +kernel, rfl, by decide +kernel, by decide +kernel⟩
theorem bn_l_turned : BndOk "_law_turned" s_l_turned p_l_turned := fun _ _ _ _ _ _ us hl => match us, hl with | [_], _ => rfl
abbrev s_l_unit : Stmt := top 15
abbrev n_l_unit : List Str := ["_law_n", "_law_i"]
abbrev p_l_unit : List Str := ["_law_n"]
theorem sc_l_unit : FnScope n_l_unit p_l_unit (defScope s_l_unit) := ⟨rfl, rfl, rfl, by decide +kernel, rfl, by decide +kernel, by decide +kernel⟩
theorem bn_l_unit : BndOk "_law_unit" s_l_unit p_l_unit := fun _ _ _ _ _ _ us hl => match us, hl with | [_], _ => rfl
abbrev s_l_due : Stmt := top 16
abbrev n_l_due : List Str := ["_law_row", "_law_one", "_law_other", "_law_third", "_law_n", "_law_found", "_law_line"]
abbrev p_l_due : List Str := ["_law_row", "_law_one", "_law_other", "_law_third", "_law_n"]
theorem sc_l_due : FnScope n_l_due p_l_due (defScope s_l_due) := ⟨rfl, rfl, rfl, by decide +kernel, rfl, by decide +kernel, by decide +kernel⟩
theorem bn_l_due : BndOk "_law_due" s_l_due p_l_due := fun _ _ _ _ _ _ us hl => match us, hl with | [_, _, _, _, _], _ => rfl
abbrev s_l_told : Stmt := top 17
abbrev n_l_told : List Str := ["_law_row", "_law_one", "_law_other", "_law_third", "_law_n", "_law_found"]
abbrev p_l_told : List Str := ["_law_row", "_law_one", "_law_other", "_law_third", "_law_n"]
theorem sc_l_told : FnScope n_l_told p_l_told (defScope s_l_told) := ⟨rfl, rfl, rfl, by decide +kernel, rfl, by decide +kernel, by decide +kernel⟩
theorem bn_l_told : BndOk "_law_told" s_l_told p_l_told := fun _ _ _ _ _ _ us hl => match us, hl with | [_, _, _, _, _], _ => rfl
abbrev s_law : Stmt := top 18
abbrev n_law : List Str := ["_law_script", "_law_feed_here", "_law_k", "_law_many", "_law_middle", "_law_wide", "_law_one", "_law_other", "_law_third", "_law_row", "_law_n", "_law_kept", "_law_due_here", "_law_turn", "_law_j"]
abbrev p_law : List Str := ["_law_script"]
theorem sc_law : FnScope n_law p_law (defScope s_law) := ⟨rfl, rfl, rfl, by decide +kernel, rfl, by decide +kernel, by decide +kernel⟩
theorem bn_law : BndOk "law" s_law p_law := fun _ _ _ _ _ _ us hl => match us, hl with | [_], _ => rfl
structure Bn (mg : Str → Option Value) : Prop where
  tuple_ : mg "tuple" = none
  range_ : mg "range" = none
  sum_ : mg "sum" = none
  zip_ : mg "zip" = none
  len_ : mg "len" = none
  list_ : mg "list" = none
  repr_ : mg "repr" = none
variable {P : Program} {w : World} {K : PySem.W.Frag} {mg : Str → Option Value} {base : Heap}
def spRowTimes (K : PySem.W.Frag) : Sp := fun vs H Q _ => ∃ (v u : V) (r : List Int) (w : Nat) (rs : List (List Int)),
  vs = [v, u] ∧ Dp K H v (rowD r) ∧ Dp K H u (tabD w rs) ∧ Tb w rs ∧ r.length = rs.length ∧ Sm r ∧
  ∀ (y : V) (H' : Hp), Same H H' → Dp K H' y (rowD (mulRow r w rs)) → Q y H'
theorem spRowTimes_len : ∀ vs H Q E, spRowTimes K vs H Q E → vs.length = 2 := by
  rintro vs H Q E ⟨v, u, r, w, rs, rfl, _⟩
  rfl
theorem ok_row_times (D : Df K mg "row_times" s_row_times) (B : Bn mg) :
    Has P w K mg base "row_times" 1 p_row_times (spRowTimes K) := by
  refine has_of (k := 0) D sc_row_times bn_row_times spRowTimes_len ?_
  rintro f cdv A outer s0 H vs Q E hr ⟨v, u, r, wd, rs, rfl, hv, hu, hT, hl, hs, k⟩
  obtain ⟨pv', rfl, hrow⟩ := dp_row hv
  obtain ⟨pt, ur, rfl, htab, hrows⟩ := dp_tab hu
  obtain ⟨pr, xs, rfl, hxs, hall, hlen⟩ := dp_rows hrows
  have hT' := hT
  obtain ⟨t1, t2, t3⟩ := hT'
  refine ⟨_, (pss_cons (ps_asg (pv 1) (pg_tupK (K := K) (n := 2) (by rfl) (by rfl) (pgs_cons (pg_name (i := 2) sc_row_times.nd rfl (by first | exact Or.inl rfl | exact Or.inr rfl)) (pgs_cons (pg_name (i := 3) sc_row_times.nd rfl (by first | exact Or.inl rfl | exact Or.inr rfl)) pgs_nil))))
      (pss_one (ps_ret (pe_callTy (call_tupleK (K := K) (by rfl)) (by rfl) B.tuple_ (by decide +kernel) (pa_cons (pe_lc (own := [("k", 4)]) rfl sc_row_times.nd (pi_range1 (by rfl) B.range_ (pa_cons (pv 2) pa_nil)) (blkOk_by (own := [("k", 4)]) (N := n_row_times) (sc := defScope s_row_times) (by decide +kernel)) (fun _ _ _ _ _ => (pg_name (i := 4) sc_row_times.nd rfl (by first | exact Or.inl rfl | exact Or.inr rfl))) (fun _ _ _ _ _ => pts_nil) (fun _ _ _ _ _ => (pe_callB (call_sumK (K := K) (by rfl) (by rfl)) (by rfl) B.sum_ (by decide +kernel) (pa_cons (pe_lc (own := [("number", 5), ("other", 6)]) rfl sc_row_times.nd (pi_zipK (K := K) (by rfl) (by rfl) B.zip_ (pa_cons (pv 0) (pa_cons (pv 3) pa_nil))) (blkOk_by (own := [("number", 5), ("other", 6)]) (N := n_row_times) (sc := { kind := PySem.ScopeKind.function, names := [ (PySem.Str.ofString ".0", PySem.NameKind.local), (PySem.Str.ofString "k", PySem.NameKind.cell), (PySem.Str.ofString "sum", PySem.NameKind.globalImplicit), (PySem.Str.ofString "zip", PySem.NameKind.globalImplicit), (PySem.Str.ofString "row", PySem.NameKind.cell), (PySem.Str.ofString "rows", PySem.NameKind.cell)], isGenerator := false, isCoroutine := false, more := [] : PySem.Scope }) (by decide +kernel)) (fun _ _ _ _ _ => (pg_tupK (K := K) (n := 2) (by rfl) (by rfl) (pgs_cons (pg_name (i := 5) sc_row_times.nd rfl (by first | exact Or.inl rfl | exact Or.inr rfl)) (pgs_cons (pg_name (i := 6) sc_row_times.nd rfl (by first | exact Or.inl rfl | exact Or.inr rfl)) pgs_nil)))) (fun _ _ _ _ _ => pts_nil) (fun _ _ _ _ _ => (pe_op op_mul (pv 5) (pe_ix (ix_tupK (K := K) (by rfl)) (pv 6) (pv 4) (fun _ _ => rfl))))) pa_nil)))) pa_nil))))), ?_⟩
  refine ⟨_, rfl, pt, _, rfl, htab, rfl, _, _, rfl, _, _, rfl, rfl, ?_⟩
  refine ⟨_, rfl, (wd : Int), rfl, by omega, by omega, fun D1 hD1 => ?_⟩
  refine lcr (K := K) (n := wd) (fun c => .int (((List.range r.length).map fun i => r.getD i 0 * ent rs i c).sum)) hD1 (by omega)
    (fun _ _ => by simp [tupOnly]) (fun _ => rfl) ?_ ?_
  · intro c H1 Q1 hc e1 k1
    refine ⟨_, rfl, _, rfl, pv', pr, _, _, rfl, .inr ⟨sqt_same e1 hrow, sqt_same e1 hxs, fun D2 hD2 => ?_⟩⟩
    refine lcz (K := K) (j1 := 5) (j2 := 6) (fun i => .int (r.getD i 0 * ent rs i c)) hD2 (by rw [List.length_map, hlen, hl]) (sqt_same e1 hrow) (sqt_same e1 hxs)
      (by rw [List.length_map]; omega) (fun _ _ => by simp [tupOnly]) (fun _ _ => rfl) (fun T x y H2 R h2 r2 => ⟨T, _, rfl, SqT.of h2, rfl, _, _, rfl, _, _, rfl, rfl, r2⟩) ?_ ?_
    · intro i x y H2 Q2 hx hy e2 k2
      obtain ⟨hi, rfl⟩ := row_get hx
      obtain ⟨hi2, py, rfl, hpy⟩ := rows_lt (DpAll.same (e1.trans e2) _ _ hall) hy
      have hlc : c < (rs.getD i []).length := by rw [hT.len hi2]; exact hc
      refine ⟨_, rfl, _, rfl, _, rfl, py, _, _, _, rfl, rfl, hpy, at_row0 hlc, _, _, rfl, rfl, .inl (hs.at i), ?_⟩
      exact k2 _ _ (Same.refl _) (.int _)
    · intro H3 ys e3 h3 hd3
      rw [List.length_map] at hd3
      have ey := intsR hd3
      subst ey
      exact ⟨D2, _, rfl, SqL.of h3, k1 _ _ e3 (.int _)⟩
  · intro H1 ys e1 h1 hd1
    refine ⟨D1, ys, rfl, .inl ⟨SqL.of h1, fun p np => ?_⟩⟩
    have e2 := Same.new (o := .tup ys) np
    exact k _ _ (e1.trans e2) (mk_rowR (SqT.of upd_same) (DpAll.same e2 _ _ hd1))
end K05

set_option Elab.async false
set_option linter.all false
set_option maxRecDepth 100000
set_option maxHeartbeats 4000000
namespace K05
open PySem L2 Gd
variable {P : Program} {w : World} {K : PySem.W.Frag} {mg : Str → Option Value} {base : Heap}
def spTimes (K : PySem.W.Frag) : Sp := fun vs H Q _ => ∃ (v u : V) (w : Nat) (rs : List (List Int)) (w' : Nat) (ts : List (List Int)),
  vs = [v, u] ∧ Dp K H v (tabD w rs) ∧ Dp K H u (tabD w' ts) ∧ Tb w rs ∧ Tb w' ts ∧ w = ts.length ∧ (∀ r ∈ rs, Sm r) ∧
  ∀ (y : V) (H' : Hp), Same H H' → Dp K H' y (tabD w' (mulR rs w' ts)) → Q y H'
theorem ok_times (D : Df K mg "times" s_times) (B : Bn mg)
    (h_row_times : Has P w K mg base "row_times" 1 p_row_times (spRowTimes K)) :
    Has P w K mg base "times" 2 p_times (spTimes K) := by
  refine has_of (k := 1) D sc_times bn_times ?_ ?_
  · rintro vs H Q E ⟨v, u, w, rs, w', ts, rfl, _⟩
    rfl
  rintro f cdv A outer s0 H vs Q E hr ⟨v, u, wd, rs, w', ts, rfl, hv, hu, hT, hT', hw, hs, k⟩
  obtain ⟨a, ur, rfl, htab, hrows⟩ := dp_tab hv
  obtain ⟨pr, xs, rfl, hxs, hall, hlen⟩ := dp_rows hrows
  refine ⟨_, (pss_one (ps_ret (pe_tup (pa_cons (pe_ix (ix_tupK (K := K) (by rfl)) (pv 1) pe_int (fun _ _ => rfl)) (pa_cons (pe_callTy (call_tupleK (K := K) (by rfl)) (by rfl) B.tuple_ (by decide +kernel) (pa_cons (pe_lc (own := [("row", 2)]) rfl sc_times.nd (pi_tupK (K := K) (by rfl) (pe_ix (ix_tupK (K := K) (by rfl)) (pv 0) pe_int (fun _ _ => rfl))) (blkOk_by (own := [("row", 2)]) (N := n_times) (sc := defScope s_times) (by decide +kernel)) (fun _ _ _ _ _ => (pg_name (i := 2) sc_times.nd rfl (by first | exact Or.inl rfl | exact Or.inr rfl))) (fun _ _ _ _ _ => pts_nil) (fun _ _ _ _ _ => (pe_has (h_row_times) (hr.mono (by decide)) (by rfl) (pa_cons (pv 2) (pa_cons (pv 1) pa_nil))))) pa_nil)) pa_nil))))), ?_⟩
  refine ⟨_, rfl, ?_⟩
  try dsimp only [tC, tNil]
  refine ix_dp (i := 0) hu rfl fun z hz => ?_
  have ez := dp_int hz
  subst ez
  refine ⟨_, rfl, a, _, 1, _, rfl, rfl, htab, rfl, pr, rfl, ⟨_, hxs⟩, fun D1 hD1 => ?_⟩
  refine lct (K := K) (j := 2) (fun i => rowD (mulRow (rs.getD i []) w' ts)) hD1 hxs (by have := hT.1; omega) (fun _ _ => rowD_tup _) (fun _ => rfl) ?_ ?_
  · intro i x H1 Q1 hx e1 k1
    have hall1 := DpAll.same e1 _ _ hall
    obtain ⟨hi, hdx⟩ := rows_at hall1 hx
    have hlt := (List.getElem?_eq_some_iff.mp hi).1
    refine ⟨_, rfl, _, rfl, x, u, _, w', ts, rfl, hdx, Dp.same e1 _ _ hu, hT', ?_, hs _ (getD_mem hlt), fun y H2 e2 hy => k1 y H2 e2 hy⟩
    rw [hT.len hlt]
    exact hw
  · intro H1 ys e1 h1 hd1
    rw [hlen] at hd1
    try dsimp only [tC, tNil]
    refine tupL_dp h1 hd1 fun v2 H2 e2 hv2 => ?_
    rw [mapR_rows] at hv2
    try dsimp only [tC, tNil]
    refine tup_dp (K := K) (.cons (.int _) (.cons hv2 .nil)) (by simp) fun v3 H3 e3 hv3 => ?_
    exact k _ _ ((e1.trans e2).trans e3) hv3
def spTurn (K : PySem.W.Frag) : Sp := fun vs H Q _ => ∃ (v : V) (w : Nat) (rs : List (List Int)),
  vs = [v] ∧ Dp K H v (tabD w rs) ∧ Tb w rs ∧
  ∀ (y : V) (H' : Hp), Same H H' → Dp K H' y (tabD rs.length (turnR w rs)) → Q y H'
theorem spTurn_len : ∀ vs H Q E, spTurn K vs H Q E → vs.length = 1 := by
  rintro vs H Q E ⟨v, w, rs, rfl, _⟩
  rfl
theorem ok_turned_over (D : Df K mg "turned_over" s_turned_over) (B : Bn mg) :
    Has P w K mg base "turned_over" 1 p_turned_over (spTurn K) := by
  refine has_of (k := 0) D sc_turned_over bn_turned_over spTurn_len ?_
  rintro f cdv A outer s0 H vs Q E hr ⟨v, wd, rs, rfl, hv, hT, k⟩
  obtain ⟨a, ur, rfl, htab, hrows⟩ := dp_tab hv
  obtain ⟨pr, xs, rfl, hxs, hall, hlen⟩ := dp_rows hrows
  have hT' := hT
  obtain ⟨t1, t2, t3⟩ := hT'
  refine ⟨_, (pss_cons (ps_asg (pv 0) (pg_tupK (K := K) (n := 2) (by rfl) (by rfl) (pgs_cons (pg_name (i := 1) sc_turned_over.nd rfl (by first | exact Or.inl rfl | exact Or.inr rfl)) (pgs_cons (pg_name (i := 2) sc_turned_over.nd rfl (by first | exact Or.inl rfl | exact Or.inr rfl)) pgs_nil))))
      (pss_one (ps_ret (pe_tup (pa_cons (pe_callB (call_lenK (K := K) (by rfl)) (by rfl) B.len_ (by decide +kernel) (pa_cons (pv 2) pa_nil)) (pa_cons (pe_callTy (call_tupleK (K := K) (by rfl)) (by rfl) B.tuple_ (by decide +kernel) (pa_cons (pe_lc (own := [("k", 3)]) rfl sc_turned_over.nd (pi_range1 (by rfl) B.range_ (pa_cons (pv 1) pa_nil)) (blkOk_by (own := [("k", 3)]) (N := n_turned_over) (sc := defScope s_turned_over) (by decide +kernel)) (fun _ _ _ _ _ => (pg_name (i := 3) sc_turned_over.nd rfl (by first | exact Or.inl rfl | exact Or.inr rfl))) (fun _ _ _ _ _ => pts_nil) (fun _ _ _ _ _ => (pe_callTy (call_tupleK (K := K) (by rfl)) (by rfl) B.tuple_ (by decide +kernel) (pa_cons (pe_lc (own := [("row", 4)]) rfl sc_turned_over.nd (pi_tupK (K := K) (by rfl) (pv 2)) (blkOk_by (own := [("row", 4)]) (N := n_turned_over) (sc := { kind := PySem.ScopeKind.function, names := [ (PySem.Str.ofString ".0", PySem.NameKind.local), (PySem.Str.ofString "k", PySem.NameKind.cell), (PySem.Str.ofString "tuple", PySem.NameKind.globalImplicit), (PySem.Str.ofString "rows", PySem.NameKind.cell)], isGenerator := false, isCoroutine := false, more := [] : PySem.Scope }) (by decide +kernel)) (fun _ _ _ _ _ => (pg_name (i := 4) sc_turned_over.nd rfl (by first | exact Or.inl rfl | exact Or.inr rfl))) (fun _ _ _ _ _ => pts_nil) (fun _ _ _ _ _ => (pe_ix (ix_tupK (K := K) (by rfl)) (pv 4) (pv 3) (fun _ _ => rfl)))) pa_nil)))) pa_nil)) pa_nil)))))), ?_⟩
  refine ⟨_, rfl, a, _, rfl, htab, rfl, _, _, rfl, _, _, rfl, rfl, ?_⟩
  refine ⟨_, rfl, pr, _, rfl, .inr hxs, ?_⟩
  rw [hlen]
  refine ⟨_, rfl, (wd : Int), rfl, by omega, by omega, fun D1 hD1 => ?_⟩
  refine lcr (K := K) (n := wd) (fun c => rowD ((List.range rs.length).map fun i => ent rs i c)) hD1 (by omega) (fun _ _ => rowD_tup _) (fun _ => rfl) ?_ ?_
  · intro c H1 Q1 hc e1 k1
    have hxs1 := sqt_same e1 hxs
    refine ⟨_, rfl, pr, rfl, ⟨_, hxs1⟩, fun D2 hD2 => ?_⟩
    refine lct (K := K) (j := 4) (fun i => .int (ent rs i c)) hD2 hxs1 (by omega) (fun _ _ => by simp [tupOnly]) (fun _ => rfl) ?_ ?_
    · intro i x H2 Q2 hx e2 k2
      obtain ⟨hi, p, rfl, hp⟩ := rows_lt (DpAll.same (e1.trans e2) _ _ hall) hx
      have hlc : c < (rs.getD i []).length := by rw [hT.len hi]; exact hc
      exact ⟨_, rfl, _, rfl, p, _, _, _, rfl, rfl, hp, at_row0 hlc, k2 _ _ (Same.refl _) (.int _)⟩
    · intro H3 ys e3 h3 hd3
      rw [hlen] at hd3
      try dsimp only [tC, tNil]
      refine tupL_dp h3 hd3 fun v2 H2 e2 hv2 => ?_
      rw [mapR_row] at hv2
      exact k1 _ _ (e3.trans e2) hv2
  · intro H1 ys e1 h1 hd1
    try dsimp only [tC, tNil]
    refine tupL_dp h1 hd1 fun v2 H2 e2 hv2 => ?_
    rw [mapR_rows] at hv2
    try dsimp only [tC, tNil]
    refine tup_dp (K := K) (.cons (.int _) (.cons hv2 .nil)) (by simp) fun v3 H3 e3 hv3 => ?_
    exact k _ _ ((e1.trans e2).trans e3) hv3
def spStack (K : PySem.W.Frag) : Sp := fun vs H Q _ => ∃ (v u : V) (w w' : Nat) (rs ts : List (List Int)),
  vs = [v, u] ∧ Dp K H v (tabD w rs) ∧ Dp K H u (tabD w' ts) ∧ rs.length ≤ 1000 ∧ ts.length ≤ 1000 ∧
  ∀ (y : V) (H' : Hp), Same H H' → Dp K H' y (tabD w (rs ++ ts)) → Q y H'
theorem ok_stacked (D : Df K mg "stacked" s_stacked) (B : Bn mg) :
    Has P w K mg base "stacked" 1 p_stacked (spStack K) := by
  refine has_of (k := 0) D sc_stacked bn_stacked ?_ ?_
  · rintro vs H Q E ⟨v, u, w, w', rs, ts, rfl, _⟩
    rfl
  rintro f cdv A outer s0 H vs Q E hr ⟨v, u, wd, w', rs, ts, rfl, hv, hu, h1, h2, k⟩
  refine ⟨_, (pss_one (ps_ret (pe_tup (pa_cons (pe_ix (ix_tupK (K := K) (by rfl)) (pv 0) pe_int (fun _ _ => rfl)) (pa_cons (pe_op (op_catK (K := K) (by rfl)) (pe_ix (ix_tupK (K := K) (by rfl)) (pv 0) pe_int (fun _ _ => rfl)) (pe_ix (ix_tupK (K := K) (by rfl)) (pv 1) pe_int (fun _ _ => rfl))) pa_nil))))), ?_⟩
  refine ⟨_, rfl, ?_⟩
  try dsimp only [tC, tNil]
  refine ix_dp (i := 0) hv rfl fun z hz => ?_
  have ez := dp_int hz
  subst ez
  refine ⟨_, rfl, ?_⟩
  try dsimp only [tC, tNil]
  refine ix_dp (i := 1) hv rfl fun z1 hz1 => ?_
  refine ⟨_, rfl, ?_⟩
  try dsimp only [tC, tNil]
  refine ix_dp (i := 1) hu rfl fun z2 hz2 => ?_
  try dsimp only [tC, tNil]
  refine cat_dp hz1 hz2 (by rw [List.length_map, List.length_map]; omega) fun v3 H3 e3 hv3 => ?_
  try dsimp only [tC, tNil]
  refine tup_dp (K := K) (.cons (.int _) (.cons hv3 .nil)) (by simp) fun v4 H4 e4 hv4 => ?_
  refine k _ _ (e3.trans e4) ?_
  unfold tabD rowsD
  rw [List.map_append]
  exact hv4
def spUnitRow (K : PySem.W.Frag) : Sp := fun vs H Q _ => ∃ (n k : Nat), vs = [.int n, .int k] ∧ n ≤ 1000 ∧
  ∀ (y : V) (H' : Hp), Same H H' → Dp K H' y (rowD (unitRow n k)) → Q y H'
theorem ok_unit_row (D : Df K mg "unit_row" s_unit_row) (B : Bn mg) :
    Has P w K mg base "unit_row" 1 p_unit_row (spUnitRow K) := by
  refine has_of (k := 0) D sc_unit_row bn_unit_row ?_ ?_
  · rintro vs H Q E ⟨n, k, rfl, _⟩
    rfl
  rintro f cdv A outer s0 H vs Q E hr ⟨n, kk, rfl, hn, k⟩
  refine ⟨_, (pss_one (ps_ret (pe_callTy (call_tupleK (K := K) (by rfl)) (by rfl) B.tuple_ (by decide +kernel) (pa_cons (pe_lc (own := [("column", 2)]) rfl sc_unit_row.nd (pi_range1 (by rfl) B.range_ (pa_cons (pv 0) pa_nil)) (blkOk_by (own := [("column", 2)]) (N := n_unit_row) (sc := defScope s_unit_row) (by decide +kernel)) (fun _ _ _ _ _ => (pg_name (i := 2) sc_unit_row.nd rfl (by first | exact Or.inl rfl | exact Or.inr rfl))) (fun _ _ _ _ _ => pts_nil) (fun _ _ _ _ _ => (pe_ifExp (pt_cmpR op_eq (pv 2) (pv 1) (nomark _)) pe_int pe_int))) pa_nil)))), ?_⟩
  refine ⟨_, rfl, (n : Int), rfl, by omega, by omega, fun D1 hD1 => ?_⟩
  refine lcr (K := K) (n := n) (fun c => .int (if c = kk then 1 else 0)) hD1 (by omega) (fun _ _ => by simp [tupOnly]) (fun _ => rfl) ?_ ?_
  · intro c H1 Q1 hc e1 k1
    refine ⟨_, rfl, _, rfl, rfl, _, rfl, ?_⟩
    have k2 := k1 _ _ (Same.refl _) (.int _)
    by_cases h : c = kk
    · subst h
      rw [if_pos rfl] at k2
      rw [decide_eq_true (by rw [Int.zero_add])]
      exact iteT k2
    · rw [if_neg h] at k2
      rw [decide_eq_false (fun z => h (by have := V.int.inj z; omega))]
      exact iteF k2
  · intro H1 ys e1 h1 hd1
    try dsimp only [tC, tNil]
    refine tupL_dp h1 hd1 fun v2 H2 e2 hv2 => ?_
    rw [mapR_row] at hv2
    exact k _ _ (e1.trans e2) hv2
def spUnit (K : PySem.W.Frag) : Sp := fun vs H Q _ => ∃ (n : Nat), vs = [.int n] ∧ n ≤ 1000 ∧
  ∀ (y : V) (H' : Hp), Same H H' → Dp K H' y (tabD n (unitR n)) → Q y H'
theorem spUnit_len : ∀ vs H Q E, spUnit K vs H Q E → vs.length = 1 := by
  rintro vs H Q E ⟨n, rfl, _⟩
  rfl
theorem ok_unit (D : Df K mg "unit" s_unit) (B : Bn mg)
    (h_unit_row : Has P w K mg base "unit_row" 1 p_unit_row (spUnitRow K)) :
    Has P w K mg base "unit" 2 p_unit (spUnit K) := by
  refine has_of (k := 1) D sc_unit bn_unit spUnit_len ?_
  rintro f cdv A outer s0 H vs Q E hr ⟨n, rfl, hn, k⟩
  refine ⟨_, (pss_one (ps_ret (pe_tup (pa_cons (pv 0) (pa_cons (pe_callTy (call_tupleK (K := K) (by rfl)) (by rfl) B.tuple_ (by decide +kernel) (pa_cons (pe_lc (own := [("k", 1)]) rfl sc_unit.nd (pi_range1 (by rfl) B.range_ (pa_cons (pv 0) pa_nil)) (blkOk_by (own := [("k", 1)]) (N := n_unit) (sc := defScope s_unit) (by decide +kernel)) (fun _ _ _ _ _ => (pg_name (i := 1) sc_unit.nd rfl (by first | exact Or.inl rfl | exact Or.inr rfl))) (fun _ _ _ _ _ => pts_nil) (fun _ _ _ _ _ => (pe_has (h_unit_row) (hr.mono (by decide)) (by rfl) (pa_cons (pv 0) (pa_cons (pv 1) pa_nil))))) pa_nil)) pa_nil))))), ?_⟩
  refine ⟨_, rfl, _, rfl, (n : Int), rfl, by omega, by omega, fun D1 hD1 => ?_⟩
  refine lcr (K := K) (n := n) (fun c => rowD (unitRow n c)) hD1 (by omega) (fun _ _ => rowD_tup _) (fun _ => rfl) ?_ ?_
  · intro c H1 Q1 hc e1 k1
    refine ⟨_, rfl, _, rfl, n, c, ?_, hn, fun y H2 e2 hy => k1 y H2 e2 hy⟩
    rw [Int.zero_add]
    rfl
  · intro H1 ys e1 h1 hd1
    try dsimp only [tC, tNil]
    refine tupL_dp h1 hd1 fun v2 H2 e2 hv2 => ?_
    rw [mapR_rows] at hv2
    try dsimp only [tC, tNil]
    refine tup_dp (K := K) (.cons (.int _) (.cons hv2 .nil)) (by simp) fun v3 H3 e3 hv3 => ?_
    exact k _ _ ((e1.trans e2).trans e3) hv3
end K05

set_option Elab.async false
set_option linter.all false
set_option maxRecDepth 100000
set_option maxHeartbeats 4000000
namespace K05
open PySem L2 Gd
variable {P : Program} {w : World} {K : PySem.W.Frag} {mg : Str → Option Value} {base : Heap}
theorem ok_l_feed (D : Df K mg "_law_feed" s_l_feed) (B : Bn mg) :
    Has P w K mg base "_law_feed" 1 p_l_feed (spFeed K) := by
  refine has_of (k := 0) D sc_l_feed bn_l_feed ?_ ?_
  · rintro vs H Q E ⟨sc, ns, rfl, _⟩
    rfl
  · rintro f cdv A outer s H vs Q E hr ⟨sc, ns, rfl, hS, hl, k⟩
    refine ⟨_, (pss_one (ps_ret (pe_lst (pa_cons (pe_slice (sl_listK (K := K) (by rfl)) (pv 0) po_none (po_some pe_int)) (pa_cons pe_int (pa_cons pe_int (pa_cons pe_int pa_nil))))))), ?_⟩
    obtain ⟨ms, e, hm⟩ := cut_ints ns none (some 63)
    refine ⟨_, rfl, _, rfl, sc, _, rfl, hS, fun p np => ?_⟩
    refine ⟨by show 4 ≤ sizeLine; decide, fun a na => ?_⟩
    have npa : p ≠ a := fun z => by
      rw [z, upd_same] at na
      cases na
    have na0 : H a = none := by
      rw [upd_ne npa.symm] at na
      exact na
    refine k a p _ na0 np (Same.mut (Same.new np) na0) ⟨ms, 0, 0, 0, upd_same, ?_, by omega, by omega, by omega, by omega⟩
    rw [upd_ne npa, upd_same, e]
theorem ok_l_draw (D : Df K mg "_law_draw" s_l_draw) (B : Bn mg) :
    Has P w K mg base "_law_draw" 1 p_l_draw spDraw := by
  refine has_of (k := 0) D sc_l_draw bn_l_draw ?_ ?_
  · rintro vs H Q E ⟨a, s, m, n, rfl, _⟩
    rfl
  · rintro f cdv A outer s0 H vs Q E hr ⟨a, s, m, n, rfl, ⟨ns, p, l, c, ha, hs, hl, hp, hc, hcn⟩, hn, hm1, hm2, k⟩
    have nsa : s ≠ a := ne_of hs ha ref_ints
    refine ⟨_, (pss_cons (ps_asg (pe_op op_add (pe_ix (ix_listK (K := K) (by rfl)) (pv 0) pe_int (fun _ _ => rfl)) pe_int) (pg_sub (pv 0) pe_int set_list))
      (pss_cons (ps_if (pt_cmpR op_gt (pe_ix (ix_listK (K := K) (by rfl)) (pv 0) pe_int (fun _ _ => rfl)) pe_int (nomark _)) (pss_cons (ps_asg (pe_op op_modN (pe_ix (ix_listK (K := K) (by rfl)) (pv 0) pe_int (fun _ _ => rfl)) (pv 1)) (pg_name (i := 2) sc_l_draw.nd rfl (by first | exact Or.inl rfl | exact Or.inr rfl)))
      (pss_cons (ps_asg (pe_op op_fdivN (pe_ix (ix_listK (K := K) (by rfl)) (pv 0) pe_int (fun _ _ => rfl)) (pv 1)) (pg_sub (pv 0) pe_int set_list))
      (pss_one (ps_ret (pv 2))))) pss_nil)
      (pss_cons (ps_asg pe_int (pg_name (i := 3) sc_l_draw.nd rfl (by first | exact Or.inl rfl | exact Or.inr rfl)))
      (Evl.pss_cut (ps_if (pt_cmpR (op_neK (K := K) (by rfl) hr.units) (pe_ix (ix_listK (K := K) (by rfl)) (pv 0) pe_int (fun _ _ => rfl)) (pe_lst pa_nil) (nomark _)) (pss_one (ps_asg (pe_ix (ix_listK (K := K) (by rfl)) (pe_ix (ix_listK (K := K) (by rfl)) (pv 0) pe_int (fun _ _ => rfl)) (pe_op op_modN (pe_ix (ix_listK (K := K) (by rfl)) (pv 0) pe_int (fun _ _ => rfl)) (pe_callB (call_lenK (K := K) (by rfl)) (by rfl) B.len_ (by decide +kernel) (pa_cons (pe_ix (ix_listK (K := K) (by rfl)) (pv 0) pe_int (fun _ _ => rfl)) pa_nil))) (fun _ _ => rfl)) (pg_name (i := 3) sc_l_draw.nd rfl (by first | exact Or.inl rfl | exact Or.inr rfl)))) pss_nil)
      (pss_cons (ps_asg (pe_op op_add (pe_ix (ix_listK (K := K) (by rfl)) (pv 0) pe_int (fun _ _ => rfl)) pe_int) (pg_sub (pv 0) pe_int set_list))
      (Evl.pss_cut (ps_if (PW.pt (pw_and (pt_cmpR op_ge (pv 3) (pe_op op_pow pe_int pe_int) (nomark _)) (pw_and1 (pt_cmpR op_le (pe_ix (ix_listK (K := K) (by rfl)) (pv 0) pe_int (fun _ _ => rfl)) (pe_callB (call_lenK (K := K) (by rfl)) (by rfl) B.len_ (by decide +kernel) (pa_cons (pe_ix (ix_listK (K := K) (by rfl)) (pv 0) pe_int (fun _ _ => rfl)) pa_nil)) (nomark _))))) (pss_cons (ps_asg (pe_op op_fdivN (pv 3) (pv 1)) (pg_sub (pv 0) pe_int set_list))
      (pss_one (ps_ret (pe_op op_modN (pv 3) (pv 1))))) pss_nil)
      (pss_cons (ps_asg (pe_op op_modN (pe_op op_pow (pe_op op_add (pe_op op_modN (pv 3) pe_int) (pe_op op_mul pe_int (pe_ix (ix_listK (K := K) (by rfl)) (pv 0) pe_int (fun _ _ => rfl)))) pe_int) pe_int) (pg_name (i := 4) sc_l_draw.nd rfl (by first | exact Or.inl rfl | exact Or.inr rfl)))
      (pss_cons (ps_asg (pe_op op_modN (pe_op op_pow (pe_op op_add (pe_op op_mul (pv 4) (pe_op op_add (pe_op op_mul pe_int (pe_ix (ix_listK (K := K) (by rfl)) (pv 0) pe_int (fun _ _ => rfl))) pe_int)) pe_int) pe_int) pe_int) (pg_name (i := 4) sc_l_draw.nd rfl (by first | exact Or.inl rfl | exact Or.inr rfl)))
      (pss_one (ps_ret (pe_op op_modN (pe_op op_fdivN (pv 4) pe_int) (pv 1)))))))))))), ?_⟩
    refine ⟨_, rfl, a, _, 3, _, rfl, rfl, SqL.of ha, rfl, _, _, rfl, rfl, _, rfl, a, _, 3, 3, rfl, rfl, ha, rfl, ?_⟩
    have h1a : upd H a (.lst [.ref s, .int p, .int l, .int (c + 1)]) a = some (.lst [.ref s, .int p, .int l, .int (c + 1)]) := upd_same
    have h1s : upd H a (.lst [.ref s, .int p, .int l, .int (c + 1)]) s = some (.lst (ns.map V.int)) := by
      rw [upd_ne nsa]
      exact hs
    have sb1 : Sb a H (upd H a (.lst [.ref s, .int p, .int l, .int (c + 1)])) := Sb.own (Sb.refl a H)
    refine ⟨_, rfl, a, _, 2, _, rfl, rfl, SqL.of h1a, rfl, _, _, rfl, rfl, _, rfl, ?_⟩
    refine ite2 (fun hlt => ?_) (fun hle => ?_)
    · refine ⟨_, rfl, a, _, 2, _, rfl, rfl, SqL.of h1a, rfl, _, rfl, _, _, rfl, rfl, (by omega), ?_⟩
      refine ⟨_, rfl, a, _, 2, _, rfl, rfl, SqL.of h1a, rfl, _, rfl, _, _, rfl, rfl, ⟨by omega, by omega⟩, _, rfl, a, _, 2, 2, rfl, rfl, h1a, rfl, ?_⟩
      refine ⟨_, rfl, ?_⟩
      refine k _ _ (fmod_nn (by omega)) (fmod_lt' (by omega)) (Sb.own sb1) ⟨ns, p, _, c + 1, upd_same, ?_, hl, hp, by omega, by omega⟩
      rw [upd_ne nsa]
      exact h1s
    · refine ⟨fun σ' H' => ∃ z : Int, σ' = [some (.ref a), some (.int m), none, some (.int z), none] ∧
        H' a = some (.lst [.ref s, .int p, .int l, .int (c + 1)]) ∧ H' s = some (.lst (ns.map V.int)) ∧ Sb a H H', ?_, ?_⟩
      · refine ⟨_, rfl, a, _, 0, _, rfl, rfl, SqL.of h1a, rfl, Nat.zero_le _, fun q nq => ?_⟩
        have nqa : q ≠ a := fun z => by
          rw [z, upd_same] at nq
          cases nq
        have nq : upd H a (.lst [.ref s, .int p, .int l, .int (c + 1)]) q = none := nq
        have nqs : q ≠ s := fun z => by
          rw [z, h1s] at nq
          cases nq
        have h2a := upd_ne (H := upd H a (.lst [.ref s, .int p, .int l, .int (c + 1)])) (o := .lst []) nqa.symm
        have h2s := upd_ne (H := upd H a (.lst [.ref s, .int p, .int l, .int (c + 1)])) (o := .lst []) nqs.symm
        rw [h1a] at h2a
        rw [h1s] at h2s
        have sb2 := Sb.trans sb1 (Sb.new (a := a) (o := .lst []) nq)
        refine ⟨.list (ns.map PyData.int), .list [], .lst (SqL.of h2s) (dp_ints ns), .lst (SqL.of upd_same) .nil, ints_shaped ns, ints_shaped [], ?_⟩
        refine ⟨_, rfl, ?_⟩
        rw [ints_nil]
        refine ite2 (fun he => ?_) (fun he => ?_)
        · have hne : ns ≠ [] := by
            intro z
            rw [decide_eq_true z] at he
            cases he
          have hpos : 0 < ns.length := List.length_pos_iff.mpr hne
          obtain ⟨z, hz⟩ := at_ints (ns := ns) (i := p.fmod ((ns.map V.int).length : Int)) (fmod_nn (by rw [List.length_map]; omega))
            (by
              have := fmod_lt' (a := p) (b := ((ns.map V.int).length : Int)) (by rw [List.length_map]; omega)
              rw [List.length_map] at this ⊢
              exact this)
          refine ⟨_, rfl, a, _, 0, _, rfl, rfl, SqL.of h2a, rfl, _, rfl, a, _, 1, _, rfl, rfl, SqL.of h2a, rfl, _, rfl, a, _, 0, _, rfl, rfl, SqL.of h2a, rfl, s, _, rfl, .inl (SqL.of h2s), _, _, rfl, rfl, (by rw [List.length_map]; omega), s, _, _, _, rfl, rfl, SqL.of h2s, hz, ?_⟩
          exact ⟨z, rfl, h2a, h2s, sb2⟩
        · exact ⟨7, rfl, h2a, h2s, sb2⟩
      · rintro σ' H' ⟨z, rfl, h3a, h3s, sb3⟩
        refine ⟨_, rfl, a, _, 1, _, rfl, rfl, SqL.of h3a, rfl, _, _, rfl, rfl, _, rfl, a, _, 1, 1, rfl, rfl, h3a, rfl, ?_⟩
        have h4a : upd H' a (.lst [.ref s, .int (p + 1), .int l, .int (c + 1)]) a = some (.lst [.ref s, .int (p + 1), .int l, .int (c + 1)]) := upd_same
        have h4s : upd H' a (.lst [.ref s, .int (p + 1), .int l, .int (c + 1)]) s = some (.lst (ns.map V.int)) := by
          rw [upd_ne nsa]
          exact h3s
        have sb4 : Sb a H (upd H' a (.lst [.ref s, .int (p + 1), .int l, .int (c + 1)])) := Sb.own sb3
        refine ⟨fun σ'' H'' => σ'' = [some (.ref a), some (.int m), none, some (.int z), none] ∧ H'' = upd H' a (.lst [.ref s, .int (p + 1), .int l, .int (c + 1)]), ?_, ?_⟩
        · refine ⟨_, rfl, _, _, rfl, rfl, ⟨by decide, by decide, by decide⟩, _, _, rfl, rfl, _, rfl, ?_⟩
          refine ite2 (fun hz => ?_) (fun hz => ⟨rfl, rfl⟩)
          refine ⟨_, rfl, a, _, 1, _, rfl, rfl, SqL.of h4a, rfl, _, rfl, a, _, 0, _, rfl, rfl, SqL.of h4a, rfl, s, _, rfl, .inl (SqL.of h4s), _, _, rfl, rfl, _, rfl, ?_⟩
          refine ite2 (fun hw => ?_) (fun hw => ⟨rfl, rfl⟩)
          refine ⟨_, rfl, _, rfl, _, _, rfl, rfl, ⟨by omega, by omega⟩, _, rfl, a, _, 2, 2, rfl, rfl, h4a, rfl, ?_⟩
          refine ⟨_, rfl, _, rfl, _, _, rfl, rfl, (by omega), ?_⟩
          refine k _ _ (fmod_nn (by omega)) (fmod_lt' (by omega)) (Sb.own sb4) ⟨ns, p + 1, _, c + 1, upd_same, ?_, hl, by omega, by omega, by omega⟩
          rw [upd_ne nsa]
          exact h4s
        · rintro σ'' H'' ⟨rfl, rfl⟩
          have f1 := fmod_nn (a := z) (b := 2147483629) (by omega)
          have f2 := fmod_lt' (a := z) (b := 2147483629) (by omega)
          refine ⟨_, rfl, _, _, rfl, rfl, (by omega), _, rfl, a, _, 3, _, rfl, rfl, SqL.of h4a, rfl, _, _, rfl, rfl, .inl ⟨by omega, by omega⟩, _, _, rfl, rfl, _, _, rfl, rfl, ⟨by omega, by omega, by omega⟩, _, _, rfl, rfl, (by omega), ?_⟩
          have big : ∀ y : Int, 0 ≤ y → y < 2147483647 → (y * (2 * (c + 1) + 1) + 7919).natAbs < 2 ^ 64 := by
            intro y g1 g2
            have g3 : 0 ≤ y * (2 * (c + 1) + 1) := Int.mul_nonneg g1 (by omega)
            have g4 : y * (2 * (c + 1) + 1) ≤ 2147483647 * 2000005 := Int.mul_le_mul (by omega) (by omega) (by omega) (by omega)
            omega
          have sml : ∀ y : Int, 0 ≤ y → y < 2147483647 → -(2 ^ 64) < y ∧ y < 2 ^ 64 := by
            intro y g1 g2
            omega
          refine ⟨_, rfl, _, rfl, a, _, 3, _, rfl, rfl, SqL.of h4a, rfl, _, _, rfl, rfl, .inl ⟨by omega, by omega⟩, _, _, rfl, rfl, _, _, rfl, rfl, .inl (sml _ (fmod_nn (by omega)) (fmod_lt' (by omega))), _, _, rfl, rfl, _, _, rfl, rfl, ⟨by omega, by omega, big _ (fmod_nn (by omega)) (fmod_lt' (by omega))⟩, _, _, rfl, rfl, (by omega), ?_⟩
          refine ⟨_, rfl, _, _, rfl, rfl, ⟨by omega, by omega⟩, _, rfl, _, _, rfl, rfl, (by omega), ?_⟩
          exact k _ _ (fmod_nn (by omega)) (fmod_lt' (by omega)) sb4 ⟨ns, p + 1, l, c + 1, h4a, h4s, hl, by omega, by omega, by omega⟩

abbrev spNumber : Sp := spNum (-99) 100 2
theorem ok_l_number (D : Df K mg "_law_number" s_l_number) (B : Bn mg) (h_l_draw : Has P w K mg base "_law_draw" 1 p_l_draw spDraw) :
    Has P w K mg base "_law_number" 2 p_l_number spNumber := by
  refine has_of (k := 1) D sc_l_number bn_l_number spNum_len ?_
  rintro f cdv A outer s0 H vs Q E hr ⟨a, s, n, rfl, hF, hn, k⟩
  refine ⟨_, (pss_cons (ps_asg (pe_has (h_l_draw) (hr.mono (by decide)) (by rfl) (pa_cons (pv 0) (pa_cons pe_int pa_nil))) (pg_name (i := 1) sc_l_number.nd rfl (by first | exact Or.inl rfl | exact Or.inr rfl)))
      (pss_cons (ps_if (pt_cmpR op_eq (pv 1) pe_int (nomark _)) (pss_one (ps_ret pe_int)) pss_nil)
      (pss_one (ps_ret (pe_ifExp (pt_cmpR op_lt (pv 1) pe_int (nomark _)) (pe_op op_sub (pe_has (h_l_draw) (hr.mono (by decide)) (by rfl) (pa_cons (pv 0) (pa_cons pe_int pa_nil))) pe_int) (pe_op op_sub (pe_has (h_l_draw) (hr.mono (by decide)) (by rfl) (pa_cons (pv 0) (pa_cons pe_int pa_nil))) pe_int)))))), ?_⟩
  refine ⟨_, rfl, a, s, _, n, rfl, hF, by omega, by decide, by decide, fun r H1 r0 r1 sb1 f1 => ?_⟩
  refine ⟨_, rfl, rfl, _, rfl, ?_⟩
  refine ite2 (fun _ => ?_) (fun _ => ?_)
  · exact k _ _ (by decide) (by decide) sb1 (f1.mono (by omega))
  · refine ⟨_, rfl, _, _, rfl, rfl, _, rfl, ?_⟩
    refine ite2 (fun _ => ?_) (fun _ => ?_)
    · refine ⟨_, rfl, a, s, _, n + 1, rfl, f1, by omega, by decide, by decide, fun r2 H2 r20 r21 sb2 f2 => ?_⟩
      exact ⟨_, _, rfl, rfl, k _ _ (by omega) (by omega) (Sb.trans sb1 sb2) f2⟩
    · refine ⟨_, rfl, a, s, _, n + 1, rfl, f1, by omega, by decide, by decide, fun r2 H2 r20 r21 sb2 f2 => ?_⟩
      exact ⟨_, _, rfl, rfl, k _ _ (by omega) (by omega) (Sb.trans sb1 sb2) f2⟩
def OkR (w : Nat) (r : List Int) : Prop := r.length = w ∧ ∀ x ∈ r, -99 ≤ x ∧ x ≤ 99
def spRows (K : PySem.W.Frag) : Sp := fun vs H Q _ => ∃ (a s : Addr) (m wd n : Nat),
  vs = [.ref a, .int m, .int wd] ∧ Fd H a s n ∧ m ≤ 8 ∧ wd ≤ 8 ∧ n + 200 ≤ 1000000 ∧
  ∀ (v : V) (H' : Hp) (rs : List (List Int)), Sb a H H' → Fd H' a s (n + 200) → OkT m wd rs → Dp K H' v (rowsD rs) → Q v H'
theorem ok_l_rows (D : Df K mg "_law_rows" s_l_rows) (B : Bn mg) (h_l_draw : Has P w K mg base "_law_draw" 1 p_l_draw spDraw)
    (h_l_number : Has P w K mg base "_law_number" 2 p_l_number spNumber) :
    Has P w K mg base "_law_rows" 3 p_l_rows (spRows K) := by
  refine has_of (k := 2) D sc_l_rows bn_l_rows ?_ ?_
  · rintro vs H Q E ⟨a, s, m, wd, n, rfl, _⟩
    rfl
  rintro f cdv A outer s0 H vs Q E hr ⟨a, s, m, wd, n, rfl, hF, hm, hwd, hn, k⟩
  refine ⟨_, (pss_cons (ps_asg (pe_lst pa_nil) (pg_name (i := 3) sc_l_rows.nd rfl (by first | exact Or.inl rfl | exact Or.inr rfl)))
      (pss_cons (ps_for PassesOwn.never rfl (pi_range1 (by rfl) B.range_ (pa_cons (pv 1) pa_nil)) (pg_name (i := 4) sc_l_rows.nd rfl (by first | exact Or.inl rfl | exact Or.inr rfl)) (pss_cons (ps_asg (pe_has (h_l_draw) (hr.mono (by decide)) (by rfl) (pa_cons (pv 0) (pa_cons pe_int pa_nil))) (pg_name (i := 5) sc_l_rows.nd rfl (by first | exact Or.inl rfl | exact Or.inr rfl)))
      (pss_cons (ps_asg (pe_op (op_repK (K := K) (by rfl)) (pe_tup (pa_cons pe_int pa_nil)) (pv 2)) (pg_name (i := 6) sc_l_rows.nd rfl (by first | exact Or.inl rfl | exact Or.inr rfl)))
      (Evl.pss_cut (ps_if (PW.pt (pw_or (pt_cmpR op_gt (pv 5) pe_int (nomark _)) (pw_or1 (PW.pt (pw_and (pt_cmpR op_gt (pv 5) pe_int (nomark _)) (pw_and1 (pt_cmpR (op_eqK (K := K) (by rfl) hr.units) (pv 3) (pe_lst pa_nil) (nomark _)))))))) (pss_one (ps_asg (pe_callTy (call_tupleK (K := K) (by rfl)) (by rfl) B.tuple_ (by decide +kernel) (pa_cons (pe_lc (own := [("_law_j", 7)]) rfl sc_l_rows.nd (pi_range1 (by rfl) B.range_ (pa_cons (pv 2) pa_nil)) (blkOk_by (own := [("_law_j", 7)]) (N := n_l_rows) (sc := defScope s_l_rows) (by decide +kernel)) (fun _ _ _ _ _ => (pg_name (i := 7) sc_l_rows.nd rfl (by first | exact Or.inl rfl | exact Or.inr rfl))) (fun _ _ _ _ _ => pts_nil) (fun _ _ _ _ _ => (pe_has (h_l_number) (hr.mono (by decide)) (by rfl) (pa_cons (pv 0) pa_nil)))) pa_nil)) (pg_name (i := 6) sc_l_rows.nd rfl (by first | exact Or.inl rfl | exact Or.inr rfl)))) (pss_one (ps_if (pt_cmpR op_gt (pv 5) pe_int (nomark _)) (pss_cons (ps_asg (pe_ix (ix_listK (K := K) (by rfl)) (pv 3) (pe_has (h_l_draw) (hr.mono (by decide)) (by rfl) (pa_cons (pv 0) (pa_cons (pe_callB (call_lenK (K := K) (by rfl)) (by rfl) B.len_ (by decide +kernel) (pa_cons (pv 3) pa_nil)) pa_nil))) (fun _ _ => rfl)) (pg_name (i := 6) sc_l_rows.nd rfl (by first | exact Or.inl rfl | exact Or.inr rfl)))
      (pss_one (ps_asg (pe_ifExp (pt_cmpR op_eq (pv 5) pe_int (nomark _)) (pv 6) (pe_callTy (call_tupleK (K := K) (by rfl)) (by rfl) B.tuple_ (by decide +kernel) (pa_cons (pe_lc (own := [("_law_number_here", 8)]) rfl sc_l_rows.nd (pi_tupK (K := K) (by rfl) (pv 6)) (blkOk_by (own := [("_law_number_here", 8)]) (N := n_l_rows) (sc := defScope s_l_rows) (by decide +kernel)) (fun _ _ _ _ _ => (pg_name (i := 8) sc_l_rows.nd rfl (by first | exact Or.inl rfl | exact Or.inr rfl))) (fun _ _ _ _ _ => pts_nil) (fun _ _ _ _ _ => (pe_un un_neg (pv 8)))) pa_nil))) (pg_name (i := 6) sc_l_rows.nd rfl (by first | exact Or.inl rfl | exact Or.inr rfl))))) pss_nil)))
      (pss_one (ps_expr (pe_bm PySem.F.plainAttrs_list PySem.F.slot_list_append PySem.F.type_list_append mt_append (pv 3) (pa_cons (pv 6) pa_nil))))))))
      (pss_one (ps_ret (pe_callTy (call_tupleK (K := K) (by rfl)) (by rfl) B.tuple_ (by decide +kernel) (pa_cons (pv 3) pa_nil)))))), ?_⟩
  refine ⟨Nat.zero_le _, fun l nl => ?_⟩
  obtain ⟨la, ls⟩ := hF.apart nl
  refine ⟨_, rfl, (m : Int), rfl, by omega, by omega, for_range (lo := 0) (n := m) (fun i σ H' => ∃ (ys : List V) (rs : List (List Int)) (v4 v5 v6 v7 v8 : Option V),
    σ = [some (.ref a), some (.int m), some (.int wd), some (.ref l), v4, v5, v6, v7, v8] ∧ H' l = some (.lst ys) ∧ DpAll K H' ys (rs.map rowD) ∧
    OkT i wd rs ∧ Sb a H H' ∧ Fd H' a s (n + 20 * i)) ?_ ?_ ?_⟩
  · exact ⟨[], [], none, none, none, none, none, rfl, upd_same, .nil, ⟨rfl, fun r h => by cases h⟩, Sb.new nl, hF.upd la ls⟩
  · rintro i σ H' hi ⟨ys, rs, v4, v5, v6, v7, v8, rfl, hl, hall, hok, sb, f⟩
    have tall : tupAll (rs.map rowD) = true := rows_tup rs
    refine ⟨_, rfl, a, s, _, n + 20 * i, rfl, f, by omega, by decide, by decide, fun r H1 r0 r1 sb1 f1 => ?_⟩
    have hl1 := sb1 _ _ la hl
    have hall1 := DpAll.tk (f.tk sb1) _ _ tall hall
    refine ⟨by show 1 ≤ sizeLine; decide, fun p np => ⟨_, rfl, ?_⟩⟩
    refine rep_dp (K := K) (z := 0) (mk_row (r := [0]) (SqT.of upd_same)) (by omega) (by omega) fun v H2 e2 hv => ?_
    have e12 := (Same.new np).trans e2
    have hl2 := e12 _ _ hl1
    have hall2 := DpAll.same e12 _ _ hall1
    have f2 := f1.same e12
    have sb2 := (sb.trans sb1).trans (Sb.of (a := a) e12)
    -- a row of new numbers
    have body1 : ∀ (Hx : Hp) (D' : Ends), Hx l = some (.lst ys) → DpAll K Hx ys (rs.map rowD) → Sb a H Hx → Fd Hx a s (n + 20 * i + 1) →
        (∀ (u : V) (rw : List Int) (Hy : Hp), Hy l = some (.lst ys) → DpAll K Hy ys (rs.map rowD) → Sb a H Hy → Fd Hy a s (n + 20 * i + 19) → OkR wd rw → Dp K Hy u (rowD rw) →
          D'.nx [some (.ref a), some (.int m), some (.int wd), some (.ref l), some (.int (0 + (i : Int))), some (.int r), some u, v7, v8] Hy) →
        tAsg (tCB (rTupleK K) (tCons (tLc (iRng1 (tCons (tVar 2) tNil)) (gName 7) tYes (tCall spNumber [] E0 (tCons (tVar 0) tNil)) [7]) tNil)) (gName 6) D'
          [some (.ref a), some (.int m), some (.int wd), some (.ref l), some (.int (0 + (i : Int))), some (.int r), some v, v7, v8] Hx := by
      intro Hx D' hlx hallx sbx fx kx
      refine ⟨_, rfl, (wd : Int), rfl, by omega, by omega, fun D1 hD1 => ?_⟩
      refine lcrF (m := wd) (c := 2) (fun z => -99 ≤ z ∧ z ≤ 99) hD1 fx (by omega) (fun _ => rfl) ?_ ?_
      · intro j H3 Q3 hj sb3 f3 k3
        exact ⟨_, rfl, a, s, _, rfl, f3, by omega, fun z H4 z0 z1 sb4 f4 => k3 z H4 sb4 f4 ⟨z0, by omega⟩⟩
      · intro H3 ns sb3 f3 h3 hlen hb
        have tk3 := fx.tk sb3
        refine ⟨D1, _, rfl, .inl ⟨SqL.of h3, fun q nq => ?_⟩⟩
        have eq := Same.new (o := .tup (ns.map V.int)) nq
        refine kx _ ns _ (eq _ _ (sb3 _ _ la hlx)) (DpAll.same eq _ _ (DpAll.tk tk3 _ _ tall hallx)) ((sbx.trans sb3).trans (Sb.of eq)) ((f3.same eq).mono (by omega)) ⟨hlen, hb⟩ (mk_row (SqT.of upd_same))
    refine ⟨fun σ' H' => ∃ (u : V) (rw : List Int) (v4 v5 v7 v8 : Option V), σ' = [some (.ref a), some (.int m), some (.int wd), some (.ref l), v4, v5, some u, v7, v8] ∧
      H' l = some (.lst ys) ∧ DpAll K H' ys (rs.map rowD) ∧ Sb a H H' ∧ Fd H' a s (n + 20 * i + 19) ∧ OkR wd rw ∧ Dp K H' u (rowD rw), ?_, ?_⟩
    · refine ⟨_, rfl, _, _, rfl, rfl, _, rfl, ?_⟩
      refine ite2 (fun _ => ?_) (fun h2 => ?_)
      · exact body1 H2 _ hl2 hall2 sb2 (f2.mono (by omega)) fun u rw Hy g1 g2 g3 g4 g5 g6 => ⟨u, rw, _, _, _, _, rfl, g1, g2, g3, g4, g5, g6⟩
      · have h2 : ¬ r > 2 := fun z => h2 (decide_eq_true z)
        refine ⟨_, rfl, _, _, rfl, rfl, _, rfl, ?_⟩
        refine ite2 (fun h0 => ?_) (fun h0 => ?_)
        · have h0 : r > 0 := of_decide_eq_true h0
          refine ⟨_, rfl, Nat.zero_le _, fun q nq => ?_⟩
          have eq := Same.new (o := .lst []) nq
          have hl3 := eq _ _ hl2
          have hall3 := DpAll.same eq _ _ hall2
          have f3 := f2.same eq
          have sb3 := sb2.trans (Sb.of (a := a) eq)
          refine ⟨.list (rs.map rowD), .list [], .lst (SqL.of hl3) hall3, .lst (SqL.of upd_same) .nil, ?_, ints_shaped [], _, rfl, ?_⟩
          · exact rows_shaped rs
          rw [rows_nil]
          refine ite2 (fun he => ?_) (fun he => ?_)
          · exact body1 _ _ hl3 hall3 sb3 (f3.mono (by omega)) fun u rw Hy g1 g2 g3 g4 g5 g6 => ⟨u, rw, _, _, _, _, rfl, g1, g2, g3, g4, g5, g6⟩
          · have hne : rs ≠ [] := fun z => he (decide_eq_true z)
            have hpos : 0 < rs.length := List.length_pos_iff.mpr hne
            have hlen : ys.length = rs.length := by rw [dpa_len _ _ hall3, List.length_map]
            refine ⟨_, rfl, _, _, rfl, rfl, _, rfl, ?_⟩
            rw [decide_eq_true (show r > 0 from h0)]
            refine iteT ?_
            refine ⟨_, rfl, _, rfl, _, rfl, l, _, rfl, .inl (SqL.of hl3), ?_⟩
            have hb := hok.1
            refine ⟨a, s, _, n + 20 * i + 1, rfl, f3.mono (by omega), by omega, by omega, by omega, fun j H4 j0 j1 sb4 f4 => ?_⟩
            have hl4 := sb4 _ _ la hl3
            have hall4 := DpAll.tk (f3.tk sb4) _ _ tall hall3
            obtain ⟨j', rfl⟩ := Int.eq_ofNat_of_zero_le j0
            have hj' : j' < rs.length := by omega
            obtain ⟨x, hx, hdx⟩ := dpa_at _ _ j' _ hall4 (rows_getD hj')
            refine ⟨l, _, _, _, rfl, rfl, SqL.of hl4, atI_nat hx, ?_⟩
            have hmem := hok.2 _ (getD_mem (d := []) hj')
            have sb5 := sb3.trans sb4
            refine ⟨_, rfl, rfl, _, rfl, ?_⟩
            refine ite2 (fun _ => ?_) (fun _ => ?_)
            · exact ⟨_, rfl, x, _, _, _, _, _, rfl, hl4, hall4, sb5, f4.mono (by omega), hmem, hdx⟩
            · obtain ⟨px, rfl, hpx⟩ := dp_row hdx
              refine ⟨_, rfl, px, rfl, ⟨_, hpx⟩, fun D1 hD1 => ?_⟩
              refine lct (K := K) (j := 8) (fun c => .int (-((rs.getD j' []).getD c 0))) hD1 hpx (by rw [List.length_map, hmem.1]; omega) (fun _ _ => by simp [tupOnly]) (fun _ => rfl) ?_ ?_
              · intro c x H5 Q5 hx5 e5 k5
                obtain ⟨hc, rfl⟩ := row_get hx5
                exact ⟨_, rfl, _, rfl, k5 _ _ (Same.refl _) (.int _)⟩
              · intro H5 zs e5 h5 hd5
                rw [List.length_map] at hd5
                try dsimp only [tC, tNil]
                refine tupL_dp h5 hd5 fun v6 H6 e6 hv6 => ?_
                rw [mapR_row] at hv6
                have e56 := e5.trans e6
                refine ⟨v6, _, _, _, _, _, rfl, e56 _ _ hl4, DpAll.same e56 _ _ hall4, sb5.trans (Sb.of e56), (f4.same e56).mono (by omega), ⟨?_, ?_⟩, hv6⟩
                · rw [List.length_map, List.length_range]
                  exact hmem.1
                · intro z hz
                  obtain ⟨c, hc, rfl⟩ := List.mem_map.mp hz
                  have := hmem.2 _ (getD_mem (d := 0) (List.mem_range.mp hc))
                  omega
        · refine ⟨_, rfl, _, _, rfl, rfl, _, rfl, ?_⟩
          refine ite2 (fun hz => absurd hz h0) (fun _ => ?_)
          refine ⟨v, _, _, _, _, _, rfl, hl2, hall2, sb2, f2.mono (by omega), ⟨?_, ?_⟩, hv⟩
          · simp
          · intro x hx
            rw [(List.mem_replicate.mp hx).2]
            decide
    · rintro σ' H9 ⟨u, rw', w4, w5, w7, w8, rfl, hl9, hall9, sb9, f9, hok9, hu9⟩
      have hlen : ys.length = rs.length := by rw [dpa_len _ _ hall9, List.length_map]
      refine ⟨_, rfl, .inl ⟨rfl, _, SqL.of hl9⟩, _, rfl, l, _, _, rfl, rfl, hl9, ?_, ?_⟩
      · rw [hlen, hok.1]
        exact Nat.lt_of_lt_of_le (show i < 100 by omega) (by decide)
      · have tk := Tk.lst (o := .lst (ys ++ [u])) hl9
        refine ⟨ys ++ [u], rs ++ [rw'], _, _, _, _, _, rfl, upd_same, ?_, ⟨?_, ?_⟩, sb9.mut nl, (f9.upd la ls).mono (by omega)⟩
        · rw [List.map_append]
          exact dpa_snoc _ _ _ _ (DpAll.tk tk _ _ tall hall9) (Dp.tk tk _ _ (rowD_tup _) hu9)
        · rw [List.length_append, hok.1]
          rfl
        · intro r' hr'
          rcases List.mem_append.mp hr' with h | h
          · exact hok.2 r' h
          · rw [List.mem_singleton.mp h]
            exact hok9
  · rintro σ H' ⟨ys, rs, v4, v5, v6, v7, v8, rfl, hl, hall, hok, sb, f⟩
    refine ⟨_, rfl, ?_⟩
    try dsimp only [tC, tNil]
    refine tupL_dp hl hall fun v2 H2 e2 hv2 => ?_
    exact k _ _ rs (sb.trans (Sb.of e2)) ((f.same e2).mono (by omega)) hok hv2
def spTable (K : PySem.W.Frag) : Sp := fun vs H Q _ => ∃ (a s : Addr) (m wd n : Nat),
  vs = [.ref a, .int m, .int wd] ∧ Fd H a s n ∧ m ≤ 8 ∧ wd ≤ 8 ∧ n + 200 ≤ 1000000 ∧
  ∀ (v : V) (H' : Hp) (rs : List (List Int)), Sb a H H' → Fd H' a s (n + 200) → OkT m wd rs → Dp K H' v (tabD wd rs) → Q v H'
theorem ok_l_table (D : Df K mg "_law_table" s_l_table) (B : Bn mg) (h_l_rows : Has P w K mg base "_law_rows" 3 p_l_rows (spRows K)) :
    Has P w K mg base "_law_table" 4 p_l_table (spTable K) := by
  refine has_of (k := 3) D sc_l_table bn_l_table ?_ ?_
  · rintro vs H Q E ⟨a, s, m, wd, n, rfl, _⟩
    rfl
  rintro f cdv A outer s0 H vs Q E hr ⟨a, s, m, wd, n, rfl, hF, hm, hwd, hn, k⟩
  refine ⟨_, (pss_one (ps_ret (pe_tup (pa_cons (pv 2) (pa_cons (pe_has (h_l_rows) (hr.mono (by decide)) (by rfl) (pa_cons (pv 0) (pa_cons (pv 1) (pa_cons (pv 2) pa_nil)))) pa_nil))))), ?_⟩
  refine ⟨_, rfl, _, rfl, _, rfl, _, rfl, a, s, m, wd, n, rfl, hF, hm, hwd, hn, fun v H1 rs sb1 f1 hok hv => ?_⟩
  try dsimp only [tC, tNil]
  refine tup_dp (K := K) (.cons (.int _) (.cons hv .nil)) (by simp) fun v3 H3 e3 hv3 => ?_
  exact k _ _ rs (sb1.trans (Sb.of e3)) (f1.same e3) hok hv3

end K05

set_option Elab.async false
set_option linter.all false
set_option maxRecDepth 100000
set_option maxHeartbeats 4000000
namespace K05
open PySem L2 Gd
variable {P : Program} {w : World} {K : PySem.W.Frag} {mg : Str → Option Value} {base : Heap}
theorem ok_l_row_times (D : Df K mg "_law_row_times" s_l_row_times) (B : Bn mg) :
    Has P w K mg base "_law_row_times" 1 p_l_row_times (spRowTimes K) := by
  refine has_of (k := 0) D sc_l_row_times bn_l_row_times spRowTimes_len ?_
  rintro f cdv A outer s0 H vs Q E hr ⟨v, u, r, wd, rs, rfl, hv, hu, hT, hl, hs, k⟩
  obtain ⟨pv', rfl, hrow⟩ := dp_row hv
  obtain ⟨pt, ur, rfl, htab, hrows⟩ := dp_tab hu
  obtain ⟨pr, xs, rfl, hxs, hall, hlen⟩ := dp_rows hrows
  have hT' := hT
  obtain ⟨t1, t2, t3⟩ := hT'
  refine ⟨_, (pss_cons (ps_asg (pe_lst pa_nil) (pg_name (i := 2) sc_l_row_times.nd rfl (by first | exact Or.inl rfl | exact Or.inr rfl)))
      (pss_cons (ps_for PassesOwn.never rfl (pi_range1 (by rfl) B.range_ (pa_cons (pe_ix (ix_tupK (K := K) (by rfl)) (pv 1) pe_int (fun _ _ => rfl)) pa_nil)) (pg_name (i := 3) sc_l_row_times.nd rfl (by first | exact Or.inl rfl | exact Or.inr rfl)) (pss_one (ps_expr (pe_bm PySem.F.plainAttrs_list PySem.F.slot_list_append PySem.F.type_list_append mt_append (pv 2) (pa_cons (pe_callB (call_sumK (K := K) (by rfl) (by rfl)) (by rfl) B.sum_ (by decide +kernel) (pa_cons (pe_lc (own := [("_law_i", 4)]) rfl sc_l_row_times.nd (pi_range1 (by rfl) B.range_ (pa_cons (pe_callB (call_lenK (K := K) (by rfl)) (by rfl) B.len_ (by decide +kernel) (pa_cons (pv 0) pa_nil)) pa_nil)) (blkOk_by (own := [("_law_i", 4)]) (N := n_l_row_times) (sc := defScope s_l_row_times) (by decide +kernel)) (fun _ _ _ _ _ => (pg_name (i := 4) sc_l_row_times.nd rfl (by first | exact Or.inl rfl | exact Or.inr rfl))) (fun _ _ _ _ _ => pts_nil) (fun _ _ _ _ _ => (pe_op op_mul (pe_ix (ix_tupK (K := K) (by rfl)) (pv 0) (pv 4) (fun _ _ => rfl)) (pe_ix (ix_tupK (K := K) (by rfl)) (pe_ix (ix_tupK (K := K) (by rfl)) (pe_ix (ix_tupK (K := K) (by rfl)) (pv 1) pe_int (fun _ _ => rfl)) (pv 4) (fun _ _ => rfl)) (pv 3) (fun _ _ => rfl))))) pa_nil)) pa_nil)))))
      (pss_one (ps_ret (pe_callTy (call_tupleK (K := K) (by rfl)) (by rfl) B.tuple_ (by decide +kernel) (pa_cons (pv 2) pa_nil)))))), ?_⟩
  refine ⟨Nat.zero_le _, fun l nl => ?_⟩
  have e0 := Same.new (o := .lst []) nl
  refine ⟨_, rfl, pt, _, 0, _, rfl, rfl, sqt_same e0 htab, rfl, (wd : Int), rfl, by omega, by omega, for_range (lo := 0) (n := wd) (fun i σ H' =>
    ∃ v3 v4 : Option V, σ = [some (.ref pv'), some (.ref pt), some (.ref l), v3, v4] ∧ Same H H' ∧
      H' l = some (.lst (((List.range i).map fun c => ((List.range r.length).map fun i => r.getD i 0 * ent rs i c).sum).map V.int))) ?_ ?_ ?_⟩
  · exact ⟨none, none, rfl, e0, upd_same⟩
  · rintro c σ H1 hc ⟨v3, v4, rfl, e1, h1⟩
    refine ⟨_, rfl, .inl ⟨rfl, _, SqL.of h1⟩, ?_⟩
    refine ⟨_, rfl, pv', _, rfl, .inr (sqt_same e1 hrow), _, rfl, ?_, ?_, fun D1 hD1 => ?_⟩
    · rw [List.length_map]; omega
    · rw [List.length_map]; omega
    refine lcr (K := K) (n := (r.map V.int).length) (fun i => .int (r.getD i 0 * ent rs i c)) hD1 (by rw [List.length_map]; omega) (fun _ _ => by simp [tupOnly]) (fun _ => rfl) ?_ ?_
    · intro i H2 Q2 hi e2 k2
      rw [List.length_map] at hi
      have e12 := e1.trans e2
      have hi2 : i < rs.length := by omega
      obtain ⟨py, hy, hpy⟩ := rows_ix (DpAll.same e12 _ _ hall) hi2
      have hlc : c < (rs.getD i []).length := by rw [hT.len hi2]; exact hc
      refine ⟨_, rfl, _, rfl, pv', _, _, _, rfl, rfl, sqt_same e12 hrow, at_row0 hi, ?_⟩
      refine ⟨_, rfl, pt, _, 1, _, rfl, rfl, sqt_same e12 htab, rfl, _, rfl, pr, _, _, _, rfl, rfl, sqt_same e12 hxs, (by rw [Int.zero_add]; exact atI_nat hy), ?_⟩
      refine ⟨_, rfl, py, _, _, _, rfl, rfl, hpy, at_row0 hlc, _, _, rfl, rfl, .inl (hs.at i), ?_⟩
      exact k2 _ _ (Same.refl _) (.int _)
    · intro H3 ys e3 h3 hd3
      rw [List.length_map] at hd3
      have ey := intsR hd3
      subst ey
      refine ⟨D1, _, rfl, SqL.of h3, l, _, _, rfl, rfl, e3 _ _ h1, ?_, _, _, rfl, Same.mut (e1.trans e3) nl, ?_⟩
      · rw [List.length_map, List.length_map, List.length_range]
        exact Nat.lt_of_lt_of_le (show c < 5000 by omega) (by decide)
      · rw [upd_same, List.range_succ, List.map_append, List.map_append]
        rfl
  · rintro σ H1 ⟨v3, v4, rfl, e1, h1⟩
    refine ⟨_, rfl, l, _, rfl, .inl ⟨SqL.of h1, fun p np => ?_⟩⟩
    exact k _ _ (e1.trans (Same.new np)) (mk_row (SqT.of upd_same))
theorem ok_l_turned (D : Df K mg "_law_turned" s_l_turned) (B : Bn mg) :
    Has P w K mg base "_law_turned" 1 p_l_turned (spTurn K) := by
  refine has_of (k := 0) D sc_l_turned bn_l_turned spTurn_len ?_
  rintro f cdv A outer s0 H vs Q E hr ⟨v, wd, rs, rfl, hv, hT, k⟩
  obtain ⟨pt, ur, rfl, htab, hrows⟩ := dp_tab hv
  obtain ⟨pr, xs, rfl, hxs, hall, hlen⟩ := dp_rows hrows
  have hT' := hT
  obtain ⟨t1, t2, t3⟩ := hT'
  refine ⟨_, (pss_cons (ps_asg (pe_lst pa_nil) (pg_name (i := 1) sc_l_turned.nd rfl (by first | exact Or.inl rfl | exact Or.inr rfl)))
      (pss_cons (ps_for PassesOwn.never rfl (pi_range1 (by rfl) B.range_ (pa_cons (pe_ix (ix_tupK (K := K) (by rfl)) (pv 0) pe_int (fun _ _ => rfl)) pa_nil)) (pg_name (i := 2) sc_l_turned.nd rfl (by first | exact Or.inl rfl | exact Or.inr rfl)) (pss_cons (ps_asg (pe_tup pa_nil) (pg_name (i := 3) sc_l_turned.nd rfl (by first | exact Or.inl rfl | exact Or.inr rfl)))
      (pss_cons (ps_for PassesOwn.never rfl (pi_tupK (K := K) (by rfl) (pe_ix (ix_tupK (K := K) (by rfl)) (pv 0) pe_int (fun _ _ => rfl))) (pg_name (i := 4) sc_l_turned.nd rfl (by first | exact Or.inl rfl | exact Or.inr rfl)) (pss_one (ps_asg (pe_op (op_catK (K := K) (by rfl)) (pv 3) (pe_tup (pa_cons (pe_ix (ix_tupK (K := K) (by rfl)) (pv 4) (pv 2) (fun _ _ => rfl)) pa_nil))) (pg_name (i := 3) sc_l_turned.nd rfl (by first | exact Or.inl rfl | exact Or.inr rfl)))))
      (pss_one (ps_expr (pe_bm PySem.F.plainAttrs_list PySem.F.slot_list_append PySem.F.type_list_append mt_append (pv 1) (pa_cons (pv 3) pa_nil)))))))
      (pss_one (ps_ret (pe_tup (pa_cons (pe_callB (call_lenK (K := K) (by rfl)) (by rfl) B.len_ (by decide +kernel) (pa_cons (pe_ix (ix_tupK (K := K) (by rfl)) (pv 0) pe_int (fun _ _ => rfl)) pa_nil)) (pa_cons (pe_callTy (call_tupleK (K := K) (by rfl)) (by rfl) B.tuple_ (by decide +kernel) (pa_cons (pv 1) pa_nil)) pa_nil))))))), ?_⟩
  refine ⟨Nat.zero_le _, fun l nl => ?_⟩
  have e0 := Same.new (o := .lst []) nl
  refine ⟨_, rfl, pt, _, 0, _, rfl, rfl, sqt_same e0 htab, rfl, (wd : Int), rfl, by omega, by omega, for_range (lo := 0) (n := wd) (fun i σ H' =>
    ∃ (v2 v3 v4 : Option V) (ys : List V), σ = [some (.ref pt), some (.ref l), v2, v3, v4] ∧ Same H H' ∧
      H' l = some (.lst ys) ∧ DpAll K H' ys ((List.range i).map fun c => rowD ((List.range rs.length).map fun i => ent rs i c))) ?_ ?_ ?_⟩
  · exact ⟨none, none, none, [], rfl, e0, upd_same, .nil⟩
  · rintro c σ H1 hc ⟨v2, v3, v4, ys, rfl, e1, h1, hd1⟩
    have tall : tupAll ((List.range c).map fun c => rowD ((List.range rs.length).map fun i => ent rs i c)) = true := by
      rw [tupAll_iff]
      intro d hd
      obtain ⟨j, hj, rfl⟩ := List.mem_map.mp hd
      exact rowD_tup _
    refine ⟨Nat.zero_le _, fun q nq => ?_⟩
    have eq := Same.new (o := .tup []) nq
    refine ⟨_, rfl, pt, _, 1, _, rfl, rfl, sqt_same (e1.trans eq) htab, rfl, pr, rfl, ⟨_, sqt_same (e1.trans eq) hxs⟩, for_tup (K := K) (xs := xs) (fun j σ H' =>
      ∃ (u : V) (v4 : Option V), σ = [some (.ref pt), some (.ref l), some (.int (0 + (c : Int))), some u, v4] ∧ Same H1 H' ∧
        Dp K H' u (rowD ((List.range j).map fun i => ent rs i c))) ?_ ?_ ?_ ?_⟩
    · exact ⟨_, _, rfl, eq, mk_row (r := []) (SqT.of upd_same)⟩
    · rintro j σ H2 hj ⟨u, v4, rfl, e2, hu⟩
      exact sqt_same (e1.trans e2) hxs
    · rintro j x σ H2 hx ⟨u, v4, rfl, e2, hu⟩
      obtain ⟨hj, p, rfl, hp⟩ := rows_lt (DpAll.same (e1.trans e2) _ _ hall) hx
      have hlc : c < (rs.getD j []).length := by rw [hT.len hj]; exact hc
      refine ⟨_, rfl, _, rfl, _, rfl, p, _, _, _, rfl, rfl, hp, at_row0 hlc, by show 1 ≤ sizeLine; decide, fun q2 nq2 => ?_⟩
      have eq2 := Same.new (o := .tup [V.int ((rs.getD j []).getD c 0)]) nq2
      try dsimp only [tC, tNil]
      refine cat_dp (K := K) (Dp.same eq2 _ _ hu) (mk_row (r := [(rs.getD j []).getD c 0]) (SqT.of upd_same)) ?_ fun v3 H3 e3 hv3 => ?_
      · simp
        omega
      · refine ⟨v3, _, rfl, (e2.trans eq2).trans e3, ?_⟩
        rw [List.range_succ, List.map_append]
        unfold rowD
        rw [List.map_append]
        exact hv3
    · rintro σ H2 ⟨u, v4, rfl, e2, hu⟩
      rw [hlen] at hu
      have h2 := e2 _ _ h1
      have hly : ys.length = c := by rw [dpa_len _ _ hd1, List.length_map, List.length_range]
      refine ⟨_, rfl, .inl ⟨rfl, _, SqL.of h2⟩, _, rfl, l, _, _, rfl, rfl, h2, ?_, ?_⟩
      · rw [hly]
        exact Nat.lt_of_lt_of_le (show c < 5000 by omega) (by decide)
      · have tk := Tk.lst (o := .lst (ys ++ [u])) h2
        refine ⟨_, _, _, _, rfl, Same.mut (e1.trans e2) nl, upd_same, ?_⟩
        rw [List.range_succ, List.map_append]
        exact dpa_snoc _ _ _ _ (DpAll.tk tk _ _ tall (DpAll.same e2 _ _ hd1)) (Dp.tk tk _ _ (rowD_tup _) hu)
  · rintro σ H1 ⟨v2, v3, v4, ys, rfl, e1, h1, hd1⟩
    refine ⟨_, rfl, pt, _, 1, _, rfl, rfl, sqt_same e1 htab, rfl, pr, _, rfl, .inr (sqt_same e1 hxs), ?_⟩
    rw [hlen]
    refine ⟨_, rfl, ?_⟩
    try dsimp only [tC, tNil]
    refine tupL_dp h1 hd1 fun v2 H2 e2 hv2 => ?_
    rw [mapR_rows] at hv2
    try dsimp only [tC, tNil]
    refine tup_dp (K := K) (.cons (.int _) (.cons hv2 .nil)) (by simp) fun v3 H3 e3 hv3 => ?_
    exact k _ _ ((e1.trans e2).trans e3) hv3
theorem unit_eq {n i : Nat} (h : i < n) : List.replicate i (0 : Int) ++ [1] ++ List.replicate (n - i - 1) 0 = unitRow n i := by
  apply List.ext_getElem
  · simp [unitRow]
    omega
  · intro k h1 h2
    simp only [unitRow, List.getElem_map, List.getElem_range]
    rw [List.getElem_append]
    split
    · rw [List.getElem_append]
      split
      · rw [List.getElem_replicate, if_neg]
        rename_i h3 h4
        simp at h4
        omega
      · rename_i h3 h4
        simp at h3 h4
        have : k = i := by omega
        subst this
        simp
    · rename_i h3
      simp at h3
      rw [List.getElem_replicate, if_neg]
      omega
theorem ok_l_unit (D : Df K mg "_law_unit" s_l_unit) (B : Bn mg) :
    Has P w K mg base "_law_unit" 1 p_l_unit (spUnit K) := by
  refine has_of (k := 0) D sc_l_unit bn_l_unit spUnit_len ?_
  rintro f cdv A outer s0 H vs Q E hr ⟨n, rfl, hn, k⟩
  refine ⟨_, (pss_one (ps_ret (pe_tup (pa_cons (pv 0) (pa_cons (pe_callTy (call_tupleK (K := K) (by rfl)) (by rfl) B.tuple_ (by decide +kernel) (pa_cons (pe_lc (own := [("_law_i", 1)]) rfl sc_l_unit.nd (pi_range1 (by rfl) B.range_ (pa_cons (pv 0) pa_nil)) (blkOk_by (own := [("_law_i", 1)]) (N := n_l_unit) (sc := defScope s_l_unit) (by decide +kernel)) (fun _ _ _ _ _ => (pg_name (i := 1) sc_l_unit.nd rfl (by first | exact Or.inl rfl | exact Or.inr rfl))) (fun _ _ _ _ _ => pts_nil) (fun _ _ _ _ _ => (pe_op (op_catK (K := K) (by rfl)) (pe_op (op_catK (K := K) (by rfl)) (pe_op (op_repK (K := K) (by rfl)) (pe_tup (pa_cons pe_int pa_nil)) (pv 1)) (pe_tup (pa_cons pe_int pa_nil))) (pe_op (op_repK (K := K) (by rfl)) (pe_tup (pa_cons pe_int pa_nil)) (pe_op op_sub (pe_op op_sub (pv 0) (pv 1)) pe_int))))) pa_nil)) pa_nil))))), ?_⟩
  refine ⟨_, rfl, _, rfl, (n : Int), rfl, by omega, by omega, fun D1 hD1 => ?_⟩
  refine lcr (K := K) (n := n) (fun c => rowD (unitRow n c)) hD1 (by omega) (fun _ _ => rowD_tup _) (fun _ => rfl) ?_ ?_
  · intro c H1 Q1 hc e1 k1
    refine ⟨by show 1 ≤ sizeLine; decide, fun p1 np1 => ⟨_, rfl, ?_⟩⟩
    try dsimp only [tC, tNil]
    refine rep_dp (K := K) (z := 0) (mk_row (r := [0]) (SqT.of upd_same)) (by omega) (by omega) fun v1 H2 e2 hv1 => ?_
    have ea := (Same.new (o := .tup [V.int 0]) np1).trans e2
    refine ⟨by show 1 ≤ sizeLine; decide, fun p2 np2 => ?_⟩
    have eb := Same.new (o := .tup [V.int 1]) np2
    try dsimp only [tC, tNil]
    refine cat_dp (K := K) (Dp.same eb _ _ hv1) (mk_row (r := [1]) (SqT.of upd_same)) (by simp; omega) fun v2 H3 e3 hv2 => ?_
    refine ⟨by show 1 ≤ sizeLine; decide, fun p3 np3 => ⟨_, rfl, _, rfl, _, _, rfl, rfl, _, _, rfl, rfl, ?_⟩⟩
    have ec := Same.new (o := .tup [V.int 0]) np3
    try dsimp only [tC, tNil]
    refine rep_dp (K := K) (z := 0) (mk_row (r := [0]) (SqT.of upd_same)) (by omega) (by omega) fun v3 H4 e4 hv3 => ?_
    try dsimp only [tC, tNil]
    refine cat_dp (K := K) (Dp.same e4 _ _ (Dp.same ec _ _ hv2)) hv3 (by simp; omega) fun v4 H5 e5 hv4 => ?_
    refine k1 _ _ (((((ea.trans eb).trans e3).trans ec).trans e4).trans e5) ?_
    rw [← unit_eq hc]
    have t1 : (0 + (c : Int)).toNat = c := by omega
    have t2 : ((n : Int) - (0 + (c : Int)) - 1).toNat = n - c - 1 := by omega
    rw [t1, t2] at hv4
    unfold rowD
    rw [List.map_append, List.map_append]
    exact hv4
  · intro H1 ys e1 h1 hd1
    try dsimp only [tC, tNil]
    refine tupL_dp h1 hd1 fun v2 H2 e2 hv2 => ?_
    rw [mapR_rows] at hv2
    try dsimp only [tC, tNil]
    refine tup_dp (K := K) (.cons (.int _) (.cons hv2 .nil)) (by simp) fun v3 H3 e3 hv3 => ?_
    exact k _ _ ((e1.trans e2).trans e3) hv3
end K05

set_option Elab.async false
set_option linter.all false
set_option maxRecDepth 100000
set_option maxHeartbeats 4000000
namespace K05
open PySem L2 Gd
variable {P : Program} {w : World} {K : PySem.W.Frag} {mg : Str → Option Value} {base : Heap}
structure Arg (K : PySem.W.Frag) (H : Hp) (vr v1 v2 v3 : V) (r : List Int) (w : Nat) (rs : List (List Int)) (w2 : Nat) (ts us : List (List Int)) : Prop where
  r : Dp K H vr (rowD r)
  one : Dp K H v1 (tabD w rs)
  other : Dp K H v2 (tabD w2 ts)
  third : Dp K H v3 (tabD w us)
theorem Arg.same {H H' : Hp} {vr v1 v2 v3 : V} {r : List Int} {w : Nat} {rs : List (List Int)} {w2 : Nat} {ts us : List (List Int)}
    (h : Arg K H vr v1 v2 v3 r w rs w2 ts us) (e : Same H H') : Arg K H' vr v1 v2 v3 r w rs w2 ts us :=
  ⟨Dp.same e _ _ h.r, Dp.same e _ _ h.one, Dp.same e _ _ h.other, Dp.same e _ _ h.third⟩
theorem Arg.tk {H H' : Hp} {vr v1 v2 v3 : V} {r : List Int} {w : Nat} {rs : List (List Int)} {w2 : Nat} {ts us : List (List Int)}
    (h : Arg K H vr v1 v2 v3 r w rs w2 ts us) (e : Tk H H') : Arg K H' vr v1 v2 v3 r w rs w2 ts us :=
  ⟨Dp.tk e _ _ (rowD_tup _) h.r, Dp.tk e _ _ (tabD_tup _ _) h.one, Dp.tk e _ _ (tabD_tup _ _) h.other, Dp.tk e _ _ (tabD_tup _ _) h.third⟩
structure Cond (r : List Int) (w : Nat) (rs : List (List Int)) (w2 : Nat) (ts us : List (List Int)) (n : Nat) : Prop where
  one : Tb w rs
  other : Tb w2 ts
  third : us.length ≤ 1000
  rl : r.length = ts.length
  wl : w = ts.length
  sr : Sm r
  so : ∀ x ∈ rs, Sm x
  n : n ≤ 1000
def dueD (r : List Int) (w : Nat) (rs : List (List Int)) (w2 : Nat) (ts us : List (List Int)) (n : Nat) : List PyData :=
  [rowD (mulRow r w2 ts), tabD w2 (mulR rs w2 ts), tabD rs.length (turnR w rs), tabD ts.length (turnR w2 ts), tabD w (rs ++ us), tabD w (us ++ rs), tabD n (unitR n)]
def spDue (K : PySem.W.Frag) : Sp := fun vs H Q _ => ∃ (vr v1 v2 v3 : V) (n : Nat) (r : List Int) (w : Nat) (rs : List (List Int)) (w2 : Nat) (ts us : List (List Int)),
  vs = [vr, v1, v2, v3, .int n] ∧ Arg K H vr v1 v2 v3 r w rs w2 ts us ∧ Cond r w rs w2 ts us n ∧
  ∀ (l : Addr) (H' : Hp), Same H H' → Dp K H' (.ref l) (.list (dueD r w rs w2 ts us n)) → Q (.ref l) H'
theorem spDue_len : ∀ vs H Q E, spDue K vs H Q E → vs.length = 5 := by
  rintro vs H Q E ⟨vr, v1, v2, v3, n, r, w, rs, w2, ts, us, rfl, _⟩
  rfl
theorem ok_l_told (D : Df K mg "_law_told" s_l_told) (B : Bn mg)
    (h_row_times : Has P w K mg base "row_times" 1 p_row_times (spRowTimes K))
    (h_times : Has P w K mg base "times" 2 p_times (spTimes K))
    (h_turned_over : Has P w K mg base "turned_over" 1 p_turned_over (spTurn K))
    (h_stacked : Has P w K mg base "stacked" 1 p_stacked (spStack K))
    (h_unit : Has P w K mg base "unit" 2 p_unit (spUnit K)) :
    Has P w K mg base "_law_told" 3 p_l_told (spDue K) := by
  refine has_of (k := 2) D sc_l_told bn_l_told spDue_len ?_
  rintro f cdv A outer s0 H vs Q E hr ⟨vr, v1, v2, v3, n, r, wd, rs, w2, ts, us, rfl, ar, c, k⟩
  refine ⟨_, (pss_cons (ps_asg (pe_lst (pa_cons (pe_has (h_row_times) (hr.mono (by decide)) (by rfl) (pa_cons (pv 0) (pa_cons (pv 2) pa_nil))) (pa_cons (pe_has (h_times) (hr.mono (by decide)) (by rfl) (pa_cons (pv 1) (pa_cons (pv 2) pa_nil))) (pa_cons (pe_has (h_turned_over) (hr.mono (by decide)) (by rfl) (pa_cons (pv 1) pa_nil)) (pa_cons (pe_has (h_turned_over) (hr.mono (by decide)) (by rfl) (pa_cons (pv 2) pa_nil)) (pa_cons (pe_has (h_stacked) (hr.mono (by decide)) (by rfl) (pa_cons (pv 1) (pa_cons (pv 3) pa_nil))) pa_nil)))))) (pg_name (i := 5) sc_l_told.nd rfl (by first | exact Or.inl rfl | exact Or.inr rfl)))
      (pss_one (ps_ret (pe_op op_cat (pv 5) (pe_lst (pa_cons (pe_has (h_stacked) (hr.mono (by decide)) (by rfl) (pa_cons (pv 3) (pa_cons (pv 1) pa_nil))) (pa_cons (pe_has (h_unit) (hr.mono (by decide)) (by rfl) (pa_cons (pv 4) pa_nil)) pa_nil))))))), ?_⟩
  have hrs := c.one.1
  refine ⟨_, rfl, _, rfl, vr, v2, r, w2, ts, rfl, ar.r, ar.other, c.other, c.rl, c.sr, fun y1 H1 e1 hy1 => ?_⟩
  have a1 := ar.same e1
  refine ⟨_, rfl, _, rfl, v1, v2, wd, rs, w2, ts, rfl, a1.one, a1.other, c.one, c.other, c.wl, c.so, fun y2 H2 e2 hy2 => ?_⟩
  have a2 := a1.same e2
  refine ⟨_, rfl, v1, wd, rs, rfl, a2.one, c.one, fun y3 H3 e3 hy3 => ?_⟩
  have a3 := a2.same e3
  refine ⟨_, rfl, v2, w2, ts, rfl, a3.other, c.other, fun y4 H4 e4 hy4 => ?_⟩
  have a4 := a3.same e4
  refine ⟨_, rfl, _, rfl, v1, v3, wd, wd, rs, us, rfl, a4.one, a4.third, hrs, c.third, fun y5 H5 e5 hy5 => ?_⟩
  have a5 := a4.same e5
  have q1 := Dp.same e5 _ _ (Dp.same e4 _ _ (Dp.same e3 _ _ (Dp.same e2 _ _ hy1)))
  have q2 := Dp.same e5 _ _ (Dp.same e4 _ _ (Dp.same e3 _ _ hy2))
  have q3 := Dp.same e5 _ _ (Dp.same e4 _ _ hy3)
  have q4 := Dp.same e5 _ _ hy4
  have e05 := (((e1.trans e2).trans e3).trans e4).trans e5
  try dsimp only [tC, tNil]
  refine ⟨by show 5 ≤ sizeLine; decide, fun l nl => ?_⟩
  obtain ⟨H6, xH6, e6, h6, hd6⟩ := lst_new (K := K) nl (.cons q1 (.cons q2 (.cons q3 (.cons q4 (.cons hy5 .nil)))))
  rw [xH6]
  have a6 := a5.same e6
  refine ⟨_, rfl, _, rfl, _, rfl, v3, v1, wd, wd, us, rs, rfl, a6.third, a6.one, c.third, hrs, fun y6 H7 e7 hy6 => ?_⟩
  refine ⟨_, rfl, n, rfl, c.n, fun y7 H8 e8 hy7 => ?_⟩
  have q6 := Dp.same e8 _ _ hy6
  try dsimp only [tC, tNil]
  refine ⟨by show 2 ≤ sizeLine; decide, fun l2 nl2 => ?_⟩
  obtain ⟨H9, xH9, e9, h9, hd9⟩ := lst_new (K := K) nl2 (.cons q6 (.cons hy7 .nil))
  rw [xH9]
  have e79 := (e7.trans e8).trans e9
  refine catL_dp (K := K) (e79 _ _ h6) h9 (DpAll.same e79 _ _ hd6) hd9 (by simp) fun p H10 np e10 h10 hd10 => ?_
  exact k p H10 (((e05.trans e6).trans e79).trans e10) (.lst (SqL.of h10) hd10)
theorem ok_l_due (D : Df K mg "_law_due" s_l_due) (B : Bn mg)
    (h_l_row_times : Has P w K mg base "_law_row_times" 1 p_l_row_times (spRowTimes K))
    (h_l_turned : Has P w K mg base "_law_turned" 1 p_l_turned (spTurn K))
    (h_l_unit : Has P w K mg base "_law_unit" 1 p_l_unit (spUnit K)) :
    Has P w K mg base "_law_due" 2 p_l_due (spDue K) := by
  refine has_of (k := 1) D sc_l_due bn_l_due spDue_len ?_
  rintro f cdv A outer s0 H vs Q E hr ⟨vr, v1, v2, v3, n, r, wd, rs, w2, ts, us, rfl, ar, c, k⟩
  have hrs := c.one.1
  have hus := c.third
  obtain ⟨pt, ur, rfl, htab, hrows⟩ := dp_tab ar.one
  obtain ⟨pr, xs, rfl, hxs, hall, hlen⟩ := dp_rows hrows
  refine ⟨_, (pss_cons (ps_asg (pe_lst (pa_cons (pe_has (h_l_row_times) (hr.mono (by decide)) (by rfl) (pa_cons (pv 0) (pa_cons (pv 2) pa_nil))) (pa_cons (pe_tup (pa_cons (pe_ix (ix_tupK (K := K) (by rfl)) (pv 2) pe_int (fun _ _ => rfl)) (pa_cons (pe_callTy (call_tupleK (K := K) (by rfl)) (by rfl) B.tuple_ (by decide +kernel) (pa_cons (pe_lc (own := [("_law_line", 6)]) rfl sc_l_due.nd (pi_tupK (K := K) (by rfl) (pe_ix (ix_tupK (K := K) (by rfl)) (pv 1) pe_int (fun _ _ => rfl))) (blkOk_by (own := [("_law_line", 6)]) (N := n_l_due) (sc := defScope s_l_due) (by decide +kernel)) (fun _ _ _ _ _ => (pg_name (i := 6) sc_l_due.nd rfl (by first | exact Or.inl rfl | exact Or.inr rfl))) (fun _ _ _ _ _ => pts_nil) (fun _ _ _ _ _ => (pe_has (h_l_row_times) (hr.mono (by decide)) (by rfl) (pa_cons (pv 6) (pa_cons (pv 2) pa_nil))))) pa_nil)) pa_nil))) pa_nil))) (pg_name (i := 5) sc_l_due.nd rfl (by first | exact Or.inl rfl | exact Or.inr rfl)))
      (pss_cons (ps_asg (pe_op op_cat (pv 5) (pe_lst (pa_cons (pe_has (h_l_turned) (hr.mono (by decide)) (by rfl) (pa_cons (pv 1) pa_nil)) (pa_cons (pe_has (h_l_turned) (hr.mono (by decide)) (by rfl) (pa_cons (pv 2) pa_nil)) (pa_cons (pe_tup (pa_cons (pe_ix (ix_tupK (K := K) (by rfl)) (pv 1) pe_int (fun _ _ => rfl)) (pa_cons (pe_callTy (call_tupleK (K := K) (by rfl)) (by rfl) B.tuple_ (by decide +kernel) (pa_cons (pe_op op_cat (pe_callTy (call_listK (K := K) (by rfl)) (by rfl) B.list_ (by decide +kernel) (pa_cons (pe_ix (ix_tupK (K := K) (by rfl)) (pv 1) pe_int (fun _ _ => rfl)) pa_nil)) (pe_callTy (call_listK (K := K) (by rfl)) (by rfl) B.list_ (by decide +kernel) (pa_cons (pe_ix (ix_tupK (K := K) (by rfl)) (pv 3) pe_int (fun _ _ => rfl)) pa_nil))) pa_nil)) pa_nil))) pa_nil))))) (pg_name (i := 5) sc_l_due.nd rfl (by first | exact Or.inl rfl | exact Or.inr rfl)))
      (pss_one (ps_ret (pe_op op_cat (pv 5) (pe_lst (pa_cons (pe_tup (pa_cons (pe_ix (ix_tupK (K := K) (by rfl)) (pv 1) pe_int (fun _ _ => rfl)) (pa_cons (pe_callTy (call_tupleK (K := K) (by rfl)) (by rfl) B.tuple_ (by decide +kernel) (pa_cons (pe_op op_cat (pe_callTy (call_listK (K := K) (by rfl)) (by rfl) B.list_ (by decide +kernel) (pa_cons (pe_ix (ix_tupK (K := K) (by rfl)) (pv 3) pe_int (fun _ _ => rfl)) pa_nil)) (pe_callTy (call_listK (K := K) (by rfl)) (by rfl) B.list_ (by decide +kernel) (pa_cons (pe_ix (ix_tupK (K := K) (by rfl)) (pv 1) pe_int (fun _ _ => rfl)) pa_nil))) pa_nil)) pa_nil))) (pa_cons (pe_has (h_l_unit) (hr.mono (by decide)) (by rfl) (pa_cons (pv 4) pa_nil)) pa_nil)))))))), ?_⟩
  refine ⟨_, rfl, _, rfl, vr, v2, r, w2, ts, rfl, ar.r, ar.other, c.other, c.rl, c.sr, fun y1 H1 e1 hy1 => ?_⟩
  have a1 := ar.same e1
  refine ⟨_, rfl, ?_⟩
  try dsimp only [tC, tNil]
  refine ix_dp (i := 0) a1.other rfl fun z hz => ?_
  have ez := dp_int hz
  subst ez
  have hxs1 := sqt_same e1 hxs
  refine ⟨_, rfl, pt, _, 1, _, rfl, rfl, sqt_same e1 htab, rfl, pr, rfl, ⟨_, hxs1⟩, fun D1 hD1 => ?_⟩
  refine lct (K := K) (j := 6) (fun i => rowD (mulRow (rs.getD i []) w2 ts)) hD1 hxs1 (by omega) (fun _ _ => rowD_tup _) (fun _ => rfl) ?_ ?_
  · intro i x H2 Q2 hx e2 k2
    obtain ⟨hi, hdx⟩ := rows_at (DpAll.same (e1.trans e2) _ _ hall) hx
    have hlt := (List.getElem?_eq_some_iff.mp hi).1
    refine ⟨_, rfl, _, rfl, x, v2, _, w2, ts, rfl, hdx, (a1.same e2).other, c.other, ?_, c.so _ (getD_mem hlt), fun y H3 e3 hy => k2 y H3 e3 hy⟩
    rw [c.one.len hlt]
    exact c.wl
  intro H2 ys e2 h2 hd2
  rw [hlen] at hd2
  try dsimp only [tC, tNil]
  refine tupL_dp h2 hd2 fun u2 H3 e3 hu2 => ?_
  rw [mapR_rows] at hu2
  try dsimp only [tC, tNil]
  refine ⟨by show 2 ≤ sizeLine; decide, fun qy2 nqy2 => ?_⟩
  obtain ⟨H4, xH4, e4, hy2⟩ := tup_new (K := K) nqy2 (.cons (.int _) (.cons hu2 .nil))
  rw [xH4]
  have e24 := (e2.trans e3).trans e4
  try dsimp only [tC, tNil]
  refine ⟨by show 2 ≤ sizeLine; decide, fun l nl => ?_⟩
  obtain ⟨H5, xH5, e5, h5, hd5⟩ := lst_new (K := K) nl (.cons (Dp.same e24 _ _ hy1) (.cons hy2 .nil))
  rw [xH5]
  have e05 := (e1.trans e24).trans e5
  have a5 := ar.same e05
  refine ⟨_, rfl, _, rfl, _, wd, rs, rfl, a5.one, c.one, fun y3 H6 e6 hy3 => ?_⟩
  have a6 := a5.same e6
  refine ⟨_, rfl, _, w2, ts, rfl, a6.other, c.other, fun y4 H7 e7 hy4 => ?_⟩
  have a7 := a6.same e7
  refine ⟨_, rfl, ?_⟩
  try dsimp only [tC, tNil]
  refine ix_dp (i := 0) a7.one rfl fun z hz => ?_
  have ez := dp_int hz
  subst ez
  refine ⟨_, rfl, ?_⟩
  try dsimp only [tC, tNil]
  refine ix_dp (i := 1) a7.one rfl fun z1 hz1 => ?_
  try dsimp only [tC, tNil]
  refine listT_dp hz1 fun l1 H8 ys1 nl1 e8 h8 hd8 => ?_
  have a8 := a7.same e8
  refine ⟨_, rfl, ?_⟩
  try dsimp only [tC, tNil]
  refine ix_dp (i := 1) a8.third rfl fun z3 hz3 => ?_
  try dsimp only [tC, tNil]
  refine listT_dp hz3 fun l2 H9 ys2 nl2 e9 h9 hd9 => ?_
  refine catL_dp (K := K) (e9 _ _ h8) h9 (DpAll.same e9 _ _ hd8) hd9 (by simp; omega) fun l3 H10 nl3 e10 h10 hd10 => ?_
  try dsimp only [tC, tNil]
  refine tupL_dp h10 hd10 fun u3 H11 e11 hu3 => ?_
  try dsimp only [tC, tNil]
  rw [← List.map_append] at hu3
  refine ⟨by show 2 ≤ sizeLine; decide, fun qy5 nqy5 => ?_⟩
  obtain ⟨H12, xH12, e12, hy5⟩ := tup_new (K := K) nqy5 (.cons (.int _) (.cons hu3 .nil))
  rw [xH12]
  have e712 := (((e8.trans e9).trans e10).trans e11).trans e12
  try dsimp only [tC, tNil]
  refine ⟨by show 3 ≤ sizeLine; decide, fun l4 nl4 => ?_⟩
  obtain ⟨H13, xH13, e13, h13, hd13⟩ := lst_new (K := K) nl4 (.cons (Dp.same e712 _ _ (Dp.same e7 _ _ hy3)) (.cons (Dp.same e712 _ _ hy4) (.cons hy5 .nil)))
  rw [xH13]
  have e513 := ((e6.trans e7).trans e712).trans e13
  refine catL_dp (K := K) (e513 _ _ h5) h13 (DpAll.same e513 _ _ hd5) hd13 (by simp) fun l5 H14 nl5 e14 h14 hd14 => ?_
  have e014 := (e05.trans e513).trans e14
  have a14 := ar.same e014
  refine ⟨_, rfl, _, rfl, ?_⟩
  try dsimp only [tC, tNil]
  refine ix_dp (i := 0) a14.one rfl fun z hz => ?_
  have ez := dp_int hz
  subst ez
  refine ⟨_, rfl, ?_⟩
  try dsimp only [tC, tNil]
  refine ix_dp (i := 1) a14.third rfl fun z4 hz4 => ?_
  try dsimp only [tC, tNil]
  refine listT_dp hz4 fun l6 H15 ys6 nl6 e15 h15 hd15 => ?_
  have a15 := a14.same e15
  refine ⟨_, rfl, ?_⟩
  try dsimp only [tC, tNil]
  refine ix_dp (i := 1) a15.one rfl fun z5 hz5 => ?_
  try dsimp only [tC, tNil]
  refine listT_dp hz5 fun l7 H16 ys7 nl7 e16 h16 hd16 => ?_
  refine catL_dp (K := K) (e16 _ _ h15) h16 (DpAll.same e16 _ _ hd15) hd16 (by simp; omega) fun l8 H17 nl8 e17 h17 hd17 => ?_
  try dsimp only [tC, tNil]
  refine tupL_dp h17 hd17 fun u4 H18 e18 hu4 => ?_
  try dsimp only [tC, tNil]
  rw [← List.map_append] at hu4
  refine ⟨by show 2 ≤ sizeLine; decide, fun qy6 nqy6 => ?_⟩
  obtain ⟨H19, xH19, e19, hy6⟩ := tup_new (K := K) nqy6 (.cons (.int _) (.cons hu4 .nil))
  rw [xH19]
  refine ⟨_, rfl, n, rfl, c.n, fun y7 H20 e20 hy7 => ?_⟩
  try dsimp only [tC, tNil]
  refine ⟨by show 2 ≤ sizeLine; decide, fun l9 nl9 => ?_⟩
  obtain ⟨H21, xH21, e21, h21, hd21⟩ := lst_new (K := K) nl9 (.cons (Dp.same e20 _ _ hy6) (.cons hy7 .nil))
  rw [xH21]
  have e1421 := (((((e15.trans e16).trans e17).trans e18).trans e19).trans e20).trans e21
  refine catL_dp (K := K) (e1421 _ _ h14) h21 (DpAll.same e1421 _ _ hd14) hd21 (by simp) fun l10 H22 nl10 e22 h22 hd22 => ?_
  exact k l10 H22 ((e014.trans e1421).trans e22) (.lst (SqL.of h22) hd22)
end K05

set_option Elab.async false
set_option linter.all false
set_option maxRecDepth 100000
set_option maxHeartbeats 400000
namespace K05
open PySem L2 Gd
variable {P : Program} {w : World} {K : PySem.W.Frag} {mg : Str → Option Value} {base : Heap}
theorem sh_due {m1 m2 m3 m4 n : Nat} {r : List Int} {rs ts us : List (List Int)} (h1 : m1 ≤ 4) (h2 : m2 ≤ 4) (h3 : m3 ≤ 4) (h4 : m4 ≤ 4) (hn : n ≤ 8)
    (o1 : OkT m1 m2 rs) (o2 : OkT m2 m3 ts) (o3 : OkT m4 m2 us) (hr : r.length = m2) (br : Bd 99 r) :
    Sh 4 1900000 (.list (dueD r m2 rs m3 ts us n)) := by
  have b1 := o1.bs
  have b2 := o2.bs
  have b3 := o3.bs
  have e : (99 : Int) * 99 * (4 : Nat) = 39204 := by decide
  have q1 : Sh 3 270000 (rowD (mulRow r m3 ts)) := by
    refine (sh_row (rr_bd (by rw [mulRow_len]; omega) ?_)).mono (by decide) (by decide)
    exact Bd.mono (mulRow_bd (m := 4) (by decide) (by decide) br b2 (by omega)) (by rw [e]; decide)
  have q2 : Sh 3 270000 (tabD m3 (mulR rs m3 ts)) := by
    refine sh_tab (nat_1900 (by omega)) ⟨by simp [mulR, o1.1]; omega, fun x hx => ?_⟩
    obtain ⟨i, hi, rfl⟩ := List.mem_map.mp hx
    have hlt := List.mem_range.mp hi
    have hm := getD_mem (d := ([] : List Int)) hlt
    refine rr_bd (by rw [mulRow_len]; omega) ?_
    exact Bd.mono (mulRow_bd (m := 4) (by decide) (by decide) (b1 _ hm) b2 (by rw [(o1.2 _ hm).1]; omega)) (by rw [e]; decide)
  have q3 : Sh 3 270000 (tabD rs.length (turnR m2 rs)) := by
    refine sh_tab (nat_1900 (by rw [o1.1]; omega)) ⟨by simp [turnR]; omega, fun x hx => ?_⟩
    obtain ⟨k, hk, rfl⟩ := List.mem_map.mp hx
    refine rr_bd (by simp [o1.1]; omega) ?_
    intro y hy
    obtain ⟨i, hi, rfl⟩ := List.mem_map.mp hy
    have := b1.at (by decide) i k
    omega
  have q4 : Sh 3 270000 (tabD ts.length (turnR m3 ts)) := by
    refine sh_tab (nat_1900 (by rw [o2.1]; omega)) ⟨by simp [turnR]; omega, fun x hx => ?_⟩
    obtain ⟨k, hk, rfl⟩ := List.mem_map.mp hx
    refine rr_bd (by simp [o2.1]; omega) ?_
    intro y hy
    obtain ⟨i, hi, rfl⟩ := List.mem_map.mp hy
    have := b2.at (by decide) i k
    omega
  have q5 : Sh 3 270000 (tabD m2 (rs ++ us)) := by
    refine sh_tab (nat_1900 (by omega)) ⟨by rw [List.length_append, o1.1, o3.1]; omega, fun x hx => ?_⟩
    rcases List.mem_append.mp hx with h | h
    · exact (rk_ok o1 (by omega) (by omega)).2 x h
    · exact (rk_ok o3 (by omega) (by omega)).2 x h
  have q6 : Sh 3 270000 (tabD m2 (us ++ rs)) := by
    refine sh_tab (nat_1900 (by omega)) ⟨by rw [List.length_append, o1.1, o3.1]; omega, fun x hx => ?_⟩
    rcases List.mem_append.mp hx with h | h
    · exact (rk_ok o3 (by omega) (by omega)).2 x h
    · exact (rk_ok o1 (by omega) (by omega)).2 x h
  have q7 : Sh 3 270000 (tabD n (unitR n)) := sh_tab (nat_1900 (by omega)) (rk_unit hn)
  refine (Sh.lst (k := 3) (n := 270000) (m := 7) ?_ (by simp [dueD])).mono (by decide) (by decide)
  intro d hd
  simp only [dueD, List.mem_cons, List.not_mem_nil, or_false] at hd
  rcases hd with rfl | rfl | rfl | rfl | rfl | rfl | rfl <;> assumption
def keptD (r : List Int) (m2 : Nat) (rs : List (List Int)) (m3 : Nat) (ts us : List (List Int)) : PyData :=
  .tuple [rowD r, tabD m2 rs, tabD m3 ts, tabD m2 us]
theorem sh_kept {m1 m2 m3 m4 : Nat} {r : List Int} {rs ts us : List (List Int)} (h1 : m1 ≤ 4) (h2 : m2 ≤ 4) (h3 : m3 ≤ 4) (h4 : m4 ≤ 4)
    (o1 : OkT m1 m2 rs) (o2 : OkT m2 m3 ts) (o3 : OkT m4 m2 us) (hr : r.length = m2) (br : Bd 99 r) : Sh 4 1900000 (keptD r m2 rs m3 ts us) := by
  have q1 : Sh 3 270000 (rowD r) := (sh_row (rr_bd (by omega) (Bd.mono br (by decide)))).mono (by decide) (by decide)
  have q2 : Sh 3 270000 (tabD m2 rs) := sh_tab (nat_1900 (by omega)) (rk_ok o1 (by omega) (by omega))
  have q3 : Sh 3 270000 (tabD m3 ts) := sh_tab (nat_1900 (by omega)) (rk_ok o2 (by omega) (by omega))
  have q4 : Sh 3 270000 (tabD m2 us) := sh_tab (nat_1900 (by omega)) (rk_ok o3 (by omega) (by omega))
  refine (Sh.tup (k := 3) (n := 270000) (m := 4) ?_ (by simp)).mono (by decide) (by decide)
  intro d hd
  simp only [List.mem_cons, List.not_mem_nil, or_false] at hd
  rcases hd with rfl | rfl | rfl | rfl <;> assumption
def spLaw (K : PySem.W.Frag) : Sp := fun vs H Q _ => ∃ (a : Addr) (ns : List Int), vs = [.ref a] ∧ SqL K H a (ns.map V.int) ∧ ns.length ≤ 63 ∧ ∀ H', Q (.bl true) H'
abbrev FnP (K : PySem.W.Frag) (x : Str) (st : Stmt) (f : Addr) (fd : FuncData) : Prop := FunD K x x (defArgs st) (defBody st) (defScope st) [] [] f fd
theorem nat_of {r : Int} {m : Nat} (h0 : 0 ≤ r) (h1 : r < m) : ∃ k : Nat, r = (k : Int) ∧ k < m := ⟨r.toNat, by omega, by omega⟩
theorem ok_law {f : Addr} {fd : FuncData} (F : FnP K "law" s_law f fd) (B : Bn mg)
    (h_l_feed : Has P w K mg base "_law_feed" 1 p_l_feed (spFeed K))
    (h_l_draw : Has P w K mg base "_law_draw" 1 p_l_draw spDraw)
    (h_l_table : Has P w K mg base "_law_table" 4 p_l_table (spTable K))
    (h_l_number : Has P w K mg base "_law_number" 2 p_l_number spNumber)
    (h_l_due : Has P w K mg base "_law_due" 2 p_l_due (spDue K))
    (h_l_told : Has P w K mg base "_law_told" 3 p_l_told (spDue K)) :
    FnG P w K mg base 5 f fd ["_law_script"] (spLaw K) := by
  refine okG (k := 4) F sc_law ?_ ?_
  · rintro vs H Q E ⟨a, ns, rfl, _⟩
    rfl
  rintro cdv A outer s0 H vs Q E hG hr ⟨sc, ns, rfl, hS, hl, k⟩
  refine ⟨_, PSs.nox (pss_cons (ps_asg (pe_has (h_l_feed) (hr.mono (by decide)) (by rfl) (pa_cons (pv 0) pa_nil)) (pg_name (i := 1) sc_law.nd rfl (by first | exact Or.inl rfl | exact Or.inr rfl)))
      (pss_cons (ps_for PassesOwn.never rfl (pi_range1 (by rfl) B.range_ (pa_cons pe_int pa_nil)) (pg_name (i := 2) sc_law.nd rfl (by first | exact Or.inl rfl | exact Or.inr rfl)) (pss_cons (ps_par3 (i := 3) (j := 4) (l := 5) (by rfl) sc_law.nd rfl rfl rfl (by decide) (by decide) (by decide) rfl rfl rfl (pa_cons (pe_has (h_l_draw) (hr.mono (by decide)) (by rfl) (pa_cons (pv 1) (pa_cons pe_int pa_nil))) (pa_cons (pe_has (h_l_draw) (hr.mono (by decide)) (by rfl) (pa_cons (pv 1) (pa_cons pe_int pa_nil))) (pa_cons (pe_has (h_l_draw) (hr.mono (by decide)) (by rfl) (pa_cons (pv 1) (pa_cons pe_int pa_nil))) pa_nil))) (by rfl))
      (pss_cons (ps_par (i := 6) (j := 7) (by rfl) sc_law.nd rfl rfl (by decide) rfl rfl (pa_cons (pe_has (h_l_table) (hr.mono (by decide)) (by rfl) (pa_cons (pv 1) (pa_cons (pv 3) (pa_cons (pv 4) pa_nil)))) (pa_cons (pe_has (h_l_table) (hr.mono (by decide)) (by rfl) (pa_cons (pv 1) (pa_cons (pv 4) (pa_cons (pv 5) pa_nil)))) pa_nil)) (by rfl))
      (pss_cons (ps_asg (pe_has (h_l_table) (hr.mono (by decide)) (by rfl) (pa_cons (pv 1) (pa_cons (pe_has (h_l_draw) (hr.mono (by decide)) (by rfl) (pa_cons (pv 1) (pa_cons pe_int pa_nil))) (pa_cons (pv 4) pa_nil)))) (pg_name (i := 8) sc_law.nd rfl (by first | exact Or.inl rfl | exact Or.inr rfl)))
      (pss_cons (ps_asg (pe_callTy (call_tupleK (K := K) (by rfl)) (by rfl) B.tuple_ (by decide +kernel) (pa_cons (pe_lc (own := [("_law_j", 14)]) rfl sc_law.nd (pi_range1 (by rfl) B.range_ (pa_cons (pv 4) pa_nil)) (blkOk_by (own := [("_law_j", 14)]) (N := n_law) (sc := defScope s_law) (by decide +kernel)) (fun _ _ _ _ _ => (pg_name (i := 14) sc_law.nd rfl (by first | exact Or.inl rfl | exact Or.inr rfl))) (fun _ _ _ _ _ => pts_nil) (fun _ _ _ _ _ => (pe_has (h_l_number) (hr.mono (by decide)) (by rfl) (pa_cons (pv 1) pa_nil)))) pa_nil)) (pg_name (i := 9) sc_law.nd rfl (by first | exact Or.inl rfl | exact Or.inr rfl)))
      (pss_cons (ps_asg (pe_has (h_l_draw) (hr.mono (by decide)) (by rfl) (pa_cons (pv 1) (pa_cons pe_int pa_nil))) (pg_name (i := 10) sc_law.nd rfl (by first | exact Or.inl rfl | exact Or.inr rfl)))
      (pss_cons (ps_asg (pe_callB (call_reprK (K := K) (by rfl) hG hr.units) (by rfl) B.repr_ (by decide +kernel) (pa_cons (pe_tup (pa_cons (pv 9) (pa_cons (pv 6) (pa_cons (pv 7) (pa_cons (pv 8) pa_nil))))) pa_nil)) (pg_name (i := 11) sc_law.nd rfl (by first | exact Or.inl rfl | exact Or.inr rfl)))
      (pss_cons (ps_asg (pe_callB (call_reprK (K := K) (by rfl) hG hr.units) (by rfl) B.repr_ (by decide +kernel) (pa_cons (pe_has (h_l_due) (hr.mono (by decide)) (by rfl) (pa_cons (pv 9) (pa_cons (pv 6) (pa_cons (pv 7) (pa_cons (pv 8) (pa_cons (pv 10) pa_nil)))))) pa_nil)) (pg_name (i := 12) sc_law.nd rfl (by first | exact Or.inl rfl | exact Or.inr rfl)))
      (pss_cons (ps_for PassesOwn.never rfl (pi_range1 (by rfl) B.range_ (pa_cons pe_int pa_nil)) (pg_name (i := 13) sc_law.nd rfl (by first | exact Or.inl rfl | exact Or.inr rfl)) (pss_one (ps_if (pt_cmpR op_ne (pe_callB (call_reprK (K := K) (by rfl) hG hr.units) (by rfl) B.repr_ (by decide +kernel) (pa_cons (pe_has (h_l_told) (hr.mono (by decide)) (by rfl) (pa_cons (pv 9) (pa_cons (pv 6) (pa_cons (pv 7) (pa_cons (pv 8) (pa_cons (pv 10) pa_nil)))))) pa_nil)) (pv 12) (nomark _)) (pss_one (ps_ret pe_bl)) pss_nil)))
      (pss_one (ps_if (pt_cmpR op_ne (pe_callB (call_reprK (K := K) (by rfl) hG hr.units) (by rfl) B.repr_ (by decide +kernel) (pa_cons (pe_tup (pa_cons (pv 9) (pa_cons (pv 6) (pa_cons (pv 7) (pa_cons (pv 8) pa_nil))))) pa_nil)) (pv 11) (nomark _)) (pss_one (ps_ret pe_bl)) pss_nil)))))))))))
      (pss_one (ps_ret pe_bl)))), ?_⟩
  refine ⟨_, rfl, sc, ns, rfl, hS, hl, fun a s H1 na ns1 e1 f1 => ?_⟩
  refine ⟨3, rfl, by decide, by decide, for_range (lo := 0) (n := 3) (fun i σ H' => (∃ v2 v3 v4 v5 v6 v7 v8 v9 v10 v11 v12 v13 v14 : Option V,
    σ = [some (.ref sc), some (.ref a), v2, v3, v4, v5, v6, v7, v8, v9, v10, v11, v12, v13, v14]) ∧ Fd H' a s (1000 * i)) ?_ ?_ ?_⟩
  · exact ⟨⟨_, _, _, _, _, _, _, _, _, _, _, _, _, rfl⟩, f1⟩
  · rintro i σ H' hi ⟨⟨v2, v3, v4, v5, v6, v7, v8, v9, v10, v11, v12, v13, v14, rfl⟩, f0⟩
    refine ⟨_, rfl, a, s, _, 1000 * i, rfl, f0, by omega, by decide, by decide, fun r1 H1 r10 r11 sb1 f1 => ?_⟩
    refine ⟨_, rfl, a, s, _, 1000 * i + 1, rfl, f1, by omega, by decide, by decide, fun r2 H2 r20 r21 sb2 f2 => ?_⟩
    refine ⟨_, rfl, a, s, _, 1000 * i + 2, rfl, f2, by omega, by decide, by decide, fun r3 H3 r30 r31 sb3 f3 => ?_⟩
    obtain ⟨m1, rfl, hm1⟩ := nat_of (m := 5) r10 r11
    obtain ⟨m2, rfl, hm2⟩ := nat_of (m := 5) r20 r21
    obtain ⟨m3, rfl, hm3⟩ := nat_of (m := 5) r30 r31
    refine ⟨_, _, _, rfl, ?_⟩
    refine ⟨_, rfl, _, rfl, _, rfl, a, s, m1, m2, 1000 * i + 3, rfl, f3, by omega, by omega, by omega, fun v1 H4 rs sb4 f4 o1 hv1 => ?_⟩
    refine ⟨_, rfl, _, rfl, _, rfl, a, s, m2, m3, 1000 * i + 203, rfl, f4, by omega, by omega, by omega, fun u2 H5 ts sb5 f5 o2 hv2 => ?_⟩
    have hv1 := Dp.tk (f4.tk sb5) _ _ (tabD_tup _ _) hv1
    refine ⟨_, _, rfl, ?_⟩
    refine ⟨_, rfl, _, rfl, a, s, _, 1000 * i + 403, rfl, f5, by omega, by decide, by decide, fun r4 H6 r40 r41 sb6 f6 => ?_⟩
    obtain ⟨m4, rfl, hm4⟩ := nat_of (m := 5) r40 r41
    have hv1 := Dp.tk (f5.tk sb6) _ _ (tabD_tup _ _) hv1
    have hv2 := Dp.tk (f5.tk sb6) _ _ (tabD_tup _ _) hv2
    refine ⟨_, rfl, a, s, m4, m2, 1000 * i + 404, rfl, f6, by omega, by omega, by omega, fun v3 H7 us sb7 f7 o3 hv3 => ?_⟩
    have hv1 := Dp.tk (f6.tk sb7) _ _ (tabD_tup _ _) hv1
    have hv2 := Dp.tk (f6.tk sb7) _ _ (tabD_tup _ _) hv2
    refine ⟨_, rfl, (m2 : Int), rfl, by omega, by omega, fun D1 hD1 => ?_⟩
    refine lcrF (m := m2) (c := 2) (fun z => -99 ≤ z ∧ z ≤ 99) hD1 f7 (by omega) (fun _ => rfl) ?_ ?_
    · intro j H8 Q8 hj sb8 f8 k8
      exact ⟨_, rfl, a, s, _, rfl, f8, by omega, fun z H9 z0 z1 sb9 f9 => k8 z H9 sb9 f9 ⟨z0, by omega⟩⟩
    intro H8 rw sb8 f8 h8 hlen hb
    have hv1 := Dp.tk (f7.tk sb8) _ _ (tabD_tup _ _) hv1
    have hv2 := Dp.tk (f7.tk sb8) _ _ (tabD_tup _ _) hv2
    have hv3 := Dp.tk (f7.tk sb8) _ _ (tabD_tup _ _) hv3
    refine ⟨D1, _, rfl, .inl ⟨SqL.of h8, fun pr npr => ?_⟩⟩
    have e9 := Same.new (o := .tup (rw.map V.int)) npr
    have hrw : Dp K (upd H8 pr (.tup (rw.map V.int))) (.ref pr) (rowD rw) := mk_row (SqT.of upd_same)
    have hv1 := Dp.same e9 _ _ hv1
    have hv2 := Dp.same e9 _ _ hv2
    have hv3 := Dp.same e9 _ _ hv3
    have f9 := f8.same e9
    refine ⟨_, rfl, a, s, _, 1000 * i + 700, rfl, f9.mono (by omega), by omega, by decide, by decide, fun r5 H10 r50 r51 sb10 f10 => ?_⟩
    obtain ⟨n, rfl, hn⟩ := nat_of (m := 9) r50 r51
    have ar : Arg K H10 (.ref pr) v1 u2 v3 rw m2 rs m3 ts us := ⟨Dp.tk (f9.tk sb10) _ _ (rowD_tup _) hrw, Dp.tk (f9.tk sb10) _ _ (tabD_tup _ _) hv1,
      Dp.tk (f9.tk sb10) _ _ (tabD_tup _ _) hv2, Dp.tk (f9.tk sb10) _ _ (tabD_tup _ _) hv3⟩
    have hsm : Sm rw := fun x hx => by
      have := hb x hx
      omega
    have cd : Cond rw m2 rs m3 ts us n := ⟨o1.tb (by omega) (by omega), o2.tb (by omega) (by omega), by rw [o3.1]; omega, by rw [hlen, o2.1], by rw [o2.1], hsm, o1.sm, by omega⟩
    have sk := sh_kept (by omega) (by omega) (by omega) (by omega) o1 o2 o3 hlen hb
    have sd := sh_due (n := n) (by omega) (by omega) (by omega) (by omega) (by omega) o1 o2 o3 hlen hb
    obtain ⟨S1, hS1⟩ : ∃ S1, (keptD rw m2 rs m3 ts us).shown = S1 := ⟨_, rfl⟩
    obtain ⟨S2, hS2⟩ : ∃ S2, (PyData.list (dueD rw m2 rs m3 ts us n)).shown = S2 := ⟨_, rfl⟩
    refine ⟨_, rfl, _, rfl, _, rfl, _, rfl, by show 4 ≤ sizeLine; decide, fun q nq => ?_⟩
    obtain ⟨H11, xH11, e11, hq⟩ := tup_new (K := K) nq (.cons ar.r (.cons ar.one (.cons ar.other (.cons ar.third .nil))))
    rw [xH11]
    have hq : Dp K H11 (.ref q) (keptD rw m2 rs m3 ts us) := hq
    refine ⟨q, _, rfl, hq, sk.1, sk.2.1, Nat.le_trans sk.2.2.1 (by decide), Nat.le_trans sk.2.2.2 (by decide), ?_⟩
    rw [hS1]
    have ar11 := ar.same e11
    refine ⟨_, rfl, _, rfl, _, rfl, _, rfl, _, rfl, _, _, _, _, n, _, _, _, _, _, _, rfl, ar11, cd, fun l12 H12 e12 d12 => ?_⟩
    refine ⟨l12, _, rfl, d12, sd.1, sd.2.1, Nat.le_trans sd.2.2.1 (by decide), Nat.le_trans sd.2.2.2 (by decide), ?_⟩
    rw [hS2]
    have ar12 := ar11.same e12
    refine ⟨2, rfl, by decide, by decide, for_range (lo := 0) (n := 2) (fun j σ H' => (∃ v2 v13 v14 : Option V,
      σ = [some (.ref sc), some (.ref a), v2, some (.int m1), some (.int m2), some (.int m3), some v1, some u2, some v3, some (.ref pr), some (.int n),
        some (.str S1), some (.str S2), v13, v14]) ∧ Same H12 H') ?_ ?_ ?_⟩
    · exact ⟨⟨_, _, _, rfl⟩, Same.refl _⟩
    · rintro j σ H13 hj ⟨⟨w2, w13, w14, rfl⟩, e13⟩
      refine ⟨_, rfl, _, rfl, _, rfl, _, rfl, _, rfl, _, _, _, _, n, _, _, _, _, _, _, rfl, ar12.same e13, cd, fun l14 H14 e14 d14 => ?_⟩
      refine ⟨l14, _, rfl, d14, sd.1, sd.2.1, Nat.le_trans sd.2.2.1 (by decide), Nat.le_trans sd.2.2.2 (by decide), ?_⟩
      rw [hS2]
      refine ⟨_, rfl, rfl, _, rfl, ?_⟩
      exact iteNS rfl ⟨⟨_, _, _, rfl⟩, e13.trans e14⟩
    · rintro σ H13 ⟨⟨w2, w13, w14, rfl⟩, e13⟩
      have ar13 := ar12.same e13
      refine ⟨_, rfl, _, rfl, _, rfl, _, rfl, by show 4 ≤ sizeLine; decide, fun q2 nq2 => ?_⟩
      obtain ⟨H14, xH14, e14, hq2⟩ := tup_new (K := K) nq2 (.cons ar13.r (.cons ar13.one (.cons ar13.other (.cons ar13.third .nil))))
      rw [xH14]
      have hq2 : Dp K H14 (.ref q2) (keptD rw m2 rs m3 ts us) := hq2
      refine ⟨q2, _, rfl, hq2, sk.1, sk.2.1, Nat.le_trans sk.2.2.1 (by decide), Nat.le_trans sk.2.2.2 (by decide), ?_⟩
      rw [hS1]
      refine ⟨_, rfl, rfl, _, rfl, ?_⟩
      refine iteNS rfl ⟨⟨_, _, _, _, _, _, _, _, _, _, _, _, _, rfl⟩, ?_⟩
      exact ((((f10.same e11).same e12).same e13).same e14).mono (by omega)
  · rintro σ H' ⟨⟨v2, v3, v4, v5, v6, v7, v8, v9, v10, v11, v12, v13, v14, rfl⟩, f0⟩
    exact k _
end K05

set_option Elab.async false
set_option linter.all false
set_option maxRecDepth 100000
set_option maxHeartbeats 0
namespace K05
open PySem PySem.Spec PyProof.Rows L2 Gd
def d_unit : He.DefD := ⟨("unit", none), "unit", "unit", defArgs s_unit, defBody s_unit, defScope s_unit, [], []⟩
def d_unit_row : He.DefD := ⟨("unit_row", none), "unit_row", "unit_row", defArgs s_unit_row, defBody s_unit_row, defScope s_unit_row, [], []⟩
def d_row_times : He.DefD := ⟨("row_times", none), "row_times", "row_times", defArgs s_row_times, defBody s_row_times, defScope s_row_times, [], []⟩
def d_times : He.DefD := ⟨("times", none), "times", "times", defArgs s_times, defBody s_times, defScope s_times, [], []⟩
def d_turned_over : He.DefD := ⟨("turned_over", none), "turned_over", "turned_over", defArgs s_turned_over, defBody s_turned_over, defScope s_turned_over, [], []⟩
def d_stacked : He.DefD := ⟨("stacked", none), "stacked", "stacked", defArgs s_stacked, defBody s_stacked, defScope s_stacked, [], []⟩
def d_l_feed : He.DefD := ⟨("_law_feed", none), "_law_feed", "_law_feed", defArgs s_l_feed, defBody s_l_feed, defScope s_l_feed, [], []⟩
def d_l_draw : He.DefD := ⟨("_law_draw", none), "_law_draw", "_law_draw", defArgs s_l_draw, defBody s_l_draw, defScope s_l_draw, [], []⟩
def d_l_number : He.DefD := ⟨("_law_number", none), "_law_number", "_law_number", defArgs s_l_number, defBody s_l_number, defScope s_l_number, [], []⟩
def d_l_rows : He.DefD := ⟨("_law_rows", none), "_law_rows", "_law_rows", defArgs s_l_rows, defBody s_l_rows, defScope s_l_rows, [], []⟩
def d_l_table : He.DefD := ⟨("_law_table", none), "_law_table", "_law_table", defArgs s_l_table, defBody s_l_table, defScope s_l_table, [], []⟩
def d_l_row_times : He.DefD := ⟨("_law_row_times", none), "_law_row_times", "_law_row_times", defArgs s_l_row_times, defBody s_l_row_times, defScope s_l_row_times, [], []⟩
def d_l_turned : He.DefD := ⟨("_law_turned", none), "_law_turned", "_law_turned", defArgs s_l_turned, defBody s_l_turned, defScope s_l_turned, [], []⟩
def d_l_unit : He.DefD := ⟨("_law_unit", none), "_law_unit", "_law_unit", defArgs s_l_unit, defBody s_l_unit, defScope s_l_unit, [], []⟩
def d_l_due : He.DefD := ⟨("_law_due", none), "_law_due", "_law_due", defArgs s_l_due, defBody s_l_due, defScope s_l_due, [], []⟩
def d_l_told : He.DefD := ⟨("_law_told", none), "_law_told", "_law_told", defArgs s_l_told, defBody s_l_told, defScope s_l_told, [], []⟩
def d_law : He.DefD := ⟨("law", none), "law", "law", defArgs s_law, defBody s_law, defScope s_law, [], []⟩
def fnL : List He.DefD := [d_unit, d_unit_row, d_row_times, d_times, d_turned_over, d_stacked, d_l_feed, d_l_draw, d_l_number, d_l_rows, d_l_table, d_l_row_times, d_l_turned, d_l_unit, d_l_due, d_l_told, d_law]
def faL : List He.Fa := [.glo "unit", .glo "unit_row", .glo "row_times", .glo "times", .glo "turned_over", .glo "stacked", .glo "_law_feed", .glo "_law_draw", .glo "_law_number", .glo "_law_rows", .glo "_law_table", .glo "_law_row_times", .glo "_law_turned", .glo "_law_unit", .glo "_law_due", .glo "_law_told", .glo "law", .free "tuple", .free "range", .free "sum", .free "zip", .free "len", .free "list", .free "repr"]
abbrev Rw : PySem.W.OpenRow := PySem.W.OpenLaw.row PySem.Challenge.rw_stepforms_k05_tables_reckoned
abbrev hk : PySem.W.Hook := He.hookD 4 faL fnL
def ob (s : PySem.W.SharedT) : He.AlD := He.obsDG 4 faL fnL (HandSHeadRun.getT s)
theorem ob_eq (s : PySem.W.SharedT) : ob s = hk.obs s.abs := He.obsDG_eq (HandSHeadRun.getT_eq s)
abbrev loose : List Str := ["unit", "unit_row", "row_times", "times", "turned_over", "stacked", "_law_feed", "_law_draw", "_law_number", "_law_rows", "_law_table", "_law_row_times", "_law_turned", "_law_unit", "_law_due", "_law_told"]
theorem run (w : World) : HandSHeadRun.RunEq Rw (PySem.W.view Rw.prog [18]) hk ob 2000 loose w := by
  intro os
  kernel_rfl
theorem facts {P : Program} {w : World} {K : PySem.W.Frag} {h : Heap} {mg : Str → Option Value} {f : Addr}
    (X : K.In h) (G : h.Ns mainGlobals mg) (hfa : mg ("law" : Str) = some (.ref f)) (c : He.SaysD faL fnL K) :
    ∃ fd : FuncData, (∀ (s : Shared) (v : Value), BindsTo s fd ⟨[v], []⟩ [("_law_script", v)]) ∧
      ∀ base : Heap, K.In base → base.Ns mainGlobals mg →
        FnG P w K mg base 5 f fd ["_law_script"] (spLaw K) := by
  obtain ⟨fd0, F0⟩ := c.def_ 0 (d := d_unit) rfl
  have D0 : Df K mg "unit" s_unit := ⟨_, _, F0, He.glo_ok X G (c.fact 0 (f := .glo "unit") rfl)⟩
  obtain ⟨fd1, F1⟩ := c.def_ 1 (d := d_unit_row) rfl
  have D1 : Df K mg "unit_row" s_unit_row := ⟨_, _, F1, He.glo_ok X G (c.fact 1 (f := .glo "unit_row") rfl)⟩
  obtain ⟨fd2, F2⟩ := c.def_ 2 (d := d_row_times) rfl
  have D2 : Df K mg "row_times" s_row_times := ⟨_, _, F2, He.glo_ok X G (c.fact 2 (f := .glo "row_times") rfl)⟩
  obtain ⟨fd3, F3⟩ := c.def_ 3 (d := d_times) rfl
  have D3 : Df K mg "times" s_times := ⟨_, _, F3, He.glo_ok X G (c.fact 3 (f := .glo "times") rfl)⟩
  obtain ⟨fd4, F4⟩ := c.def_ 4 (d := d_turned_over) rfl
  have D4 : Df K mg "turned_over" s_turned_over := ⟨_, _, F4, He.glo_ok X G (c.fact 4 (f := .glo "turned_over") rfl)⟩
  obtain ⟨fd5, F5⟩ := c.def_ 5 (d := d_stacked) rfl
  have D5 : Df K mg "stacked" s_stacked := ⟨_, _, F5, He.glo_ok X G (c.fact 5 (f := .glo "stacked") rfl)⟩
  obtain ⟨fd6, F6⟩ := c.def_ 6 (d := d_l_feed) rfl
  have D6 : Df K mg "_law_feed" s_l_feed := ⟨_, _, F6, He.glo_ok X G (c.fact 6 (f := .glo "_law_feed") rfl)⟩
  obtain ⟨fd7, F7⟩ := c.def_ 7 (d := d_l_draw) rfl
  have D7 : Df K mg "_law_draw" s_l_draw := ⟨_, _, F7, He.glo_ok X G (c.fact 7 (f := .glo "_law_draw") rfl)⟩
  obtain ⟨fd8, F8⟩ := c.def_ 8 (d := d_l_number) rfl
  have D8 : Df K mg "_law_number" s_l_number := ⟨_, _, F8, He.glo_ok X G (c.fact 8 (f := .glo "_law_number") rfl)⟩
  obtain ⟨fd9, F9⟩ := c.def_ 9 (d := d_l_rows) rfl
  have D9 : Df K mg "_law_rows" s_l_rows := ⟨_, _, F9, He.glo_ok X G (c.fact 9 (f := .glo "_law_rows") rfl)⟩
  obtain ⟨fd10, F10⟩ := c.def_ 10 (d := d_l_table) rfl
  have D10 : Df K mg "_law_table" s_l_table := ⟨_, _, F10, He.glo_ok X G (c.fact 10 (f := .glo "_law_table") rfl)⟩
  obtain ⟨fd11, F11⟩ := c.def_ 11 (d := d_l_row_times) rfl
  have D11 : Df K mg "_law_row_times" s_l_row_times := ⟨_, _, F11, He.glo_ok X G (c.fact 11 (f := .glo "_law_row_times") rfl)⟩
  obtain ⟨fd12, F12⟩ := c.def_ 12 (d := d_l_turned) rfl
  have D12 : Df K mg "_law_turned" s_l_turned := ⟨_, _, F12, He.glo_ok X G (c.fact 12 (f := .glo "_law_turned") rfl)⟩
  obtain ⟨fd13, F13⟩ := c.def_ 13 (d := d_l_unit) rfl
  have D13 : Df K mg "_law_unit" s_l_unit := ⟨_, _, F13, He.glo_ok X G (c.fact 13 (f := .glo "_law_unit") rfl)⟩
  obtain ⟨fd14, F14⟩ := c.def_ 14 (d := d_l_due) rfl
  have D14 : Df K mg "_law_due" s_l_due := ⟨_, _, F14, He.glo_ok X G (c.fact 14 (f := .glo "_law_due") rfl)⟩
  obtain ⟨fd15, F15⟩ := c.def_ 15 (d := d_l_told) rfl
  have D15 : Df K mg "_law_told" s_l_told := ⟨_, _, F15, He.glo_ok X G (c.fact 15 (f := .glo "_law_told") rfl)⟩
  obtain ⟨fd16, F16⟩ := c.def_ 16 (d := d_law) rfl
  have D16 : Df K mg "law" s_law := ⟨_, _, F16, He.glo_ok X G (c.fact 16 (f := .glo "law") rfl)⟩
  have B : Bn mg := ⟨He.free_ok X G (c.fact 17 (f := .free "tuple") rfl), He.free_ok X G (c.fact 18 (f := .free "range") rfl), He.free_ok X G (c.fact 19 (f := .free "sum") rfl), He.free_ok X G (c.fact 20 (f := .free "zip") rfl), He.free_ok X G (c.fact 21 (f := .free "len") rfl), He.free_ok X G (c.fact 22 (f := .free "list") rfl), He.free_ok X G (c.fact 23 (f := .free "repr") rfl)⟩
  have e := hfa.symm.trans (He.glo_ok X G (c.fact 16 (f := .glo "law") rfl))
  cases e
  have b := FunD.bindsA (ps := ["_law_script"]) F16 fun _ _ _ _ _ _ us hl => match us, hl with | [_], _ => rfl
  refine ⟨fd16, fun s v => b s [v] rfl, fun base _ _ => ?_⟩
  have H1 := ok_unit_row (P := P) (w := w) (base := base) D1 B
  have H2 := ok_row_times (P := P) (w := w) (base := base) D2 B
  have H4 := ok_turned_over (P := P) (w := w) (base := base) D4 B
  have H5 := ok_stacked (P := P) (w := w) (base := base) D5 B
  have H6 := ok_l_feed (P := P) (w := w) (base := base) D6 B
  have H7 := ok_l_draw (P := P) (w := w) (base := base) D7 B
  have H11 := ok_l_row_times (P := P) (w := w) (base := base) D11 B
  have H12 := ok_l_turned (P := P) (w := w) (base := base) D12 B
  have H13 := ok_l_unit (P := P) (w := w) (base := base) D13 B
  have H0 := ok_unit (P := P) (w := w) (base := base) D0 B (h_unit_row := H1)
  have H3 := ok_times (P := P) (w := w) (base := base) D3 B (h_row_times := H2)
  have H8 := ok_l_number (P := P) (w := w) (base := base) D8 B (h_l_draw := H7)
  have H14 := ok_l_due (P := P) (w := w) (base := base) D14 B (h_l_row_times := H11) (h_l_turned := H12) (h_l_unit := H13)
  have H9 := ok_l_rows (P := P) (w := w) (base := base) D9 B (h_l_draw := H7) (h_l_number := H8)
  have H15 := ok_l_told (P := P) (w := w) (base := base) D15 B (h_row_times := H2) (h_times := H3) (h_turned_over := H4) (h_stacked := H5) (h_unit := H0)
  have H10 := ok_l_table (P := P) (w := w) (base := base) D10 B (h_l_rows := H9)
  exact ok_law F16 B (h_l_feed := H6) (h_l_table := H10) (h_l_draw := H7) (h_l_due := H14) (h_l_number := H8) (h_l_told := H15)
end K05
open PySem PySem.W PySem.Calls PyProof.Rows
set_option maxRecDepth 100000 in
set_option maxHeartbeats 0 in
theorem PySem.Challenge.cw_stepforms_k05_tables_reckoned_holds : PySem.Challenge.rw_stepforms_k05_tables_reckoned.Holds := by
  w_on; o_law
  refine HandSHeadRun.head_any (r := OpenLaw.row PySem.Challenge.rw_stepforms_k05_tables_reckoned)
    (q := view (OpenLaw.row PySem.Challenge.rw_stepforms_k05_tables_reckoned).prog [18]) (H := K05.hk) (ob := K05.ob)
    (M := 2000) (loose := K05.loose) (d := HandSHeadRun.topDef (OpenLaw.row PySem.Challenge.rw_stepforms_k05_tables_reckoned).prog 18)
    (kwd := []) K05.ob_eq (by kernel_rfl) (fun s => by kernel_rfl) K05.run (by kernel_rfl) (by kernel_rfl)
    (by kernel_rfl) (by rfl) (by first | assumption | decide +kernel) (by decide +kernel)
    ⟨rfl, rfl, rfl, rfl, rfl, by decide +kernel⟩ ?hw ?hc
  case hw => w_witness2
  case hc =>
    refine Gd.walkG (l := PySem.Challenge.rw_stepforms_k05_tables_reckoned) (n := 63) (k := 5) (x := "_law_script") rfl
      (by decide) (by kernel_rfl) ⟨rfl, by decide, by decide⟩ ?F
    intro w mg fa h Y G hmg0
    obtain ⟨K, KX, c⟩ := Y
    have hmg : mg ("law" : PySem.Str) = some (.ref fa) := by
      have e : (HandSHeadRun.topDef (OpenLaw.row PySem.Challenge.rw_stepforms_k05_tables_reckoned).prog 18).name = ("law" : PySem.Str) := by
        kernel_rfl
      rw [← e]
      exact hmg0
    obtain ⟨fd, hb, hF⟩ := K05.facts (P := (PySem.Challenge.rw_stepforms_k05_tables_reckoned).prog) (w := w) KX G hmg c
    exact ⟨K, fd, K05.spLaw K, KX, hb,
      fun H a ns hl _ hS => ⟨a, ns, rfl, hS, hl, fun _ => rfl⟩, hF⟩
