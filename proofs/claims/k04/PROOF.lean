import PyProof.Rows.All
import Wide.All
import OpenK.AllK
import Wide.FinOn
import KE.DatumIndex
import KE.GoesEnum
import KE.GoesMore
import PyProof.ReprRoads
import PyProof.ReprLen
import PyProof.StrLawsRepr
import HandS.ForMost
import HandS.WordsExc
import HandS.Wide
import HandS.Evl
import HandS.Style
import HandS.IsInst
import HandS.Conv
import HandS.Zip
import HandS.Rev
import HandS.TupMul
import HandS.TupAny
import HandS.TupLe
import HandS.Defaults
import HandS.Head0
import HandS.Head1
import HandS.Head2
import HandS.HeadEnd
import HandS.HeadHook1
import HandS.HeadHook2
import PySem.Challenge.RW_stepforms_k04_what_is_a_table
set_option Elab.async false
set_option linter.all false
set_option maxRecDepth 100000
set_option maxHeartbeats 4000000
namespace Gd
open PySem PySem.Spec PyProof.Rows L2
/-- a def that is called where no repr is under way -/
structure FnG (P : Program) (w : World) (K : PySem.W.Frag) (mg : Str → Option Value)
    (base : Heap) (k : Nat) (f : Addr) (fd : FuncData) (ps : List Str) (sp : Sp) : Prop where
  len : ∀ vs H Q E, sp vs H Q E → vs.length = ps.length
  go : ∀ (A : Around) (outer : List Env) (s : Shared) (H : Hp) (args : Args)
    (us : List Value) (vs : List V) (Q : VK) (E : XK),
    A.guards = some [] → Room k A → Env0 P w K mg base A outer s H →
    BindsTo s fd args (ps.zip us) → Vals vs us → sp vs H Q E →
    codeAny (model P w) A (.call (.ref f) args) (CR CX0 outer P w H s Q E) s
theorem guards_deeper {A : Around} {env : Env} (h : A.guards = some []) :
    (A.deeper env).guards = some [] := by
  first
    | exact h
    | (unfold Around.deeper; exact h)
    | simp [Around.deeper, h]
section
variable {P : Program} {w : World} {K : PySem.W.Frag} {mg : Str → Option Value} {base : Heap}
  {x qual : Str} {params : Arguments} {body : List Stmt} {scope : Scope} {dvs : List V}
  {kws : List (Str × V)} {f : Addr} {fd : FuncData}
/-- such a def by its body; the body knows that no repr is under way -/
theorem okG {N ps : List Str} {k : Nat} {sp : Sp}
    (F : FunD K x qual params body scope dvs kws f fd) (S : FnScope N ps scope)
    (len : ∀ vs H Q E, sp vs H Q E → vs.length = ps.length)
    (hbody : ∀ (cdv : Value) (A : Around) (outer : List Env) (s : Shared) (H : Hp)
      (vs : List V) (Q : VK) (E : XK),
      (A.deeper (envOfC qual scope s.heap.objs.size f cdv)).guards = some [] →
      Room k (A.deeper (envOfC qual scope s.heap.objs.size f cdv)) → sp vs H Q E →
      ∃ t, PSs (cxOf CX0 P w K mg base N qual scope f cdv A outer s H E) body t ∧
        t { nx := fun _ H' => Q .non H', rt := Q } (start N vs) H) :
    FnG P w K mg base (k + 1) f fd ps sp := by
  obtain ⟨oc, od, dV, kV, doc, pm, an, cdv, ct, osl, rfl, hat, hcode, _, _⟩ := F.ex
  refine ⟨len, ?_⟩
  intro A outer s H args us vs Q E hG room env bind rel want
  have kin : K.In s.heap :=
    env.mod.kin.keeps (fun b o e => (env.bs b o e).1)
  have nolim : s.heap.NoLimit :=
    env.mod.nolimit.keeps (fun b o e => (env.bs b o e).1)
  refine codeAny_call_function room.depth (kin _ _ hat) rfl S.co S.gen rfl
    (PySem.W.codeRec_of kin hcode) (bind _ _ _ _ ?_)
  refine wpAny_newFunctionEnv_cells S.kind ?_ ?_
  · rintro ⟨n, v⟩ hy
    cases S.par n (List.of_mem_zip hy).1 with
    | inl q => exact Or.inl q
    | inr q => exact Or.inr ⟨q, PySem.W.cellsFrom_some _ _ _ (.inl q)⟩
  · intro en he s1 made
    subst he
    refine ⟨nolim.keeps made.toInCall.keep, codeAny_func ?_⟩
    obtain ⟨t, derived, told⟩ :=
      hbody cdv A outer s H vs Q E (guards_deeper hG) (room.deeper _) want
    have inv0 := inv_start (CX := CX0) (E := E) S room.hd env (len _ _ _ _ want) rel made
    refine wpAny_mono (derived.run [] s1 (start N vs) H _ inv0 told) ?_ (fun _ _ z => z)
    intro fl s' hs
    cases fl with
    | brk => exact False.elim hs.choose_spec.choose_spec.2
    | cont => exact False.elim hs.choose_spec.choose_spec.2
    | next =>
      obtain ⟨_, H', J, q⟩ := hs
      exact ⟨.non, H', J.os, J.bare, J.base, J.hok, rfl, q⟩
    | ret u =>
      obtain ⟨v, _, H', J, rv, q⟩ := hs
      exact ⟨v, H', J.os, J.bare, J.base, J.hok, rv, q⟩
end
section
variable {X : Cx} {k : Nat} {f : Addr} {fd : FuncData} {ps : List Str} {sp : Sp}
  {E : XK} {x : Str} {p pos : Pos} {e : Expr} {es : List Expr} {t : TA}
/-- the call of such a def from a body that knows the same -/
theorem pe_callG (F : FnG X.prog X.w X.K X.mg X.base k f fd ps sp)
    (hG : X.A.guards = some []) (hr : Room k X.A) (hg : Gl X x)
    (hm : X.mg x = some (.ref f)) (hk : PySem.W.keepIn X.K (.ref f) = true)
    (hb : Binds X.K fd ps []) (ha : PA X (e :: es) t)
    (hdb : (x == ("__debug__" : Str)) = false := by decide)
    (he : starEach (e :: es) X.env = (false, eval e X.env) :: starEach es X.env := by rfl)
    (hpl : (backTo pos (starEach es X.env)).any (·.1) = false := by rfl) :
    PE X (.Call (.Name x p) (e :: es) [] pos) (tCall sp [] E0 t) := by
  constructor
  intro pins s σ H Q I h
  refine wpAny_Call_Name_kw (ld_glob I hg hm ?_ hdb)
  refine PySem.W.callWith_K (h₀ := X.base) I.ok.mod.kin hk (thn (ha.run pos pins s σ H _ I h) ?_) he hpl
  rintro us s1 ⟨vs, H1, I1, r, q⟩
  refine ⟨I1.kIn, ?_⟩
  have q' : sp (vs ++ []) H1 Q E0 := q
  rw [List.append_nil] at q'
  have hl : (us ++ []).length = ps.length := by
    rw [List.append_nil, ← r.length]
    exact F.len _ _ _ _ q'
  have hbb := hb s1 us I1.kIn hl
  rw [List.append_nil] at hbb
  refine wpAny_call (codeAny_mono (F.go X.A X.stack s1 H1 ⟨us, []⟩ us vs Q E0 hG hr I1.env0 hbb r q') ?_)
  intro r s' hq
  cases r with
  | error e => exact False.elim hq
  | ok fl =>
    cases fl with
    | next => exact False.elim hq
    | brk => exact False.elim hq
    | cont => exact False.elim hq
    | ret u => exact I1.after hq
end
section
variable {X : Cx}
/-- repr of data -/
def rRepr (K : PySem.W.Frag) : List V → Hp → VK → Prop := fun vs H Q =>
  ∃ (a : Addr) (d : PyData), vs = [.ref a] ∧ Dp K H (.ref a) d ∧ d.showable = true ∧
    d.hasDict = false ∧ d.depth ≤ 60 ∧ d.shown.length ≤ sizeLine ∧ Q (.str d.shown) H
theorem call_repr (hG : X.A.guards = some []) (hu : X.A.units + 64 < cLine) :
    CallR X (.builtin "repr") (rRepr X.K) := by
  intro pins s σ H xs us Q I r h
  obtain ⟨a, d, rfl, hd, hs, hn, hdp, hz, q⟩ := h
  have hu1 := Vals.ref1 r
  rw [hu1]
  obtain ⟨as, rd⟩ := Dp.reads I d _ _ hd (show RelV (.ref a) (.ref a) from rfl)
  refine repr_of_reads' rd hs (fun e => by rw [hn] at e; cases e) hG (by omega) (fun _ _ e => e) ?_ hz
  intro h' u tk hk
  exact ⟨.str d.shown, H, I.kept hk, ⟨u, rfl⟩, q⟩
/-- floor division by any great divisor but 0 -/
def CDivA (_ j : Int) : Prop := j ≠ 0 ∧ j.natAbs.log2 < 9000
theorem op_fdivA : OpR X (binaryOp .FloorDiv) (rI CDivA fun i j => .int (i.fdiv j)) :=
  opI fun i j _ _ _ _ _ hc q =>
    floordiv_int hc.1 q (.inl (PyProof.noPylong_of_log2 hc.2))
end
end Gd
namespace Gd
open PySem PySem.Spec PyProof.Rows L2
section
variable {P : Program} {w : World} {K : PySem.W.Frag} {mg mb : Str → Option Value}
  {k : Nat} {fa a : Addr} {fd : FuncData} {x : Str} {sp : Sp} {s : Shared}
  {vs : List Value} {ns : List Int}
/-- the abstract heap of a law's entry tracks the script alone -/
theorem law_coreG (kin : K.In s.heap) (hns : s.heap.Ns mainGlobals mg)
    (hb : s.heap.Ns builtinsNs mb) (hbb : ∀ x : Str, x ≠ "__name__" → mb x = bootBuiltins x)
    (hlim : s.heap.NoLimit) (hgens : s.gens = #[])
    (hat : s.heap.get? a = some { cls := .type "list", data := .seq vs.toArray })
    (hr : Room k callerA)
    (F : ∀ base : Heap, K.In base → base.Ns mainGlobals mg → FnG P w K mg base k fa fd [x] sp)
    (hbind : ∀ (s : Shared) (u : Value), BindsTo s fd ⟨[u], []⟩ [(x, u)])
    (H : Hp) (hO : Only H) (hok : HOk P w H s.heap) (hA : ∀ b, H b ≠ none → b = a)
    (hK : H a ≠ none → K.lookup a = none)
    (hsp : sp [.ref a] H (fun v _ => v = .bl true) E0) :
    codeAny (model P w) callerA (.call (.ref fa) ⟨[.ref a], []⟩)
      (fun r s' => r = .ok (.ret (.bool true)) ∧ OldK s.heap s'.heap ∧ s'.os = s.os ∧
        AllBare s'.gens) s := by
  have free_of : ∀ b : Addr, b ≠ a → H b = none := by
    intro b hb
    cases q : H b with
    | none => rfl
    | some u => exact absurd (hA b (by rw [q]; exact Option.some_ne_none u)) hb
  have dictFree : ∀ {b : Addr} {o : Obj} {es : Array DictEntry} {ep : Nat},
      s.heap.get? b = some o → o.data = .dict es ep → H b = none := by
    intro b o es ep e d
    refine free_of b ?_
    rintro rfl
    rw [hat] at e
    cases e
    cases d
  have nsHid : ∀ {b : Addr} {m : Str → Option Value},
      s.heap.Ns b m → (hidT s.heap H).Ns b m := by
    rintro b m ⟨o, es, ep, e, d, r⟩
    exact ⟨o, es, ep, hidT_get e (dictFree e d), d, r⟩
  have kinHid : K.In (hidT s.heap H) := by
    intro b o e
    refine hidT_get (kin b o e) ?_
    by_cases h : b = a
    · subst h
      cases q : H b with
      | none => rfl
      | some u =>
        rw [hK (by rw [q]; exact Option.some_ne_none u)] at e
        cases e
    · exact free_of b h
  obtain ⟨mc, hl1, hl2⟩ := hlim
  have modHid : Mod K mg (hidT s.heap H) :=
    ⟨kinHid, nsHid hns, ⟨mb, nsHid hb, hbb⟩, ⟨mc, nsHid hl1, hl2⟩⟩
  have env : Env0 P w K mg (hidT s.heap H) callerA [] s H := by
    refine ⟨rfl, modHid, fun b o e => of_hidT e, Nat.le_of_eq (hidT_size _ _), trivial, ?_, hok, .of_eq hgens⟩
    intro b hb
    cases hb
  have run := (F _ kinHid (nsHid hns)).go callerA [] s H ⟨[.ref a], []⟩ [.ref a] [.ref a] _ _
    rfl hr env (hbind s (.ref a)) (.cons rfl .nil) hsp
  refine codeAny_mono run ?_
  intro r s' h
  cases r with
  | error e => exact False.elim h
  | ok fl =>
    cases fl with
    | next => exact False.elim h
    | brk => exact False.elim h
    | cont => exact False.elim h
    | ret u =>
      obtain ⟨v, H', os, bare, un, hok', rel, rfl⟩ := h
      cases rel
      refine ⟨rfl, OldK.of_keep ?_, os, bare⟩
      intro b o e
      cases q : H b with
      | none => exact un.keep b o e q (fun z => by cases z) (fun z => by cases z)
      | some u =>
        rcases hO b with z | ⟨ob, xs, z⟩
        · rw [q] at z
          cases z
        · have e1 := (hok b _ z).1
          have e2 := (hok' b _ (un.frzs b ob _ z)).1
          rw [e] at e1
          cases e1
          exact e2
theorem law_goG (kin : K.In s.heap) (hns : s.heap.Ns mainGlobals mg)
    (hb : s.heap.Ns builtinsNs mb) (hbb : ∀ x : Str, x ≠ "__name__" → mb x = bootBuiltins x)
    (hlim : s.heap.NoLimit) (hgens : s.gens = #[])
    (hat : s.heap.get? a = some { cls := .type "list", data := .seq vs.toArray })
    (hi : IntsAre vs ns) (hl : ns.length ≤ sizeLine) (hr : Room k callerA)
    (F : ∀ base : Heap, K.In base → base.Ns mainGlobals mg → FnG P w K mg base k fa fd [x] sp)
    (hbind : ∀ (s : Shared) (u : Value), BindsTo s fd ⟨[u], []⟩ [(x, u)])
    (hsp : ∀ H : Hp, Only H → SqL K H a (ns.map V.int) →
      sp [.ref a] H (fun v _ => v = .bl true) E0) :
    codeAny (model P w) callerA (.call (.ref fa) ⟨[.ref a], []⟩)
      (fun r s' => r = .ok (.ret (.bool true)) ∧ OldK s.heap s'.heap ∧ s'.os = s.os ∧
        AllBare s'.gens) s := by
  have rel := vals_ints hi
  have lenEq := hi.length
  cases hk : K.lookup a with
  | some o =>
    have e := kin a o hk
    rw [hat] at e
    cases e
    have hO : Only (fun _ => none) := fun _ => Or.inl rfl
    have hS : SqL K (fun _ => none) a (ns.map V.int) :=
      Or.inr ⟨_, vs.toArray, _, hk, rfl, rfl, rfl,
        by rw [List.size_toArray, lenEq]; exact hl, by simpa using rel⟩
    exact law_coreG kin hns hb hbb hlim hgens hat hr F hbind _ hO
      (fun b u z => nomatch z) (fun b z => absurd rfl z) (fun z => absurd rfl z) (hsp _ hO hS)
  | none =>
    let H : Hp := fun b => if b = a then
      some (.frz { cls := .type "list", data := .seq vs.toArray } (.lst (ns.map V.int))) else none
    have at_a : H a = some (.frz { cls := .type "list", data := .seq vs.toArray }
      (.lst (ns.map V.int))) := if_pos rfl
    have off : ∀ b, b ≠ a → H b = none := fun b h => if_neg h
    have hO : Only H := by
      intro b
      by_cases h : b = a
      · subst h
        exact Or.inr ⟨_, _, at_a⟩
      · exact Or.inl (off b h)
    have hS : SqL K H a (ns.map V.int) := Or.inl (Or.inr ⟨_, at_a⟩)
    refine law_coreG kin hns hb hbb hlim hgens hat hr F hbind H hO ?_ ?_ (fun _ => hk) (hsp H hO hS)
    · intro b u z
      by_cases h : b = a
      · subst h
        rw [at_a] at z
        cases z
        exact ⟨hat, by rw [List.length_map]; exact hl, vs, _, rel, hat⟩
      · rw [off b h] at z
        cases z
    · intro b z
      by_cases h : b = a
      · exact h
      · exact absurd (off b h) z
end
/-- a law's end -/
theorem walkG {l : PySem.W.OpenLaw} {n k : Nat} {q : Program} {loose : List Str}
    {XP : (Str → Option Value) → Heap → Prop} {YP : World → Heap → Prop} {d : DefRec} {x : Str}
    (hn : l.most = some n) (hn2 : n ≤ sizeLine) (hdf : d.params.defaults = [])
    (hr : Room k callerA)
    (F : ∀ (w : World) (mg : Str → Option Value) (fa : Addr) (h : Heap), YP w h →
      h.Ns mainGlobals mg → mg d.name = some (.ref fa) →
      ∃ (K : PySem.W.Frag) (fd : FuncData) (sp : Sp), K.In h ∧
        (∀ (s : Shared) (u : Value), BindsTo s fd ⟨[u], []⟩ [(x, u)]) ∧
        (∀ (H : Hp) (a : Addr) (ns : List Int), ns.length ≤ n → Only H →
          SqL K H a (ns.map V.int) → sp [.ref a] H (fun v _ => v = .bl true) E0) ∧
        ∀ base : Heap, K.In base → base.Ns mainGlobals mg → FnG l.prog w K mg base k fa fd [x] sp) :
    PySem.W.WalkO q loose XP YP l.row.toRowW d [] (fun f vs => PySem.call f vs) := by
  refine Att.attach_call hn hdf ?_
  intro w s₀ s₁ mg mb fa o pm cd doc a vs ns G Y _ _ _ hmg hobj hints hlen hgens
  obtain ⟨K, fd, sp, kin, hb, hsp, hF⟩ := F w mg fa _ Y G.T.g hmg
  exact law_goG kin G.T.g G.T.b G.T.builtins G.T.nolimit hgens hobj hints
    (Nat.le_trans hlen hn2) hr hF hb (fun H hO hS => hsp H a ns hlen hO hS)
end Gd
namespace Gd
open PySem PySem.Spec PyProof.Rows L2
/-- the def x of the text stands at its name -/
def Df (K : PySem.W.Frag) (mg : Str → Option Value) (x : Str) (st : Stmt) : Prop :=
  ∃ f fd, FunD K x x (defArgs st) (defBody st) (defScope st) [] [] f fd ∧ mg x = some (.ref f)
/-- the def x keeps its promise; the same where no repr is under way -/
def Has (P : Program) (w : World) (K : PySem.W.Frag) (mg : Str → Option Value) (base : Heap)
    (x : Str) (k : Nat) (ps : List Str) (sp : Sp) : Prop :=
  ∃ f fd, FnOk P w K mg base CX0 k f fd ps sp ∧ mg x = some (.ref f) ∧
    PySem.W.keepIn K (.ref f) = true ∧ Binds K fd ps []
def HasG (P : Program) (w : World) (K : PySem.W.Frag) (mg : Str → Option Value) (base : Heap)
    (x : Str) (k : Nat) (ps : List Str) (sp : Sp) : Prop :=
  ∃ f fd, FnG P w K mg base k f fd ps sp ∧ mg x = some (.ref f) ∧
    PySem.W.keepIn K (.ref f) = true ∧ Binds K fd ps []
abbrev BndOk (x : Str) (st : Stmt) (ps : List Str) : Prop :=
  ∀ (kV doc pm : Value) (an : Option Addr) (cdv ct : Value) (us : List Value),
    us.length = ps.length →
    bindArgs (PySem.W.fnOf x x (defArgs st) (defBody st) (defScope st) .none kV doc pm an cdv ct)
      ⟨us, []⟩ = pure (ps.zip us)
section
variable {P : Program} {w : World} {K : PySem.W.Frag} {mg : Str → Option Value} {base : Heap}
  {x : Str} {st : Stmt} {N ps : List Str} {k : Nat} {sp : Sp}
theorem has_of (D : Df K mg x st) (S : FnScope N ps (defScope st)) (hb : BndOk x st ps)
    (len : ∀ vs H Q E, sp vs H Q E → vs.length = ps.length)
    (hbody : ∀ (f : Addr) (cdv : Value) (A : Around) (outer : List Env) (s : Shared) (H : Hp)
      (vs : List V) (Q : VK) (E : XK),
      Room k (A.deeper (envOfC x (defScope st) s.heap.objs.size f cdv)) → sp vs H Q E →
      ∃ t, PSs (cxOf CX0 P w K mg base N x (defScope st) f cdv A outer s H E).nox (defBody st) t ∧
        t { nx := fun _ H' => Q .non H', rt := Q } (start N vs) H) :
    Has P w K mg base x (k + 1) ps sp := by
  obtain ⟨f, fd, F, hm⟩ := D
  refine ⟨f, fd, F.ok S len ?_, hm, F.kp, F.bindsN hb⟩
  intro cdv A outer s H vs Q E hr h
  obtain ⟨t, h1, h2⟩ := hbody f cdv A outer s H vs Q E hr h
  exact ⟨t, PSs.nox h1, h2⟩
theorem hasG_of (D : Df K mg x st) (S : FnScope N ps (defScope st)) (hb : BndOk x st ps)
    (len : ∀ vs H Q E, sp vs H Q E → vs.length = ps.length)
    (hbody : ∀ (f : Addr) (cdv : Value) (A : Around) (outer : List Env) (s : Shared) (H : Hp)
      (vs : List V) (Q : VK) (E : XK),
      (A.deeper (envOfC x (defScope st) s.heap.objs.size f cdv)).guards = some [] →
      Room k (A.deeper (envOfC x (defScope st) s.heap.objs.size f cdv)) → sp vs H Q E →
      ∃ t, PSs (cxOf CX0 P w K mg base N x (defScope st) f cdv A outer s H E).nox (defBody st) t ∧
        t { nx := fun _ H' => Q .non H', rt := Q } (start N vs) H) :
    HasG P w K mg base x (k + 1) ps sp := by
  obtain ⟨f, fd, F, hm⟩ := D
  refine ⟨f, fd, okG F S len ?_, hm, F.kp, F.bindsN hb⟩
  intro cdv A outer s H vs Q E hG hr h
  obtain ⟨t, h1, h2⟩ := hbody f cdv A outer s H vs Q E hG hr h
  exact ⟨t, PSs.nox h1, h2⟩
end
section
variable {X : Cx} {k : Nat} {ps : List Str} {sp : Sp} {x : Str} {p pos : Pos} {e : Expr}
  {es : List Expr} {t : TA}
theorem pe_has (F : Has X.prog X.w X.K X.mg X.base x k ps sp) (hr : Room k X.A) (hg : Gl X x)
    (ha : PA X (e :: es) t) (hdb : (x == ("__debug__" : Str)) = false := by decide)
    (he : starEach (e :: es) X.env = (false, eval e X.env) :: starEach es X.env := by rfl)
    (hpl : (backTo pos (starEach es X.env)).any (·.1) = false := by rfl) :
    PE X (.Call (.Name x p) (e :: es) [] pos) (tCall sp [] E0 t) := by
  obtain ⟨f, fd, G, hm, kp, hb⟩ := F
  exact pe_call G hr hg hm kp hb .nil pass0 ha hdb he hpl
theorem pe_hasG (F : HasG X.prog X.w X.K X.mg X.base x k ps sp) (hG : X.A.guards = some [])
    (hr : Room k X.A) (hg : Gl X x)
    (ha : PA X (e :: es) t) (hdb : (x == ("__debug__" : Str)) = false := by decide)
    (he : starEach (e :: es) X.env = (false, eval e X.env) :: starEach es X.env := by rfl)
    (hpl : (backTo pos (starEach es X.env)).any (·.1) = false := by rfl) :
    PE X (.Call (.Name x p) (e :: es) [] pos) (tCall sp [] E0 t) := by
  obtain ⟨f, fd, G, hm, kp, hb⟩ := F
  exact pe_callG G hG hr hg hm kp hb ha hdb he hpl
end
/-! ### heaps -/
/-- all but what stands at a is as it was -/
def Sb (a : Addr) (H H' : Hp) : Prop := ∀ b o, b ≠ a → H b = some o → H' b = some o
theorem Sb.refl (a : Addr) (H : Hp) : Sb a H H := fun _ _ _ h => h
theorem Sb.trans {a : Addr} {H H1 H2 : Hp} (x : Sb a H H1) (y : Sb a H1 H2) : Sb a H H2 :=
  fun b o n h => y b o n (x b o n h)
theorem Sb.of {a : Addr} {H H1 : Hp} (x : Same H H1) : Sb a H H1 := fun b o _ h => x b o h
theorem Same.new {H : Hp} {p : Addr} {o : HO} (h : H p = none) : Same H (upd H p o) :=
  fun b u e => by rw [upd_ne (ne_of_none e h)]; exact e
/-- an object that H does not know may change -/
theorem Same.mut {H H' : Hp} {p : Addr} {o : HO} (e : Same H H') (h : H p = none) :
    Same H (upd H' p o) := fun a u ha => by
  rw [upd_ne (ne_of_none ha h)]
  exact e a u ha
theorem Sb.mut {a : Addr} {H H' : Hp} {p : Addr} {o : HO} (e : Sb a H H') (h : H p = none) :
    Sb a H (upd H' p o) := fun b u n hb => by
  rw [upd_ne (ne_of_none hb h)]
  exact e b u n hb
theorem Sb.own {a : Addr} {H H' : Hp} {o : HO} (e : Sb a H H') : Sb a H (upd H' a o) :=
  fun b u n hb => by rw [upd_ne n]; exact e b u n hb
theorem Sb.new {a : Addr} {H : Hp} {p : Addr} {o : HO} (h : H p = none) : Sb a H (upd H p o) :=
  Sb.of (Same.new h)
theorem Sb.free {a p : Addr} {H H' : Hp} (e : Sb a H H') (n : p ≠ a) (h : H' p = none) :
    H p = none := by
  cases q : H p with
  | none => rfl
  | some o => rw [e p o n q] at h; cases h
/-- the feed of a law at a: its cells at s (the script's first ones), where it stands, what is left,
how many draws there were (n at most) -/
def Fd (H : Hp) (a s : Addr) (n : Nat) : Prop :=
  ∃ (ns : List Int) (p l c : Int),
    H a = some (.lst [.ref s, .int p, .int l, .int c]) ∧ H s = some (.lst (ns.map V.int)) ∧
    ns.length ≤ 63 ∧ 0 ≤ p ∧ 0 ≤ c ∧ c ≤ (n : Int)
theorem Fd.mono {H : Hp} {a s : Addr} {n m : Nat} (h : Fd H a s n) (e : n ≤ m) : Fd H a s m := by
  obtain ⟨ns, p, l, c, h1, h2, h3, h4, h5, h6⟩ := h
  exact ⟨ns, p, l, c, h1, h2, h3, h4, h5, by omega⟩
theorem Fd.same {H H' : Hp} {a s : Addr} {n : Nat} (h : Fd H a s n) (e : Same H H') : Fd H' a s n := by
  obtain ⟨ns, p, l, c, h1, h2, h3, h4, h5, h6⟩ := h
  exact ⟨ns, p, l, c, e _ _ h1, e _ _ h2, h3, h4, h5, h6⟩
theorem Fd.at {H : Hp} {a s : Addr} {n : Nat} (h : Fd H a s n) : ∃ xs, H a = some (.lst xs) := by
  obtain ⟨ns, p, l, c, h1, _⟩ := h
  exact ⟨_, h1⟩
/-- another object changes -/
theorem Fd.upd {H : Hp} {a s D : Addr} {n : Nat} {o : HO} (h : Fd H a s n) (h1 : D ≠ a) (h2 : D ≠ s) :
    Fd (L2.upd H D o) a s n := by
  obtain ⟨ns, p, l, c, e1, e2, h3, h4, h5, h6⟩ := h
  exact ⟨ns, p, l, c, by rw [upd_ne h1.symm]; exact e1, by rw [upd_ne h2.symm]; exact e2, h3, h4, h5, h6⟩
/-- what is new is none of the feed's -/
theorem Fd.apart {H : Hp} {a s D : Addr} {n : Nat} (h : Fd H a s n) (hD : H D = none) : D ≠ a ∧ D ≠ s := by
  obtain ⟨ns, p, l, c, e1, e2, _⟩ := h
  constructor
  · intro z
    rw [z, e1] at hD
    cases hD
  · intro z
    rw [z, e2] at hD
    cases hD
theorem Fd.tk {H H' : Hp} {a s : Addr} {n : Nat} (h : Fd H a s n) (e : Sb a H H') :
    ∀ b o, (∀ xs, o ≠ .lst xs) → H b = some o → H' b = some o := by
  obtain ⟨xs, hx⟩ := h.at
  intro b o no hb
  refine e b o ?_ hb
  rintro rfl
  rw [hx] at hb
  cases hb
  exact no _ rfl
end Gd
namespace Gd
open PySem PySem.Spec PyProof.Rows L2
/-- data whose repr is known: of this depth at most, its text of so many signs at most -/
def Sh (k n : Nat) (d : PyData) : Prop :=
  d.showable = true ∧ d.hasDict = false ∧ d.depth ≤ k ∧ d.shown.length ≤ n
theorem Sh.mono {k k' n n' : Nat} {d : PyData} (h : Sh k n d) (hk : k ≤ k') (hn : n ≤ n') :
    Sh k' n' d := ⟨h.1, h.2.1, Nat.le_trans h.2.2.1 hk, Nat.le_trans h.2.2.2 hn⟩
theorem Sh.int {i : Int} (h : i.natAbs < 2 ^ 1900) : Sh 0 1901 (.int i) := by
  have hl : i.natAbs.log2 < 1900 := PySem.Flt.log2_lt_of (by decide) h
  refine ⟨?_, ?_, ?_, ?_⟩
  · simp only [PyData.showable, decide_eq_true_eq]
    omega
  · simp only [PyData.hasDict]
  · simp only [PyData.depth]
    omega
  · have e := PySem.int_text_length_le (a := i) (k := 1900) (by decide) hl
    simp only [PyData.shown]
    have e2 := PySem.ofString_length (toString i)
    show (Str.ofString (toString i)).length ≤ 1901
    omega
theorem sh_all {k n : Nat} : ∀ ds : List PyData, (∀ d ∈ ds, Sh k n d) →
    PyData.showableAll ds = true ∧ PyData.hasDictAll ds = false ∧ PyData.depthAll ds ≤ k ∧
    ((PyData.shownAll ds).map (·.length)).sum ≤ ds.length * n ∧ (PyData.shownAll ds).length = ds.length
  | [], _ => by
    refine ⟨?_, ?_, ?_, ?_, ?_⟩
    · simp only [PyData.showableAll]
    · simp only [PyData.hasDictAll]
    · simp only [PyData.depthAll]
      omega
    · simp only [PyData.shownAll, List.map_nil, List.sum_nil, List.length_nil]
      omega
    · simp only [PyData.shownAll, List.length_nil]
  | d :: ds, h => by
    obtain ⟨a1, a2, a3, a4⟩ := h d (List.mem_cons_self ..)
    obtain ⟨b1, b2, b3, b4, b5⟩ := sh_all ds (fun x hx => h x (List.mem_cons_of_mem _ hx))
    refine ⟨?_, ?_, ?_, ?_, ?_⟩
    · simp only [PyData.showableAll, a1, b1, Bool.and_self]
    · simp only [PyData.hasDictAll, a2, b2, Bool.or_self]
    · simp only [PyData.depthAll]
      omega
    · simp only [PyData.shownAll, List.map_cons, List.sum_cons, List.length_cons, Nat.add_mul,
        Nat.one_mul]
      omega
    · simp only [PyData.shownAll, List.length_cons, b5]
theorem Sh.tup {k n m : Nat} {ds : List PyData} (h : ∀ d ∈ ds, Sh k n d) (hl : ds.length ≤ m) :
    Sh (k + 1) (m * (n + 2) + 3) (.tuple ds) := by
  obtain ⟨b1, b2, b3, b4, b5⟩ := sh_all ds h
  refine ⟨?_, ?_, ?_, ?_⟩
  · simp only [PyData.showable, b1]
  · simp only [PyData.hasDict, b2]
  · simp only [PyData.depth]
    omega
  · have e := PySem.tupleText_len_le (PyData.shownAll ds)
    simp only [PyData.shown]
    have e2 : ds.length * n ≤ m * n := Nat.mul_le_mul_right _ hl
    rw [Nat.mul_add]
    omega
theorem Sh.lst {k n m : Nat} {ds : List PyData} (h : ∀ d ∈ ds, Sh k n d) (hl : ds.length ≤ m) :
    Sh (k + 1) (m * (n + 2) + 3) (.list ds) := by
  obtain ⟨b1, b2, b3, b4, b5⟩ := sh_all ds h
  refine ⟨?_, ?_, ?_, ?_⟩
  · simp only [PyData.showable, b1]
  · simp only [PyData.hasDict, b2]
  · simp only [PyData.depth]
    omega
  · have e := PySem.listText_len_le (PyData.shownAll ds)
    simp only [PyData.shown]
    have e2 : ds.length * n ≤ m * n := Nat.mul_le_mul_right _ hl
    rw [Nat.mul_add]
    omega
theorem repr_at {K : PySem.W.Frag} {H : Hp} {a : Addr} {d : PyData} {k n : Nat} {Q : VK}
    (hd : Dp K H (.ref a) d) (hs : Sh k n d) (hk : k ≤ 60) (hn : n ≤ 16000000)
    (q : Q (.str d.shown) H) : rRepr K [.ref a] H Q :=
  ⟨a, d, rfl, hd, hs.1, hs.2.1, Nat.le_trans hs.2.2.1 hk,
    Nat.le_trans hs.2.2.2 (Nat.le_trans hn (by decide)), q⟩
/-- data that are there stay while what is tracked stays -/
theorem sql_same {K : PySem.W.Frag} {H H' : Hp} {a : Addr} {xs : List V} (e : Same H H')
    (h : SqL K H a xs) : SqL K H' a xs := e.seq h
theorem sqt_same {K : PySem.W.Frag} {H H' : Hp} {a : Addr} {xs : List V} (e : Same H H')
    (h : SqT K H a xs) : SqT K H' a xs := by
  rcases h with (h | ⟨o, h⟩) | h
  · exact Or.inl (Or.inl (e _ _ h))
  · exact Or.inl (Or.inr ⟨o, e _ _ h⟩)
  · exact Or.inr h
mutual
theorem Dp.same {K : PySem.W.Frag} {H H' : Hp} (e : Same H H') : ∀ (d : PyData) (v : V),
    Dp K H v d → Dp K H' v d
  | .none, _, h => by cases h; exact .non
  | .bool b, _, h => by cases h; exact .bl b
  | .int i, _, h => by cases h; exact .int i
  | .str x, _, h => by cases h; exact .str x
  | .list ds, _, h => by
    cases h with
    | lst hs ha => exact .lst (sql_same e hs) (DpAll.same e ds _ ha)
  | .tuple ds, _, h => by
    cases h with
    | tup hs ha => exact .tup (sqt_same e hs) (DpAll.same e ds _ ha)
  | .dict _, _, h => by cases h
theorem DpAll.same {K : PySem.W.Frag} {H H' : Hp} (e : Same H H') : ∀ (ds : List PyData)
    (vs : List V), DpAll K H vs ds → DpAll K H' vs ds
  | [], _, h => by cases h; exact .nil
  | d :: ds, _, h => by
    cases h with
    | cons h1 h2 => exact .cons (Dp.same e d _ h1) (DpAll.same e ds _ h2)
end
end Gd
namespace Gd
open PySem PySem.Spec PyProof.Rows L2
theorem tup_mul_one (l : Addr) (items : Array Value) (n : Nat) (dd : Option Addr)
    (sl : Array (Option Value)) (u : Tok) :
    Meets (Builtin.«tuple.__mul__» ⟨[.ref l, .int 1 u], []⟩) (fun _ R s =>
      s.heap.get? l = some { cls := .type "tuple", dict := dd, data := .seq items n, slots := sl } ∧
      R (.ok (.ret (Value.ref l))) s) :=
  .of_wp fun prog w A R s h => by
    obtain ⟨hp, g, d, tk, os⟩ := s
    obtain ⟨hl, h⟩ := h
    have f1 := AutoSeq1.idx_int
    have c1 : (items.isEmpty || (1 : Int) == 1) = true := by simp
    wp_walk using wpAny_loadPart' hl
    all_goals (try (refine wpAny_ite_true (decide_eq_true c1) ?_; wp_walk using wpAny_loadPart' hl))
    all_goals exact ⟨_, rfl, h⟩
theorem tup_mul_none (l : Addr) (items : Array Value) (n : Nat) (dd : Option Addr)
    (sl : Array (Option Value)) (x : Int) (u : Tok) (hx : x ≤ 0) (hx0 : -1000 ≤ x) (hi : items.isEmpty = false) :
    Meets (Builtin.«tuple.__mul__» ⟨[.ref l, .int x u], []⟩) (fun _ R s =>
      s.heap.get? l = some { cls := .type "tuple", dict := dd, data := .seq items n, slots := sl } ∧
      R (.ok (.ret (Value.ref s.heap.objs.size)))
        { s with heap := s.heap.push { cls := Value.type "tuple", data := Data.seq #[] }, toks := s.toks }) :=
  .of_wp fun prog w A R s h => by
    obtain ⟨hp, g, d, tk, os⟩ := s
    obtain ⟨hl, h⟩ := h
    have f1 := AutoSeq1.idx_int
    have c0 : (decide (x < -(2 ^ 63)) || decide (x ≥ 2 ^ 63)) = false := by
      rw [decide_eq_false (by omega), decide_eq_false (by omega)]; rfl
    have c1 : (items.isEmpty || x == 1) = false := by
      rw [hi, Bool.false_or]
      exact beq_eq_false_iff_ne.mpr (by omega)
    have c2 : (decide (x ≤ 0) || items.isEmpty) = true := by
      rw [decide_eq_true hx]; rfl
    wp_walk using wpAny_loadPart' hl
    repeat (first
      | (refine wpAny_ite_false (decide_eq_false (by rw [c0]; exact Bool.false_ne_true)) ?_; wp_walk using wpAny_loadPart' hl)
      | (refine wpAny_ite_false (decide_eq_false (by rw [c1]; exact Bool.false_ne_true)) ?_; wp_walk using wpAny_loadPart' hl)
      | (refine wpAny_ite_true (decide_eq_true c2) ?_; wp_walk using wpAny_loadPart' hl))
    exact ⟨_, rfl, h⟩
section
variable {X : Cx}
/-- t * k of a tuple with items, k small, of either sign -/
def rRepA (K : PySem.W.Frag) : R2 := fun x y H Q => ∃ (l : Addr) (k : Int) (xs : List V),
  x = .ref l ∧ y = .int k ∧ SqT K H l xs ∧ xs ≠ [] ∧ -1000 ≤ k ∧ k ≤ 1000 ∧ xs.length ≤ 1000 ∧
  ∀ (p : Addr) (H' : Hp), Same H H' → SqT K H' p (List.replicate k.toNat xs).flatten → Q (.ref p) H'
theorem op_repA : OpR X (binaryOp .Mult) (rRepA X.K) := by
  intro pins s σ H x y v u Q I rx ry h
  obtain ⟨l, k, xs, rfl, rfl, hT, hne, h1, h2, hz, q⟩ := h
  by_cases hk : 2 ≤ k
  · exact op_repT pins s σ H _ _ v u Q I rx ry ⟨l, k, xs, rfl, rfl, hT, hne, hk, h2, hz,
      fun p np => q p _ (Same.new np) (SqT.of upd_same)⟩
  · cases rx
    obtain ⟨t, rfl⟩ := ry
    obtain ⟨its, r, ⟨⟨cls, dd, data, sl⟩, ho, hc, n, hd⟩, hs⟩ := I.tuple hT
    simp only at hc hd
    subst hc hd
    by_cases hk1 : k = 1
    · subst hk1
      refine wpAny_binaryOp_repeat_ref (T := "tuple") (U := "int") (by decide) ⟨_, ho, rfl⟩
        (fun s' => typeIs_int s' 1 t) noFill_tuple_mul F.fills_int_mul F.slot_int_rmul repeat_tuple
        F.slot_int_index.lookup
        (call_meets F.slot_int_rmul (typeIs_int s 1 t) F.entry_int_rmul (F.args_int_rmul_2 _ _)
          (int_rmul_tuple 1 t l its.toArray n dd sl)
          ⟨ho, rfl, ⟨_, ho, rfl⟩, call_meets F.slot_tuple_mul ⟨_, ho, rfl⟩ F.entry_tuple_mul
            (F.args_tuple_mul_2 _ _) (tup_mul_one l its.toArray n dd sl t) ⟨ho, ?_⟩⟩)
      refine ⟨.ref l, H, I, rfl, q l H (Same.refl H) ?_⟩
      have e : (List.replicate (Int.toNat 1) xs).flatten = xs := by simp
      rw [e]
      exact hT
    · have hi : its.toArray.isEmpty = false := by
        have hle : its.length = xs.length := r.length.symm
        cases its with
        | nil => exact absurd (List.eq_nil_of_length_eq_zero hle.symm) hne
        | cons a b => rfl
      refine wpAny_binaryOp_repeat_ref (T := "tuple") (U := "int") (by decide) ⟨_, ho, rfl⟩
        (fun s' => typeIs_int s' k t) noFill_tuple_mul F.fills_int_mul F.slot_int_rmul repeat_tuple
        F.slot_int_index.lookup
        (call_meets F.slot_int_rmul (typeIs_int s k t) F.entry_int_rmul (F.args_int_rmul_2 _ _)
          (int_rmul_tuple k t l its.toArray n dd sl)
          ⟨ho, rfl, ⟨_, ho, rfl⟩, call_meets F.slot_tuple_mul ⟨_, ho, rfl⟩ F.entry_tuple_mul
            (F.args_tuple_mul_2 _ _) (tup_mul_none l its.toArray n dd sl k t (by omega) h1 hi) ⟨ho, ?_⟩⟩)
      have nf : H s.heap.objs.size = none := I.hok.fresh (Nat.le_refl _)
      refine ⟨.ref s.heap.objs.size, upd H s.heap.objs.size (.tup []), I.laid (t' := s.toks)
        (o := .tup []) (fun b ob q => Heap.get?_push_of_some _ q) (Nat.le_refl _) ?_, rfl, ?_⟩
      · exact ⟨Nat.zero_le _, [], .nil, IsTup.new _ _⟩
      · refine q _ _ (Same.new nf) ?_
        have e : (List.replicate k.toNat xs).flatten = [] := by
          rw [show k.toNat = 0 from by omega]
          rfl
        rw [e]
        exact SqT.of upd_same
end
end Gd
namespace Gd
open PySem PySem.Spec PyProof.Rows L2
/-! ### data of tuples -/
/-- all that is no list is kept -/
def Tk (H H' : Hp) : Prop := ∀ b o, (∀ xs, o ≠ .lst xs) → H b = some o → H' b = some o
theorem Tk.refl (H : Hp) : Tk H H := fun _ _ _ h => h
theorem Tk.trans {H H1 H2 : Hp} (x : Tk H H1) (y : Tk H1 H2) : Tk H H2 :=
  fun b o n h => y b o n (x b o n h)
theorem Tk.of {H H' : Hp} (e : Same H H') : Tk H H' := fun b o _ h => e b o h
theorem Tk.sb {a : Addr} {H H' : Hp} {xs : List V} (ha : H a = some (.lst xs)) (e : Sb a H H') :
    Tk H H' := fun b o n h => by
  refine e b o ?_ h
  rintro rfl
  rw [ha] at h
  cases h
  exact n _ rfl
theorem Tk.lst {H : Hp} {p : Addr} {o : HO} {xs : List V} (h : H p = some (.lst xs)) :
    Tk H (upd H p o) := fun b u n hb => by
  rw [upd_ne ?_]
  · exact hb
  · rintro rfl
    rw [h] at hb
    cases hb
    exact n _ rfl
mutual
/-- no list, no dict within -/
def tupOnly : PyData → Bool
  | .none | .bool _ | .int _ | .str _ => true
  | .tuple ds => tupAll ds
  | .list _ | .dict _ => false
def tupAll : List PyData → Bool
  | [] => true
  | d :: ds => tupOnly d && tupAll ds
end
theorem tupAll_iff : ∀ ds : List PyData, tupAll ds = true ↔ ∀ d ∈ ds, tupOnly d = true
  | [] => by simp [tupAll]
  | d :: ds => by
    simp only [tupAll, Bool.and_eq_true, List.mem_cons, forall_eq_or_imp, tupAll_iff ds]
theorem sqt_tk {K : PySem.W.Frag} {H H' : Hp} {a : Addr} {xs : List V} (e : Tk H H')
    (h : SqT K H a xs) : SqT K H' a xs := by
  rcases h with (h | ⟨o, h⟩) | h
  · exact Or.inl (Or.inl (e _ _ (fun _ z => by cases z) h))
  · exact Or.inl (Or.inr ⟨o, e _ _ (fun _ z => by cases z) h⟩)
  · exact Or.inr h
mutual
theorem Dp.tk {K : PySem.W.Frag} {H H' : Hp} (e : Tk H H') : ∀ (d : PyData) (v : V),
    tupOnly d = true → Dp K H v d → Dp K H' v d
  | .none, _, _, h => by cases h; exact .non
  | .bool b, _, _, h => by cases h; exact .bl b
  | .int i, _, _, h => by cases h; exact .int i
  | .str x, _, _, h => by cases h; exact .str x
  | .list ds, _, t, h => by simp [tupOnly] at t
  | .tuple ds, _, t, h => by
    cases h with
    | tup hs ha => exact .tup (sqt_tk e hs) (DpAll.tk e ds _ (by simpa [tupOnly] using t) ha)
  | .dict _, _, t, h => by simp [tupOnly] at t
theorem DpAll.tk {K : PySem.W.Frag} {H H' : Hp} (e : Tk H H') : ∀ (ds : List PyData)
    (vs : List V), tupAll ds = true → DpAll K H vs ds → DpAll K H' vs ds
  | [], _, _, h => by cases h; exact .nil
  | d :: ds, _, t, h => by
    have t' : tupOnly d = true ∧ tupAll ds = true := by simpa [tupAll] using t
    cases h with
    | cons h1 h2 => exact .cons (Dp.tk e d _ t'.1 h1) (DpAll.tk e ds _ t'.2 h2)
end
theorem dp_tup {K : PySem.W.Frag} {H : Hp} {v : V} {ds : List PyData} (h : Dp K H v (.tuple ds)) :
    ∃ a xs, v = .ref a ∧ SqT K H a xs ∧ DpAll K H xs ds := by
  cases h with
  | tup hs ha => exact ⟨_, _, rfl, hs, ha⟩
theorem dp_lst {K : PySem.W.Frag} {H : Hp} {v : V} {ds : List PyData} (h : Dp K H v (.list ds)) :
    ∃ a xs, v = .ref a ∧ SqL K H a xs ∧ DpAll K H xs ds := by
  cases h with
  | lst hs ha => exact ⟨_, _, rfl, hs, ha⟩
theorem dp_int {K : PySem.W.Frag} {H : Hp} {v : V} {i : Int} (h : Dp K H v (.int i)) : v = .int i := by
  cases h
  rfl
theorem dpa_cons {K : PySem.W.Frag} {H : Hp} {xs : List V} {d : PyData} {ds : List PyData}
    (h : DpAll K H xs (d :: ds)) : ∃ v vs, xs = v :: vs ∧ Dp K H v d ∧ DpAll K H vs ds := by
  cases h with
  | cons h1 h2 => exact ⟨_, _, rfl, h1, h2⟩
theorem dpa_nil {K : PySem.W.Frag} {H : Hp} {xs : List V} (h : DpAll K H xs []) : xs = [] := by
  cases h
  rfl
theorem dpa_ints {K : PySem.W.Frag} {H : Hp} : ∀ (r : List Int) (xs : List V),
    DpAll K H xs (r.map PyData.int) → xs = r.map V.int
  | [], xs, h => dpa_nil h
  | i :: r, xs, h => by
    obtain ⟨v, vs, rfl, h1, h2⟩ := dpa_cons h
    rw [dp_int h1, dpa_ints r vs h2]
    rfl
theorem dpa_len {K : PySem.W.Frag} {H : Hp} : ∀ (ds : List PyData) (xs : List V),
    DpAll K H xs ds → xs.length = ds.length
  | [], xs, h => by rw [dpa_nil h]; rfl
  | d :: ds, xs, h => by
    obtain ⟨v, vs, rfl, _, h2⟩ := dpa_cons h
    simp [dpa_len ds vs h2]
theorem dpa_get {K : PySem.W.Frag} {H : Hp} : ∀ (ds : List PyData) (xs : List V) (i : Nat) (x : V),
    DpAll K H xs ds → xs[i]? = some x → ∃ d, ds[i]? = some d ∧ Dp K H x d
  | [], xs, i, x, h, e => by rw [dpa_nil h] at e; simp at e
  | d :: ds, xs, i, x, h, e => by
    obtain ⟨v, vs, rfl, h1, h2⟩ := dpa_cons h
    cases i with
    | zero =>
      simp at e
      subst e
      exact ⟨d, rfl, h1⟩
    | succ i => exact dpa_get ds vs i x h2 (by simpa using e)
theorem dpa_at {K : PySem.W.Frag} {H : Hp} : ∀ (ds : List PyData) (xs : List V) (i : Nat) (d : PyData),
    DpAll K H xs ds → ds[i]? = some d → ∃ x, xs[i]? = some x ∧ Dp K H x d
  | [], xs, i, d, h, e => by simp at e
  | d0 :: ds, xs, i, d, h, e => by
    obtain ⟨v, vs, rfl, h1, h2⟩ := dpa_cons h
    cases i with
    | zero =>
      simp at e
      subst e
      exact ⟨v, rfl, h1⟩
    | succ i => exact dpa_at ds vs i d h2 (by simpa using e)
theorem dpa_snoc {K : PySem.W.Frag} {H : Hp} : ∀ (ds : List PyData) (xs : List V) (v : V) (d : PyData),
    DpAll K H xs ds → Dp K H v d → DpAll K H (xs ++ [v]) (ds ++ [d])
  | [], xs, v, d, h, e => by rw [dpa_nil h]; exact .cons e .nil
  | d0 :: ds, xs, v, d, h, e => by
    obtain ⟨x, vs, rfl, h1, h2⟩ := dpa_cons h
    exact .cons h1 (dpa_snoc ds vs v d h2 e)
theorem dpa_append {K : PySem.W.Frag} {H : Hp} : ∀ (ds es : List PyData) (xs ys : List V),
    DpAll K H xs ds → DpAll K H ys es → DpAll K H (xs ++ ys) (ds ++ es)
  | [], es, xs, ys, h, e => by rw [dpa_nil h]; exact e
  | d0 :: ds, es, xs, ys, h, e => by
    obtain ⟨x, vs, rfl, h1, h2⟩ := dpa_cons h
    exact .cons h1 (dpa_append ds es vs ys h2 e)
/-! ### rows and tables -/
def rowD (r : List Int) : PyData := .tuple (r.map .int)
def rowsD (rs : List (List Int)) : PyData := .tuple (rs.map rowD)
def tabD (w : Int) (rs : List (List Int)) : PyData := .tuple [.int w, rowsD rs]
theorem ints_tup : ∀ r : List Int, tupAll (r.map .int) = true
  | [] => by simp [tupAll]
  | i :: r => by simp [tupAll, tupOnly, ints_tup r]
theorem rowD_tup (r : List Int) : tupOnly (rowD r) = true := by simp [rowD, tupOnly, ints_tup]
theorem rows_tup : ∀ rs : List (List Int), tupAll (rs.map rowD) = true
  | [] => by simp [tupAll]
  | r :: rs => by simp [tupAll, rowD_tup, rows_tup rs]
theorem rowsD_tup (rs : List (List Int)) : tupOnly (rowsD rs) = true := by simp [rowsD, tupOnly, rows_tup]
theorem tabD_tup (w : Int) (rs : List (List Int)) : tupOnly (tabD w rs) = true := by
  simp [tabD, tupOnly, tupAll, rowsD_tup]
theorem dp_row {K : PySem.W.Frag} {H : Hp} {v : V} {r : List Int} (h : Dp K H v (rowD r)) :
    ∃ p, v = .ref p ∧ SqT K H p (r.map V.int) := by
  obtain ⟨a, xs, rfl, hs, ha⟩ := dp_tup h
  rw [dpa_ints r xs ha] at hs
  exact ⟨a, rfl, hs⟩
theorem dp_rows {K : PySem.W.Frag} {H : Hp} {v : V} {rs : List (List Int)} (h : Dp K H v (rowsD rs)) :
    ∃ p xs, v = .ref p ∧ SqT K H p xs ∧ DpAll K H xs (rs.map rowD) ∧ xs.length = rs.length := by
  obtain ⟨a, xs, rfl, hs, ha⟩ := dp_tup h
  exact ⟨a, xs, rfl, hs, ha, by rw [dpa_len _ _ ha, List.length_map]⟩
theorem dp_tab {K : PySem.W.Frag} {H : Hp} {v : V} {w : Int} {rs : List (List Int)}
    (h : Dp K H v (tabD w rs)) : ∃ p u, v = .ref p ∧ SqT K H p [.int w, u] ∧ Dp K H u (rowsD rs) := by
  obtain ⟨a, xs, rfl, hs, ha⟩ := dp_tup h
  obtain ⟨v1, vs, rfl, h1, h2⟩ := dpa_cons ha
  obtain ⟨v2, vs, rfl, h3, h4⟩ := dpa_cons h2
  rw [dpa_nil h4] at hs
  rw [dp_int h1] at hs
  exact ⟨a, v2, rfl, hs, h3⟩
theorem mk_row {K : PySem.W.Frag} {H : Hp} {p : Addr} {r : List Int} (h : SqT K H p (r.map V.int)) :
    Dp K H (.ref p) (rowD r) := by
  refine .tup h ?_
  clear h
  induction r with
  | nil => exact .nil
  | cons i r ih => exact .cons (.int i) ih
theorem mk_tab {K : PySem.W.Frag} {H : Hp} {p : Addr} {w : Int} {u : V} {rs : List (List Int)}
    (h : SqT K H p [.int w, u]) (hu : Dp K H u (rowsD rs)) : Dp K H (.ref p) (tabD w rs) :=
  .tup h (.cons (.int w) (.cons hu .nil))
theorem rows_at {K : PySem.W.Frag} {H : Hp} {xs : List V} {rs : List (List Int)} {i : Nat} {x : V}
    (h : DpAll K H xs (rs.map rowD)) (e : xs[i]? = some x) :
    rs[i]? = some (rs.getD i []) ∧ Dp K H x (rowD (rs.getD i [])) := by
  obtain ⟨d, h1, h2⟩ := dpa_get _ _ i x h e
  rw [List.getElem?_map] at h1
  cases q : rs[i]? with
  | none => rw [q] at h1; cases h1
  | some r =>
    rw [q] at h1
    cases h1
    have e2 : rs.getD i [] = r := by rw [List.getD_eq_getElem?_getD, q]; rfl
    rw [e2]
    exact ⟨rfl, h2⟩
theorem at_row {r : List Int} {i : Nat} (h : i < r.length) :
    atI (r.map V.int) (i : Int) = some (V.int (r.getD i 0)) := by
  refine atI_nat ?_
  rw [List.getElem?_map, List.getElem?_eq_getElem h, List.getD_eq_getElem?_getD,
    List.getElem?_eq_getElem h]
  rfl
/-! ### comprehensions that change nothing -/
section
variable {K : PySem.W.Frag}
/-- what stands at the list under way: the first i data -/
def Lw (K : PySem.W.Frag) (H : Hp) (f : Nat → PyData) (D : Addr) (i : Nat) (H' : Hp) : Prop :=
  Same H H' ∧ ∃ ys, H' D = some (.lst ys) ∧ DpAll K H' ys ((List.range i).map f)
theorem Lw.start {H : Hp} {f : Nat → PyData} {D : Addr} (h : H D = none) :
    Lw K H f D 0 (upd H D (.lst [])) := ⟨Same.new h, [], upd_same, .nil⟩
theorem Lw.len {H H' : Hp} {f : Nat → PyData} {D : Addr} {i : Nat} (h : Lw K H f D i H') :
    ∃ ys, H' D = some (.lst ys) ∧ ys.length = i := by
  obtain ⟨_, ys, h1, h2⟩ := h
  refine ⟨ys, h1, ?_⟩
  rw [dpa_len _ _ h2, List.length_map, List.length_range]
theorem Lw.turn {H H' H'' : Hp} {f : Nat → PyData} {D : Addr} {i : Nat} {y : V} (hD : H D = none)
    (ht : ∀ j, j ≤ i → tupOnly (f j) = true) (h : Lw K H f D i H') (e : Same H' H'')
    (hy : Dp K H'' y (f i)) (hi : i < 100000) :
    ∃ acc, H'' D = some (.lst acc) ∧ acc.length < sizeLine ∧
      Lw K H f D (i + 1) (upd H'' D (.lst (acc ++ [y]))) := by
  obtain ⟨h0, ys, h1, h2⟩ := h
  have h1' := e _ _ h1
  have hl : ys.length = i := by rw [dpa_len _ _ h2, List.length_map, List.length_range]
  refine ⟨ys, h1', by rw [hl]; exact Nat.lt_trans hi (by decide), Same.mut (h0.trans e) hD, _, upd_same, ?_⟩
  rw [List.range_succ, List.map_append]
  have tk : Tk H'' (upd H'' D (.lst (ys ++ [y]))) := Tk.lst h1'
  refine dpa_snoc _ _ _ _ (DpAll.tk tk _ _ ?_ (DpAll.same e _ _ h2)) (Dp.tk tk _ _ (ht i (Nat.le_refl _)) hy)
  rw [tupAll_iff]
  intro d hd
  obtain ⟨j, hj, rfl⟩ := List.mem_map.mp hd
  exact ht j (Nat.le_of_lt (List.mem_range.mp hj))
end
end Gd
namespace Gd
open PySem PySem.Spec PyProof.Rows L2
section
variable {K : PySem.W.Frag} {te : TE} {vs : List Nat} {σ : L2.St} {H : Hp} {D : Addr} {Qd : Hp → Prop}
theorem tupOnly_le {f : Nat → PyData} {n i : Nat} (ht : ∀ j, j < n → tupOnly (f j) = true) (hi : i < n) :
    ∀ j, j ≤ i → tupOnly (f j) = true := fun j hj => ht j (Nat.lt_of_le_of_lt hj hi)
/-- [e for x in range(n)], e data of tuples that changes nothing -/
theorem lcr {j n : Nat} (f : Nat → PyData) (hD : H D = none) (hn : n ≤ 50000)
    (ht : ∀ i, i < n → tupOnly (f i) = true)
    (hw : ∀ x, wipe ((wipe σ vs).set j (some x)) vs = wipe σ vs)
    (hs : ∀ (i : Nat) (H1 : Hp) (Q : VK), i < n → Same H H1 →
      (∀ y H2, Same H1 H2 → Dp K H2 y (f i) → Q y H2) →
      te ((wipe σ vs).set j (some (.int (0 + (i : Int))))) H1 Q)
    (hd : ∀ H' ys, Same H H' → H' D = some (.lst ys) → DpAll K H' ys ((List.range n).map f) → Qd H') :
    ∃ W : Nat → Nat → Hp → Prop, (∃ m, W 0 m (upd H D (.lst []))) ∧ ∀ i m H, W i m H →
      ((Itr 0 n).stop i H ∧ Qd H) ∨ ((Itr 0 n).go i H ∧ ∃ Nx : Hp → Prop,
        (∀ H', Nx H' → ∃ m', m' < m ∧ W (i + 1) m' H') ∧
        ∀ x H', (Itr 0 n).yld i H x H' → gName j x (wipe σ vs) H' fun σ2 H2 =>
          wipe σ2 vs = wipe σ vs ∧ tYes σ2 H2 fun b H3 =>
            if b = true then te σ2 H3 fun y H4 => ∃ acc, H4 D = some (.lst acc) ∧
              acc.length < sizeLine ∧ Nx (upd H4 D (.lst (acc ++ [y]))) else Nx H3) := by
  refine lc_range (lo := 0) (n := n) (Lw K H f D) (Lw.start hD) ?_ ?_
  · intro i H' hi p
    refine ⟨hw _, ?_⟩
    unfold tYes
    dsimp only
    rw [if_pos rfl]
    exact hs i H' _ hi p.1 fun y H2 e hy => Lw.turn hD (tupOnly_le ht hi) p e hy (by omega)
  · rintro H' ⟨h0, ys, h1, h2⟩
    exact hd H' ys h0 h1 h2
/-- [e for x in t], t a tuple -/
theorem lct {j : Nat} {a : Addr} {xs : List V} (f : Nat → PyData) (hD : H D = none)
    (hx : SqT K H a xs) (hn : xs.length ≤ 50000)
    (ht : ∀ i, i < xs.length → tupOnly (f i) = true)
    (hw : ∀ x, wipe ((wipe σ vs).set j (some x)) vs = wipe σ vs)
    (hs : ∀ (i : Nat) (x : V) (H1 : Hp) (Q : VK), xs[i]? = some x → Same H H1 →
      (∀ y H2, Same H1 H2 → Dp K H2 y (f i) → Q y H2) →
      te ((wipe σ vs).set j (some x)) H1 Q)
    (hd : ∀ H' ys, Same H H' → H' D = some (.lst ys) → DpAll K H' ys ((List.range xs.length).map f) → Qd H') :
    ∃ W : Nat → Nat → Hp → Prop, (∃ m, W 0 m (upd H D (.lst []))) ∧ ∀ i m H, W i m H →
      ((Itt K a).stop i H ∧ Qd H) ∨ ((Itt K a).go i H ∧ ∃ Nx : Hp → Prop,
        (∀ H', Nx H' → ∃ m', m' < m ∧ W (i + 1) m' H') ∧
        ∀ x H', (Itt K a).yld i H x H' → gName j x (wipe σ vs) H' fun σ2 H2 =>
          wipe σ2 vs = wipe σ vs ∧ tYes σ2 H2 fun b H3 =>
            if b = true then te σ2 H3 fun y H4 => ∃ acc, H4 D = some (.lst acc) ∧
              acc.length < sizeLine ∧ Nx (upd H4 D (.lst (acc ++ [y]))) else Nx H3) := by
  refine lc_tup (xs := xs) (Lw K H f D) (Lw.start hD) (fun i H' _ p => sqt_same p.1 hx) ?_ ?_
  · intro i x H' hi p
    have hlt := (List.getElem?_eq_some_iff.mp hi).1
    refine ⟨hw _, ?_⟩
    unfold tYes
    dsimp only
    rw [if_pos rfl]
    exact hs i x H' _ hi p.1 fun y H2 e hy => Lw.turn hD (tupOnly_le ht hlt) p e hy (by omega)
  · rintro H' ⟨h0, ys, h1, h2⟩
    exact hd H' ys h0 h1 h2
/-- [e for x, y in zip(t, u)], tuples of one length -/
theorem lcz {g : TG} {j1 j2 : Nat} {a b : Addr} {xs zs : List V} (f : Nat → PyData) (hD : H D = none)
    (hl : xs.length = zs.length) (hx : SqT K H a xs) (hz : SqT K H b zs) (hn : xs.length ≤ 50000)
    (ht : ∀ i, i < xs.length → tupOnly (f i) = true)
    (hw : ∀ x y, wipe (((wipe σ vs).set j1 (some x)).set j2 (some y)) vs = wipe σ vs)
    (hg : ∀ (T : Addr) (x y : V) (H1 : Hp) (R : L2.St → Hp → Prop), H1 T = some (.tup [x, y]) →
      R (((wipe σ vs).set j1 (some x)).set j2 (some y)) H1 → g (.ref T) (wipe σ vs) H1 R)
    (hs : ∀ (i : Nat) (x y : V) (H1 : Hp) (Q : VK), xs[i]? = some x → zs[i]? = some y → Same H H1 →
      (∀ y H2, Same H1 H2 → Dp K H2 y (f i) → Q y H2) →
      te (((wipe σ vs).set j1 (some x)).set j2 (some y)) H1 Q)
    (hd : ∀ H' ys, Same H H' → H' D = some (.lst ys) → DpAll K H' ys ((List.range xs.length).map f) → Qd H') :
    ∃ W : Nat → Nat → Hp → Prop, (∃ m, W 0 m (upd H D (.lst []))) ∧ ∀ i m H, W i m H →
      ((RZ.ItzT K a b).stop i H ∧ Qd H) ∨ ((RZ.ItzT K a b).go i H ∧ ∃ Nx : Hp → Prop,
        (∀ H', Nx H' → ∃ m', m' < m ∧ W (i + 1) m' H') ∧
        ∀ x H', (RZ.ItzT K a b).yld i H x H' → g x (wipe σ vs) H' fun σ2 H2 =>
          wipe σ2 vs = wipe σ vs ∧ tYes σ2 H2 fun b H3 =>
            if b = true then te σ2 H3 fun y H4 => ∃ acc, H4 D = some (.lst acc) ∧
              acc.length < sizeLine ∧ Nx (upd H4 D (.lst (acc ++ [y]))) else Nx H3) := by
  refine ⟨fun i m H' => m = xs.length - i ∧ i ≤ xs.length ∧ Lw K H f D i H',
    ⟨xs.length, rfl, Nat.zero_le _, Lw.start hD⟩, ?_⟩
  rintro i m H' ⟨rfl, hi, p⟩
  have qx := sqt_same p.1 hx
  have qz := sqt_same p.1 hz
  by_cases hlt : i < xs.length
  · have e1 : xs[i]? = some xs[i] := List.getElem?_eq_getElem hlt
    have hlt2 : i < zs.length := by omega
    have e2 : zs[i]? = some zs[i] := List.getElem?_eq_getElem hlt2
    refine .inr ⟨⟨xs, zs, _, _, qx, qz, e1, e2⟩, Lw K H f D (i + 1),
      fun H2 p2 => ⟨xs.length - (i + 1), by omega, rfl, hlt, p2⟩, ?_⟩
    intro v H2 hy
    obtain ⟨T, x', y', rfl, hT, rfl, f1, f2⟩ := hy
    have eT := Same.new (o := .tup [x', y']) hT
    refine hg T x' y' _ _ upd_same ⟨hw _ _, ?_⟩
    unfold tYes
    dsimp only
    rw [if_pos rfl]
    refine hs i x' y' _ _ (f1 xs qx) (f2 zs qz) (p.1.trans eT) ?_
    intro y H3 e hy
    exact Lw.turn hD (tupOnly_le ht hlt) p (eT.trans e) hy (by omega)
  · have e : i = xs.length := by omega
    subst e
    obtain ⟨h0, ys, h1, h2⟩ := p
    exact .inl ⟨⟨xs, zs, qx, qz, Or.inl (Nat.le_refl _)⟩, hd H' ys h0 h1 h2⟩
end
end Gd
namespace Gd
open PySem PySem.Spec PyProof.Rows L2
/-! ### tables of numbers, reckoned -/
def ent (rs : List (List Int)) (i k : Nat) : Int := (rs.getD i []).getD k 0
def unitRow (n k : Nat) : List Int := (List.range n).map fun c => if c = k then 1 else 0
def unitR (n : Nat) : List (List Int) := (List.range n).map (unitRow n)
def mulRow (r : List Int) (w : Nat) (rs : List (List Int)) : List Int :=
  (List.range w).map fun k => ((List.range r.length).map fun i => r.getD i 0 * ent rs i k).sum
def mulR (rs : List (List Int)) (w : Nat) (ts : List (List Int)) : List (List Int) :=
  (List.range rs.length).map fun i => mulRow (rs.getD i []) w ts
def turnR (w : Nat) (rs : List (List Int)) : List (List Int) :=
  (List.range w).map fun k => (List.range rs.length).map fun i => ent rs i k
/-- a table of this width, not too great -/
def Tb (w : Nat) (rs : List (List Int)) : Prop := rs.length ≤ 1000 ∧ w ≤ 1000 ∧ ∀ r ∈ rs, r.length = w
/-- numbers of less than 64 bits -/
def Sm (r : List Int) : Prop := ∀ x ∈ r, -(2 ^ 64) < x ∧ x < 2 ^ 64
theorem getD_mem {α : Type} {l : List α} {i : Nat} {d : α} (h : i < l.length) : l.getD i d ∈ l := by
  rw [List.getD_eq_getElem?_getD, List.getElem?_eq_getElem h]
  exact List.getElem_mem h
theorem Tb.len {w : Nat} {rs : List (List Int)} (h : Tb w rs) {i : Nat} (hi : i < rs.length) :
    (rs.getD i []).length = w := h.2.2 _ (getD_mem hi)
theorem Sm.at {r : List Int} (h : Sm r) (i : Nat) : -(2 ^ 64) < r.getD i 0 ∧ r.getD i 0 < 2 ^ 64 := by
  by_cases hi : i < r.length
  · exact h _ (getD_mem hi)
  · rw [List.getD_eq_getElem?_getD, List.getElem?_eq_none (by omega)]
    exact ⟨by decide, by decide⟩
theorem at_row0 {r : List Int} {i : Nat} (h : i < r.length) :
    atI (r.map V.int) (0 + (i : Int)) = some (V.int (r.getD i 0)) := by
  rw [Int.zero_add]
  exact at_row h
theorem mk_rowR {K : PySem.W.Frag} {H : Hp} {p : Addr} {ys : List V} {n : Nat} {g : Nat → Int}
    (h : SqT K H p ys) (ha : DpAll K H ys ((List.range n).map fun i => PyData.int (g i))) :
    Dp K H (.ref p) (rowD ((List.range n).map g)) := by
  unfold rowD
  rw [List.map_map]
  exact .tup h ha
theorem mk_rowsR {K : PySem.W.Frag} {H : Hp} {p : Addr} {ys : List V} {n : Nat} {g : Nat → List Int}
    (h : SqT K H p ys) (ha : DpAll K H ys ((List.range n).map fun i => rowD (g i))) :
    Dp K H (.ref p) (rowsD ((List.range n).map g)) := by
  unfold rowsD
  rw [List.map_map]
  exact .tup h ha
theorem intsR {K : PySem.W.Frag} {H : Hp} {ys : List V} {n : Nat} {g : Nat → Int}
    (ha : DpAll K H ys ((List.range n).map fun i => PyData.int (g i))) :
    ys = ((List.range n).map g).map V.int := by
  refine dpa_ints (K := K) (H := H) _ _ ?_
  rw [List.map_map]
  exact ha
theorem row_get {r : List Int} {i : Nat} {x : V} (e : (r.map V.int)[i]? = some x) :
    i < r.length ∧ x = .int (r.getD i 0) := by
  rw [List.getElem?_map] at e
  cases q : r[i]? with
  | none => rw [q] at e; cases e
  | some z =>
    rw [q] at e
    cases e
    refine ⟨(List.getElem?_eq_some_iff.mp q).1, ?_⟩
    rw [List.getD_eq_getElem?_getD, q]
    rfl
theorem rows_lt {K : PySem.W.Frag} {H : Hp} {xs : List V} {rs : List (List Int)} {i : Nat} {x : V}
    (h : DpAll K H xs (rs.map rowD)) (e : xs[i]? = some x) :
    i < rs.length ∧ ∃ p, x = .ref p ∧ SqT K H p ((rs.getD i []).map V.int) := by
  obtain ⟨h1, h2⟩ := rows_at h e
  exact ⟨(List.getElem?_eq_some_iff.mp h1).1, dp_row h2⟩
theorem rows_ix {K : PySem.W.Frag} {H : Hp} {xs : List V} {rs : List (List Int)} {i : Nat}
    (h : DpAll K H xs (rs.map rowD)) (hi : i < rs.length) :
    ∃ p, xs[i]? = some (.ref p) ∧ SqT K H p ((rs.getD i []).map V.int) := by
  have hl : xs.length = rs.length := by rw [dpa_len _ _ h, List.length_map]
  have e : xs[i]? = some xs[i] := List.getElem?_eq_getElem (by omega)
  obtain ⟨_, p, hp, hs⟩ := rows_lt h e
  rw [hp] at e
  exact ⟨p, e, hs⟩
end Gd
namespace Gd
open PySem PySem.Spec PyProof.Rows L2
/-! ### rules that name the written part by its letter -/
section
variable {X : Cx} {K : PySem.W.Frag}
theorem ix_tupK (hK : X.K = K) : IxR X (rIxT K) := by subst hK; exact ix_tup
theorem ix_listK (hK : X.K = K) : IxR X (rIxL K) := by subst hK; exact ix_list
theorem sl_listK (hK : X.K = K) : SlR X (rSlL K) := by subst hK; exact sl_list
theorem sl_tupK (hK : X.K = K) : SlR X (rSlA K) := by subst hK; exact sl_tupA
def rLenK (K : PySem.W.Frag) : List V → Hp → VK → Prop := fun xs H Q =>
  ∃ p ys, xs = [.ref p] ∧ (SqL K H p ys ∨ SqT K H p ys) ∧ Q (.int ys.length) H
theorem call_lenK (hK : X.K = K) : CallR X (.builtin "len") (rLenK K) := by
  subst hK; exact call_len_seq
def rTupleK (K : PySem.W.Frag) : List V → Hp → VK → Prop := fun xs H Q =>
  ∃ p ys, xs = [.ref p] ∧ ((SqL K H p ys ∧ ∀ l, H l = none → Q (.ref l) (upd H l (.tup ys))) ∨
    (SqT K H p ys ∧ Q (.ref p) H))
theorem call_tupleK (hK : X.K = K) : CallR X (.type "tuple") (rTupleK K) := by
  subst hK; exact call_tuple_of
def rListK (K : PySem.W.Frag) : List V → Hp → VK → Prop := fun xs H Q =>
  ∃ p ys, xs = [.ref p] ∧ (SqL K H p ys ∨ SqT K H p ys) ∧
    ∀ l, H l = none → Q (.ref l) (upd H l (.lst ys))
theorem call_listK (hK : X.K = K) : CallR X (.type "list") (rListK K) := by
  subst hK; exact call_list_of
theorem call_sumK (hK : X.K = K) (hc : X.calm = true) : CallR X (.builtin "sum") (rSum K) := by
  subst hK; exact cr_sum hc
theorem op_eqK (hK : X.K = K) (hu : X.A.units + 64 < cLine) : OpR X (compareOp .Eq) (rEqD K) := by
  subst hK; exact op_eqD hu
theorem op_neK (hK : X.K = K) (hu : X.A.units + 64 < cLine) : OpR X (compareOp .NotEq) (rNeD K) := by
  subst hK; exact op_neD hu
theorem op_catK (hK : X.K = K) : OpR X (binaryOp .Add) (rCatA K) := by subst hK; exact op_catA
theorem op_repK (hK : X.K = K) : OpR X (binaryOp .Mult) (rRepA K) := by subst hK; exact op_repA
theorem call_reprK (hK : X.K = K) (hG : X.A.guards = some []) (hu : X.A.units + 64 < cLine) :
    CallR X (.builtin "repr") (rRepr K) := by
  subst hK; exact call_repr hG hu
theorem pi_listK {tg l : Expr} {tl : TE} (hK : X.K = K) (hl : PE X l tl) : PI X tg l (iList K tl) := by
  subst hK; exact pi_list hl
theorem pi_tupK {tg l : Expr} {tl : TE} (hK : X.K = K) (hl : PE X l tl) : PI X tg l (iTup K tl) := by
  subst hK; exact pi_tup hl
theorem pi_zipK {e e2 : Expr} {ta : TA} {p pos tpos : Pos} {elts : List Expr} {kk : Nat}
    (hK : X.K = K) (hg : Gl X "zip") (hm : X.mg "zip" = none) (ha : PA X [e, e2] ta)
    (hs : starEach [e, e2] X.env = (false, eval e X.env) :: starEach [e2] X.env := by rfl)
    (hpl : (backTo pos (starEach [e2] X.env)).any (·.1) = false := by rfl) :
    PI X (.Tuple elts kk tpos) (.Call (.Name "zip" p) [e, e2] [] pos) (RZ.iZipA K ta) := by
  subst hK; exact RZ.pi_zipA hg hm ha hs hpl
theorem pg_tupK {es : List Expr} {k n : Nat} {t : TGs} {pos : Pos} (hK : X.K = K) (hc : X.calm = true)
    (h : PGs X es t) (hn : (assignEach es X.env).length = n := by rfl)
    (hst : (assignEach es X.env).findIdx? (·.1) = none := by rfl) :
    PG X (.Tuple es k pos) (gTup K n t) := by
  subst hK; exact pg_tup hc h hn hst
end
end Gd
namespace Gd
open PySem PySem.Spec PyProof.Rows L2
/-! ### readings told by data -/
section
variable {K : PySem.W.Frag} {H : Hp} {Q : VK} {x y : V} {ds es : List PyData} {d : PyData}
theorem ix_dp {i : Nat} (hx : Dp K H x (.tuple ds)) (hi : ds[i]? = some d)
    (k : ∀ v, Dp K H v d → Q v H) : rIxT K x (.int (i : Int)) H Q := by
  obtain ⟨a, xs, rfl, hs, ha⟩ := dp_tup hx
  obtain ⟨v, hv, hd⟩ := dpa_at _ _ i d ha hi
  exact ⟨a, xs, _, v, rfl, rfl, hs, atI_nat hv, k v hd⟩
theorem ix_dp0 {i : Nat} (hx : Dp K H x (.tuple ds)) (hi : ds[i]? = some d)
    (k : ∀ v, Dp K H v d → Q v H) : rIxT K x (.int (0 + (i : Int))) H Q := by
  rw [Int.zero_add]
  exact ix_dp hx hi k
theorem ix_dpI {i : Int} {j : Nat} (hj : i = (j : Int)) (hx : Dp K H x (.tuple ds)) (hi : ds[j]? = some d)
    (k : ∀ v, Dp K H v d → Q v H) : rIxT K x (.int i) H Q := by
  rw [hj]
  exact ix_dp hx hi k
theorem len_dp (hx : Dp K H x (.tuple ds)) (k : Q (.int (ds.length : Int)) H) : rLenK K [x] H Q := by
  obtain ⟨a, xs, rfl, hs, ha⟩ := dp_tup hx
  refine ⟨a, xs, rfl, .inr hs, ?_⟩
  rw [dpa_len _ _ ha]
  exact k
theorem cat_dp (hx : Dp K H x (.tuple ds)) (hy : Dp K H y (.tuple es))
    (hl : ds.length + es.length ≤ 100000)
    (k : ∀ v H', Same H H' → Dp K H' v (.tuple (ds ++ es)) → Q v H') : rCatA K x y H Q := by
  obtain ⟨a, xs, rfl, hs, ha⟩ := dp_tup hx
  obtain ⟨b, ys, rfl, hs2, hb⟩ := dp_tup hy
  have l1 := dpa_len _ _ ha
  have l2 := dpa_len _ _ hb
  refine ⟨a, b, xs, ys, rfl, rfl, hs, hs2, Nat.le_trans (by omega : _ ≤ 100000) (by decide), ?_, ?_, ?_⟩
  · intro h
    subst h
    have e : ds = [] := List.eq_nil_of_length_eq_zero (by rw [← l1]; rfl)
    subst e
    exact k _ _ (Same.refl H) (.tup hs2 hb)
  · intro _ h
    subst h
    have e : es = [] := List.eq_nil_of_length_eq_zero (by rw [← l2]; rfl)
    subst e
    exact k _ _ (Same.refl H) (by rw [List.append_nil]; exact .tup hs ha)
  · intro _ _ p np
    have e := Same.new (o := .tup (xs ++ ys)) np
    exact k _ _ e (.tup (SqT.of upd_same) (dpa_append _ _ _ _ (DpAll.same e _ _ ha) (DpAll.same e _ _ hb)))
theorem ints_rep (z : Int) : ∀ n : Nat, (List.replicate n [V.int z]).flatten = (List.replicate n z).map V.int
  | 0 => rfl
  | n + 1 => by
    rw [List.replicate_succ, List.replicate_succ, List.flatten_cons, List.map_cons, ints_rep z n]
    rfl
theorem rep_dp {z k : Int} (hx : Dp K H x (rowD [z])) (h1 : -1000 ≤ k) (h2 : k ≤ 1000)
    (q : ∀ v H', Same H H' → Dp K H' v (rowD (List.replicate k.toNat z)) → Q v H') :
    rRepA K x (.int k) H Q := by
  obtain ⟨p, rfl, hs⟩ := dp_row hx
  refine ⟨p, k, _, rfl, rfl, hs, (by simp), h1, h2, (by simp), ?_⟩
  intro p2 H2 e h
  have h' : SqT K H2 p2 ((List.replicate k.toNat z).map V.int) := by
    rw [← ints_rep]
    exact h
  exact q _ _ e (mk_row h')
theorem tupL_dp {p : Addr} {ys : List V} (h : H p = some (.lst ys)) (ha : DpAll K H ys ds)
    (k : ∀ v H', Same H H' → Dp K H' v (.tuple ds) → Q v H') : rTupleK K [.ref p] H Q := by
  refine ⟨p, ys, rfl, .inl ⟨SqL.of h, fun l nl => ?_⟩⟩
  have e := Same.new (o := .tup ys) nl
  exact k _ _ e (.tup (SqT.of upd_same) (DpAll.same e _ _ ha))
theorem listT_dp (hx : Dp K H x (.tuple ds))
    (k : ∀ l H' ys, H l = none → Same H H' → H' l = some (.lst ys) → DpAll K H' ys ds → Q (.ref l) H') :
    rListK K [x] H Q := by
  obtain ⟨a, xs, rfl, hs, ha⟩ := dp_tup hx
  refine ⟨a, xs, rfl, .inr hs, fun l nl => ?_⟩
  have e := Same.new (o := .lst xs) nl
  exact k l _ xs nl e upd_same (DpAll.same e _ _ ha)
theorem tup_dp {xs : List V} (ha : DpAll K H xs ds) (hl : ds.length ≤ 100000)
    (k : ∀ v H', Same H H' → Dp K H' v (.tuple ds) → Q v H') :
    xs.length ≤ sizeLine ∧ ∀ p, H p = none → Q (.ref p) (upd H p (.tup xs)) := by
  refine ⟨?_, fun p np => ?_⟩
  · rw [dpa_len _ _ ha]
    exact Nat.le_trans hl (by decide)
  · have e := Same.new (o := .tup xs) np
    exact k _ _ e (.tup (SqT.of upd_same) (DpAll.same e _ _ ha))
theorem lst_dp {xs : List V} (ha : DpAll K H xs ds) (hl : ds.length ≤ 100000)
    (k : ∀ l H', H l = none → Same H H' → H' l = some (.lst xs) → DpAll K H' xs ds → Q (.ref l) H') :
    xs.length ≤ sizeLine ∧ ∀ p, H p = none → Q (.ref p) (upd H p (.lst xs)) := by
  refine ⟨?_, fun p np => ?_⟩
  · rw [dpa_len _ _ ha]
    exact Nat.le_trans hl (by decide)
  · have e := Same.new (o := .lst xs) np
    exact k p _ np e upd_same (DpAll.same e _ _ ha)
theorem catL_dp {l b : Addr} {xs zs : List V} (h1 : H l = some (.lst xs)) (h2 : H b = some (.lst zs))
    (ha : DpAll K H xs ds) (hb : DpAll K H zs es) (hl : ds.length + es.length ≤ 100000)
    (k : ∀ p H', H p = none → Same H H' → H' p = some (.lst (xs ++ zs)) → DpAll K H' (xs ++ zs) (ds ++ es) → Q (.ref p) H') :
    rCat (.ref l) (.ref b) H Q := by
  have l1 := dpa_len _ _ ha
  have l2 := dpa_len _ _ hb
  refine ⟨l, b, xs, zs, rfl, rfl, h1, h2, Nat.le_trans (by omega : _ ≤ 100000) (by decide), fun p np => ?_⟩
  have e := Same.new (o := .lst (xs ++ zs)) np
  exact k p _ np e upd_same (dpa_append _ _ _ _ (DpAll.same e _ _ ha) (DpAll.same e _ _ hb))
theorem rows_getD {rs : List (List Int)} {i : Nat} (hi : i < rs.length) :
    (rs.map rowD)[i]? = some (rowD (rs.getD i [])) := by
  rw [List.getElem?_map, List.getElem?_eq_getElem hi, List.getD_eq_getElem?_getD, List.getElem?_eq_getElem hi]
  rfl
theorem row_getD {r : List Int} {i : Nat} (hi : i < r.length) :
    (r.map PyData.int)[i]? = some (.int (r.getD i 0)) := by
  rw [List.getElem?_map, List.getElem?_eq_getElem hi, List.getD_eq_getElem?_getD, List.getElem?_eq_getElem hi]
  rfl
theorem mapR_row {n : Nat} {g : Nat → Int} :
    PyData.tuple ((List.range n).map fun i => PyData.int (g i)) = rowD ((List.range n).map g) := by
  unfold rowD
  rw [List.map_map]
  rfl
theorem mapR_rows {n : Nat} {g : Nat → List Int} :
    PyData.tuple ((List.range n).map fun i => rowD (g i)) = rowsD ((List.range n).map g) := by
  unfold rowsD
  rw [List.map_map]
  rfl
end
end Gd
namespace Gd
open PySem PySem.Spec PyProof.Rows L2
theorem lst_new {K : PySem.W.Frag} {H : Hp} {l : Addr} {xs : List V} {ds : List PyData} (nl : H l = none)
    (ha : DpAll K H xs ds) : ∃ H', upd H l (.lst xs) = H' ∧ Same H H' ∧ H' l = some (.lst xs) ∧ DpAll K H' xs ds :=
  ⟨_, rfl, Same.new nl, upd_same, DpAll.same (Same.new nl) _ _ ha⟩
theorem tup_new {K : PySem.W.Frag} {H : Hp} {l : Addr} {xs : List V} {ds : List PyData} (nl : H l = none)
    (ha : DpAll K H xs ds) : ∃ H', upd H l (.tup xs) = H' ∧ Same H H' ∧ Dp K H' (.ref l) (.tuple ds) :=
  ⟨_, rfl, Same.new nl, .tup (SqT.of upd_same) (DpAll.same (Same.new nl) _ _ ha)⟩
end Gd
namespace Gd
open PySem PySem.Spec PyProof.Rows L2
theorem fmod_lt' {a b : Int} (hb : 0 < b) : a.fmod b < b := Int.fmod_lt_of_pos a hb
theorem fmod_nn {a b : Int} (hb : 0 < b) : 0 ≤ a.fmod b := Int.fmod_nonneg_of_pos a hb
/-! ### the feed -/
def spFeed (K : PySem.W.Frag) : Sp := fun vs H Q _ => ∃ (sc : Addr) (ns : List Int), vs = [.ref sc] ∧
  SqL K H sc (ns.map V.int) ∧ ns.length ≤ 63 ∧
  ∀ (a s : Addr) (H' : Hp), H a = none → H s = none → Same H H' → Fd H' a s 0 → Q (.ref a) H'
def spDraw : Sp := fun vs H Q _ => ∃ (a s : Addr) (m : Int) (n : Nat),
  vs = [.ref a, .int m] ∧ Fd H a s n ∧ n ≤ 1000000 ∧ 1 ≤ m ∧ m ≤ 1000000 ∧
  ∀ (r : Int) (H' : Hp), 0 ≤ r → r < m → Sb a H H' → Fd H' a s (n + 1) → Q (.int r) H'
theorem cut_ints (ns : List Int) (lo hi : Option Int) :
    ∃ ms : List Int, cutV (ns.map V.int) lo hi = ms.map V.int ∧ ms.length ≤ ns.length := by
  refine ⟨(ns.drop (HT.sIx ns.length 0 lo)).take (HT.sIx ns.length ns.length hi - HT.sIx ns.length 0 lo), ?_, ?_⟩
  · unfold cutV
    rw [List.length_map, List.map_take, List.map_drop]
  · rw [List.length_take, List.length_drop]
    omega
theorem ints_shaped (ns : List Int) : SeqAt.shaped (.list (ns.map PyData.int)) = true := by
  have h1 : ∀ l : List Int, PyData.canLayAll0 (l.map PyData.int) = true := by
    intro l
    induction l with
    | nil => simp [PyData.canLayAll0]
    | cons a l ih => simp [PyData.canLayAll0, PyData.canLay0, ih]
  have h2 : ∀ l : List Int, PyData.depthAll (l.map PyData.int) = 0 := by
    intro l
    induction l with
    | nil => simp [PyData.depthAll]
    | cons a l ih => simp [PyData.depthAll, PyData.depth, ih]
  simp [SeqAt.shaped, PyData.canLay0, PyData.depth, h1, h2]
theorem ints_nil (ns : List Int) : PyData.eqv (.list (ns.map PyData.int)) (.list []) = decide (ns = []) := by
  cases ns <;> simp [PyData.eqv, PyData.eqvAll]
theorem dp_ints {K : PySem.W.Frag} {H : Hp} : ∀ ns : List Int, DpAll K H (ns.map V.int) (ns.map PyData.int)
  | [] => .nil
  | n :: ns => .cons (.int n) (dp_ints ns)
theorem at_ints {ns : List Int} {i : Int} (h0 : 0 ≤ i) (h1 : i < ns.length) :
    ∃ z : Int, atI (ns.map V.int) i = some (V.int z) := by
  obtain ⟨j, rfl⟩ := Int.eq_ofNat_of_zero_le h0
  have hj : j < ns.length := by omega
  exact ⟨ns[j], atI_nat (by rw [List.getElem?_map, List.getElem?_eq_getElem hj]; rfl)⟩
theorem ref_ints {s : Addr} {ns : List Int} {r : List V} : HO.lst (ns.map V.int) ≠ HO.lst (.ref s :: r) := by
  intro z
  cases ns with
  | nil => cases z
  | cons n ns => cases z

/-- numbers drawn: from lo to below hi, by at most j draws -/
def spNum (lo hi : Int) (j : Nat) : Sp := fun vs H Q _ => ∃ (a s : Addr) (n : Nat),
  vs = [.ref a] ∧ Fd H a s n ∧ n + j ≤ 1000000 ∧
  ∀ (r : Int) (H' : Hp), lo ≤ r → r < hi → Sb a H H' → Fd H' a s (n + j) → Q (.int r) H'
theorem spNum_len {lo hi : Int} {j : Nat} : ∀ vs H Q E, spNum lo hi j vs H Q E → vs.length = 1 := by
  rintro vs H Q E ⟨a, s, n, rfl, _⟩
  rfl
section
variable {te : TE} {vs : List Nat} {σ : L2.St} {H : Hp} {D : Addr} {Qd : Hp → Prop}
/-- [e for x in range(m)], e a number that draws -/
theorem lcrF {j m n c : Nat} {a s : Addr} (Pz : Int → Prop) (hD : H D = none) (hf : Fd H a s n) (hm : m ≤ 50000)
    (hw : ∀ x, wipe ((wipe σ vs).set j (some x)) vs = wipe σ vs)
    (hs : ∀ (i : Nat) (H1 : Hp) (Q : VK), i < m → Sb a H H1 → Fd H1 a s (n + c * i) →
      (∀ (z : Int) (H2 : Hp), Sb a H1 H2 → Fd H2 a s (n + c * (i + 1)) → Pz z → Q (.int z) H2) →
      te ((wipe σ vs).set j (some (.int (0 + (i : Int))))) H1 Q)
    (hd : ∀ (H' : Hp) (ns : List Int), Sb a H H' → Fd H' a s (n + c * m) → H' D = some (.lst (ns.map V.int)) →
      ns.length = m → (∀ x ∈ ns, Pz x) → Qd H') :
    ∃ W : Nat → Nat → Hp → Prop, (∃ m, W 0 m (upd H D (.lst []))) ∧ ∀ i k H, W i k H →
      ((Itr 0 m).stop i H ∧ Qd H) ∨ ((Itr 0 m).go i H ∧ ∃ Nx : Hp → Prop,
        (∀ H', Nx H' → ∃ k', k' < k ∧ W (i + 1) k' H') ∧
        ∀ x H', (Itr 0 m).yld i H x H' → gName j x (wipe σ vs) H' fun σ2 H2 =>
          wipe σ2 vs = wipe σ vs ∧ tYes σ2 H2 fun b H3 =>
            if b = true then te σ2 H3 fun y H4 => ∃ acc, H4 D = some (.lst acc) ∧
              acc.length < sizeLine ∧ Nx (upd H4 D (.lst (acc ++ [y]))) else Nx H3) := by
  obtain ⟨dA, dS⟩ := hf.apart hD
  refine lc_range (lo := 0) (n := m) (fun i H' => Sb a H H' ∧ Fd H' a s (n + c * i) ∧ ∃ ns : List Int,
    H' D = some (.lst (ns.map V.int)) ∧ ns.length = i ∧ ∀ x ∈ ns, Pz x) ?_ ?_ ?_
  · exact ⟨Sb.new hD, (hf.upd dA dS).mono (by omega), [], upd_same, rfl, fun x h => by cases h⟩
  · rintro i H' hi ⟨sb, f, ns, h1, h2, h3⟩
    refine ⟨hw _, ?_⟩
    unfold tYes
    dsimp only
    rw [if_pos rfl]
    refine hs i H' _ hi sb f ?_
    intro z H2 sb2 f2 pz
    have h1' := sb2 _ _ dA h1
    refine ⟨_, h1', ?_, (Sb.trans sb sb2).mut hD, f2.upd dA dS, ns ++ [z], ?_, ?_, ?_⟩
    · rw [List.length_map, h2]
      exact Nat.lt_of_lt_of_le (show i < 50000 by omega) (by decide)
    · rw [upd_same, List.map_append]
      rfl
    · rw [List.length_append, h2]
      rfl
    · intro x hx
      rcases List.mem_append.mp hx with h | h
      · exact h3 x h
      · rw [List.mem_singleton.mp h]
        exact pz
  · rintro H' ⟨sb, f, ns, h1, h2, h3⟩
    exact hd H' ns sb f h1 h2 h3
end
/-- a drawn table's rows -/
def OkT (m w : Nat) (rs : List (List Int)) : Prop :=
  rs.length = m ∧ ∀ r ∈ rs, r.length = w ∧ ∀ x ∈ r, -99 ≤ x ∧ x ≤ 99
theorem OkT.tb {m w : Nat} {rs : List (List Int)} (h : OkT m w rs) (hm : m ≤ 1000) (hw : w ≤ 1000) : Tb w rs :=
  ⟨by rw [h.1]; exact hm, hw, fun r hr => (h.2 r hr).1⟩
theorem OkT.sm {m w : Nat} {rs : List (List Int)} (h : OkT m w rs) : ∀ r ∈ rs, Sm r := fun r hr x hx => by
  have := (h.2 r hr).2 x hx
  omega
end Gd
namespace Gd
open PySem PySem.Spec PyProof.Rows L2
theorem rows_shaped (rs : List (List Int)) : SeqAt.shaped (.list (rs.map rowD)) = true := by
  have a1 : ∀ l : List Int, PyData.canLayAll0 (l.map PyData.int) = true := by
    intro l
    induction l with
    | nil => simp [PyData.canLayAll0]
    | cons a l ih => simp [PyData.canLayAll0, PyData.canLay0, ih]
  have a2 : ∀ l : List Int, PyData.depthAll (l.map PyData.int) = 0 := by
    intro l
    induction l with
    | nil => simp [PyData.depthAll]
    | cons a l ih => simp [PyData.depthAll, PyData.depth, ih]
  have h1 : ∀ l : List (List Int), PyData.canLayAll0 (l.map rowD) = true := by
    intro l
    induction l with
    | nil => simp [PyData.canLayAll0]
    | cons a l ih => simp [PyData.canLayAll0, rowD, PyData.canLay0, a1, ih]
  have h2 : ∀ l : List (List Int), PyData.depthAll (l.map rowD) ≤ 1 := by
    intro l
    induction l with
    | nil => simp [PyData.depthAll]
    | cons a l ih =>
      simp only [List.map_cons, PyData.depthAll, rowD, PyData.depth, a2]
      omega
  have h3 := h2 rs
  show (PyData.canLay0 (.list (rs.map rowD)) && decide (PyData.depth (.list (rs.map rowD)) ≤ 64)) = true
  rw [Bool.and_eq_true]
  refine ⟨?_, decide_eq_true ?_⟩
  · simp only [PyData.canLay0]
    exact h1 rs
  · simp only [PyData.depth]
    omega
theorem rows_nil (rs : List (List Int)) : PyData.eqv (.list (rs.map rowD)) (.list []) = decide (rs = []) := by
  cases rs <;> simp [PyData.eqv, PyData.eqvAll]
end Gd
namespace Gd
open PySem PySem.Spec PyProof.Rows L2
theorem Same.sb {l : Addr} {H H1 H2 : Hp} (e : Same H H1) (n : H l = none) (s : Sb l H1 H2) : Same H H2 :=
  fun b o h => s b o (ne_of_none h n) (e b o h)
section
variable {K : PySem.W.Frag} {te : TE} {vs : List Nat} {σ : L2.St} {H : Hp} {D : Addr} {Qd : Hp → Prop}
/-- [e for x in range(m)], e data of tuples that draws -/
theorem lcrD {j m n c : Nat} {a s : Addr} (Pz : PyData → Prop) (hD : H D = none) (hf : Fd H a s n) (hm : m ≤ 50000)
    (ht : ∀ d, Pz d → tupOnly d = true)
    (hw : ∀ x, wipe ((wipe σ vs).set j (some x)) vs = wipe σ vs)
    (hs : ∀ (i : Nat) (H1 : Hp) (Q : VK), i < m → Sb a H H1 → Fd H1 a s (n + c * i) →
      (∀ (z : V) (d : PyData) (H2 : Hp), Sb a H1 H2 → Fd H2 a s (n + c * (i + 1)) → Pz d → Dp K H2 z d → Q z H2) →
      te ((wipe σ vs).set j (some (.int (0 + (i : Int))))) H1 Q)
    (hd : ∀ (H' : Hp) (ys : List V) (ds : List PyData), Sb a H H' → Fd H' a s (n + c * m) → H' D = some (.lst ys) →
      DpAll K H' ys ds → ds.length = m → (∀ x ∈ ds, Pz x) → Qd H') :
    ∃ W : Nat → Nat → Hp → Prop, (∃ m, W 0 m (upd H D (.lst []))) ∧ ∀ i k H, W i k H →
      ((Itr 0 m).stop i H ∧ Qd H) ∨ ((Itr 0 m).go i H ∧ ∃ Nx : Hp → Prop,
        (∀ H', Nx H' → ∃ k', k' < k ∧ W (i + 1) k' H') ∧
        ∀ x H', (Itr 0 m).yld i H x H' → gName j x (wipe σ vs) H' fun σ2 H2 =>
          wipe σ2 vs = wipe σ vs ∧ tYes σ2 H2 fun b H3 =>
            if b = true then te σ2 H3 fun y H4 => ∃ acc, H4 D = some (.lst acc) ∧
              acc.length < sizeLine ∧ Nx (upd H4 D (.lst (acc ++ [y]))) else Nx H3) := by
  obtain ⟨dA, dS⟩ := hf.apart hD
  refine lc_range (lo := 0) (n := m) (fun i H' => Sb a H H' ∧ Fd H' a s (n + c * i) ∧ ∃ (ys : List V) (ds : List PyData),
    H' D = some (.lst ys) ∧ DpAll K H' ys ds ∧ ds.length = i ∧ ∀ x ∈ ds, Pz x) ?_ ?_ ?_
  · exact ⟨Sb.new hD, (hf.upd dA dS).mono (by omega), [], [], upd_same, .nil, rfl, fun x h => by cases h⟩
  · rintro i H' hi ⟨sb, f, ys, ds, h1, h2, h3, h4⟩
    refine ⟨hw _, ?_⟩
    unfold tYes
    dsimp only
    rw [if_pos rfl]
    refine hs i H' _ hi sb f ?_
    intro z d H2 sb2 f2 pz hz
    have h1' := sb2 _ _ dA h1
    have tall : tupAll ds = true := (tupAll_iff ds).mpr fun x hx => ht x (h4 x hx)
    have hl : ys.length = i := by rw [dpa_len _ _ h2, h3]
    have tk := Tk.lst (o := .lst (ys ++ [z])) h1'
    refine ⟨_, h1', ?_, (Sb.trans sb sb2).mut hD, f2.upd dA dS, ys ++ [z], ds ++ [d], upd_same, ?_, ?_, ?_⟩
    · rw [hl]
      exact Nat.lt_of_lt_of_le (show i < 50000 by omega) (by decide)
    · exact dpa_snoc _ _ _ _ (DpAll.tk tk _ _ tall (DpAll.tk (f.tk sb2) _ _ tall h2)) (Dp.tk tk _ _ (ht d pz) hz)
    · rw [List.length_append, h3]
      rfl
    · intro x hx
      rcases List.mem_append.mp hx with h | h
      · exact h4 x h
      · rw [List.mem_singleton.mp h]
        exact pz
  · rintro H' ⟨sb, f, ys, ds, h1, h2, h3, h4⟩
    exact hd H' ys ds sb f h1 h2 h3 h4
end
end Gd
namespace Gd
open PySem PySem.Spec PyProof.Rows L2
/-! ### tables whose repr is known -/
def Rr (r : List Int) : Prop := r.length ≤ 8 ∧ ∀ x ∈ r, x.natAbs < 2 ^ 1900
def Rk (rs : List (List Int)) : Prop := rs.length ≤ 8 ∧ ∀ r ∈ rs, Rr r
theorem sh_row {r : List Int} (h : Rr r) : Sh 1 16000 (rowD r) := by
  refine (Sh.tup (k := 0) (n := 1901) (m := 8) ?_ (by rw [List.length_map]; exact h.1)).mono (by decide) (by decide)
  intro d hd
  obtain ⟨x, hx, rfl⟩ := List.mem_map.mp hd
  exact Sh.int (h.2 x hx)
theorem sh_rows {rs : List (List Int)} (h : Rk rs) : Sh 2 130000 (rowsD rs) := by
  refine (Sh.tup (k := 1) (n := 16000) (m := 8) ?_ (by rw [List.length_map]; exact h.1)).mono (by decide) (by decide)
  intro d hd
  obtain ⟨x, hx, rfl⟩ := List.mem_map.mp hd
  exact sh_row (h.2 x hx)
theorem sh_tab {w : Int} {rs : List (List Int)} (hw : w.natAbs < 2 ^ 1900) (h : Rk rs) : Sh 3 270000 (tabD w rs) := by
  refine (Sh.tup (k := 2) (n := 130000) (m := 2) ?_ (by simp)).mono (by decide) (by decide)
  intro d hd
  simp only [List.mem_cons, List.not_mem_nil, or_false] at hd
  rcases hd with rfl | rfl
  · exact (Sh.int hw).mono (by decide) (by decide)
  · exact sh_rows h
theorem nat_1900 {n : Nat} (h : n ≤ 1000000) : ((n : Int)).natAbs < 2 ^ 1900 :=
  Nat.lt_of_le_of_lt (by omega : _ ≤ 1000000) (Nat.lt_of_lt_of_le (by decide : 1000000 < 2 ^ 20) (Nat.pow_le_pow_right (by decide) (by decide)))
theorem int_1900 {x : Int} (h : -(10 ^ 30) ≤ x ∧ x ≤ 10 ^ 30) : x.natAbs < 2 ^ 1900 :=
  Nat.lt_of_le_of_lt (by omega : _ ≤ 10 ^ 30) (Nat.lt_of_lt_of_le (by decide : 10 ^ 30 < 2 ^ 100) (Nat.pow_le_pow_right (by decide) (by decide)))
/-- numbers from -b to b -/
def Bd (b : Int) (r : List Int) : Prop := ∀ x ∈ r, -b ≤ x ∧ x ≤ b
def Bs (b : Int) (rs : List (List Int)) : Prop := ∀ r ∈ rs, Bd b r
theorem Bd.at {b : Int} {r : List Int} (h : Bd b r) (hb : 0 ≤ b) (i : Nat) : -b ≤ r.getD i 0 ∧ r.getD i 0 ≤ b := by
  by_cases hi : i < r.length
  · exact h _ (getD_mem hi)
  · rw [List.getD_eq_getElem?_getD, List.getElem?_eq_none (by omega)]
    show -b ≤ 0 ∧ 0 ≤ b
    omega
theorem Bs.at {b : Int} {rs : List (List Int)} (h : Bs b rs) (hb : 0 ≤ b) (i k : Nat) : -b ≤ ent rs i k ∧ ent rs i k ≤ b := by
  unfold ent
  by_cases hi : i < rs.length
  · exact (h _ (getD_mem hi)).at hb k
  · rw [List.getD_eq_getElem?_getD (l := rs), List.getElem?_eq_none (by omega)]
    show -b ≤ ([] : List Int).getD k 0 ∧ ([] : List Int).getD k 0 ≤ b
    rw [List.getD_nil]
    omega
theorem sum_bd {b : Int} : ∀ l : List Int, Bd b l → -(b * l.length) ≤ l.sum ∧ l.sum ≤ b * l.length
  | [], _ => by simp
  | x :: l, h => by
    have h1 := h x (List.mem_cons_self ..)
    have h2 := sum_bd l (fun y hy => h y (List.mem_cons_of_mem _ hy))
    rw [List.sum_cons, List.length_cons]
    have e : b * ((l.length + 1 : Nat) : Int) = b * (l.length : Int) + b := by
      rw [Int.natCast_succ, Int.mul_add, Int.mul_one]
    rw [e]
    omega
theorem mul_bd {a b x y : Int} (ha : 0 ≤ a) (hb : 0 ≤ b) (hx : -a ≤ x ∧ x ≤ a) (hy : -b ≤ y ∧ y ≤ b) :
    -(a * b) ≤ x * y ∧ x * y ≤ a * b := by
  have h1 : x.natAbs ≤ a.natAbs := by omega
  have h2 : y.natAbs ≤ b.natAbs := by omega
  have h3 : (x * y).natAbs ≤ (a * b).natAbs := by
    rw [Int.natAbs_mul, Int.natAbs_mul]
    exact Nat.mul_le_mul h1 h2
  have h4 : 0 ≤ a * b := Int.mul_nonneg ha hb
  omega
theorem mulRow_bd {a b : Int} {r : List Int} {w : Nat} {ts : List (List Int)} {m : Nat} (ha : 0 ≤ a) (hb : 0 ≤ b)
    (hr : Bd a r) (ht : Bs b ts) (hm : r.length ≤ m) : Bd (a * b * m) (mulRow r w ts) := by
  intro x hx
  obtain ⟨k, hk, rfl⟩ := List.mem_map.mp hx
  have h0 : 0 ≤ a * b := Int.mul_nonneg ha hb
  have h := sum_bd (b := a * b) ((List.range r.length).map fun i => r.getD i 0 * ent ts i k) (by
    intro y hy
    obtain ⟨i, hi, rfl⟩ := List.mem_map.mp hy
    exact mul_bd ha hb (hr.at ha i) (ht.at hb i k))
  rw [List.length_map, List.length_range] at h
  have h2 : a * b * (r.length : Int) ≤ a * b * (m : Int) := Int.mul_le_mul_of_nonneg_left (by omega) h0
  omega
theorem mulRow_len {r : List Int} {w : Nat} {ts : List (List Int)} : (mulRow r w ts).length = w := by
  unfold mulRow
  rw [List.length_map, List.length_range]
theorem OkT.bs {m wd : Nat} {rs : List (List Int)} (h : OkT m wd rs) : Bs 99 rs := fun r hr x hx => (h.2 r hr).2 x hx
theorem rr_bd {r : List Int} (hl : r.length ≤ 8) (h : Bd 1000000 r) : Rr r :=
  ⟨hl, fun x hx => int_1900 (by have := h x hx; omega)⟩
theorem Bd.mono {a b : Int} {r : List Int} (h : Bd a r) (e : a ≤ b) : Bd b r := fun x hx => by
  have := h x hx
  omega
theorem rk_ok {m wd : Nat} {rs : List (List Int)} (h : OkT m wd rs) (hm : m ≤ 8) (hw : wd ≤ 8) : Rk rs :=
  ⟨by rw [h.1]; exact hm, fun r hr => rr_bd (by rw [(h.2 r hr).1]; exact hw) (Bd.mono (h.bs r hr) (by decide))⟩
theorem rk_unit {n : Nat} (h : n ≤ 8) : Rk (unitR n) := by
  refine ⟨by simp [unitR, h], fun r hr => ?_⟩
  obtain ⟨k, hk, rfl⟩ := List.mem_map.mp hr
  refine rr_bd (by simp [unitRow, h]) ?_
  intro x hx
  obtain ⟨c, hc, rfl⟩ := List.mem_map.mp hx
  split <;> decide
end Gd
namespace Gd
open PySem PySem.Spec PyProof.Rows L2
/-! ### sums over places, products of tables -/
def sumR (n : Nat) (f : Nat → Int) : Int := ((List.range n).map f).sum
theorem sumR_zero (f : Nat → Int) : sumR 0 f = 0 := rfl
theorem sumR_succ (n : Nat) (f : Nat → Int) : sumR (n + 1) f = sumR n f + f n := by
  unfold sumR
  rw [List.range_succ, List.map_append, List.sum_append]
  simp
theorem sumR_congr {n : Nat} {f g : Nat → Int} (h : ∀ i, i < n → f i = g i) : sumR n f = sumR n g := by
  unfold sumR
  congr 1
  refine List.map_congr_left ?_
  intro i hi
  exact h i (List.mem_range.mp hi)
theorem sumR_add (n : Nat) (f g : Nat → Int) : sumR n (fun i => f i + g i) = sumR n f + sumR n g := by
  induction n with
  | zero => rfl
  | succ n ih => rw [sumR_succ, sumR_succ, sumR_succ, ih]; omega
theorem sumR_mulr (n : Nat) (f : Nat → Int) (c : Int) : sumR n (fun i => f i * c) = sumR n f * c := by
  induction n with
  | zero => rw [sumR_zero, sumR_zero, Int.zero_mul]
  | succ n ih => rw [sumR_succ, sumR_succ, ih, Int.add_mul]
theorem sumR_mull (n : Nat) (f : Nat → Int) (c : Int) : sumR n (fun i => c * f i) = c * sumR n f := by
  induction n with
  | zero => rw [sumR_zero, sumR_zero, Int.mul_zero]
  | succ n ih => rw [sumR_succ, sumR_succ, ih, Int.mul_add]
theorem sumR_nought (n : Nat) : sumR n (fun _ => 0) = 0 := by
  induction n with
  | zero => rfl
  | succ n ih => rw [sumR_succ, ih]; rfl
theorem sumR_comm (n m : Nat) (f : Nat → Nat → Int) :
    sumR n (fun i => sumR m (fun j => f i j)) = sumR m (fun j => sumR n (fun i => f i j)) := by
  induction n with
  | zero =>
    rw [sumR_zero]
    exact (sumR_nought m).symm
  | succ n ih =>
    rw [sumR_succ, ih, ← sumR_add]
    exact sumR_congr fun j _ => (sumR_succ n fun i => f i j).symm
theorem sumR_one {n k : Nat} (hk : k < n) (f : Nat → Int) (h : ∀ i, i < n → i ≠ k → f i = 0) : sumR n f = f k := by
  induction n with
  | zero => omega
  | succ n ih =>
    rw [sumR_succ]
    by_cases e : k = n
    · subst e
      rw [sumR_congr (g := fun _ => 0) (fun i hi => h i (by omega) (by omega)), sumR_nought]
      omega
    · rw [ih (by omega) (fun i hi ne => h i (by omega) ne), h n (by omega) (by omega)]
      omega
theorem getD_range {α : Type} {n i : Nat} {g : Nat → α} {d : α} (h : i < n) : ((List.range n).map g).getD i d = g i := by
  rw [List.getD_eq_getElem?_getD, List.getElem?_map, List.getElem?_range h]
  rfl
theorem range_getD {α β : Type} (l : List α) (d : α) (f : α → β) : (List.range l.length).map (fun i => f (l.getD i d)) = l.map f := by
  apply List.ext_getElem
  · simp
  · intro i h1 h2
    have hi : i < l.length := by simpa using h2
    simp only [List.getElem_map, List.getElem_range]
    rw [List.getD_eq_getElem?_getD, List.getElem?_eq_getElem hi]
    rfl
theorem mulRow_eq (r : List Int) (w : Nat) (rs : List (List Int)) :
    mulRow r w rs = (List.range w).map fun k => sumR r.length fun i => r.getD i 0 * ent rs i k := rfl
theorem mulR_eq (rs : List (List Int)) (w : Nat) (ts : List (List Int)) : mulR rs w ts = rs.map fun r => mulRow r w ts :=
  range_getD rs [] fun r => mulRow r w ts
theorem turnR_eq (w : Nat) (rs : List (List Int)) : turnR w rs = (List.range w).map fun k => rs.map fun r => r.getD k 0 := by
  unfold turnR ent
  refine List.map_congr_left ?_
  intro k _
  exact range_getD rs [] fun r => r.getD k 0
theorem mulR_len {rs : List (List Int)} {w : Nat} {ts : List (List Int)} : (mulR rs w ts).length = rs.length := by
  rw [mulR_eq, List.length_map]
theorem mulR_at {rs : List (List Int)} {w : Nat} {ts : List (List Int)} {i : Nat} (h : i < rs.length) :
    (mulR rs w ts).getD i [] = mulRow (rs.getD i []) w ts := by
  unfold mulR
  rw [getD_range h]
theorem mulRow_at {r : List Int} {w : Nat} {ts : List (List Int)} {k : Nat} (h : k < w) :
    (mulRow r w ts).getD k 0 = sumR r.length fun i => r.getD i 0 * ent ts i k := by
  rw [mulRow_eq, getD_range h]
theorem ent_mul {rs : List (List Int)} {w : Nat} {ts : List (List Int)} {i k : Nat} (hi : i < rs.length) (hk : k < w) :
    ent (mulR rs w ts) i k = sumR (rs.getD i []).length fun j => ent rs i j * ent ts j k := by
  unfold ent
  rw [mulR_at hi, mulRow_at hk]
  rfl
theorem ent_turn {w : Nat} {rs : List (List Int)} {i k : Nat} (hk : k < w) (hi : i < rs.length) : ent (turnR w rs) k i = ent rs i k := by
  have h : (turnR w rs).getD k [] = (List.range rs.length).map fun i => ent rs i k := by
    unfold turnR
    rw [getD_range hk]
  unfold ent at h ⊢
  rw [h, getD_range hi]
theorem ent_unit {n i k : Nat} (hi : i < n) (hk : k < n) : ent (unitR n) i k = if k = i then 1 else 0 := by
  unfold ent unitR
  rw [getD_range hi]
  unfold unitRow
  rw [getD_range hk]
theorem row_assoc {r : List Int} {w w' : Nat} {bs cs : List (List Int)} (hr : r.length = bs.length) (hb : Tb w bs) (hw : w = cs.length) :
    mulRow (mulRow r w bs) w' cs = mulRow r w' (mulR bs w' cs) := by
  show (List.range w').map (fun k => sumR (mulRow r w bs).length (fun j => (mulRow r w bs).getD j 0 * ent cs j k)) =
    (List.range w').map (fun k => sumR r.length (fun i => r.getD i 0 * ent (mulR bs w' cs) i k))
  refine List.map_congr_left ?_
  intro k hk
  have hk := List.mem_range.mp hk
  rw [mulRow_len]
  have e1 : sumR w (fun j => (mulRow r w bs).getD j 0 * ent cs j k) =
      sumR w (fun j => sumR r.length (fun i => r.getD i 0 * ent bs i j * ent cs j k)) := by
    refine sumR_congr fun j hj => ?_
    rw [mulRow_at hj, ← sumR_mulr]
  have e2 : sumR r.length (fun i => r.getD i 0 * ent (mulR bs w' cs) i k) =
      sumR r.length (fun i => sumR w (fun j => r.getD i 0 * ent bs i j * ent cs j k)) := by
    refine sumR_congr fun i hi => ?_
    rw [ent_mul (by omega) hk, hb.len (by omega), ← sumR_mull]
    exact sumR_congr fun j _ => (Int.mul_assoc _ _ _).symm
  rw [e1, e2, sumR_comm]
theorem mul_assoc {as bs cs : List (List Int)} {v w w' : Nat} (ha : Tb v as) (hv : v = bs.length) (hb : Tb w bs) (hw : w = cs.length) :
    mulR (mulR as w bs) w' cs = mulR as w' (mulR bs w' cs) := by
  rw [mulR_eq (mulR as w bs), mulR_eq as, mulR_eq as, List.map_map]
  refine List.map_congr_left ?_
  intro r hr
  exact row_assoc (by rw [ha.2.2 r hr, hv]) hb hw
theorem row_id (r : List Int) : (List.range r.length).map (fun k => r.getD k 0) = r := by
  have := range_getD r 0 id
  simpa using this
theorem rows_id (rs : List (List Int)) : (List.range rs.length).map (fun k => rs.getD k []) = rs := by
  have := range_getD rs [] id
  simpa using this
theorem unit_mul {rs : List (List Int)} {w : Nat} (h : Tb w rs) : mulR (unitR rs.length) w rs = rs := by
  conv => rhs; rw [← rows_id rs]
  rw [mulR_eq]
  unfold unitR
  rw [List.map_map]
  refine List.map_congr_left ?_
  intro i hi
  have hi := List.mem_range.mp hi
  show mulRow (unitRow rs.length i) w rs = rs.getD i []
  conv => rhs; rw [← row_id (rs.getD i [])]
  rw [h.len hi, mulRow_eq]
  refine List.map_congr_left ?_
  intro k hk
  have hl : (unitRow rs.length i).length = rs.length := by simp [unitRow]
  rw [hl, sumR_one hi]
  · unfold unitRow
    rw [getD_range hi, if_pos rfl, Int.one_mul]
    rfl
  · intro j hj ne
    unfold unitRow
    rw [getD_range hj, if_neg ne, Int.zero_mul]
theorem mul_unit {rs : List (List Int)} {w : Nat} (h : Tb w rs) : mulR rs w (unitR w) = rs := by
  conv => rhs; rw [← List.map_id rs]
  rw [mulR_eq]
  refine List.map_congr_left ?_
  intro r hr
  show mulRow r w (unitR w) = r
  have hl := h.2.2 r hr
  conv => rhs; rw [← row_id r]
  rw [hl, mulRow_eq]
  refine List.map_congr_left ?_
  intro k hk
  have hk := List.mem_range.mp hk
  rw [hl, sumR_one hk]
  · rw [ent_unit hk hk, if_pos rfl, Int.mul_one]
  · intro j hj ne
    rw [ent_unit hj hk, if_neg (fun z => ne z.symm), Int.mul_zero]
theorem turn_mul {as bs : List (List Int)} {v w : Nat} (ha : Tb v as) (hv : v = bs.length) :
    turnR w (mulR as w bs) = mulR (turnR w bs) as.length (turnR v as) := by
  have hl : (turnR w bs).length = w := by simp [turnR]
  have e : mulR (turnR w bs) as.length (turnR v as) = (List.range w).map fun k => mulRow ((turnR w bs).getD k []) as.length (turnR v as) := by
    unfold mulR
    rw [hl]
  rw [e]
  unfold turnR
  refine List.map_congr_left ?_
  intro k hk
  have hk := List.mem_range.mp hk
  rw [mulR_len]
  have ek : ((List.range w).map fun k => (List.range bs.length).map fun i => ent bs i k).getD k [] = (List.range bs.length).map fun i => ent bs i k := getD_range hk
  rw [ek, mulRow_eq, List.length_map, List.length_range]
  refine List.map_congr_left ?_
  intro i hi
  have hi := List.mem_range.mp hi
  rw [ent_mul hi hk, ha.len hi, hv]
  refine sumR_congr fun j hj => ?_
  rw [getD_range hj]
  have et : ent ((List.range v).map fun k => (List.range as.length).map fun i => ent as i k) j i = ent as i j := ent_turn (w := v) (by omega) hi
  rw [← hv, et, Int.mul_comm]
theorem stack_mul {as ms bs : List (List Int)} {w : Nat} : mulR (as ++ ms) w bs = mulR as w bs ++ mulR ms w bs := by
  rw [mulR_eq, mulR_eq, mulR_eq, List.map_append]
theorem turn_stack {as ms : List (List Int)} {w : Nat} :
    turnR w (as ++ ms) = (List.range w).map fun k => (turnR w as).getD k [] ++ (turnR w ms).getD k [] := by
  rw [turnR_eq]
  refine List.map_congr_left ?_
  intro k hk
  have hk := List.mem_range.mp hk
  rw [turnR_eq, turnR_eq, getD_range hk, getD_range hk, List.map_append]
theorem mul_tb {as bs : List (List Int)} {v w : Nat} (ha : as.length ≤ 1000) (hw : w ≤ 1000) : Tb w (mulR as w bs) :=
  ⟨by rw [mulR_len]; exact ha, hw, fun r hr => by
    rw [mulR_eq] at hr
    obtain ⟨x, _, rfl⟩ := List.mem_map.mp hr
    exact mulRow_len⟩
theorem turn_tb {rs : List (List Int)} {w : Nat} (hr : rs.length ≤ 1000) (hw : w ≤ 1000) : Tb rs.length (turnR w rs) := by
  refine ⟨by simp [turnR]; exact hw, hr, fun r h => ?_⟩
  obtain ⟨x, _, rfl⟩ := List.mem_map.mp h
  simp
theorem turn_len {rs : List (List Int)} {w : Nat} : (turnR w rs).length = w := by simp [turnR]
theorem unit_tb {n : Nat} (h : n ≤ 1000) : Tb n (unitR n) := by
  refine ⟨by simp [unitR]; exact h, h, fun r hr => ?_⟩
  obtain ⟨x, _, rfl⟩ := List.mem_map.mp hr
  simp [unitRow]
theorem bs_mul {a b : Int} {as bs : List (List Int)} {v w m : Nat} (h0 : 0 ≤ a) (h1 : 0 ≤ b) (ha : Bs a as) (hv : ∀ r ∈ as, r.length ≤ m) (hb : Bs b bs) :
    Bs (a * b * m) (mulR as w bs) := by
  intro r hr
  rw [mulR_eq] at hr
  obtain ⟨x, hx, rfl⟩ := List.mem_map.mp hr
  exact mulRow_bd h0 h1 (ha x hx) hb (hv x hx)
theorem bs_turn {a : Int} {rs : List (List Int)} {w : Nat} (h0 : 0 ≤ a) (ha : Bs a rs) : Bs a (turnR w rs) := by
  intro r hr
  obtain ⟨k, _, rfl⟩ := List.mem_map.mp hr
  intro x hx
  obtain ⟨i, _, rfl⟩ := List.mem_map.mp hx
  exact ha.at h0 i k
theorem bs_unit {n : Nat} : Bs 1 (unitR n) := by
  intro r hr
  obtain ⟨k, _, rfl⟩ := List.mem_map.mp hr
  intro x hx
  obtain ⟨c, _, rfl⟩ := List.mem_map.mp hx
  show -1 ≤ (if c = k then (1 : Int) else 0) ∧ (if c = k then (1 : Int) else 0) ≤ 1
  split <;> decide
theorem bs_sm {a : Int} {rs : List (List Int)} (h : Bs a rs) (ha : a < 2 ^ 64) : ∀ r ∈ rs, Sm r := fun r hr x hx => by
  have := h r hr x hx
  omega
/-! ### == of tables -/
mutual
theorem eqv_self : ∀ d : PyData, tupOnly d = true → PyData.eqv d d = true
  | .none, _ => by simp [PyData.eqv]
  | .bool b, _ => by simp [PyData.eqv]
  | .int i, _ => by simp [PyData.eqv]
  | .str x, _ => by simp [PyData.eqv]
  | .tuple ds, h => by
    simp only [PyData.eqv]
    exact eqvAll_self ds (by simpa [tupOnly] using h)
  | .list _, h => by simp [tupOnly] at h
  | .dict _, h => by simp [tupOnly] at h
theorem eqvAll_self : ∀ ds : List PyData, tupAll ds = true → PyData.eqvAll ds ds = true
  | [], _ => by simp [PyData.eqvAll]
  | d :: ds, h => by
    have h' : tupOnly d = true ∧ tupAll ds = true := by simpa [tupAll] using h
    simp only [PyData.eqvAll, eqv_self d h'.1, eqvAll_self ds h'.2, Bool.and_self]
end
/-- may be compared -/
def Shp (k : Nat) (d : PyData) : Prop := d.canLay0 = true ∧ d.depth ≤ k
theorem shp_int (i : Int) : Shp 0 (.int i) := ⟨by simp [PyData.canLay0], by simp [PyData.depth]⟩
theorem shp_all {k : Nat} : ∀ ds : List PyData, (∀ d ∈ ds, Shp k d) → PyData.canLayAll0 ds = true ∧ PyData.depthAll ds ≤ k
  | [], _ => ⟨by simp [PyData.canLayAll0], by simp [PyData.depthAll]⟩
  | d :: ds, h => by
    obtain ⟨a1, a2⟩ := h d (List.mem_cons_self ..)
    obtain ⟨b1, b2⟩ := shp_all ds (fun x hx => h x (List.mem_cons_of_mem _ hx))
    refine ⟨by simp [PyData.canLayAll0, a1, b1], ?_⟩
    simp only [PyData.depthAll]
    omega
theorem shp_tup {k : Nat} {ds : List PyData} (h : ∀ d ∈ ds, Shp k d) : Shp (k + 1) (.tuple ds) := by
  obtain ⟨h1, h2⟩ := shp_all ds h
  refine ⟨by simp [PyData.canLay0, h1], ?_⟩
  simp only [PyData.depth]
  omega
theorem Shp.mono {k m : Nat} {d : PyData} (h : Shp k d) (e : k ≤ m) : Shp m d := ⟨h.1, Nat.le_trans h.2 e⟩
theorem Shp.shaped {k : Nat} {d : PyData} (h : Shp k d) (hk : k ≤ 64) : SeqAt.shaped d = true := by
  show (d.canLay0 && decide (d.depth ≤ 64)) = true
  rw [Bool.and_eq_true]
  exact ⟨h.1, decide_eq_true (Nat.le_trans h.2 hk)⟩
theorem shp_row (r : List Int) : Shp 1 (rowD r) := shp_tup fun d hd => by
  obtain ⟨x, _, rfl⟩ := List.mem_map.mp hd
  exact shp_int x
theorem shp_rows (rs : List (List Int)) : Shp 2 (rowsD rs) := shp_tup fun d hd => by
  obtain ⟨x, _, rfl⟩ := List.mem_map.mp hd
  exact shp_row x
theorem shp_tab (w : Int) (rs : List (List Int)) : Shp 3 (tabD w rs) := shp_tup fun d hd => by
  simp only [List.mem_cons, List.not_mem_nil, or_false] at hd
  rcases hd with rfl | rfl
  · exact (shp_int w).mono (by decide)
  · exact shp_rows rs
theorem ne_dp {K : PySem.W.Frag} {H : Hp} {x y : V} {d : PyData} {k : Nat} {Q : VK} (hx : Dp K H x d) (hy : Dp K H y d)
    (hs : Shp k d) (hk : k ≤ 64) (ht : tupOnly d = true) (q : Q (.bl false) H) : rNeD K x y H Q := by
  refine ⟨d, d, hx, hy, hs.shaped hk, hs.shaped hk, ?_⟩
  rw [eqv_self d ht]
  exact q
theorem eq_dp {K : PySem.W.Frag} {H : Hp} {x y : V} {d : PyData} {k : Nat} {Q : VK} (hx : Dp K H x d) (hy : Dp K H y d)
    (hs : Shp k d) (hk : k ≤ 64) (ht : tupOnly d = true) (q : Q (.bl true) H) : rEqD K x y H Q := by
  refine ⟨d, d, hx, hy, hs.shaped hk, hs.shaped hk, ?_⟩
  rw [eqv_self d ht]
  exact q
end Gd
namespace Gd
open PySem PySem.Spec PyProof.Rows L2
open PySem.AutoSeq1 (wpAny_loadPart')
/-! ### enumerate(t), t a tuple -/
theorem enum_new_tup (l : Addr) (items : Array Value) (n : Nat) (dct : Option Addr)
    (sl : Array (Option Value)) :
    Meets (Builtin.«enumerate.__new__» ⟨[.type "enumerate", .ref l], []⟩) (fun _ R s =>
      s.heap.get? l = some { cls := .type "tuple", dict := dct, data := .seq items n, slots := sl } ∧
      R (.ok (.ret (.ref (s.heap.push { cls := .type "tuple_iterator", data := .fields #[.ref l, .int 0 0] }).objs.size)))
        { s with heap := ((s.heap.push { cls := .type "tuple_iterator", data := .fields #[.ref l, .int 0 0] }).push ({ cls := .type "enumerate", data := .fields #[.none, .bool false, .ref s.heap.objs.size, rawInt 0, .none, .none] } : Obj)) }) :=
  .of_wp fun prog w A R s h => by
    obtain ⟨hp, g, d, tk, os⟩ := s
    obtain ⟨hl, h⟩ := h
    have hsub := sub_enumerate
    have hL : Heap.IsTuple (Shared.heap ⟨hp, g, d, tk, os⟩) l items := ⟨_, hl, rfl, n, rfl⟩
    wp_walk using wpAny_loadPart' hl
    refine wpAny_stack_any fun st => wpAny_pure ?_
    split
    · rename_i c _ _ _ _ _
      cases (c == Value.type "enumerate") <;> (wp_walk using wpAny_loadPart' hl, wpAny_pyIter_tuple hL) <;> exact ⟨_, rfl, h⟩
    · wp_walk using wpAny_loadPart' hl, wpAny_pyIter_tuple hL
      exact ⟨_, rfl, h⟩
theorem call_enum_tup {prog : Program} {w : World} {A : Around} {E : Value → Shared → Prop} {s : Shared}
    {l : Addr} {items : Array Value} {Q : Value → Shared → Prop} (hL : s.heap.IsTuple l items)
    (h : ∀ h', IsEnum h' (s.heap.objs.size + 1) s.heap.objs.size 0 .none →
      h'.IsTupleIter s.heap.objs.size l 0 → h'.objs.size = s.heap.objs.size + 2 →
      (∀ b o, s.heap.get? b = some o → h'.get? b = some o) →
      Q (.ref (s.heap.objs.size + 1)) { s with heap := h' }) :
    wpAny (model prog w) A (call (.type "enumerate") [.ref l]) Q E s := by
  obtain ⟨⟨c, dct, dt, sl⟩, hl, hc, n, hd⟩ := hL
  simp only at hc hd
  subst hc hd
  refine callType_new F.called_enumerate (by decide) (F.typeCall_enumerate_1 _) (F.newCall_enumerate_1 _)
    (fun obj => F.args_object_init_2 obj _) F.entry_enumerate_new (enum_new_tup l items n dct sl) ⟨hl, ?_⟩
  have hz := Heap.size_push s.heap { cls := .type "tuple_iterator", data := .fields #[.ref l, .int 0 0] }
  have he := Heap.get?_push_size (s.heap.push { cls := .type "tuple_iterator", data := .fields #[.ref l, .int 0 0] })
    (o := { cls := .type "enumerate", data := .fields #[.none, .bool false, .ref s.heap.objs.size, rawInt 0, .none, .none] }) rfl
  show _ ∧ _
  rw [hz] at he ⊢
  refine ⟨⟨_, he, rfl⟩, h _ he ⟨_, Heap.get?_push_of_some _ (Heap.get?_push_size _ rfl), rfl, rfl⟩
    (by rw [Heap.size_push, hz]) ?_⟩
  intro b o x
  exact Heap.get?_push_of_some _ (Heap.get?_push_of_some _ x)
/-- the tuple at a, each item in a new pair with its place -/
def ItE (K : PySem.W.Frag) (a : Addr) : It :=
  ⟨fun i H => ∃ (xs : List V) (x : V), SqT K H a xs ∧ xs[i]? = some x,
    fun i H v H' => ∃ T x, v = .ref T ∧ H T = none ∧ H' = upd H T (.tup [.int (i : Nat), x]) ∧
      ∀ xs, SqT K H a xs → xs[i]? = some x,
    fun i H => ∃ xs : List V, SqT K H a xs ∧ xs.length = i⟩
theorem turn_enumT {P : Program} {w : World} {K : PySem.W.Frag} {elts : List Expr} {kk : Nat}
    {tpos : Pos} (a e it : Addr) :
    Turn P w K (.Tuple elts kk tpos) (ItE K a) [e, it] e (fun i h =>
      (∃ old, IsEnum h e it ((i : Nat) : Int) old) ∧ h.IsTupleIter it a i ∧ e ≠ it ∧ e ≠ a ∧ a ≠ it) where
  mem := List.mem_cons_self ..
  obj := by
    rintro i h ⟨⟨old, he⟩, ⟨o, ho, hc, hd⟩, _⟩ b hb
    rcases List.mem_cons.mp hb with z | z
    · rw [z]
      exact ⟨_, he, fun v q => nomatch q⟩
    · rw [List.mem_singleton.mp z]
      exact ⟨o, ho, fun v q => by rw [hd] at q; cases q⟩
  keep := by
    rintro i h h' ⟨⟨old, he⟩, hi, r⟩ k
    exact ⟨⟨old, k e (by simp) _ he⟩, hi.at (fun o q => k it (by simp) o q), r⟩
  item := by
    intro X hP hw hK hc i pins s σ H E I hf st hg
    subst hP hw hK
    obtain ⟨⟨old, he⟩, hit, hne, hea, hai⟩ := st
    obtain ⟨xs, x, hq, hx⟩ := hg
    obtain ⟨its, rv, p, hz⟩ := I.tuple hq
    obtain ⟨u, hu, ru⟩ := rv.get hx
    have hel : e < s.heap.objs.size := Heap.lt_size he
    have hil : it < s.heap.objs.size := by
      obtain ⟨_, q, _⟩ := hit
      exact Heap.lt_size q
    have hlt : i < its.toArray.size := by
      have := (List.getElem?_eq_some_iff.mp hu).1
      simpa using this
    have hef : e ∉ [it, a] := by simp [hne, hea]
    refine wpAny_pyNext_enum_itemC (Draws.tuple (A := X.A.in1) (I.ok.hd hc) it a hai its.toArray) he ⟨hit, p⟩ hlt hne hef ?_
    intro y h' tk hy ho hst hT hsz hk
    have ey : y = u := by
      have h1 : its[i]? = some y := by simpa using hy
      rw [hu] at h1
      exact (Option.some.inj h1).symm
    subst ey
    refine ⟨_, rfl, wpAny_letOwnedTupleGo_enum (s := { s with heap := h', toks := tk + 1 }) ho fun h'' he' sb => ?_⟩
    have hT2 : h''.get? s.heap.objs.size = some { cls := .type "tuple", data := .seq #[.int i tk, y] } :=
      (sb.2 _ (Nat.ne_of_gt hel)).trans hT
    have new : ObjOk X.prog X.w (upd H s.heap.objs.size (.tup [.int (i : Nat), x])) h'' s.heap.objs.size (.tup [.int (i : Nat), x]) :=
      ⟨by show 2 ≤ sizeLine; decide, [.int i tk, y], .cons ⟨_, rfl⟩ (.cons ru .nil), ⟨_, hT2, rfl, _, rfl⟩⟩
    have I1 : Inv X pins σ (upd H s.heap.objs.size (.tup [.int (i : Nat), x])) { s with heap := h'', toks := tk + 1 } := by
      refine I.turnedNew (ch := [e, it]) ?_ hf (Nat.le_refl _) new
      intro b ob hb q
      have b1 : b ≠ e := fun z => hb (by simp [z])
      have b2 : b ≠ it := fun z => hb (by simp [z])
      exact (sb.2 b b1).trans (hk b ob b1 b2 q)
    refine ⟨.ref s.heap.objs.size, _, I1, rfl, ⟨_, x, rfl, I.hok.fresh (Nat.le_refl _), rfl, ?_⟩, ⟨⟨y, ?_⟩, ?_, hne, hea, hai⟩, ?_⟩
    · intro ys hys
      rw [I.tuple_inj hys hq]
      exact hx
    · rw [show ((i + 1 : Nat) : Int) = (i : Int) + 1 from by omega]
      exact he'
    · exact hst.1.at fun o q => (sb.2 it (Ne.symm hne)).trans q
    · intro b hb
      have hb' : b < s.heap.objs.size := by
        rcases List.mem_cons.mp hb with z | z
        · rw [z]; exact hel
        · rw [List.mem_singleton.mp z]; exact hil
      rw [upd_ne (Nat.ne_of_lt hb')]
      exact (hf b hb).1
  done := by
    intro X hP hw hK hc i pins s σ H E I hf st hg
    subst hP hw hK
    obtain ⟨⟨old, he⟩, hit, hne, hea, hai⟩ := st
    obtain ⟨xs, hq, hx⟩ := hg
    obtain ⟨its, rv, p, hz⟩ := I.tuple hq
    obtain ⟨f0, f1, f2, f3, f4, f5⟩ := hf it (by simp)
    have hsz : i = its.toArray.size := by
      rw [List.size_toArray, ← rv.length, hx]
    refine wpAny_pyNext_enum_endD (Draws.tuple (A := X.A.in1) (I.ok.hd hc) it a hai its.toArray) he ⟨hsz ▸ hit, p⟩ ?_
    intro h' eb
    exact ⟨rfl, I.turned (t' := s.toks) (fun b o hb q => eb b o hb q) f0 f1 f3 f4 f5⟩
  self := fun A i s Q E st h => by
    obtain ⟨⟨_, he⟩, _⟩ := st
    exact wpAny_pyIter_enum he h
def iEnumT (K : PySem.W.Frag) (ta : TA) : TI := fun σ H R => ta σ H fun vs H1 =>
  ∃ a xs, vs = [.ref a] ∧ SqT K H1 a xs ∧ R (ItE K a) H1
theorem pi_enumK {X : Cx} {K : PySem.W.Frag} {e : Expr} {ta : TA} {p pos tpos : Pos} {elts : List Expr} {kk : Nat}
    (hK : X.K = K) (hg : Gl X "enumerate") (hm : X.mg "enumerate" = none) (ha : PA X [e] ta)
    (hs : starEach [e] X.env = [(false, eval e X.env)] := by rfl) :
    PI X (.Tuple elts kk tpos) (.Call (.Name "enumerate" p) [e] [] pos) (iEnumT K ta) := by
  subst hK
  constructor
  intro pins s σ H R I h
  refine Call_ (ld_blt I hg hm boot_enumerate (PyProof.Rows.callWith_type1 (thn (ha.run pos pins s σ H _ I h) ?_) hs rfl))
  rintro us s1 ⟨vs, H1, I1, r1, a, xs, rfl, hq, q⟩
  rw [Vals.ref1 r1]
  obtain ⟨its, rv, p', hz⟩ := I1.tuple hq
  have hal : a < s1.heap.objs.size := p'.lt
  refine call_enum_tup p' fun h' he hit hsz hk => wpAny_pyIter_enum he ?_
  have I2 : Inv X pins σ H1 { s1 with heap := h' } := I1.kept (t' := s1.toks) hk
  refine ⟨s1.heap.objs.size + 1, [s1.heap.objs.size + 1, s1.heap.objs.size], _, _, H1, rfl, I2,
    turn_enumT a (s1.heap.objs.size + 1) s1.heap.objs.size, ⟨⟨.none, he⟩, hit, Nat.succ_ne_self _, Nat.ne_of_gt (Nat.lt_succ_of_lt hal), Nat.ne_of_lt hal⟩, ?_, q⟩
  intro b hb
  have hle : s1.heap.objs.size ≤ b := by
    rcases List.mem_cons.mp hb with z | z
    · rw [z]; exact Nat.le_add_right _ _
    · rw [List.mem_singleton.mp z]; exact Nat.le_refl _
  exact I1.fpOk hle (I1.hok.fresh hle)
/-- for i, x in enumerate(t) -/
theorem for_enumT {K : PySem.W.Frag} {a : Addr} {xs : List V} {g : TG} {tb : TS} {D : Ends} {σ : L2.St} {H : Hp}
    (Pv : Nat → L2.St → Hp → Prop) (h0 : Pv 0 σ H) (hq : ∀ i σ H, Pv i σ H → SqT K H a xs)
    (hs : ∀ (i : Nat) (x : V) (T : Addr) (σ : L2.St) (H : Hp), xs[i]? = some x → Pv i σ H → H T = none →
      g (.ref T) σ (upd H T (.tup [.int (i : Nat), x])) fun σ2 H2 =>
        tb { D with nx := Pv (i + 1), ct := Pv (i + 1), bk := D.nx } σ2 H2)
    (hd : ∀ σ H, Pv xs.length σ H → D.nx σ H) :
    ∃ W : Nat → Nat → L2.St → Hp → Prop, (∃ m, W 0 m σ H) ∧ ∀ i m σ H, W i m σ H →
      ((ItE K a).stop i H ∧ D.nx σ H) ∨ ((ItE K a).go i H ∧ ∃ N : L2.St → Hp → Prop,
        (∀ σ' H', N σ' H' → ∃ m', m' < m ∧ W (i + 1) m' σ' H') ∧
        ∀ v H', (ItE K a).yld i H v H' → g v σ H' fun σ2 H2 =>
          tb { D with nx := N, ct := N, bk := D.nx } σ2 H2) := by
  refine ⟨fun i m σ H => m = xs.length - i ∧ i ≤ xs.length ∧ Pv i σ H, ⟨xs.length, rfl, Nat.zero_le _, h0⟩, ?_⟩
  rintro i m σ H ⟨rfl, hi, p⟩
  have qx := hq i σ H p
  by_cases hlt : i < xs.length
  · have hx : xs[i]? = some xs[i] := List.getElem?_eq_getElem hlt
    refine .inr ⟨⟨xs, _, qx, hx⟩, Pv (i + 1), fun σ' H' p' => ⟨xs.length - (i + 1), by omega, rfl, hlt, p'⟩, ?_⟩
    intro v H' y
    obtain ⟨T, x', rfl, hT, rfl, f1⟩ := y
    exact hs i x' T σ H (f1 xs qx) p hT
  · have e : i = xs.length := by omega
    subst e
    exact .inl ⟨⟨xs, qx, rfl⟩, hd σ H p⟩
end Gd
namespace Gd
open PySem PySem.Spec PyProof.Rows L2
theorem call_isiK {X : Cx} {K : PySem.W.Frag} (hK : X.K = K) : CallR X (.builtin "isinstance") (rIsi K) := by
  subst hK; exact call_isi
theorem sqt_ty {K : PySem.W.Frag} {H : Hp} {a : Addr} {xs : List V} (h : SqT K H a xs) : TyX K H (.ref a) (.type "tuple") := by
  rcases h with (h | ⟨o, h⟩) | h
  · exact .base (.tup h)
  · exact .fTuple h
  · obtain ⟨o, its, n, hk, hc, _⟩ := h
    exact .kTuple hk hc
/-! ### deeds -/
inductive Deed where
  | swap (i j : Nat) | turn (i : Nat) | add (i j : Nat) (k : Int)
def deedD : Deed → PyData
  | .swap i j => .tuple [.str "swap", .int i, .int j]
  | .turn i => .tuple [.str "turn", .int i]
  | .add i j k => .tuple [.str "add", .int i, .int j, .int k]
def OkD (m : Nat) (b : Int) : Deed → Prop
  | .swap i j => i < m ∧ j < m ∧ i ≠ j
  | .turn i => i < m
  | .add i j k => i < m ∧ j < m ∧ i ≠ j ∧ -b ≤ k ∧ k ≤ b
def deedsD (ds : List Deed) : PyData := .tuple (ds.map deedD)
theorem deedD_tup (d : Deed) : tupOnly (deedD d) = true := by cases d <;> simp [deedD, tupOnly, tupAll]
theorem deedsD_tup (ds : List Deed) : tupOnly (deedsD ds) = true := by
  simp only [deedsD, tupOnly, tupAll_iff]
  intro d hd
  obtain ⟨x, _, rfl⟩ := List.mem_map.mp hd
  exact deedD_tup x
def scaleR (r : List Int) (k : Int) : List Int := (List.range r.length).map fun c => k * r.getD c 0
def sumRow (r t : List Int) : List Int := (List.range r.length).map fun c => r.getD c 0 + t.getD c 0
def stepD (rs : List (List Int)) : Deed → List (List Int)
  | .swap i j => (rs.set i (rs.getD j [])).set j (rs.getD i [])
  | .turn i => rs.set i (scaleR (rs.getD i []) (-1))
  | .add i j k => rs.set i (sumRow (rs.getD i []) (scaleR (rs.getD j []) k))
theorem stepD_len (rs : List (List Int)) (d : Deed) : (stepD rs d).length = rs.length := by
  cases d <;> simp [stepD]
theorem mem_set {α : Type} {l : List α} {i : Nat} {x y : α} (h : y ∈ l.set i x) : y = x ∨ y ∈ l := by
  rcases List.mem_or_eq_of_mem_set h with h | h
  · exact Or.inr h
  · exact Or.inl h
theorem stepD_wide {rs : List (List Int)} {w : Nat} {d : Deed} {m : Nat} {b : Int} (h : ∀ r ∈ rs, r.length = w) (hm : rs.length = m) (hd : OkD m b d) :
    ∀ r ∈ stepD rs d, r.length = w := by
  intro r hr
  cases d with
  | swap i j =>
    obtain ⟨h1, h2, _⟩ := hd
    rcases mem_set hr with rfl | hr
    · exact h _ (getD_mem (by omega))
    · rcases mem_set hr with rfl | hr
      · exact h _ (getD_mem (by omega))
      · exact h r hr
  | turn i =>
    have h1 : i < m := hd
    rcases mem_set hr with rfl | hr
    · simp only [scaleR, List.length_map, List.length_range]
      exact h _ (getD_mem (by omega))
    · exact h r hr
  | add i j k =>
    obtain ⟨h1, h2, _⟩ := hd
    rcases mem_set hr with rfl | hr
    · simp only [sumRow, List.length_map, List.length_range]
      exact h _ (getD_mem (by omega))
    · exact h r hr
theorem dpa_set {K : PySem.W.Frag} {H : Hp} : ∀ (ds : List PyData) (xs : List V) (i : Nat) (v : V) (d : PyData),
    DpAll K H xs ds → Dp K H v d → DpAll K H (xs.set i v) (ds.set i d)
  | [], xs, i, v, d, h, e => by rw [dpa_nil h]; exact .nil
  | d0 :: ds, xs, i, v, d, h, e => by
    obtain ⟨x, vs, rfl, h1, h2⟩ := dpa_cons h
    cases i with
    | zero => exact .cons e h2
    | succ i => exact .cons h1 (dpa_set ds vs i v d h2 e)
theorem map_set {α β : Type} (f : α → β) (l : List α) (i : Nat) (x : α) : (l.set i x).map f = (l.map f).set i (f x) := List.map_set
/-- the greatest number grows by a deed -/
theorem stepD_bd {rs : List (List Int)} {d : Deed} {m : Nat} {b c : Int} (hb : 0 ≤ b) (hc : 1 ≤ c) (h : Bs b rs) (hm : rs.length = m) (hd : OkD m c d) :
    Bs (b * (c + 1)) (stepD rs d) := by
  have e : b * (c + 1) = b * c + b := by rw [Int.mul_add, Int.mul_one]
  have hbc : 0 ≤ b * c := Int.mul_nonneg hb (by omega)
  have hbb : b ≤ b * c := by
    have := Int.mul_le_mul_of_nonneg_left hc hb
    rw [Int.mul_one] at this
    exact this
  have up : ∀ r, Bd b r → Bd (b * (c + 1)) r := fun r hr x hx => by
    have := hr x hx
    rw [e]
    omega
  intro r hr
  cases d with
  | swap i j =>
    obtain ⟨h1, h2, _⟩ := hd
    rcases mem_set hr with rfl | hr
    · exact up _ (h _ (getD_mem (by omega)))
    · rcases mem_set hr with rfl | hr
      · exact up _ (h _ (getD_mem (by omega)))
      · exact up _ (h r hr)
  | turn i =>
    have h1 : i < m := hd
    rcases mem_set hr with rfl | hr
    · intro x hx
      obtain ⟨k, _, rfl⟩ := List.mem_map.mp hx
      have := (h _ (getD_mem (d := []) (show i < rs.length by omega))).at hb k
      rw [e]
      omega
    · exact up _ (h r hr)
  | add i j k =>
    obtain ⟨h1, h2, _, k1, k2⟩ := hd
    rcases mem_set hr with rfl | hr
    · intro x hx
      obtain ⟨n, hn, rfl⟩ := List.mem_map.mp hx
      have a1 := (h _ (getD_mem (d := []) (show i < rs.length by omega))).at hb n
      have a2 : -(b * c) ≤ (scaleR (rs.getD j []) k).getD n 0 ∧ (scaleR (rs.getD j []) k).getD n 0 ≤ b * c := by
        refine Bd.at ?_ hbc n
        intro y hy
        obtain ⟨q, _, rfl⟩ := List.mem_map.mp hy
        have a3 := (h _ (getD_mem (d := []) (show j < rs.length by omega))).at hb q
        have := mul_bd (by omega) hb ⟨k1, k2⟩ a3
        rw [Int.mul_comm c b] at this
        exact this
      rw [e]
      omega
    · exact up _ (h r hr)
end Gd
namespace Gd
open PySem PySem.Spec PyProof.Rows L2
theorem ixN_of {n i : Nat} (h : i < n) : ixN n (i : Int) = some i := by
  unfold ixN
  rw [if_pos (by omega), if_pos (by omega)]
  simp
end Gd
namespace Gd
open PySem PySem.Spec PyProof.Rows L2
/-- [e for x in l], l a list that stays -/
theorem lcl {K : PySem.W.Frag} {te : TE} {vs : List Nat} {σ : L2.St} {H : Hp} {D : Addr} {Qd : Hp → Prop} {j : Nat} {a : Addr} {xs : List V} (f : Nat → PyData) (hD : H D = none)
    (hx : SqL K H a xs) (hn : xs.length ≤ 50000)
    (ht : ∀ i, i < xs.length → tupOnly (f i) = true)
    (hw : ∀ x, wipe ((wipe σ vs).set j (some x)) vs = wipe σ vs)
    (hs : ∀ (i : Nat) (x : V) (H1 : Hp) (Q : VK), xs[i]? = some x → Same H H1 →
      (∀ y H2, Same H1 H2 → Dp K H2 y (f i) → Q y H2) →
      te ((wipe σ vs).set j (some x)) H1 Q)
    (hd : ∀ H' ys, Same H H' → H' D = some (.lst ys) → DpAll K H' ys ((List.range xs.length).map f) → Qd H') :
    ∃ W : Nat → Nat → Hp → Prop, (∃ m, W 0 m (upd H D (.lst []))) ∧ ∀ i m H, W i m H →
      ((Itl K a).stop i H ∧ Qd H) ∨ ((Itl K a).go i H ∧ ∃ Nx : Hp → Prop,
        (∀ H', Nx H' → ∃ m', m' < m ∧ W (i + 1) m' H') ∧
        ∀ x H', (Itl K a).yld i H x H' → gName j x (wipe σ vs) H' fun σ2 H2 =>
          wipe σ2 vs = wipe σ vs ∧ tYes σ2 H2 fun b H3 =>
            if b = true then te σ2 H3 fun y H4 => ∃ acc, H4 D = some (.lst acc) ∧
              acc.length < sizeLine ∧ Nx (upd H4 D (.lst (acc ++ [y]))) else Nx H3) := by
  refine lc_list (xs := xs) (Lw K H f D) (Lw.start hD) (fun i H' _ p => sql_same p.1 hx) ?_ ?_
  · intro i x H' hi p
    have hlt := (List.getElem?_eq_some_iff.mp hi).1
    refine ⟨hw _, ?_⟩
    unfold tYes
    dsimp only
    rw [if_pos rfl]
    exact hs i x H' _ hi p.1 fun y H2 e hy => Lw.turn hD (tupOnly_le ht hlt) p e hy (by omega)
  · rintro H' ⟨h0, ys, h1, h2⟩
    exact hd H' ys h0 h1 h2
/-! ### a list of lists of numbers, one's own -/
def NLp (H0 H : Hp) (D : Addr) (rs : List (List Int)) (ps : List Addr) : Prop :=
  H D = some (.lst (ps.map V.ref)) ∧ ps.length = rs.length ∧ D ∉ ps ∧ H0 D = none ∧ (∀ p ∈ ps, H0 p = none) ∧
  (∀ (i j : Nat) (p : Addr), ps[i]? = some p → ps[j]? = some p → i = j) ∧
  (∀ (i : Nat) (p : Addr), ps[i]? = some p → H p = some (.lst ((rs.getD i []).map V.int))) ∧ Same H0 H
def NL (H0 H : Hp) (D : Addr) (rs : List (List Int)) : Prop := ∃ ps, NLp H0 H D rs ps
theorem NL.start {H : Hp} {D : Addr} (h : H D = none) : NL H (upd H D (.lst [])) D [] :=
  ⟨[], upd_same, rfl, List.not_mem_nil, h, (fun p hp => nomatch hp), (fun i j p e => nomatch e), (fun i p e => nomatch e), Same.new h⟩
theorem NL.same {H0 H H' : Hp} {D : Addr} {rs : List (List Int)} (h : NL H0 H D rs) (e : Same H H') : NL H0 H' D rs := by
  obtain ⟨ps, a1, a2, a3, a4, a5, a6, a7, a8⟩ := h
  exact ⟨ps, e _ _ a1, a2, a3, a4, a5, a6, fun i p hp => e _ _ (a7 i p hp), a8.trans e⟩
theorem NL.base {H0 H : Hp} {D : Addr} {rs : List (List Int)} (h : NL H0 H D rs) : Same H0 H := by
  obtain ⟨ps, _, _, _, _, _, _, _, a8⟩ := h
  exact a8
/-- one more row behind -/
theorem NL.push {H0 H : Hp} {D l : Addr} {rs : List (List Int)} {r : List Int} (h : NL H0 H D rs) (nl : H l = none) :
    ∃ ps : List Addr, upd H l (.lst (r.map V.int)) D = some (.lst (ps.map V.ref)) ∧ ps.length = rs.length ∧
      NL H0 (upd (upd H l (.lst (r.map V.int))) D (.lst (ps.map V.ref ++ [.ref l]))) D (rs ++ [r]) := by
  obtain ⟨ps, a1, a2, a3, a4, a5, a6, a7, a8⟩ := h
  have hDl : D ≠ l := ne_of_none a1 nl
  have l0 : H0 l = none := a8.free nl
  have lps : ∀ (i : Nat) (p : Addr), ps[i]? = some p → p ≠ l := fun i p hp => ne_of_none (a7 i p hp) nl
  refine ⟨ps, by rw [upd_ne hDl]; exact a1, a2, ps ++ [l], ?_, ?_, ?_, a4, ?_, ?_, ?_, ?_⟩
  · rw [upd_same, List.map_append]
    rfl
  · rw [List.length_append, List.length_append, a2]
    rfl
  · intro hm
    rcases List.mem_append.mp hm with h | h
    · exact a3 h
    · exact hDl (List.mem_singleton.mp h)
  · intro p hp
    rcases List.mem_append.mp hp with h | h
    · exact a5 p h
    · rw [List.mem_singleton.mp h]
      exact l0
  · have at_ : ∀ (i : Nat) (p : Addr), (ps ++ [l])[i]? = some p → (i < ps.length ∧ ps[i]? = some p) ∨ (i = ps.length ∧ p = l) := by
      intro i p hp
      by_cases hi : i < ps.length
      · rw [List.getElem?_append_left hi] at hp
        exact Or.inl ⟨hi, hp⟩
      · rw [List.getElem?_append_right (by omega)] at hp
        have : i - ps.length = 0 := by
          cases hq : i - ps.length with
          | zero => rfl
          | succ n => rw [hq] at hp; simp at hp
        rw [this] at hp
        simp at hp
        exact Or.inr ⟨by omega, hp.symm⟩
    intro i j p hi hj
    rcases at_ i p hi with ⟨b1, b2⟩ | ⟨b1, b2⟩ <;> rcases at_ j p hj with ⟨c1, c2⟩ | ⟨c1, c2⟩
    · exact a6 i j p b2 c2
    · exact absurd c2 (lps i p b2)
    · exact absurd b2 (lps j p c2)
    · omega
  · intro i p hp
    by_cases hi : i < ps.length
    · rw [List.getElem?_append_left hi] at hp
      have hne : p ≠ D := fun z => a3 (z ▸ List.mem_of_getElem? hp)
      rw [upd_ne hne, upd_ne (lps i p hp), a7 i p hp, List.getD_eq_getElem?_getD, List.getD_eq_getElem?_getD, List.getElem?_append_left (by omega)]
    · rw [List.getElem?_append_right (by omega)] at hp
      have e0 : i - ps.length = 0 := by
        cases hq : i - ps.length with
        | zero => rfl
        | succ n => rw [hq] at hp; simp at hp
      rw [e0] at hp
      simp at hp
      subst hp
      rw [upd_ne hDl.symm, upd_same, List.getD_eq_getElem?_getD, List.getElem?_append_right (by omega)]
      have e1 : i - rs.length = 0 := by omega
      rw [e1]
      rfl
  · exact Same.mut (Same.mut a8 l0) a4
theorem NL.row {H0 H : Hp} {D : Addr} {rs : List (List Int)} {i : Nat} (h : NL H0 H D rs) (hi : i < rs.length) :
    ∃ (ps : List Addr) (p : Addr), H D = some (.lst (ps.map V.ref)) ∧ ps.length = rs.length ∧ (ps.map V.ref)[i]? = some (.ref p) ∧ H p = some (.lst ((rs.getD i []).map V.int)) ∧
      ∀ (z : Int) (k : Nat), NL H0 (upd H p (.lst (((rs.getD i []).map V.int).set k (.int z)))) D (rs.set i ((rs.getD i []).set k z)) := by
  obtain ⟨ps, a1, a2, a3, a4, a5, a6, a7, a8⟩ := h
  have hlt : i < ps.length := by omega
  have ep : ps[i]? = some ps[i] := List.getElem?_eq_getElem hlt
  have hp0 := a5 _ (List.getElem_mem hlt)
  have hDp : D ≠ ps[i] := fun z => a3 (z ▸ List.getElem_mem hlt)
  refine ⟨ps, ps[i], a1, a2, by rw [List.getElem?_map, ep]; rfl, a7 i _ ep, ?_⟩
  intro z k
  refine ⟨ps, by rw [upd_ne hDp]; exact a1, by rw [List.length_set]; exact a2, a3, a4, a5, a6, ?_, Same.mut a8 hp0⟩
  intro j q hq
  by_cases hij : j = i
  · subst hij
    have eq : q = ps[j] := Option.some.inj (hq.symm.trans ep)
    rw [eq, upd_same, List.getD_eq_getElem?_getD (l := rs.set _ _), List.getElem?_set_self hi, ← List.map_set]
    rfl
  · have hne : q ≠ ps[i] := fun e => hij (a6 j i q hq (by rw [e]; exact ep))
    rw [upd_ne hne, a7 j q hq, List.getD_eq_getElem?_getD, List.getD_eq_getElem?_getD, List.getElem?_set_ne (fun e => hij e.symm)]
theorem NL.swap {H0 H : Hp} {D : Addr} {rs : List (List Int)} {i j : Nat} (h : NL H0 H D rs) (hi : i < rs.length) (hj : j < rs.length) (hij : i ≠ j) :
    ∃ (ps : List Addr) (p q : Addr), H D = some (.lst (ps.map V.ref)) ∧ ps.length = rs.length ∧ (ps.map V.ref)[i]? = some (.ref p) ∧ (ps.map V.ref)[j]? = some (.ref q) ∧
      ∀ o, NL H0 (upd (upd H D o) D (.lst (((ps.map V.ref).set i (.ref q)).set j (.ref p)))) D ((rs.set i (rs.getD j [])).set j (rs.getD i [])) := by
  obtain ⟨ps, a1, a2, a3, a4, a5, a6, a7, a8⟩ := h
  have hli : i < ps.length := by omega
  have hlj : j < ps.length := by omega
  have ei : ps[i]? = some ps[i] := List.getElem?_eq_getElem hli
  have ej : ps[j]? = some ps[j] := List.getElem?_eq_getElem hlj
  refine ⟨ps, ps[i], ps[j], a1, a2, by rw [List.getElem?_map, ei]; rfl, by rw [List.getElem?_map, ej]; rfl, ?_⟩
  intro o
  have at_ : ∀ (k : Nat) (p : Addr), ((ps.set i ps[j]).set j ps[i])[k]? = some p → (k = j ∧ p = ps[i]) ∨ (k = i ∧ k ≠ j ∧ p = ps[j]) ∨ (k ≠ i ∧ k ≠ j ∧ ps[k]? = some p) := by
    intro k p hk
    by_cases kj : k = j
    · subst kj
      rw [List.getElem?_set_self (by rw [List.length_set]; omega)] at hk
      exact Or.inl ⟨rfl, (Option.some.inj hk).symm⟩
    · rw [List.getElem?_set_ne (fun e => kj e.symm)] at hk
      by_cases ki : k = i
      · subst ki
        rw [List.getElem?_set_self (by omega)] at hk
        exact Or.inr (Or.inl ⟨rfl, kj, (Option.some.inj hk).symm⟩)
      · rw [List.getElem?_set_ne (fun e => ki e.symm)] at hk
        exact Or.inr (Or.inr ⟨ki, kj, hk⟩)
  have mem_ : ∀ p ∈ (ps.set i ps[j]).set j ps[i], p ∈ ps := by
    intro p hp
    rcases List.mem_or_eq_of_mem_set hp with h | h
    · rcases List.mem_or_eq_of_mem_set h with h | h
      · exact h
      · rw [h]
        exact List.getElem_mem hlj
    · rw [h]
      exact List.getElem_mem hli
  refine ⟨(ps.set i ps[j]).set j ps[i], ?_, by simp [a2], fun hm => a3 (mem_ D hm), a4, fun p hp => a5 p (mem_ p hp), ?_, ?_, Same.mut (Same.mut a8 a4) a4⟩
  · rw [upd_same, List.map_set, List.map_set]
  · intro k l p hk hl
    rcases at_ k p hk with ⟨b1, b2⟩ | ⟨b1, b0, b2⟩ | ⟨b1, b0, b2⟩ <;> rcases at_ l p hl with ⟨c1, c2⟩ | ⟨c1, c0, c2⟩ | ⟨c1, c0, c2⟩
    · omega
    · have := a6 i j p (by rw [b2]; exact ei) (by rw [c2]; exact ej)
      omega
    · have := a6 i l p (by rw [b2]; exact ei) c2
      omega
    · have := a6 i j p (by rw [c2]; exact ei) (by rw [b2]; exact ej)
      omega
    · omega
    · have := a6 j l p (by rw [b2]; exact ej) c2
      omega
    · have := a6 i k p (by rw [c2]; exact ei) b2
      omega
    · have := a6 j k p (by rw [c2]; exact ej) b2
      omega
    · exact a6 k l p b2 c2
  · intro k p hk
    have hne : p ≠ D := fun z => a3 (z ▸ mem_ p (List.mem_of_getElem? hk))
    rw [upd_ne hne, upd_ne hne]
    rcases at_ k p hk with ⟨b1, b2⟩ | ⟨b1, b0, b2⟩ | ⟨b1, b0, b2⟩
    · rw [b2, a7 i _ ei, b1, List.getD_eq_getElem?_getD (l := List.set _ _ _), List.getElem?_set_self (by rw [List.length_set]; omega)]
      rfl
    · rw [b2, a7 j _ ej, List.getD_eq_getElem?_getD (l := List.set _ _ _), List.getElem?_set_ne (fun e => b0 e.symm), b1, List.getElem?_set_self (by omega)]
      rfl
    · rw [a7 k p b2, List.getD_eq_getElem?_getD, List.getD_eq_getElem?_getD, List.getElem?_set_ne (fun e => b0 e.symm), List.getElem?_set_ne (fun e => b1 e.symm)]
end Gd
namespace Gd
open PySem PySem.Spec PyProof.Rows L2
theorem ixN_of0 {n i : Nat} (h : i < n) : ixN n (0 + (i : Int)) = some i := by
  rw [Int.zero_add]
  exact ixN_of h
def mix (old new : Nat → Int) (w c : Nat) : List Int := (List.range w).map fun k => if k < c then new k else old k
theorem mix_len {old new : Nat → Int} {w c : Nat} : (mix old new w c).length = w := by simp [mix]
theorem mix_zero {r : List Int} {new : Nat → Int} {w : Nat} (h : r.length = w) : mix (fun k => r.getD k 0) new w 0 = r := by
  subst h
  unfold mix
  conv => rhs; rw [← row_id r]
  refine List.map_congr_left ?_
  intro k _
  rw [if_neg (by omega)]
theorem mix_full {old new : Nat → Int} {w : Nat} : mix old new w w = (List.range w).map new := by
  unfold mix
  refine List.map_congr_left ?_
  intro k hk
  rw [if_pos (List.mem_range.mp hk)]
theorem mix_set {old new : Nat → Int} {w c : Nat} (h : c < w) : (mix old new w c).set c (new c) = mix old new w (c + 1) := by
  apply List.ext_getElem
  · simp [mix]
  · intro k h1 h2
    rw [List.getElem_set]
    simp only [mix, List.getElem_map, List.getElem_range]
    split
    · rename_i e
      subst e
      rw [if_pos (by omega)]
    · rename_i e
      by_cases hk : k < c
      · rw [if_pos hk, if_pos (by omega)]
      · rw [if_neg hk, if_neg (by omega)]
theorem mix_at {old new : Nat → Int} {w c k : Nat} (h : k < w) : (mix old new w c).getD k 0 = if k < c then new k else old k := by
  unfold mix
  rw [getD_range h]
theorem getD_set_self {rs : List (List Int)} {i : Nat} {r : List Int} (h : i < rs.length) : (rs.set i r).getD i [] = r := by
  rw [List.getD_eq_getElem?_getD, List.getElem?_set_self h]
  rfl
theorem getD_set_ne {rs : List (List Int)} {i j : Nat} {r : List Int} (h : i ≠ j) : (rs.set i r).getD j [] = rs.getD j [] := by
  rw [List.getD_eq_getElem?_getD, List.getElem?_set_ne h, List.getD_eq_getElem?_getD]
theorem set_self {rs : List (List Int)} {i : Nat} (h : i < rs.length) : rs.set i (rs.getD i []) = rs := by
  apply List.ext_getElem
  · simp
  · intro k h1 h2
    rw [List.getElem_set]
    split
    · rename_i e
      subst e
      rw [List.getD_eq_getElem?_getD, List.getElem?_eq_getElem h]
      rfl
    · rfl
end Gd
namespace Gd
open PySem PySem.Spec PyProof.Rows L2
/-! ### reversed(t), t a tuple -/
section
variable {X : Cx} {K : PySem.W.Frag}
theorem pi_revK {tg e : Expr} {te : TE} {p pos : Pos} (hK : X.K = K) (hg : Gl X "reversed") (hm : X.mg "reversed" = none) (he : PE X e te)
    (hs : starEach [e] X.env = (false, eval e X.env) :: starEach [] X.env := by rfl) :
    PI X tg (.Call (.Name "reversed" p) [e] [] pos) (RT.iRevA K te) := by
  subst hK; exact RT.pi_revA hg hm he hs
end
section
variable {K : PySem.W.Frag} {te : TE} {vs : List Nat} {σ : L2.St} {H : Hp} {D : Addr} {Qd : Hp → Prop}
/-- [e for x in reversed(t)], t a tuple -/
theorem lctR {j : Nat} {a : Addr} {xs : List V} (f : Nat → PyData) (hD : H D = none)
    (hx : SqT K H a xs) (hn : xs.length ≤ 50000)
    (ht : ∀ i, i < xs.length → tupOnly (f i) = true)
    (hw : ∀ x, wipe ((wipe σ vs).set j (some x)) vs = wipe σ vs)
    (hs : ∀ (i : Nat) (x : V) (H1 : Hp) (Q : VK), i < xs.length → xs[xs.length - 1 - i]? = some x → Same H H1 →
      (∀ y H2, Same H1 H2 → Dp K H2 y (f i) → Q y H2) →
      te ((wipe σ vs).set j (some x)) H1 Q)
    (hd : ∀ H' ys, Same H H' → H' D = some (.lst ys) → DpAll K H' ys ((List.range xs.length).map f) → Qd H') :
    ∃ W : Nat → Nat → Hp → Prop, (∃ m, W 0 m (upd H D (.lst []))) ∧ ∀ i m H, W i m H →
      ((RT.ItvT K a xs.length).stop i H ∧ Qd H) ∨ ((RT.ItvT K a xs.length).go i H ∧ ∃ Nx : Hp → Prop,
        (∀ H', Nx H' → ∃ m', m' < m ∧ W (i + 1) m' H') ∧
        ∀ x H', (RT.ItvT K a xs.length).yld i H x H' → gName j x (wipe σ vs) H' fun σ2 H2 =>
          wipe σ2 vs = wipe σ vs ∧ tYes σ2 H2 fun b H3 =>
            if b = true then te σ2 H3 fun y H4 => ∃ acc, H4 D = some (.lst acc) ∧
              acc.length < sizeLine ∧ Nx (upd H4 D (.lst (acc ++ [y]))) else Nx H3) := by
  refine ⟨fun i m H' => m = xs.length - i ∧ i ≤ xs.length ∧ Lw K H f D i H',
    ⟨xs.length, rfl, Nat.zero_le _, Lw.start hD⟩, ?_⟩
  rintro i m H' ⟨rfl, hi, p⟩
  have qx := sqt_same p.1 hx
  by_cases hlt : i < xs.length
  · have hj : xs.length - 1 - i < xs.length := by omega
    have e1 : xs[xs.length - 1 - i]? = some xs[xs.length - 1 - i] := List.getElem?_eq_getElem hj
    refine .inr ⟨⟨hlt, xs, _, qx, e1⟩, Lw K H f D (i + 1),
      fun H2 p2 => ⟨xs.length - (i + 1), by omega, rfl, hlt, p2⟩, ?_⟩
    intro v H2 hy
    obtain ⟨rfl, f1⟩ := hy
    refine ⟨hw _, ?_⟩
    unfold tYes
    dsimp only
    rw [if_pos rfl]
    refine hs i v _ _ hlt (f1 xs qx) p.1 ?_
    intro y H3 e hy
    exact Lw.turn hD (tupOnly_le ht hlt) p e hy (by omega)
  · have e : i = xs.length := by omega
    subst e
    obtain ⟨h0, ys, h1, h2⟩ := p
    exact .inl ⟨Nat.le_refl _, hd H' ys h0 h1 h2⟩
end
/-! ### contrary deeds -/
def conD : Deed → Deed
  | .swap i j => .swap i j
  | .turn i => .turn i
  | .add i j k => .add i j (-k)
def backD (ds : List Deed) : List Deed := ds.reverse.map conD
theorem conD_con (d : Deed) : conD (conD d) = d := by cases d <;> simp [conD]
theorem backD_back (ds : List Deed) : backD (backD ds) = ds := by
  unfold backD
  rw [← List.map_reverse, List.reverse_reverse, List.map_map]
  conv => rhs; rw [← List.map_id ds]
  refine List.map_congr_left ?_
  intro d _
  exact conD_con d
theorem conD_ok {m : Nat} {b : Int} {d : Deed} (h : OkD m b d) : OkD m b (conD d) := by
  cases d with
  | swap i j => exact h
  | turn i => exact h
  | add i j k => exact ⟨h.1, h.2.1, h.2.2.1, by have := h.2.2.2; omega, by have := h.2.2.2; omega⟩
theorem backD_ok {m : Nat} {b : Int} {ds : List Deed} (h : ∀ d ∈ ds, OkD m b d) : ∀ d ∈ backD ds, OkD m b d := by
  intro d hd
  obtain ⟨x, hx, rfl⟩ := List.mem_map.mp hd
  exact conD_ok (h x (List.mem_reverse.mp hx))
theorem backD_len (ds : List Deed) : (backD ds).length = ds.length := by simp [backD]
theorem deed_at {ds : List Deed} {i : Nat} {x : Deed} (h : ds[i]? = some x) {e : Deed} : ds.getD i e = x := by
  rw [List.getD_eq_getElem?_getD, h]
  rfl
theorem backD_range (ds : List Deed) : (List.range ds.length).map (fun i => deedD (conD (ds.getD (ds.length - 1 - i) (.turn 0)))) = (backD ds).map deedD := by
  unfold backD
  apply List.ext_getElem
  · simp
  · intro i h1 h2
    have hi : i < ds.length := by simpa using h1
    simp only [List.getElem_map, List.getElem_range, List.getElem_reverse]
    rw [List.getD_eq_getElem?_getD, List.getElem?_eq_getElem (by omega)]
    rfl
end Gd
namespace Gd
open PySem PySem.Spec PyProof.Rows L2
/-! ### is of truths; all; xs[::-1] -/
section
variable {X : Cx} {K : PySem.W.Frag}
theorem op_isB : OpR X (compareOp .Is) (fun x y H Q => ∃ m n, x = .bl m ∧ y = .bl n ∧ Q (.bl (decide (m = n))) H) := by
  intro pins s σ H x y v u Q I rx ry h
  obtain ⟨m, n, rfl, rfl, q⟩ := h
  cases (show v = Value.bool m from rx)
  cases (show u = Value.bool n from ry)
  by_cases e : m = n
  · subst e
    exact wpAny_is_self rfl ⟨.bl true, H, I, rfl, by simpa using q⟩
  · exact wpAny_is_other rfl (fun z => e (Value.bool.inj z)) ⟨.bl false, H, I, rfl, by simpa [e] using q⟩
theorem op_isNotB : OpR X (compareOp .IsNot) (fun x y H Q => ∃ m n, x = .bl m ∧ y = .bl n ∧ Q (.bl (!decide (m = n))) H) := by
  intro pins s σ H x y v u Q I rx ry h
  obtain ⟨m, n, rfl, rfl, q⟩ := h
  cases (show v = Value.bool m from rx)
  cases (show u = Value.bool n from ry)
  by_cases e : m = n
  · subst e
    exact wpAny_isNot_self rfl ⟨.bl false, H, I, rfl, by simpa using q⟩
  · exact wpAny_isNot_other rfl (fun z => e (Value.bool.inj z)) ⟨.bl true, H, I, rfl, by simpa [e] using q⟩
theorem call_allK (hK : X.K = K) (hc : X.calm = true) : CallR X (.builtin "all") (rAll K) := by
  subst hK; exact cr_all hc
theorem pe_revLK {e : Expr} {te : TE} {k : Nat} {p1 p2 p3 pos : Pos} (hK : X.K = K) (he : PE X e te) :
    PE X (.Subscript e (.Slice none none (some (.UnaryOp .USub (.Constant (.int 1) k p1) p2)) p3) pos) (tRevL K te) := by
  subst hK; exact pe_revL he
end
end Gd
namespace Gd
open PySem PySem.Spec PyProof.Rows L2
/-! ### deeds and products -/
theorem ext_getD {α : Type} {l t : List α} (d : α) (hl : l.length = t.length) (h : ∀ k, k < l.length → l.getD k d = t.getD k d) : l = t := by
  apply List.ext_getElem hl
  intro k h1 h2
  have e := h k h1
  rw [List.getD_eq_getElem?_getD, List.getD_eq_getElem?_getD, List.getElem?_eq_getElem h1, List.getElem?_eq_getElem h2] at e
  exact e
theorem getD_set {α : Type} {l : List α} {i k : Nat} {x d : α} (hi : i < l.length) : (l.set i x).getD k d = if k = i then x else l.getD k d := by
  rw [List.getD_eq_getElem?_getD, List.getD_eq_getElem?_getD]
  by_cases h : k = i
  · subst h
    rw [List.getElem?_set_self hi, if_pos rfl]
    rfl
  · rw [List.getElem?_set_ne (fun e => h e.symm), if_neg h]
theorem getD_out {α : Type} {l : List α} {k : Nat} {d : α} (h : l.length ≤ k) : l.getD k d = d := by
  rw [List.getD_eq_getElem?_getD, List.getElem?_eq_none h]
  rfl
theorem scaleR_len {r : List Int} {k : Int} : (scaleR r k).length = r.length := by simp [scaleR]
theorem sumRow_len {r t : List Int} : (sumRow r t).length = r.length := by simp [sumRow]
theorem scaleR_at {r : List Int} {k : Int} {c : Nat} : (scaleR r k).getD c 0 = k * r.getD c 0 := by
  by_cases h : c < r.length
  · unfold scaleR
    rw [getD_range h]
  · rw [getD_out (by rw [scaleR_len]; omega), getD_out (by omega), Int.mul_zero]
theorem sumRow_at {r t : List Int} {c : Nat} (h : c < r.length) : (sumRow r t).getD c 0 = r.getD c 0 + t.getD c 0 := by
  unfold sumRow
  rw [getD_range h]
theorem scaleR_twice {r : List Int} : scaleR (scaleR r (-1)) (-1) = r := by
  refine ext_getD 0 (by rw [scaleR_len, scaleR_len]) fun k _ => ?_
  rw [scaleR_at, scaleR_at]
  omega
theorem sum_back {r t : List Int} {k : Int} : sumRow (sumRow r (scaleR t k)) (scaleR t (-k)) = r := by
  refine ext_getD 0 (by rw [sumRow_len, sumRow_len]) fun c hc => ?_
  rw [sumRow_len, sumRow_len] at hc
  rw [sumRow_at (by rw [sumRow_len]; exact hc), sumRow_at hc, scaleR_at, scaleR_at, Int.neg_mul]
  omega
theorem mulRow_scale {r : List Int} {w : Nat} {ts : List (List Int)} {k : Int} : mulRow (scaleR r k) w ts = scaleR (mulRow r w ts) k := by
  refine ext_getD 0 (by rw [scaleR_len, mulRow_len, mulRow_len]) fun c hc => ?_
  rw [mulRow_len] at hc
  rw [scaleR_at, mulRow_at hc, mulRow_at hc, scaleR_len, ← sumR_mull]
  refine sumR_congr fun i _ => ?_
  rw [scaleR_at, Int.mul_assoc]
theorem mulRow_sum {r t : List Int} {w : Nat} {ts : List (List Int)} (h : r.length = t.length) : mulRow (sumRow r t) w ts = sumRow (mulRow r w ts) (mulRow t w ts) := by
  refine ext_getD 0 (by rw [sumRow_len, mulRow_len, mulRow_len]) fun c hc => ?_
  rw [mulRow_len] at hc
  rw [sumRow_at (by rw [mulRow_len]; exact hc), mulRow_at hc, mulRow_at hc, mulRow_at hc, sumRow_len, ← h, ← sumR_add]
  refine sumR_congr fun i hi => ?_
  rw [sumRow_at hi, Int.add_mul]
theorem stepD_mul {as ts : List (List Int)} {n w m : Nat} {b : Int} {d : Deed} (hw : ∀ r ∈ as, r.length = n) (hm : as.length = m) (hd : OkD m b d) :
    mulR (stepD as d) w ts = stepD (mulR as w ts) d := by
  cases d with
  | swap i j =>
    obtain ⟨h1, h2, _⟩ := hd
    simp only [stepD]
    rw [mulR_at (by omega), mulR_at (by omega), mulR_eq, mulR_eq, List.map_set, List.map_set]
  | turn i =>
    have h1 : i < m := hd
    simp only [stepD]
    rw [mulR_at (by omega), mulR_eq, mulR_eq, List.map_set, mulRow_scale]
  | add i j k =>
    obtain ⟨h1, h2, _⟩ := hd
    simp only [stepD]
    rw [mulR_at (by omega), mulR_at (by omega), mulR_eq, mulR_eq, List.map_set, mulRow_sum, mulRow_scale]
    rw [scaleR_len, hw _ (getD_mem (by omega)), hw _ (getD_mem (by omega))]
theorem stepD_con {rs : List (List Int)} {m : Nat} {b : Int} {d : Deed} (hm : rs.length = m) (hd : OkD m b d) : stepD (stepD rs d) (conD d) = rs := by
  cases d with
  | swap i j =>
    obtain ⟨h1, h2, h3⟩ := hd
    simp only [conD, stepD]
    have e1 : ((rs.set i (rs.getD j [])).set j (rs.getD i [])).getD j [] = rs.getD i [] := by
      rw [getD_set (by rw [List.length_set]; omega), if_pos rfl]
    have e2 : ((rs.set i (rs.getD j [])).set j (rs.getD i [])).getD i [] = rs.getD j [] := by
      rw [getD_set (by rw [List.length_set]; omega), if_neg h3, getD_set (by omega), if_pos rfl]
    rw [e1, e2]
    refine ext_getD [] (by simp) fun k hk => ?_
    rw [getD_set (by simp; omega)]
    by_cases e1 : k = j
    · subst e1
      rw [if_pos rfl]
    · rw [if_neg e1, getD_set (by simp; omega)]
      by_cases e2 : k = i
      · subst e2
        rw [if_pos rfl]
      · rw [if_neg e2, getD_set (by rw [List.length_set]; omega), if_neg e1, getD_set (by omega), if_neg e2]
  | turn i =>
    have h1 : i < m := hd
    simp only [conD, stepD]
    have e1 : (rs.set i (scaleR (rs.getD i []) (-1))).getD i [] = scaleR (rs.getD i []) (-1) := by
      rw [getD_set (by omega), if_pos rfl]
    rw [e1, scaleR_twice]
    refine ext_getD [] (by simp) fun k hk => ?_
    rw [getD_set (by simp; omega)]
    by_cases e : k = i
    · subst e
      rw [if_pos rfl]
    · rw [if_neg e, getD_set (by omega), if_neg e]
  | add i j n =>
    obtain ⟨h1, h2, h3, _⟩ := hd
    simp only [conD, stepD]
    have e1 : (rs.set i (sumRow (rs.getD i []) (scaleR (rs.getD j []) n))).getD i [] = sumRow (rs.getD i []) (scaleR (rs.getD j []) n) := by
      rw [getD_set (by omega), if_pos rfl]
    have e2 : (rs.set i (sumRow (rs.getD i []) (scaleR (rs.getD j []) n))).getD j [] = rs.getD j [] := by
      rw [getD_set (by omega), if_neg (fun e => h3 e.symm)]
    rw [e1, e2, sum_back]
    refine ext_getD [] (by simp) fun k hk => ?_
    rw [getD_set (by simp; omega)]
    by_cases e : k = i
    · subst e
      rw [if_pos rfl]
    · rw [if_neg e, getD_set (by omega), if_neg e]
theorem turn_turn {rs : List (List Int)} {w : Nat} (h : Tb w rs) : turnR rs.length (turnR w rs) = rs := by
  refine ext_getD [] (by rw [turn_len]) fun k hk => ?_
  rw [turn_len] at hk
  refine ext_getD 0 ?_ fun c hc => ?_
  · rw [turnR_eq, getD_range hk, List.length_map, turn_len, h.len hk]
  · rw [turnR_eq, getD_range hk, List.length_map, turn_len] at hc
    show ent (turnR rs.length (turnR w rs)) k c = ent rs k c
    rw [ent_turn hk (by rw [turn_len]; exact hc), ent_turn hc hk]
theorem unit_turn_ne {n i : Nat} (hi : i < n) : stepD (unitR n) (.turn i) ≠ unitR n := by
  intro e
  have hl : (unitR n).length = n := by simp [unitR]
  have h1 : ent (stepD (unitR n) (.turn i)) i i = -1 := by
    unfold ent
    simp only [stepD]
    rw [getD_set (by omega), if_pos rfl, scaleR_at]
    have := ent_unit hi hi
    unfold ent at this
    rw [this, if_pos rfl]
    rfl
  rw [e, ent_unit hi hi, if_pos rfl] at h1
  omega
theorem unit_add_ne {n i j : Nat} (hi : i < n) (hj : j < n) (hij : i ≠ j) : stepD (unitR n) (.add i j 1) ≠ unitR n := by
  intro e
  have hl : (unitR n).length = n := by simp [unitR]
  have hr : ((unitR n).getD i []).length = n := by
    unfold unitR
    rw [getD_range hi]
    simp [unitRow]
  have h1 : ent (stepD (unitR n) (.add i j 1)) i j = 1 := by
    have a1 := ent_unit hi hj
    have a2 := ent_unit hj hj
    unfold ent at a1 a2 ⊢
    simp only [stepD]
    rw [getD_set (by omega), if_pos rfl, sumRow_at (by omega), scaleR_at, a1, a2, if_pos rfl, if_neg (fun z => hij z.symm)]
    rfl
  rw [e, ent_unit hi hj, if_neg (fun z => hij z.symm)] at h1
  omega
end Gd
namespace Gd
open PySem PySem.Spec PyProof.Rows L2
/-! ### truth > int -/
theorem sub_int_bool : isSubtype (.type "int") (.type "bool") = pure false := by rw [isSubtype_type]; kernel_rfl
theorem gives_gt_bi (p : Bool) (j : Int) (u : Tok) : Gives (Builtin.«int.__gt__» ⟨[.bool p, .int j u], []⟩) (.val (Value.bool (decide ((if p = true then (1 : Int) else 0) > j)))) :=
  .of_wp fun M A E s Q h => by obtain ⟨hp, g, d, tk, os⟩ := s; wp_walk; exact ⟨_, rfl, h⟩
theorem gt_bi {prog : Program} {w : World} {A : Around} {E : Value → Shared → Prop} {s : Shared} {p : Bool} {j : Int} {u : Tok} {Q : Value → Shared → Prop}
    (h : Q (.bool (decide ((if p = true then (1 : Int) else 0) > j))) s) : wpAny (model prog w) A (compareOp .Gt (.bool p) (.int j u)) Q E s := by
  show wpAny (model prog w) A (richCompare .Gt (.bool p) (.int j u)) Q E s
  have ha := typeIs_bool' s p
  have hb := typeIs_int s j u
  simp only [richCompare, ha.oneThing_none, cmpInfo]
  try with_reducible refine wpAny_holding ?_
  refine wpAny_bind (wpAny_cRoomFor_or (.inl rfl) ?_)
  refine wpAny_bind (wpAny_typeOf ha (wpAny_bind (wpAny_typeOf hb ?_)))
  rw [if_pos (by decide)]
  refine wpAny_bind (wpAny_of_eq sub_int_bool ?_)
  simp only [Bool.false_eq_true, if_false, pure_bind]
  refine wpAny_bind (wpAny_tryCompare_slot ha F.slot_bool_gt ?_)
  exact call_gives F.slot_bool_gt ha F.entry_int_gt (F.args_int_gt_2 _ _) (gives_gt_bi p j u) ⟨(fun hq => nomatch hq), wpAny_pure h⟩
section
variable {X : Cx} {K : PySem.W.Frag}
/-- x > j, x an int or a truth -/
def rGtN : R2 := fun x y H Q => (∃ i j, x = .int i ∧ y = .int j ∧ Q (.bl (decide (j < i))) H) ∨ ∃ p j, x = .bl p ∧ y = .int j ∧ Q (.bl (decide (j < if p = true then (1 : Int) else 0))) H
theorem op_gtN : OpR X (compareOp .Gt) rGtN := by
  intro pins s σ H x y v u Q I rx ry h
  rcases h with h | ⟨p, j, rfl, rfl, q⟩
  · exact op_gt pins s σ H x y v u Q I rx ry h
  · cases (show v = Value.bool p from rx)
    obtain ⟨t, rfl⟩ := ry
    exact gt_bi ⟨.bl _, H, I, rfl, q⟩
end
/-! ### t[::-1], t a tuple -/
theorem adjust_rev (n : Nat) : Builtin.Slice.sliceAdjust none none (-1) (n : Int) = ((n : Int) - 1, -1) := by
  unfold Builtin.Slice.sliceAdjust
  simp
theorem places_rev (n : Nat) : Builtin.Slice.slicePlaces ((n : Int) - 1) (-1) (-1) = n := by
  unfold Builtin.Slice.slicePlaces
  have h1 : ¬ ((-1 : Int) > 0) := by omega
  simp only [h1, if_false]
  split <;> simp <;> omega
theorem pick_rev (xs : Array Value) : ((List.range xs.size).filterMap fun (m : Nat) => xs[(((xs.size : Nat) : Int) - 1 + (m : Int) * -1).toNat]?).toArray = xs.toList.reverse.toArray := by
  congr 1
  have e : (List.range xs.size).filterMap (fun (m : Nat) => xs[(((xs.size : Nat) : Int) - 1 + (m : Int) * -1).toNat]?) = (List.range xs.size).map (fun m => xs.toList.getD (xs.size - 1 - m) .none) := by
    have key : ∀ l : List Nat, (∀ m ∈ l, m < xs.size) → l.filterMap (fun (m : Nat) => xs[(((xs.size : Nat) : Int) - 1 + (m : Int) * -1).toNat]?) = l.map (fun m => xs.toList.getD (xs.size - 1 - m) .none) := by
      intro l
      induction l with
      | nil => intro _; rfl
      | cons m l ih =>
        intro hl
        have hm := hl m (List.mem_cons_self ..)
        have e1 : (((xs.size : Nat) : Int) - 1 + (m : Int) * -1).toNat = xs.size - 1 - m := by omega
        rw [List.filterMap_cons, List.map_cons, ih (fun z hz => hl z (List.mem_cons_of_mem _ hz)), e1, List.getD_eq_getElem?_getD, Array.getElem?_toList, Array.getElem?_eq_getElem (by omega)]
        rfl
    exact key _ fun m hm => List.mem_range.mp hm
  rw [e]
  apply List.ext_getElem
  · simp
  · intro i h1 h2
    have hi : i < xs.size := by simpa using h1
    simp only [List.getElem_map, List.getElem_range, List.getElem_reverse]
    rw [List.getD_eq_getElem?_getD, List.getElem?_eq_getElem (by rw [Array.length_toList]; omega)]
    simp
theorem getItem_rev {prog : Program} {w : World} {A : Around} {E : Value → Shared → Prop} {s : Shared} {t sl : Addr} {items : Array Value} {vl vu vs : Value} {Q : Value → Shared → Prop}
    (ht : IsTup s.heap t items) (hs : s.heap.IsSliceOf sl vl vu vs) (pl : IsPart vl none) (pu : IsPart vu none) (ps : IsPart vs (some (-1)))
    (h : Q (.ref s.heap.objs.size) { s with heap := s.heap.push { cls := .type "tuple", data := .seq items.toList.reverse.toArray } })
    (hsz : items.size ≤ sizeLine) : wpAny (model prog w) A (getItem (.ref t) (.ref sl)) Q E s := by
  have hok : sizeOk (.seq items.toList.reverse.toArray) := by
    show items.toList.reverse.toArray.size ≤ sizeLine
    simpa using hsz
  obtain ⟨os, hos, hcs, hds⟩ := id hs
  have hTs : s.TypeIs (.ref sl) "slice" := ⟨os, hos, hcs⟩
  unfold getItem
  try with_reducible refine wpAny_holding ?_
  first | refine wpAny_bind (wpAny_pure ?_) | skip
  refine wpAny_bind (wpAny_sequenceKey ht.typeIs (by decide) ?_)
  refine wpAny_bind (wpAny_callSpecial?_slot (name := Str.ofString "__getitem__") ht.typeIs PyProof.Rows.slot_tuple_getitem (wpAny_call_entry PyProof.Rows.slot_tuple_getitem ht.typeIs entry_tuple_getitem ?_ (args_tuple_getitem _ _)))
  show wpAny _ _ (Builtin.Tuple.tupleItemsOf (.ref t) >>= _) _ _ s
  refine wpAny_bind (tupleItemsOf_ ht ?_)
  refine wpAny_bind (wpAny_typeOf hTs ?_)
  rw [if_pos (by decide)]
  refine wpAny_bind ?_
  unfold Builtin.Slice.sliceApplied Builtin.Slice.sliceFields
  refine wpAny_bind (wpAny_bind (wpAny_field hos hds (x := vl) rfl (wpAny_bind (wpAny_field hos hds (x := vu) rfl (wpAny_bind (wpAny_field hos hds (x := vs) rfl (wpAny_pure ?_)))))))
  refine wpAny_bind (HT.slicePart_ ps ?_)
  show wpAny _ _ (if ((-1 : Int) == 0) = true then _ else _) _ _ s
  rw [if_neg (by decide)]
  refine wpAny_bind (HT.slicePart_ pl (wpAny_bind (HT.slicePart_ pu (wpAny_bind (wpAny_pure ?_)))))
  show wpAny _ _ (match Builtin.Slice.sliceAdjust none none (-1) (items.size : Int) with | (lo, hi) => pure (lo, (-1 : Int), Builtin.Slice.slicePlaces lo hi (-1))) _ _ s
  rw [adjust_rev]
  show wpAny _ _ (pure ((items.size : Int) - 1, (-1 : Int), Builtin.Slice.slicePlaces ((items.size : Int) - 1) (-1) (-1))) _ _ s
  rw [places_rev]
  refine wpAny_pure ?_
  show wpAny _ _ (if ((items.size : Int) - 1 == 0 && (-1 : Int) == 1 && items.size == items.size) = true then _ else _) _ _ s
  rw [if_neg (by simp), pick_rev]
  first
    | exact wpAny_bind (m := Builtin.Tuple.tupleExact _) (wpAny_newObj_type (wpAny_pure ⟨_, rfl, wpAny_pure h⟩) hok)
    | exact wpAny_bind (m := Builtin.Tuple.tupleExact _) (wpAny_newObj_type (wpAny_bind (wpAny_pure (wpAny_pure ⟨_, rfl, wpAny_pure h⟩))) hok)
    | exact wpAny_bind (wpAny_bind (m := Builtin.Tuple.tupleExact _) (wpAny_newObj_type (wpAny_pure (wpAny_pure ⟨_, rfl, wpAny_pure h⟩)) hok))
    | exact wpAny_bind (wpAny_bind (m := Builtin.Tuple.tupleExact _) (wpAny_newObj_type (wpAny_pure ⟨_, rfl, wpAny_pure h⟩) hok))
def tRevT (K : PySem.W.Frag) (te : TE) : TE := fun σ H Q => te σ H fun x H1 => ∃ a xs, x = .ref a ∧ SqT K H1 a xs ∧ ∀ p, H1 p = none → Q (.ref p) (upd H1 p (.tup xs.reverse))
theorem pe_revT {X : Cx} {e : Expr} {te : TE} {k : Nat} {p1 p2 p3 pos : Pos} (he : PE X e te) :
    PE X (.Subscript e (.Slice none none (some (.UnaryOp .USub (.Constant (.int 1) k p1) p2)) p3) pos) (tRevT X.K te) := by
  refine ⟨fun pins s σ H Q I h => Subscript_ (thn (he.run pins s σ H _ I h) fun v s1 hx => ?_)⟩
  obtain ⟨x, H1, I1, r1, a, xs, rfl, hq, q⟩ := hx
  cases r1
  have hm : PO X (some (.UnaryOp .USub (.Constant (.int 1) k p1) p2)) (tPart (tUn (rU fun i => .int (-i)) (tC (.int 1)))) := po_some (pe_un un_neg pe_int)
  refine wpAny_Slice (thn (po_none.run pins s1 σ H1 (fun o G => o = none ∧ G = H1) I1 ⟨rfl, rfl⟩) fun vl s2 hl => ?_)
  obtain ⟨o2, G2, I2, pl, eo, eG⟩ := hl
  subst eo eG
  refine thn (po_none.run pins s2 σ _ (fun o G => o = none ∧ G = G2) I2 ⟨rfl, rfl⟩) fun vu s3 hu => ?_
  obtain ⟨o3, G3, I3, pu, eo, eG⟩ := hu
  subst eo eG
  refine thn (hm.run pins s3 σ _ (fun o G => o = some (-1) ∧ G = G3) I3 ⟨1, rfl, -1, rfl, rfl, rfl⟩) fun vs s4 hv => ?_
  obtain ⟨o4, G4, I4, ps, eo, eG⟩ := hv
  subst eo eG
  have I5 : Inv X pins σ G4 { s4 with heap := s4.heap.push { cls := .type "slice", data := .fields #[vl, vu, vs] } } := I4.kept (t' := s4.toks) fun b o z => Heap.get?_push_of_some _ z
  obtain ⟨its, r, ht, hz⟩ := I5.tuple hq
  have hn := r.length
  refine tail_any (ops := [.ref a, .ref s4.heap.objs.size]) ht.typeIs (PyProof.Rows.slot_tuple_getitem.lookup) ?_ (by with_unfolding_all rfl)
  refine getItem_rev ht (Heap.IsSliceOf.new _ vl vu vs) pl pu ps ?_ (by rw [List.size_toArray]; omega)
  refine ⟨.ref _, _, I5.laid (t' := s4.toks) (o := .tup xs.reverse) (fun b o z => Heap.get?_push_of_some _ z) (Nat.le_refl _) ?_, rfl, q _ (I5.hok.fresh (Nat.le_refl _))⟩
  exact ⟨by rw [List.length_reverse]; omega, _, r.reverse, IsTup.new _ _⟩
theorem pe_revTK {X : Cx} {K : PySem.W.Frag} {e : Expr} {te : TE} {k : Nat} {p1 p2 p3 pos : Pos} (hK : X.K = K) (he : PE X e te) :
    PE X (.Subscript e (.Slice none none (some (.UnaryOp .USub (.Constant (.int 1) k p1) p2)) p3) pos) (tRevT K te) := by
  subst hK; exact pe_revT he
end Gd
namespace Gd
open PySem PySem.Spec PyProof.Rows L2
section
variable {X : Cx} {K : PySem.W.Frag}
theorem call_anyK (hK : X.K = K) (hc : X.calm = true) : CallR X (.builtin "any") (rAny K) := by
  subst hK; exact cr_any hc
theorem op_in_seqK (hK : X.K = K) : OpR X (compareOp .In) (rIn K false) := by subst hK; exact op_in_seq
theorem op_notIn_seqK (hK : X.K = K) : OpR X (compareOp .NotIn) (rIn K true) := by subst hK; exact op_notIn_seq
end
end Gd
namespace Gd
open PySem PySem.Spec PyProof.Rows L2
/-! ### a heap without one object -/
def hid (a : Addr) (H : Hp) : Hp := fun b => if b = a then none else H b
theorem hid_le {a : Addr} {H : Hp} : Same (hid a H) H := fun b o h => by
  unfold hid at h
  by_cases z : b = a
  · rw [if_pos z] at h; cases h
  · rw [if_neg z] at h; exact h
theorem hid_sb {a : Addr} {H H' : Hp} (e : Sb a H H') : Same (hid a H) (hid a H') := fun b o h => by
  unfold hid at h ⊢
  by_cases z : b = a
  · rw [if_pos z] at h; cases h
  · rw [if_neg z] at h ⊢; exact e b o z h
theorem hid_of {a : Addr} {H H' : Hp} (e : Same H H') : Same (hid a H) (hid a H') := hid_sb (Sb.of e)
theorem hid_upd {a p : Addr} {H : Hp} {o : HO} (h : p ≠ a) : hid a (upd H p o) = upd (hid a H) p o := by
  funext b
  unfold hid
  by_cases z : b = p
  · subst z
    rw [if_neg h, upd_same, upd_same]
  · rw [upd_ne z, upd_ne z]
theorem hid_none {a p : Addr} {H : Hp} (h : H p = none) : hid a H p = none := by
  unfold hid
  split
  · rfl
  · exact h
theorem hid_at {a p : Addr} {H : Hp} {o : HO} (h : H p = some o) (n : p ≠ a) : hid a H p = some o := by
  unfold hid
  rw [if_neg n]
  exact h
section
variable {K : PySem.W.Frag} {H : Hp} {a p : Addr} {xs : List V} {ds es : List PyData} {Q : VK} {x y v : V} {d : PyData}
theorem new_ne (na : H a ≠ none) (np : H p = none) : p ≠ a := fun z => na (z ▸ np)
theorem Fd.nn {s : Addr} {n : Nat} (f : Fd H a s n) : H a ≠ none := by
  obtain ⟨ys, h⟩ := f.at
  rw [h]
  exact Option.some_ne_none _
/-- data that don't hang on a -/
abbrev Dq (K : PySem.W.Frag) (a : Addr) (H : Hp) (v : V) (d : PyData) : Prop := Dp K (hid a H) v d
abbrev DqAll (K : PySem.W.Frag) (a : Addr) (H : Hp) (xs : List V) (ds : List PyData) : Prop := DpAll K (hid a H) xs ds
theorem Dq.dp (h : Dq K a H v d) : Dp K H v d := Dp.same hid_le _ _ h
theorem DqAll.dp (h : DqAll K a H xs ds) : DpAll K H xs ds := DpAll.same hid_le _ _ h
theorem Dq.sb {H' : Hp} (h : Dq K a H v d) (e : Sb a H H') : Dq K a H' v d := Dp.same (hid_sb e) _ _ h
theorem DqAll.sb {H' : Hp} (h : DqAll K a H xs ds) (e : Sb a H H') : DqAll K a H' xs ds := DpAll.same (hid_sb e) _ _ h
theorem Dq.same {H' : Hp} (h : Dq K a H v d) (e : Same H H') : Dq K a H' v d := Dp.same (hid_of e) _ _ h
theorem DqAll.same {H' : Hp} (h : DqAll K a H xs ds) (e : Same H H') : DqAll K a H' xs ds := DpAll.same (hid_of e) _ _ h
theorem tupQ (na : H a ≠ none) (np : H p = none) (ha : DqAll K a H xs ds) : ∃ H', upd H p (.tup xs) = H' ∧ Same H H' ∧ Dq K a H' (.ref p) (.tuple ds) := by
  refine ⟨_, rfl, Same.new np, ?_⟩
  show Dp K (hid a (upd H p (.tup xs))) (.ref p) (.tuple ds)
  rw [hid_upd (new_ne na np)]
  exact .tup (SqT.of upd_same) (DpAll.same (Same.new (hid_none np)) _ _ ha)
theorem lstQ (na : H a ≠ none) (np : H p = none) (ha : DqAll K a H xs ds) : ∃ H', upd H p (.lst xs) = H' ∧ Same H H' ∧ H' p = some (.lst xs) ∧ p ≠ a ∧ DqAll K a H' xs ds := by
  refine ⟨_, rfl, Same.new np, upd_same, new_ne na np, ?_⟩
  show DpAll K (hid a (upd H p (.lst xs))) xs ds
  rw [hid_upd (new_ne na np)]
  exact DpAll.same (Same.new (hid_none np)) _ _ ha
theorem Dq.lst (h : H p = some (.lst xs)) (n : p ≠ a) (ha : DqAll K a H xs ds) : Dq K a H (.ref p) (.list ds) := L2.Dp.lst (SqL.of (hid_at h n)) ha
theorem dpa_take : ∀ (n : Nat) (ds : List PyData) (xs : List V), DpAll K H xs ds → DpAll K H (xs.take n) (ds.take n)
  | 0, ds, xs, _ => by rw [List.take_zero, List.take_zero]; exact .nil
  | n + 1, [], xs, h => by rw [dpa_nil h]; exact .nil
  | n + 1, d :: ds, xs, h => by
    obtain ⟨v, vs, rfl, h1, h2⟩ := dpa_cons h
    exact .cons h1 (dpa_take n ds vs h2)
theorem dpa_drop : ∀ (n : Nat) (ds : List PyData) (xs : List V), DpAll K H xs ds → DpAll K H (xs.drop n) (ds.drop n)
  | 0, ds, xs, h => h
  | n + 1, [], xs, h => by rw [dpa_nil h]; exact .nil
  | n + 1, d :: ds, xs, h => by
    obtain ⟨v, vs, rfl, h1, h2⟩ := dpa_cons h
    exact dpa_drop n ds vs h2
theorem dpa_reverse : ∀ (ds : List PyData) (xs : List V), DpAll K H xs ds → DpAll K H xs.reverse ds.reverse
  | [], xs, h => by rw [dpa_nil h]; exact .nil
  | d :: ds, xs, h => by
    obtain ⟨v, vs, rfl, h1, h2⟩ := dpa_cons h
    rw [List.reverse_cons, List.reverse_cons]
    exact dpa_snoc _ _ _ _ (dpa_reverse ds vs h2) h1
theorem cat_dq (na : H a ≠ none) (hx : Dq K a H x (.tuple ds)) (hy : Dq K a H y (.tuple es)) (hl : ds.length + es.length ≤ 100000)
    (k : ∀ v H', Same H H' → Dq K a H' v (.tuple (ds ++ es)) → Q v H') : rCatA K x y H Q := by
  obtain ⟨b, xs, rfl, hs, ha⟩ := dp_tup hx
  obtain ⟨c, ys, rfl, hs2, hb⟩ := dp_tup hy
  have l1 := dpa_len _ _ ha
  have l2 := dpa_len _ _ hb
  refine ⟨b, c, xs, ys, rfl, rfl, sqt_same hid_le hs, sqt_same hid_le hs2, Nat.le_trans (by omega : _ ≤ 100000) (by decide), ?_, ?_, ?_⟩
  · intro h
    subst h
    have e : ds = [] := List.eq_nil_of_length_eq_zero (by rw [← l1]; rfl)
    subst e
    exact k _ _ (Same.refl H) hy
  · intro _ h
    subst h
    have e : es = [] := List.eq_nil_of_length_eq_zero (by rw [← l2]; rfl)
    subst e
    exact k _ _ (Same.refl H) (by rw [List.append_nil]; exact hx)
  · intro _ _ p np
    obtain ⟨H', e', e1, h1⟩ := tupQ na np (dpa_append _ _ _ _ ha hb)
    rw [e']
    exact k _ _ e1 h1
theorem sl_dq {lo hi : Option Int} {i j : Nat} (na : H a ≠ none) (hx : Dq K a H x (.tuple ds)) (hi1 : HT.sIx ds.length 0 lo = i) (hj1 : HT.sIx ds.length ds.length hi = j)
    (k : ∀ v H', Same H H' → Dq K a H' v (.tuple ((ds.drop i).take (j - i))) → Q v H') : rSlA K x lo hi H Q := by
  obtain ⟨b, xs, rfl, hs, ha⟩ := dp_tup hx
  have l1 := dpa_len _ _ ha
  refine ⟨b, xs, rfl, sqt_same hid_le hs, ?_, ?_⟩
  · rintro ⟨h1, h2⟩
    rw [l1] at h1 h2
    have e0 : i = 0 := by omega
    have e1 : j = ds.length := by omega
    have := k (.ref b) H (Same.refl H)
    rw [e0, e1, List.drop_zero, Nat.sub_zero, List.take_length] at this
    exact this hx
  · intro _ p np
    have e : cutV xs lo hi = (xs.drop i).take (j - i) := by
      unfold cutV
      rw [l1, hi1, hj1]
    rw [e]
    obtain ⟨H', e', e1, h1⟩ := tupQ na np (dpa_take (j - i) _ _ (dpa_drop i _ _ ha))
    rw [e']
    exact k _ _ e1 h1
theorem rev_dq (na : H a ≠ none) (hx : Dq K a H x (.tuple ds)) (k : ∀ v H', Same H H' → Dq K a H' v (.tuple ds.reverse) → Q v H') :
    ∃ b xs, x = .ref b ∧ SqT K H b xs ∧ ∀ p, H p = none → Q (.ref p) (upd H p (.tup xs.reverse)) := by
  obtain ⟨b, xs, rfl, hs, ha⟩ := dp_tup hx
  refine ⟨b, xs, rfl, sqt_same hid_le hs, fun p np => ?_⟩
  obtain ⟨H', e', e1, h1⟩ := tupQ na np (dpa_reverse _ _ ha)
  rw [e']
  exact k _ _ e1 h1
theorem ix_dq {i : Nat} (hx : Dq K a H x (.tuple ds)) (hi : ds[i]? = some d) (k : ∀ v, Dq K a H v d → Q v H) : rIxT K x (.int (i : Int)) H Q := by
  obtain ⟨b, xs, rfl, hs, ha⟩ := dp_tup hx
  obtain ⟨v, hv, hd⟩ := dpa_at _ _ i d ha hi
  exact ⟨b, xs, _, v, rfl, rfl, sqt_same hid_le hs, atI_nat hv, k v hd⟩
theorem listT_dq (na : H a ≠ none) (hx : Dq K a H x (.tuple ds))
    (k : ∀ l H', H l = none → Same H H' → Dq K a H' (.ref l) (.list ds) → Q (.ref l) H') : rListK K [x] H Q := by
  obtain ⟨b, xs, rfl, hs, ha⟩ := dp_tup hx
  refine ⟨b, xs, rfl, .inr (sqt_same hid_le hs), fun l nl => ?_⟩
  obtain ⟨H', e', e1, h1, h2, h3⟩ := lstQ na nl ha
  rw [e']
  exact k l _ nl e1 (Dq.lst h1 h2 h3)
end
/-! ### kinds of data -/
def tyN : PyData → String
  | .none => "NoneType" | .bool _ => "bool" | .int _ => "int" | .str _ => "str" | .list _ => "list" | .tuple _ => "tuple" | .dict _ => "dict"
def isT : PyData → Bool
  | .tuple _ => true | _ => false
def isB : PyData → Bool
  | .bool _ => true | _ => false
def isI : PyData → Bool
  | .int _ | .bool _ => true | _ => false
def isNum : PyData → Bool
  | .int _ => true | _ => false
theorem sql_ty {K : PySem.W.Frag} {H : Hp} {a : Addr} {xs : List V} (h : SqL K H a xs) : TyX K H (.ref a) (.type "list") := by
  rcases h with (h | ⟨o, h⟩) | h
  · exact .base (.lst h)
  · exact .base (.frz h)
  · obtain ⟨o, its, n, hk, hc, _⟩ := h
    exact .kList hk hc
section
variable {K : PySem.W.Frag} {H : Hp} {v : V} {d : PyData} {Q : VK}
theorem ty_dp (h : Dp K H v d) : TyX K H v (.type (tyN d)) := by
  cases h with
  | non => exact .base .non
  | bl b => exact .base (.bl b)
  | int i => exact .base (.int i)
  | str x => exact .base (.str x)
  | lst hs _ => exact sql_ty hs
  | tup hs _ => exact sqt_ty hs
theorem isi_dp {c : String} {b : Bool} (h : Dp K H v d) (hk : kitB (tyN d) c = some b) (q : Q (.bl b) H) : rIsi K [v, .ty c] H Q :=
  ⟨_, _, _, _, b, rfl, .ty c, ty_dp h, kit_ty hk, q⟩
theorem isi_tuple (h : Dp K H v d) (q : Q (.bl (isT d)) H) : rIsi K [v, .ty "tuple"] H Q := by
  refine isi_dp h ?_ q
  cases d <;> first | (simp only [tyN, isT]; decide +kernel) | cases h
theorem isi_int (h : Dp K H v d) (q : Q (.bl (isI d)) H) : rIsi K [v, .ty "int"] H Q := by
  refine isi_dp h ?_ q
  cases d <;> first | (simp only [tyN, isI]; decide +kernel) | cases h
theorem isi_bool (h : Dp K H v d) (q : Q (.bl (isB d)) H) : rIsi K [v, .ty "bool"] H Q := by
  refine isi_dp h ?_ q
  cases d <;> first | (simp only [tyN, isB]; decide +kernel) | cases h
end
/-! ### data of bounded numbers, depth and size -/
mutual
def fz : PyData → Nat
  | .none | .bool _ | .int _ => 1
  | .str x => 1 + x.length
  | .list ds | .tuple ds => 1 + fzAll ds
  | .dict _ => 1
def fzAll : List PyData → Nat
  | [] => 0
  | d :: ds => fz d + fzAll ds
end
mutual
def fok (M : Nat) : PyData → Bool
  | .none | .bool _ => true
  | .int i => decide (i.natAbs ≤ M)
  | .str x => PyData.strOk x
  | .list ds | .tuple ds => fokAll M ds
  | .dict _ => false
def fokAll (M : Nat) : List PyData → Bool
  | [] => true
  | d :: ds => fok M d && fokAll M ds
end
structure Fn (M k n : Nat) (d : PyData) : Prop where
  ok : fok M d = true
  dep : d.depth ≤ k
  sz : fz d ≤ n
mutual
theorem fok_mono {M M' : Nat} (hM : M ≤ M') : ∀ d : PyData, fok M d = true → fok M' d = true
  | .none, _ => by simp only [fok]
  | .bool _, _ => by simp only [fok]
  | .int i, h => by simp only [fok, decide_eq_true_eq] at h ⊢; omega
  | .str x, h => by simpa only [fok] using h
  | .list ds, h => by simp only [fok] at h ⊢; exact fokAll_mono hM ds h
  | .tuple ds, h => by simp only [fok] at h ⊢; exact fokAll_mono hM ds h
  | .dict _, h => by simp [fok] at h
theorem fokAll_mono {M M' : Nat} (hM : M ≤ M') : ∀ ds : List PyData, fokAll M ds = true → fokAll M' ds = true
  | [], _ => by simp only [fokAll]
  | d :: ds, h => by
    simp only [fokAll, Bool.and_eq_true] at h ⊢
    exact ⟨fok_mono hM d h.1, fokAll_mono hM ds h.2⟩
end
theorem Fn.mono {M k n M' k' n' : Nat} {d : PyData} (h : Fn M k n d) (hM : M ≤ M') (hk : k ≤ k') (hn : n ≤ n') : Fn M' k' n' d :=
  ⟨fok_mono hM d h.ok, Nat.le_trans h.dep hk, Nat.le_trans h.sz hn⟩
theorem fokAll_iff {M : Nat} : ∀ ds : List PyData, fokAll M ds = true ↔ ∀ d ∈ ds, fok M d = true
  | [] => by simp [fokAll]
  | d :: ds => by simp only [fokAll, Bool.and_eq_true, fokAll_iff ds, List.mem_cons, forall_eq_or_imp]
theorem depthAll_iff {k : Nat} : ∀ ds : List PyData, PyData.depthAll ds ≤ k ↔ ∀ d ∈ ds, d.depth ≤ k
  | [] => by simp [PyData.depthAll]
  | d :: ds => by
    simp only [PyData.depthAll, List.mem_cons, forall_eq_or_imp, ← depthAll_iff ds]
    omega
theorem fzAll_app : ∀ ds es : List PyData, fzAll (ds ++ es) = fzAll ds + fzAll es
  | [], es => by simp [fzAll]
  | d :: ds, es => by simp only [List.cons_append, fzAll, fzAll_app ds es]; omega
theorem fz_pos : ∀ d : PyData, 1 ≤ fz d
  | .none | .bool _ | .int _ | .dict _ => by simp [fz]
  | .str x => by simp only [fz]; omega
  | .list ds | .tuple ds => by simp only [fz]; omega
theorem fzAll_len : ∀ ds : List PyData, ds.length ≤ fzAll ds
  | [] => by simp [fzAll]
  | d :: ds => by
    have := fz_pos d
    have := fzAll_len ds
    simp only [fzAll, List.length_cons]
    omega
theorem fzAll_mem : ∀ {ds : List PyData} {d : PyData}, d ∈ ds → fz d ≤ fzAll ds
  | e :: ds, d, h => by
    simp only [fzAll]
    rcases List.mem_cons.mp h with rfl | h
    · omega
    · have := fzAll_mem h
      omega
/-- a tuple or list of such -/
theorem fn_tup {M k n : Nat} {ds : List PyData} : Fn M (k + 1) n (.tuple ds) ↔ (∀ d ∈ ds, fok M d = true ∧ d.depth ≤ k) ∧ 1 + fzAll ds ≤ n := by
  constructor
  · rintro ⟨h1, h2, h3⟩
    simp only [fok] at h1
    simp only [PyData.depth] at h2
    simp only [fz] at h3
    have h2 : PyData.depthAll ds ≤ k := by omega
    exact ⟨fun d hd => ⟨(fokAll_iff ds).mp h1 d hd, (depthAll_iff ds).mp h2 d hd⟩, h3⟩
  · rintro ⟨h1, h3⟩
    refine ⟨?_, ?_, ?_⟩
    · simp only [fok]
      exact (fokAll_iff ds).mpr fun d hd => (h1 d hd).1
    · simp only [PyData.depth]
      have := (depthAll_iff (k := k) ds).mpr fun d hd => (h1 d hd).2
      omega
    · simpa only [fz] using h3
theorem fn_lst {M k n : Nat} {ds : List PyData} (h : Fn M k n (.tuple ds)) : Fn M k n (.list ds) := by
  refine ⟨?_, ?_, ?_⟩
  · simpa only [fok] using h.ok
  · simpa only [PyData.depth] using h.dep
  · simpa only [fz] using h.sz
/-! ### what repr and == ask -/
mutual
theorem fok_sh {M : Nat} (hM : M < 2 ^ 1900) : ∀ d : PyData, fok M d = true → d.showable = true ∧ d.hasDict = false ∧ d.canLay0 = true ∧ d.shown.length + 3 ≤ 1910 * fz d
  | .none, _ => ⟨by simp [PyData.showable], by simp [PyData.hasDict], by simp [PyData.canLay0], by simp only [PyData.shown, fz]; decide +kernel⟩
  | .bool b, _ => by
    refine ⟨by simp [PyData.showable], by simp [PyData.hasDict], by simp [PyData.canLay0], ?_⟩
    simp only [PyData.shown, fz]
    cases b <;> decide +kernel
  | .int i, h => by
    simp only [fok, decide_eq_true_eq] at h
    have s := Sh.int (i := i) (by omega)
    refine ⟨s.1, s.2.1, by simp [PyData.canLay0], ?_⟩
    have := s.2.2.2
    simp only [fz]
    omega
  | .str x, h => by
    simp only [fok] at h
    refine ⟨by simp [PyData.showable], by simp [PyData.hasDict], by simpa [PyData.canLay0] using h, ?_⟩
    have hx : ∀ c ∈ x.cps.toList, c < 16 ^ 8 := by
      intro c hc
      unfold PyData.strOk at h
      rw [Array.all_eq_true_iff_forall_mem] at h
      have := of_decide_eq_true (h c (by simpa using hc))
      omega
    have := PySem.StrLaws.reprText_len x hx
    simp only [PyData.shown, fz]
    omega
  | .list ds, h => by
    simp only [fok] at h
    obtain ⟨h1, h2, h3, h4, h5⟩ := fokAll_sh hM ds h
    refine ⟨by simpa only [PyData.showable] using h1, by simpa only [PyData.hasDict] using h2, by simpa only [PyData.canLay0] using h3, ?_⟩
    have e := PySem.listText_len_le (PyData.shownAll ds)
    simp only [PyData.shown, fz]
    omega
  | .tuple ds, h => by
    simp only [fok] at h
    obtain ⟨h1, h2, h3, h4, h5⟩ := fokAll_sh hM ds h
    refine ⟨by simpa only [PyData.showable] using h1, by simpa only [PyData.hasDict] using h2, by simpa only [PyData.canLay0] using h3, ?_⟩
    have e := PySem.tupleText_len_le (PyData.shownAll ds)
    simp only [PyData.shown, fz]
    omega
  | .dict _, h => by simp [fok] at h
theorem fokAll_sh {M : Nat} (hM : M < 2 ^ 1900) : ∀ ds : List PyData, fokAll M ds = true → PyData.showableAll ds = true ∧ PyData.hasDictAll ds = false ∧ PyData.canLayAll0 ds = true ∧
    ((PyData.shownAll ds).map (·.length)).sum + 3 * ds.length ≤ 1910 * fzAll ds ∧ (PyData.shownAll ds).length = ds.length
  | [], _ => ⟨by simp [PyData.showableAll], by simp [PyData.hasDictAll], by simp [PyData.canLayAll0], by simp [PyData.shownAll, fzAll], by simp [PyData.shownAll]⟩
  | d :: ds, h => by
    simp only [fokAll, Bool.and_eq_true] at h
    obtain ⟨a1, a2, a3, a4⟩ := fok_sh hM d h.1
    obtain ⟨b1, b2, b3, b4, b5⟩ := fokAll_sh hM ds h.2
    refine ⟨by simp only [PyData.showableAll, a1, b1, Bool.and_self], by simp only [PyData.hasDictAll, a2, b2, Bool.or_self], by simp only [PyData.canLayAll0, a3, b3, Bool.and_self], ?_, by simp only [PyData.shownAll, List.length_cons, b5]⟩
    simp only [PyData.shownAll, List.map_cons, List.sum_cons, fzAll, List.length_cons]
    omega
end
theorem Fn.sh {M k n : Nat} {d : PyData} (h : Fn M k n d) (hM : M < 2 ^ 1900) (hn : n ≤ 8000) : Sh k 15300000 d := by
  obtain ⟨h1, h2, _, h4⟩ := fok_sh hM d h.ok
  have := h.sz
  exact ⟨h1, h2, h.dep, by omega⟩
theorem Fn.shaped {M k n : Nat} {d : PyData} (h : Fn M k n d) (hM : M < 2 ^ 1900) (hk : k ≤ 64) : SeqAt.shaped d = true := by
  obtain ⟨_, _, h3, _⟩ := fok_sh hM d h.ok
  show (d.canLay0 && decide (d.depth ≤ 64)) = true
  rw [Bool.and_eq_true]
  exact ⟨h3, decide_eq_true (Nat.le_trans h.dep hk)⟩
theorem strOk_of (t : String) : PyData.strOk (Str.ofString t) = true := by
  rw [Str.ofString_eq_toList]
  unfold PyData.strOk
  rw [Array.all_eq_true_iff_forall_mem]
  intro c hc
  simp only [List.mem_toArray, List.mem_map] at hc
  obtain ⟨x, _, rfl⟩ := hc
  refine decide_eq_true ?_
  have hv := x.valid
  unfold UInt32.isValidChar Nat.isValidChar at hv
  show x.val.toNat < 1114112
  omega
end Gd
namespace Gd
open PySem PySem.Spec PyProof.Rows L2
theorem tup_or (d : PyData) : isT d = false ∨ ∃ ds, d = .tuple ds := by
  cases d <;> first | exact Or.inl rfl | exact Or.inr ⟨_, rfl⟩
theorem hid_self {D : Addr} {H : Hp} {o : HO} : hid D (upd H D o) = hid D H := by
  funext b
  unfold hid
  by_cases z : b = D
  · rw [if_pos z, if_pos z]
  · rw [if_neg z, if_neg z, upd_ne z]
theorem hid_new {D : Addr} {H H' : Hp} (e : Same H H') (n : H D = none) : Same H (hid D H') := fun b o h => by
  unfold hid
  rw [if_neg (ne_of_none h n)]
  exact e b o h
/-- what a comprehension has got so far -/
def Ac (K : PySem.W.Frag) (D : Addr) (H H' : Hp) (es : List PyData) : Prop := Same H H' ∧ ∃ ys, H' D = some (.lst ys) ∧ DqAll K D H' ys es
theorem Ac.start {K : PySem.W.Frag} {D : Addr} {H : Hp} (h : H D = none) : Ac K D H (upd H D (.lst [])) [] := ⟨Same.new h, [], upd_same, .nil⟩
theorem Ac.keep {K : PySem.W.Frag} {D : Addr} {H H1 H2 : Hp} {es : List PyData} (h : Ac K D H H1 es) (e : Same H1 H2) : Ac K D H H2 es := by
  obtain ⟨h0, ys, h1, h2⟩ := h
  exact ⟨h0.trans e, ys, e _ _ h1, h2.same e⟩
theorem Ac.push {K : PySem.W.Frag} {D : Addr} {H H1 H2 : Hp} {es : List PyData} {y : V} {d : PyData} (hD : H D = none) (h : Ac K D H H1 es) (e : Same H1 H2) (hy : Dp K (hid D H2) y d) (hl : es.length < 60000) :
    ∃ acc, H2 D = some (.lst acc) ∧ acc.length < sizeLine ∧ Ac K D H (upd H2 D (.lst (acc ++ [y]))) (es ++ [d]) := by
  obtain ⟨h0, ys, h1, h2⟩ := h.keep e
  refine ⟨ys, h1, ?_, Same.mut h0 hD, _, upd_same, ?_⟩
  · rw [dpa_len _ _ h2]
    exact Nat.lt_trans hl (by decide)
  · show DpAll K (hid D (upd H2 D (.lst (ys ++ [y])))) (ys ++ [y]) (es ++ [d])
    rw [hid_self]
    exact dpa_snoc _ _ _ _ h2 hy
section
variable {K : PySem.W.Frag} {te : TE} {tt : TT} {vs : List Nat} {σ : L2.St} {H : Hp} {D : Addr} {Qd : Hp → Prop}
/-- [x for x in t if c], t a tuple of data -/
theorem lctP {j : Nat} {a : Addr} {xs : List V} {ds : List PyData} (p : PyData → Bool) (hD : H D = none) (hx : SqT K H a xs) (ha : DpAll K H xs ds) (hn : ds.length ≤ 50000)
    (hw : ∀ x, wipe ((wipe σ vs).set j (some x)) vs = wipe σ vs)
    (hs : ∀ (x : V) (d : PyData) (H1 : Hp) (R : Bool → Hp → Prop), d ∈ ds → Dp K H1 x d → Same H H1 → (∀ H2, Same H1 H2 → R (p d) H2) → tt ((wipe σ vs).set j (some x)) H1 R)
    (he : ∀ (x : V) (H1 : Hp) (Q : VK), Q x H1 → te ((wipe σ vs).set j (some x)) H1 Q)
    (hd : ∀ H' ys, Same H H' → H' D = some (.lst ys) → DpAll K H' ys (ds.filter p) → Qd H') :
    ∃ W : Nat → Nat → Hp → Prop, (∃ m, W 0 m (upd H D (.lst []))) ∧ ∀ i m H, W i m H →
      ((Itt K a).stop i H ∧ Qd H) ∨ ((Itt K a).go i H ∧ ∃ Nx : Hp → Prop,
        (∀ H', Nx H' → ∃ m', m' < m ∧ W (i + 1) m' H') ∧
        ∀ x H', (Itt K a).yld i H x H' → gName j x (wipe σ vs) H' fun σ2 H2 =>
          wipe σ2 vs = wipe σ vs ∧ tt σ2 H2 fun b H3 =>
            if b = true then te σ2 H3 fun y H4 => ∃ acc, H4 D = some (.lst acc) ∧
              acc.length < sizeLine ∧ Nx (upd H4 D (.lst (acc ++ [y]))) else Nx H3) := by
  have hl : xs.length = ds.length := dpa_len _ _ ha
  refine lc_tup (xs := xs) (fun i H' => Ac K D H H' ((ds.take i).filter p)) (Ac.start hD) (fun i H' _ q => sqt_same q.1 hx) ?_ ?_
  · intro i x H' hi q
    obtain ⟨d, hd1, hd2⟩ := dpa_get _ _ i x ha hi
    have hlt := (List.getElem?_eq_some_iff.mp hd1).1
    have et : ds.take (i + 1) = ds.take i ++ [d] := by rw [List.take_succ, hd1]; rfl
    refine ⟨hw _, hs x d H' _ (List.mem_of_getElem? hd1) (Dp.same q.1 _ _ hd2) q.1 fun H2 e2 => ?_⟩
    by_cases hp : p d = true
    · rw [if_pos hp]
      refine he _ _ _ ?_
      rw [et, List.filter_append]
      have e3 : [d].filter p = [d] := by simp [hp]
      rw [e3]
      refine Ac.push hD q e2 (Dp.same (hid_new (q.1.trans e2) hD) _ _ hd2) ?_
      have h1 := List.length_filter_le p (ds.take i)
      rw [List.length_take] at h1
      omega
    · rw [if_neg hp, et, List.filter_append]
      have e3 : [d].filter p = [] := by simp [hp]
      rw [e3, List.append_nil]
      exact q.keep e2
  · rintro H' ⟨h0, ys, h1, h2⟩
    rw [hl, List.take_length] at h2
    exact hd H' ys h0 h1 h2.dp
end
/-! ### looks -/
def isRowD (w : Int) : PyData → Bool
  | .tuple ds => decide ((ds.length : Int) = w) && ds.all isNum
  | _ => false
def isTabD : PyData → Bool
  | .tuple [.int w, .tuple rows] => decide (0 ≤ w) && rows.all (isRowD w)
  | _ => false
def isUnitD : PyData → Bool
  | .tuple [.int w, .tuple rows] => isTabD (.tuple [.int w, .tuple rows]) && decide ((rows.length : Int) = w) && PyData.eqv (.tuple [.int w, .tuple rows]) (tabD w (unitR w.toNat))
  | _ => false
end Gd
namespace Gd
open PySem PySem.Spec PyProof.Rows L2
section
variable {K : PySem.W.Frag} {te : TE} {tt : TT} {vs : List Nat} {σ : L2.St} {H : Hp} {D : Addr} {Qd : Hp → Prop}
/-- [i for i in range(n) if c] -/
theorem lcrP {j n : Nat} (p : Nat → Bool) (hD : H D = none) (hn : n ≤ 50000)
    (hw : ∀ x, wipe ((wipe σ vs).set j (some x)) vs = wipe σ vs)
    (hs : ∀ (i : Nat) (H1 : Hp) (R : Bool → Hp → Prop), i < n → Same H H1 → (∀ H2, Same H1 H2 → R (p i) H2) → tt ((wipe σ vs).set j (some (.int (0 + (i : Int))))) H1 R)
    (he : ∀ (x : V) (H1 : Hp) (Q : VK), Q x H1 → te ((wipe σ vs).set j (some x)) H1 Q)
    (hd : ∀ H' ys, Same H H' → H' D = some (.lst ys) → DpAll K H' ys ((((List.range n).filter p).map fun (i : Nat) => (0 + (i : Int))).map PyData.int) → Qd H') :
    ∃ W : Nat → Nat → Hp → Prop, (∃ m, W 0 m (upd H D (.lst []))) ∧ ∀ i m H, W i m H →
      ((Itr 0 n).stop i H ∧ Qd H) ∨ ((Itr 0 n).go i H ∧ ∃ Nx : Hp → Prop,
        (∀ H', Nx H' → ∃ m', m' < m ∧ W (i + 1) m' H') ∧
        ∀ x H', (Itr 0 n).yld i H x H' → gName j x (wipe σ vs) H' fun σ2 H2 =>
          wipe σ2 vs = wipe σ vs ∧ tt σ2 H2 fun b H3 =>
            if b = true then te σ2 H3 fun y H4 => ∃ acc, H4 D = some (.lst acc) ∧
              acc.length < sizeLine ∧ Nx (upd H4 D (.lst (acc ++ [y]))) else Nx H3) := by
  refine lc_range (lo := 0) (n := n) (fun i H' => Ac K D H H' ((((List.range i).filter p).map fun (i : Nat) => (0 + (i : Int))).map PyData.int)) (Ac.start hD) ?_ ?_
  · intro i H' hi q
    refine ⟨hw _, hs i H' _ hi q.1 fun H2 e2 => ?_⟩
    by_cases hp : p i = true
    · rw [if_pos hp]
      refine he _ _ _ ?_
      have e3 : (List.range (i + 1)).filter p = (List.range i).filter p ++ [i] := by
        rw [List.range_succ, List.filter_append]
        simp [hp]
      rw [e3, List.map_append, List.map_append]
      refine Ac.push hD q e2 (.int _) ?_
      have h1 := List.length_filter_le p (List.range i)
      rw [List.length_map, List.length_map]
      rw [List.length_range] at h1
      omega
    · rw [if_neg hp]
      have e3 : (List.range (i + 1)).filter p = (List.range i).filter p := by
        rw [List.range_succ, List.filter_append]
        simp [hp]
      rw [e3]
      exact q.keep e2
  · rintro H' ⟨h0, ys, h1, h2⟩
    exact hd H' ys h0 h1 h2.dp
end
/-! ### tables among data -/
theorem tab_true {d : PyData} (h : isTabD d = true) : ∃ (n : Nat) (rs : List (List Int)), d = tabD n rs ∧ ∀ r ∈ rs, r.length = n := by
  unfold isTabD at h
  split at h
  · rename_i wd rows
    rw [Bool.and_eq_true] at h
    obtain ⟨h0, h1⟩ := h
    have h0 := of_decide_eq_true h0
    obtain ⟨n, rfl⟩ := Int.eq_ofNat_of_zero_le h0
    have row : ∀ d : PyData, isRowD (n : Int) d = true → ∃ r : List Int, d = rowD r ∧ r.length = n := by
      intro d hd
      unfold isRowD at hd
      split at hd
      · rename_i ds
        rw [Bool.and_eq_true] at hd
        obtain ⟨k0, k1⟩ := hd
        have k0 := of_decide_eq_true k0
        have key : ∀ ds : List PyData, ds.all isNum = true → ∃ r : List Int, ds = r.map PyData.int := by
          intro ds
          induction ds with
          | nil => intro _; exact ⟨[], rfl⟩
          | cons d ds ih =>
            intro hk
            rw [List.all_cons, Bool.and_eq_true] at hk
            obtain ⟨r, rfl⟩ := ih hk.2
            cases d with
            | int i => exact ⟨i :: r, rfl⟩
            | _ => cases hk.1
        obtain ⟨r, rfl⟩ := key ds k1
        refine ⟨r, rfl, ?_⟩
        rw [List.length_map] at k0
        omega
      · cases hd
    have all : ∀ rows : List PyData, rows.all (isRowD (n : Int)) = true → ∃ rs : List (List Int), rows = rs.map rowD ∧ ∀ r ∈ rs, r.length = n := by
      intro rows
      induction rows with
      | nil => intro _; exact ⟨[], rfl, fun r hr => by cases hr⟩
      | cons d ds ih =>
        intro hk
        rw [List.all_cons, Bool.and_eq_true] at hk
        obtain ⟨rs, rfl, hrs⟩ := ih hk.2
        obtain ⟨r, rfl, hr⟩ := row d hk.1
        refine ⟨r :: rs, rfl, fun x hx => ?_⟩
        rcases List.mem_cons.mp hx with rfl | hx
        · exact hr
        · exact hrs x hx
    obtain ⟨rs, rfl, hrs⟩ := all rows h1
    exact ⟨n, rs, rfl, hrs⟩
  · cases h
theorem unit_of_tab {d : PyData} (h : isTabD d = false) : isUnitD d = false := by
  unfold isUnitD
  split
  · rw [h]
    rfl
  · rfl
theorem tab_of {n : Nat} {rs : List (List Int)} (h : ∀ r ∈ rs, r.length = n) : isTabD (tabD n rs) = true := by
  unfold tabD rowsD
  simp only [isTabD, Bool.and_eq_true, decide_eq_true_eq, List.all_map, List.all_eq_true]
  refine ⟨by omega, fun r hr => ?_⟩
  simp only [Function.comp, rowD, isRowD, Bool.and_eq_true, decide_eq_true_eq, List.length_map, List.all_map, List.all_eq_true]
  refine ⟨by have := h r hr; omega, fun i _ => rfl⟩
end Gd
namespace Gd
open PySem PySem.Spec PyProof.Rows L2
section
variable {K : PySem.W.Frag} {H : Hp} {a : Addr} {ds : List PyData} {Q : VK} {x : V}
theorem sl_to {i : Nat} {z : Int} (hz : z = (i : Int)) (na : H a ≠ none) (hx : Dq K a H x (.tuple ds)) (k : ∀ v H', Same H H' → Dq K a H' v (.tuple (ds.take i)) → Q v H') : rSlA K x none (some z) H Q := by
  subst hz
  refine sl_dq na hx (i := 0) (j := min i ds.length) rfl (HT.sIx_nat _ _ _) fun v H' e h => k v H' e ?_
  have : (ds.drop 0).take (min i ds.length - 0) = ds.take i := by
    rw [List.drop_zero, Nat.sub_zero]
    by_cases hi : i ≤ ds.length
    · rw [Nat.min_eq_left hi]
    · rw [Nat.min_eq_right (by omega), List.take_length, List.take_of_length_le (by omega)]
  rw [this] at h
  exact h
theorem sl_from {i : Nat} {z : Int} (hz : z = (i : Int)) (na : H a ≠ none) (hx : Dq K a H x (.tuple ds)) (k : ∀ v H', Same H H' → Dq K a H' v (.tuple (ds.drop i)) → Q v H') : rSlA K x (some z) none H Q := by
  subst hz
  refine sl_dq na hx (i := min i ds.length) (j := ds.length) (HT.sIx_nat _ _ _) rfl fun v H' e h => k v H' e ?_
  have : (ds.drop (min i ds.length)).take (ds.length - min i ds.length) = ds.drop i := by
    rw [List.take_of_length_le (by rw [List.length_drop]; omega)]
    by_cases hi : i ≤ ds.length
    · rw [Nat.min_eq_left hi]
    · rw [Nat.min_eq_right (by omega), List.drop_length, List.drop_of_length_le (by omega)]
  rw [this] at h
  exact h
end
theorem fz_split : ∀ {ds : List PyData} {i : Nat} {x : PyData}, ds[i]? = some x → fzAll ds = fzAll (ds.take i) + fz x + fzAll (ds.drop (i + 1))
  | [], i, x, h => by simp at h
  | d :: ds, 0, x, h => by
    simp at h
    subst h
    simp [fzAll]
  | d :: ds, i + 1, x, h => by
    have := fz_split (ds := ds) (i := i) (x := x) (by simpa using h)
    simp only [List.take_succ_cons, List.drop_succ_cons, fzAll]
    omega
theorem fz_take (ds : List PyData) (i : Nat) : fzAll (ds.take i) + fzAll (ds.drop i) = fzAll ds := by
  rw [← fzAll_app, List.take_append_drop]
theorem fz_drop1 (ds : List PyData) (i : Nat) : fzAll (ds.drop (i + 1)) ≤ fzAll (ds.drop i) := by
  have := fz_take (ds.drop i) 1
  rw [List.drop_drop] at this
  have e : i + 1 = 1 + i := by omega
  first
    | omega
    | (rw [e]; omega)
theorem fz_rev : ∀ ds : List PyData, fzAll ds.reverse = fzAll ds
  | [] => rfl
  | d :: ds => by
    rw [List.reverse_cons, fzAll_app, fz_rev ds]
    simp only [fzAll]
    omega
theorem eqv_nilT (ds : List PyData) : PyData.eqv (.tuple ds) (.tuple []) = decide (ds = []) := by
  cases ds <;> simp [PyData.eqv, PyData.eqvAll]
end Gd
namespace Gd
open PySem PySem.Spec PyProof.Rows L2
theorem Same.nn {H H' : Hp} {a : Addr} (e : Same H H') (h : H a ≠ none) : H' a ≠ none := by
  cases q : H a with
  | none => exact absurd q h
  | some o =>
    rw [e a o q]
    exact Option.some_ne_none _
section
variable {X : Cx} {k : Nat} {ps : List Str} {sp : Sp} {x : Str} {p pos : Pos}
theorem pe_has0 (F : Has X.prog X.w X.K X.mg X.base x k ps sp) (hr : Room k X.A) (hg : Gl X x) (hdb : (x == ("__debug__" : Str)) = false := by decide) :
    PE X (.Call (.Name x p) [] [] pos) (tCall sp [] E0 tNil) := by
  obtain ⟨f, fd, G, hm, kp, hb⟩ := F
  exact pe_call0 G hr hg hm kp hb .nil pass0 hdb
end
section
variable {K : PySem.W.Frag} {te : TE} {tt : TT} {vs : List Nat} {σ : L2.St} {H : Hp} {D : Addr} {Qd : Hp → Prop}
/-- [truth for x in t], t a tuple -/
theorem lctB {j : Nat} {a : Addr} {xs : List V} (hD : H D = none) (hx : SqT K H a xs) (hn : xs.length ≤ 50000)
    (hw : ∀ x, wipe ((wipe σ vs).set j (some x)) vs = wipe σ vs)
    (hs : ∀ (i : Nat) (x : V) (H1 : Hp) (Q : VK), xs[i]? = some x → Same H H1 → (∀ b H2, Same H1 H2 → Q (.bl b) H2) → te ((wipe σ vs).set j (some x)) H1 Q)
    (hd : ∀ H' (bs : List Bool), Same H H' → H' D = some (.lst (bs.map V.bl)) → Qd H') :
    ∃ W : Nat → Nat → Hp → Prop, (∃ m, W 0 m (upd H D (.lst []))) ∧ ∀ i m H, W i m H →
      ((Itt K a).stop i H ∧ Qd H) ∨ ((Itt K a).go i H ∧ ∃ Nx : Hp → Prop,
        (∀ H', Nx H' → ∃ m', m' < m ∧ W (i + 1) m' H') ∧
        ∀ x H', (Itt K a).yld i H x H' → gName j x (wipe σ vs) H' fun σ2 H2 =>
          wipe σ2 vs = wipe σ vs ∧ tYes σ2 H2 fun b H3 =>
            if b = true then te σ2 H3 fun y H4 => ∃ acc, H4 D = some (.lst acc) ∧
              acc.length < sizeLine ∧ Nx (upd H4 D (.lst (acc ++ [y]))) else Nx H3) := by
  refine lc_tup (xs := xs) (fun i H' => Same H H' ∧ ∃ bs : List Bool, bs.length = i ∧ H' D = some (.lst (bs.map V.bl))) ⟨Same.new hD, [], rfl, upd_same⟩ (fun i H' _ q => sqt_same q.1 hx) ?_ ?_
  · rintro i x H' hi ⟨e, bs, hb, h1⟩
    have hlt := (List.getElem?_eq_some_iff.mp hi).1
    refine ⟨hw _, ?_⟩
    unfold tYes
    dsimp only
    rw [if_pos rfl]
    refine hs i x H' _ hi e fun b H2 e2 => ?_
    refine ⟨_, e2 _ _ h1, ?_, Same.mut (e.trans e2) hD, bs ++ [b], ?_, ?_⟩
    · rw [List.length_map, hb]
      exact Nat.lt_of_lt_of_le (show i < 50000 by omega) (by decide)
    · rw [List.length_append, hb]
      rfl
    · rw [upd_same, List.map_append]
      rfl
  · rintro H' ⟨e, bs, _, h1⟩
    exact hd H' bs e h1
/-- [True for x in l if c], l a list that stays -/
theorem lclT {j : Nat} {a : Addr} {xs : List V} (hD : H D = none) (hx : SqL K H a xs) (hn : xs.length ≤ 50000)
    (hw : ∀ x, wipe ((wipe σ vs).set j (some x)) vs = wipe σ vs)
    (ht : ∀ (i : Nat) (x : V) (H1 : Hp) (R : Bool → Hp → Prop), xs[i]? = some x → Same H H1 → (∀ b H2, Same H1 H2 → R b H2) → tt ((wipe σ vs).set j (some x)) H1 R)
    (hs : ∀ (i : Nat) (x : V) (H1 : Hp) (Q : VK), xs[i]? = some x → Same H H1 → (∀ H2, Same H1 H2 → Q (.bl true) H2) → te ((wipe σ vs).set j (some x)) H1 Q)
    (hd : ∀ H' (n : Nat), Same H H' → H' D = some (.lst ((List.replicate n true).map V.bl)) → Qd H') :
    ∃ W : Nat → Nat → Hp → Prop, (∃ m, W 0 m (upd H D (.lst []))) ∧ ∀ i m H, W i m H →
      ((Itl K a).stop i H ∧ Qd H) ∨ ((Itl K a).go i H ∧ ∃ Nx : Hp → Prop,
        (∀ H', Nx H' → ∃ m', m' < m ∧ W (i + 1) m' H') ∧
        ∀ x H', (Itl K a).yld i H x H' → gName j x (wipe σ vs) H' fun σ2 H2 =>
          wipe σ2 vs = wipe σ vs ∧ tt σ2 H2 fun b H3 =>
            if b = true then te σ2 H3 fun y H4 => ∃ acc, H4 D = some (.lst acc) ∧
              acc.length < sizeLine ∧ Nx (upd H4 D (.lst (acc ++ [y]))) else Nx H3) := by
  refine lc_list (xs := xs) (fun i H' => Same H H' ∧ ∃ n : Nat, n ≤ i ∧ H' D = some (.lst ((List.replicate n true).map V.bl))) ⟨Same.new hD, 0, Nat.le_refl _, upd_same⟩ (fun i H' _ q => sql_same q.1 hx) ?_ ?_
  · rintro i x H' hi ⟨e, n, hb, h1⟩
    have hlt := (List.getElem?_eq_some_iff.mp hi).1
    refine ⟨hw _, ht i x H' _ hi e fun b H2 e2 => ?_⟩
    cases b with
    | false => exact iteF ⟨e.trans e2, n, by omega, e2 _ _ h1⟩
    | true =>
      refine iteT (hs i x H2 _ hi (e.trans e2) fun H3 e3 => ?_)
      refine ⟨_, (e2.trans e3) _ _ h1, ?_, Same.mut ((e.trans e2).trans e3) hD, n + 1, by omega, ?_⟩
      · rw [List.length_map, List.length_replicate]
        exact Nat.lt_of_lt_of_le (show n < 50000 by omega) (by decide)
      · rw [upd_same, List.replicate_succ', List.map_append]
        rfl
  · rintro H' ⟨e, n, _, h1⟩
    exact hd H' n e h1
/-- [True for k in range(m)], where each draws -/
theorem lcrT {j m n c : Nat} {a s : Addr} (hD : H D = none) (hf : Fd H a s n) (hm : m ≤ 50000)
    (hw : ∀ x, wipe ((wipe σ vs).set j (some x)) vs = wipe σ vs)
    (hs : ∀ (i : Nat) (H1 : Hp) (Q : VK), i < m → Sb a H H1 → Fd H1 a s (n + c * i) →
      (∀ (H2 : Hp), Sb a H1 H2 → Fd H2 a s (n + c * (i + 1)) → Q (.bl true) H2) →
      te ((wipe σ vs).set j (some (.int (0 + (i : Int))))) H1 Q)
    (hd : ∀ (H' : Hp), Sb a H H' → Fd H' a s (n + c * m) → H' D = some (.lst ((List.replicate m true).map V.bl)) → Qd H') :
    ∃ W : Nat → Nat → Hp → Prop, (∃ m, W 0 m (upd H D (.lst []))) ∧ ∀ i k H, W i k H →
      ((Itr 0 m).stop i H ∧ Qd H) ∨ ((Itr 0 m).go i H ∧ ∃ Nx : Hp → Prop,
        (∀ H', Nx H' → ∃ k', k' < k ∧ W (i + 1) k' H') ∧
        ∀ x H', (Itr 0 m).yld i H x H' → gName j x (wipe σ vs) H' fun σ2 H2 =>
          wipe σ2 vs = wipe σ vs ∧ tYes σ2 H2 fun b H3 =>
            if b = true then te σ2 H3 fun y H4 => ∃ acc, H4 D = some (.lst acc) ∧
              acc.length < sizeLine ∧ Nx (upd H4 D (.lst (acc ++ [y]))) else Nx H3) := by
  obtain ⟨dA, dS⟩ := hf.apart hD
  refine lc_range (lo := 0) (n := m) (fun i H' => Sb a H H' ∧ Fd H' a s (n + c * i) ∧ H' D = some (.lst ((List.replicate i true).map V.bl))) ?_ ?_ ?_
  · exact ⟨Sb.new hD, (hf.upd dA dS).mono (by omega), upd_same⟩
  · rintro i H' hi ⟨sb, f, h1⟩
    refine ⟨hw _, ?_⟩
    unfold tYes
    dsimp only
    rw [if_pos rfl]
    refine hs i H' _ hi sb f fun H2 sb2 f2 => ?_
    refine ⟨_, sb2 _ _ dA h1, ?_, (Sb.trans sb sb2).mut hD, f2.upd dA dS, ?_⟩
    · rw [List.length_map, List.length_replicate]
      exact Nat.lt_of_lt_of_le (show i < 50000 by omega) (by decide)
    · rw [upd_same, List.replicate_succ', List.map_append]
      rfl
  · rintro H' ⟨sb, f, h1⟩
    exact hd H' sb f h1
end
end Gd
namespace Gd
open PySem PySem.Spec PyProof.Rows L2
section
variable {X : Cx} {K : PySem.W.Frag}
/-- repr of data of any kind -/
def rReprD (K : PySem.W.Frag) : List V → Hp → VK → Prop := fun vs H Q =>
  ∃ (v : V) (d : PyData), vs = [v] ∧ Dp K H v d ∧ d.showable = true ∧ d.hasDict = false ∧ d.depth ≤ 60 ∧ d.shown.length ≤ sizeLine ∧ Q (.str d.shown) H
theorem call_reprD (hG : X.A.guards = some []) (hu : X.A.units + 64 < cLine) : CallR X (.builtin "repr") (rReprD X.K) := by
  intro pins s σ H xs us Q I r h
  obtain ⟨v, d, rfl, hd, hs, hn, hdp, hz, q⟩ := h
  have refs : ∀ a : Addr, v = .ref a → wpAny (model X.prog X.w) X.A (call (.builtin "repr") us) (EP X pins σ Q) X.xe s := by
    intro a ha
    subst ha
    exact call_repr hG hu pins s σ H [.ref a] us Q I r ⟨a, d, rfl, hd, hs, hn, hdp, hz, q⟩
  cases hd with
  | lst _ _ => exact refs _ rfl
  | tup _ _ => exact refs _ rfl
  | non =>
    obtain ⟨u, rfl, hu1⟩ := vals1 r
    cases (show u = Value.none from hu1)
    exact PySem.P.repr_of_none ⟨.str "None", H, I.tok _, ⟨_, rfl⟩, by simpa only [PyData.shown] using q⟩
  | bl b =>
    obtain ⟨u, rfl, hu1⟩ := vals1 r
    cases (show u = Value.bool b from hu1)
    exact PySem.P.repr_of_bool ⟨.str (if b then "True" else "False"), H, I.tok _, ⟨_, rfl⟩, by simpa only [PyData.shown] using q⟩
  | int i =>
    obtain ⟨u, rfl, t, rfl⟩ := vals1 r
    simp only [PyData.showable, decide_eq_true_eq] at hs
    exact PySem.P.repr_of_int hs ⟨.str (toString i), H, I.tok _, ⟨_, rfl⟩, by simpa only [PyData.shown] using q⟩
  | str x =>
    obtain ⟨u, rfl, t, rfl⟩ := vals1 r
    refine PySem.P.repr_of_str ⟨.str (reprText x), H, I.tok _, ⟨_, rfl⟩, by simpa only [PyData.shown] using q⟩ ?_
    simpa only [PyData.shown] using hz
theorem call_reprDK (hK : X.K = K) (hG : X.A.guards = some []) (hu : X.A.units + 64 < cLine) : CallR X (.builtin "repr") (rReprD K) := by
  subst hK; exact call_reprD hG hu
end
theorem reprD {K : PySem.W.Frag} {H : Hp} {v : V} {d : PyData} {k n : Nat} {Q : VK} {S : Str} (hd : Dp K H v d) (hs : Sh k n d) (hk : k ≤ 60) (hn : n ≤ 16000000) (e : d.shown = S) (q : Q (.str S) H) : rReprD K [v] H Q := by
  subst e
  exact ⟨v, d, rfl, hd, hs.1, hs.2.1, Nat.le_trans hs.2.2.1 hk, Nat.le_trans hs.2.2.2 (Nat.le_trans hn (by decide)), q⟩
theorem tk_hid {H : Hp} {a : Addr} {xs : List V} (h : H a = some (.lst xs)) : Tk H (hid a H) := fun b o no hb => by
  unfold hid
  rw [if_neg ?_]
  · exact hb
  · rintro rfl
    rw [h] at hb
    cases hb
    exact no _ rfl
theorem Dp.q {K : PySem.W.Frag} {H : Hp} {a s : Addr} {n : Nat} {v : V} {d : PyData} (f : Fd H a s n) (ht : tupOnly d = true) (h : Dp K H v d) : Dq K a H v d := by
  obtain ⟨xs, hx⟩ := f.at
  exact Dp.tk (tk_hid hx) _ _ ht h
theorem dpa_rep {K : PySem.W.Frag} {H : Hp} {v : V} {d : PyData} (h : Dp K H v d) : ∀ n : Nat, DpAll K H (List.replicate n v) (List.replicate n d)
  | 0 => .nil
  | n + 1 => .cons h (dpa_rep h n)
theorem flat_rep {v : V} : ∀ n : Nat, (List.replicate n [v]).flatten = List.replicate n v
  | 0 => rfl
  | n + 1 => by rw [List.replicate_succ, List.replicate_succ, List.flatten_cons, flat_rep n]; rfl
/-- (x,) * n -/
theorem rep1_dp {K : PySem.W.Frag} {H : Hp} {x v : V} {d : PyData} {p : Addr} {k : Int} {Q : VK} (hx : SqT K H p [v]) (hv : Dp K H v d) (h1 : -1000 ≤ k) (h2 : k ≤ 1000)
    (q : ∀ u H', Same H H' → Dp K H' u (.tuple (List.replicate k.toNat d)) → Q u H') : rRepA K (.ref p) (.int k) H Q := by
  refine ⟨p, k, _, rfl, rfl, hx, (by simp), h1, h2, (by simp), ?_⟩
  intro p2 H2 e h
  rw [flat_rep] at h
  exact q _ _ e (.tup h (dpa_rep (Dp.same e _ _ hv) _))
end Gd

set_option Elab.async false
set_option linter.all false
set_option maxRecDepth 100000
set_option maxHeartbeats 1000000
namespace K04
open PySem L2 Gd
def top (i : Nat) : Stmt := PySem.Challenge.pw_stepforms_k04_what_is_a_table.main.body.getD i (.Pass ⟨0, 0, 0, 0⟩)
abbrev s_is_number : Stmt := top 1
abbrev n_is_number : List Str := ["thing"]
abbrev p_is_number : List Str := ["thing"]
theorem sc_is_number : FnScope n_is_number p_is_number (defScope s_is_number) := ⟨rfl, rfl, rfl, by decide +kernel, rfl, by decide +kernel, by decide +kernel⟩
theorem bn_is_number : BndOk "is_number" s_is_number p_is_number := fun _ _ _ _ _ _ us hl => match us, hl with | [_], _ => rfl
abbrev s_is_row : Stmt := top 3
abbrev n_is_row : List Str := ["wide", "thing", "number"]
abbrev p_is_row : List Str := ["wide", "thing"]
theorem sc_is_row : FnScope n_is_row p_is_row (defScope s_is_row) := ⟨rfl, rfl, rfl, by decide +kernel, rfl, by decide +kernel, by decide +kernel⟩
theorem bn_is_row : BndOk "is_row" s_is_row p_is_row := fun _ _ _ _ _ _ us hl => match us, hl with | [_, _], _ => rfl
abbrev s_is_table : Stmt := top 4
abbrev n_is_table : List Str := ["thing", "wide", "rows", "row"]
abbrev p_is_table : List Str := ["thing"]
theorem sc_is_table : FnScope n_is_table p_is_table (defScope s_is_table) := ⟨rfl, rfl, rfl, by decide +kernel, rfl, by decide +kernel, by decide +kernel⟩
theorem bn_is_table : BndOk "is_table" s_is_table p_is_table := fun _ _ _ _ _ _ us hl => match us, hl with | [_], _ => rfl
abbrev s_is_unit : Stmt := top 5
abbrev n_is_unit : List Str := ["thing"]
abbrev p_is_unit : List Str := ["thing"]
theorem sc_is_unit : FnScope n_is_unit p_is_unit (defScope s_is_unit) := ⟨rfl, rfl, rfl, by decide +kernel, rfl, by decide +kernel, by decide +kernel⟩
theorem bn_is_unit : BndOk "is_unit" s_is_unit p_is_unit := fun _ _ _ _ _ _ us hl => match us, hl with | [_], _ => rfl
abbrev s_unit : Stmt := top 6
abbrev n_unit : List Str := ["n", "k"]
abbrev p_unit : List Str := ["n"]
theorem sc_unit : FnScope n_unit p_unit (defScope s_unit) := ⟨rfl, rfl, rfl, by decide +kernel, rfl, by decide +kernel, by decide +kernel⟩
theorem bn_unit : BndOk "unit" s_unit p_unit := fun _ _ _ _ _ _ us hl => match us, hl with | [_], _ => rfl
abbrev s_unit_row : Stmt := top 7
abbrev n_unit_row : List Str := ["n", "k", "column"]
abbrev p_unit_row : List Str := ["n", "k"]
theorem sc_unit_row : FnScope n_unit_row p_unit_row (defScope s_unit_row) := ⟨rfl, rfl, rfl, by decide +kernel, rfl, by decide +kernel, by decide +kernel⟩
theorem bn_unit_row : BndOk "unit_row" s_unit_row p_unit_row := fun _ _ _ _ _ _ us hl => match us, hl with | [_, _], _ => rfl
abbrev s_l_feed : Stmt := top 9
abbrev n_l_feed : List Str := ["_law_script"]
abbrev p_l_feed : List Str := ["_law_script"]
theorem sc_l_feed : FnScope n_l_feed p_l_feed (defScope s_l_feed) := ⟨rfl, rfl, rfl, by decide +kernel, rfl, by decide +kernel, by decide +kernel⟩
theorem bn_l_feed : BndOk "_law_feed" s_l_feed p_l_feed := fun _ _ _ _ _ _ us hl => match us, hl with | [_], _ => rfl
abbrev s_l_draw : Stmt := top 10
abbrev n_l_draw : List Str := ["_law_feed_here", "_law_many", "_law_found", "_law_cell", "_law_mixed"]
abbrev p_l_draw : List Str := ["_law_feed_here", "_law_many"]
theorem sc_l_draw : FnScope n_l_draw p_l_draw (defScope s_l_draw) := ⟨rfl, rfl, rfl, by decide +kernel, rfl, by decide +kernel, by decide +kernel⟩
theorem bn_l_draw : BndOk "_law_draw" s_l_draw p_l_draw := fun _ _ _ _ _ _ us hl => match us, hl with | [_, _], _ => rfl
abbrev s_l_number : Stmt := top 11
abbrev n_l_number : List Str := ["_law_feed_here", "_law_way"]
abbrev p_l_number : List Str := ["_law_feed_here"]
theorem sc_l_number : FnScope n_l_number p_l_number (defScope s_l_number) := ⟨rfl, rfl, rfl, by decide +kernel, rfl, by decide +kernel, by decide +kernel⟩
theorem bn_l_number : BndOk "_law_number" s_l_number p_l_number := fun _ _ _ _ _ _ us hl => match us, hl with | [_], _ => rfl
abbrev s_l_rows : Stmt := top 12
abbrev n_l_rows : List Str := ["_law_feed_here", "_law_many", "_law_wide", "_law_rows_here", "_law_k", "_law_way", "_law_row", "_law_j", "_law_number_here"]
abbrev p_l_rows : List Str := ["_law_feed_here", "_law_many", "_law_wide"]
theorem sc_l_rows : FnScope n_l_rows p_l_rows (defScope s_l_rows) := ⟨rfl, rfl, rfl, by decide +kernel, rfl, by decide +kernel, by decide +kernel⟩
theorem bn_l_rows : BndOk "_law_rows" s_l_rows p_l_rows := fun _ _ _ _ _ _ us hl => match us, hl with | [_, _, _], _ => rfl
abbrev s_l_table : Stmt := top 13
abbrev n_l_table : List Str := ["_law_feed_here", "_law_many", "_law_wide"]
abbrev p_l_table : List Str := ["_law_feed_here", "_law_many", "_law_wide"]
theorem sc_l_table : FnScope n_l_table p_l_table (defScope s_l_table) := ⟨rfl, rfl, rfl, by decide +kernel, rfl, by decide +kernel, by decide +kernel⟩
theorem bn_l_table : BndOk "_law_table" s_l_table p_l_table := fun _ _ _ _ _ _ us hl => match us, hl with | [_, _, _], _ => rfl
abbrev s_l_odd : Stmt := top 14
abbrev n_l_odd : List Str := ["_law_feed_here", "_law_some"]
abbrev p_l_odd : List Str := ["_law_feed_here"]
theorem sc_l_odd : FnScope n_l_odd p_l_odd (defScope s_l_odd) := ⟨rfl, rfl, rfl, by decide +kernel, rfl, by decide +kernel, by decide +kernel⟩
theorem bn_l_odd : BndOk "_law_odd" s_l_odd p_l_odd := fun _ _ _ _ _ _ us hl => match us, hl with | [_], _ => rfl
abbrev s_l_bent : Stmt := top 15
abbrev n_l_bent : List Str := ["_law_feed_here", "_law_thing", "_law_at", "_law_way", "_law_more", "_law_some"]
abbrev p_l_bent : List Str := ["_law_feed_here", "_law_thing"]
theorem sc_l_bent : FnScope n_l_bent p_l_bent (defScope s_l_bent) := ⟨rfl, rfl, rfl, by decide +kernel, rfl, by decide +kernel, by decide +kernel⟩
theorem bn_l_bent : BndOk "_law_bent" s_l_bent p_l_bent := fun _ _ _ _ _ _ us hl => match us, hl with | [_, _], _ => rfl
abbrev s_l_is_row : Stmt := top 16
abbrev n_l_is_row : List Str := ["_law_wide", "_law_thing", "_law_one"]
abbrev p_l_is_row : List Str := ["_law_wide", "_law_thing"]
theorem sc_l_is_row : FnScope n_l_is_row p_l_is_row (defScope s_l_is_row) := ⟨rfl, rfl, rfl, by decide +kernel, rfl, by decide +kernel, by decide +kernel⟩
theorem bn_l_is_row : BndOk "_law_is_row" s_l_is_row p_l_is_row := fun _ _ _ _ _ _ us hl => match us, hl with | [_, _], _ => rfl
abbrev s_l_is_table : Stmt := top 17
abbrev n_l_is_table : List Str := ["_law_thing", "_law_row"]
abbrev p_l_is_table : List Str := ["_law_thing"]
theorem sc_l_is_table : FnScope n_l_is_table p_l_is_table (defScope s_l_is_table) := ⟨rfl, rfl, rfl, by decide +kernel, rfl, by decide +kernel, by decide +kernel⟩
theorem bn_l_is_table : BndOk "_law_is_table" s_l_is_table p_l_is_table := fun _ _ _ _ _ _ us hl => match us, hl with | [_], _ => rfl
abbrev s_l_is_unit : Stmt := top 18
abbrev n_l_is_unit : List Str := ["_law_thing", "_law_i", "_law_j"]
abbrev p_l_is_unit : List Str := ["_law_thing"]
theorem sc_l_is_unit : FnScope n_l_is_unit p_l_is_unit (defScope s_l_is_unit) := ⟨rfl, rfl, rfl, by decide +kernel, rfl, by decide +kernel, by decide +kernel⟩
theorem bn_l_is_unit : BndOk "_law_is_unit" s_l_is_unit p_l_is_unit := fun _ _ _ _ _ _ us hl => match us, hl with | [_], _ => rfl
abbrev s_l_unit : Stmt := top 19
abbrev n_l_unit : List Str := ["_law_n", "_law_i", "_law_j"]
abbrev p_l_unit : List Str := ["_law_n"]
theorem sc_l_unit : FnScope n_l_unit p_l_unit (defScope s_l_unit) := ⟨rfl, rfl, rfl, by decide +kernel, rfl, by decide +kernel, by decide +kernel⟩
theorem bn_l_unit : BndOk "_law_unit" s_l_unit p_l_unit := fun _ _ _ _ _ _ us hl => match us, hl with | [_], _ => rfl
abbrev s_l_by_hand : Stmt := top 20
abbrev n_l_by_hand : List Str := ["_law_some"]
abbrev p_l_by_hand : List Str := []
theorem sc_l_by_hand : FnScope n_l_by_hand p_l_by_hand (defScope s_l_by_hand) := ⟨rfl, rfl, rfl, by decide +kernel, rfl, by decide +kernel, by decide +kernel⟩
theorem bn_l_by_hand : BndOk "_law_by_hand" s_l_by_hand p_l_by_hand := fun _ _ _ _ _ _ us hl => match us, hl with | [], _ => rfl
abbrev s_l_great_ones : Stmt := top 21
abbrev n_l_great_ones : List Str := ["_law_feed_here", "_law_fifty", "_law_long", "_law_some", "_law_far", "_law_i", "_law_j", "_law_row"]
abbrev p_l_great_ones : List Str := ["_law_feed_here"]
theorem sc_l_great_ones : FnScope n_l_great_ones p_l_great_ones (defScope s_l_great_ones) := ⟨rfl, rfl, rfl, by decide +kernel, rfl, by decide +kernel, by decide +kernel⟩
theorem bn_l_great_ones : BndOk "_law_great_ones" s_l_great_ones p_l_great_ones := fun _ _ _ _ _ _ us hl => match us, hl with | [_], _ => rfl
abbrev s_l_things : Stmt := top 22
abbrev n_l_things : List Str := ["_law_feed_here", "_law_table_here", "_law_n", "_law_whole", "_law_found", "_law_thing", "_law_bent_here"]
abbrev p_l_things : List Str := ["_law_feed_here"]
theorem sc_l_things : FnScope n_l_things p_l_things (defScope s_l_things) := ⟨rfl, rfl, rfl, by decide +kernel, rfl, by decide +kernel, by decide +kernel⟩
theorem bn_l_things : BndOk "_law_things" s_l_things p_l_things := fun _ _ _ _ _ _ us hl => match us, hl with | [_], _ => rfl
abbrev s_l_right : Stmt := top 23
abbrev n_l_right : List Str := ["_law_thing", "_law_kept", "_law_due", "_law_turn"]
abbrev p_l_right : List Str := ["_law_thing"]
theorem sc_l_right : FnScope n_l_right p_l_right (defScope s_l_right) := ⟨rfl, rfl, rfl, by decide +kernel, rfl, by decide +kernel, by decide +kernel⟩
theorem bn_l_right : BndOk "_law_right" s_l_right p_l_right := fun _ _ _ _ _ _ us hl => match us, hl with | [_], _ => rfl
abbrev s_l_row_right : Stmt := top 24
abbrev n_l_row_right : List Str := ["_law_feed_here", "_law_wide", "_law_row", "_law_thing", "_law_many", "_law_k"]
abbrev p_l_row_right : List Str := ["_law_feed_here"]
theorem sc_l_row_right : FnScope n_l_row_right p_l_row_right (defScope s_l_row_right) := ⟨rfl, rfl, rfl, by decide +kernel, rfl, by decide +kernel, by decide +kernel⟩
theorem bn_l_row_right : BndOk "_law_row_right" s_l_row_right p_l_row_right := fun _ _ _ _ _ _ us hl => match us, hl with | [_], _ => rfl
abbrev s_l_is_vast : Stmt := top 25
abbrev n_l_is_vast : List Str := ["_law_thing", "_law_one"]
abbrev p_l_is_vast : List Str := ["_law_thing"]
theorem sc_l_is_vast : FnScope n_l_is_vast p_l_is_vast (defScope s_l_is_vast) := ⟨rfl, rfl, rfl, by decide +kernel, rfl, by decide +kernel, by decide +kernel⟩
theorem bn_l_is_vast : BndOk "_law_is_vast" s_l_is_vast p_l_is_vast := fun _ _ _ _ _ _ us hl => match us, hl with | [_], _ => rfl
abbrev s_law : Stmt := top 26
abbrev n_law : List Str := ["_law_script", "_law_feed_here", "_law_things_here", "_law_k", "_law_thing"]
abbrev p_law : List Str := ["_law_script"]
theorem sc_law : FnScope n_law p_law (defScope s_law) := ⟨rfl, rfl, rfl, by decide +kernel, rfl, by decide +kernel, by decide +kernel⟩
theorem bn_law : BndOk "law" s_law p_law := fun _ _ _ _ _ _ us hl => match us, hl with | [_], _ => rfl
structure Bn (mg : Str → Option Value) : Prop where
  isinstance_ : mg "isinstance" = none
  int_ : mg "int" = none
  bool_ : mg "bool" = none
  all_ : mg "all" = none
  tuple_ : mg "tuple" = none
  len_ : mg "len" = none
  range_ : mg "range" = none
  list_ : mg "list" = none
  str_ : mg "str" = none
  repr_ : mg "repr" = none
  max_ : mg "max" = none
  any_ : mg "any" = none
variable {P : Program} {w : World} {K : PySem.W.Frag} {mg : Str → Option Value} {base : Heap}
theorem dpa_bls {K : PySem.W.Frag} {H : Hp} : ∀ (bs : List Bool) (xs : List V), DpAll K H xs (bs.map PyData.bool) → xs = bs.map V.bl
  | [], xs, h => dpa_nil h
  | b :: bs, xs, h => by
    obtain ⟨v, vs, rfl, h1, h2⟩ := dpa_cons h
    cases h1
    rw [dpa_bls bs vs h2]
    rfl
theorem blsT {K : PySem.W.Frag} {H : Hp} {ys : List V} {n : Nat} (h : DpAll K H ys ((List.range n).map fun _ => PyData.bool true)) : ys = ((List.range n).map fun _ => true).map V.bl := by
  refine dpa_bls (K := K) (H := H) _ _ ?_
  rw [List.map_map]
  exact h
theorem all_true {n : Nat} : ((List.range n).map fun _ => true).all id = true := by
  rw [List.all_eq_true]
  intro b hb
  obtain ⟨_, _, rfl⟩ := List.mem_map.mp hb
  rfl

def spIsNumD (K : PySem.W.Frag) : Sp := fun vs H Q _ => ∃ (v : V) (d : PyData), vs = [v] ∧ Dp K H v d ∧ Q (.bl (isNum d)) H
theorem ok_is_number (D : Df K mg "is_number" s_is_number) (B : Bn mg) : Has P w K mg base "is_number" 1 p_is_number (spIsNumD K) := by
  refine has_of (k := 0) D sc_is_number bn_is_number ?_ ?_
  · rintro vs H Q E ⟨v, d, rfl, _⟩
    rfl
  rintro f cdv A outer s0 H vs Q E hr ⟨v, d, rfl, hd, k⟩
  refine ⟨_, (pss_one (ps_ret (pe_and (pe_callB (call_isiK (K := K) (by rfl)) (by rfl) B.isinstance_ (by decide +kernel) (pa_cons (pv 0) (pa_cons (pe_bltn (v := .ty "int") (u := .type "int") (by rfl) B.int_ (by decide +kernel) rfl) pa_nil))) (pe_one (pe_not (pe_callB (call_isiK (K := K) (by rfl)) (by rfl) B.isinstance_ (by decide +kernel) (pa_cons (pv 0) (pa_cons (pe_bltn (v := .ty "bool") (u := .type "bool") (by rfl) B.bool_ (by decide +kernel) rfl) pa_nil)))))))), ?_⟩
  refine ⟨_, rfl, ?_⟩
  dsimp only [tCons, tC, tNil]
  refine isi_int hd ⟨_, rfl, ?_⟩
  cases d with
  | int i =>
    refine iteT ⟨_, rfl, ?_⟩
    dsimp only [tCons, tC, tNil]
    exact isi_bool hd ⟨_, rfl, k⟩
  | bool b =>
    refine iteT ⟨_, rfl, ?_⟩
    dsimp only [tCons, tC, tNil]
    exact isi_bool hd ⟨_, rfl, k⟩
  | none => exact iteF k
  | str x => exact iteF k
  | list ds => exact iteF k
  | tuple ds => exact iteF k
  | dict _ => cases hd
def spIsRowD (K : PySem.W.Frag) : Sp := fun vs H Q _ => ∃ (n : Int) (v : V) (d : PyData), vs = [.int n, v] ∧ Dp K H v d ∧ fz d ≤ 8000 ∧ ∀ H', Same H H' → Q (.bl (isRowD n d)) H'
theorem range_all {α : Type} (ds : List α) (e : α) (f : α → Bool) : ((List.range ds.length).map fun i => f (ds.getD i e)).all id = ds.all f := by
  rw [range_getD ds e f, List.all_map]
  rfl
theorem blsF {K : PySem.W.Frag} {H : Hp} {ys : List V} {n : Nat} {f : Nat → Bool} (h : DpAll K H ys ((List.range n).map fun i => PyData.bool (f i))) : ys = ((List.range n).map f).map V.bl := by
  refine dpa_bls (K := K) (H := H) _ _ ?_
  rw [List.map_map]
  exact h
theorem data_at {ds : List PyData} {i : Nat} {d : PyData} (h : ds[i]? = some d) {e : PyData} : ds.getD i e = d := by
  rw [List.getD_eq_getElem?_getD, h]
  rfl
theorem ok_is_row (D : Df K mg "is_row" s_is_row) (B : Bn mg) (h_is_number : Has P w K mg base "is_number" 1 p_is_number (spIsNumD K)) :
    Has P w K mg base "is_row" 2 p_is_row (spIsRowD K) := by
  refine has_of (k := 1) D sc_is_row bn_is_row ?_ ?_
  · rintro vs H Q E ⟨n, v, d, rfl, _⟩
    rfl
  rintro f cdv A outer s0 H vs Q E hr ⟨n, v, d, rfl, hd, hz, k⟩
  refine ⟨_, (Evl.pss_cut (ps_if (PW.pt (pw_or (pt_not (pt_val (pe_callB (call_isiK (K := K) (by rfl)) (by rfl) B.isinstance_ (by decide +kernel) (pa_cons (pv 1) (pa_cons (pe_bltn (v := .ty "tuple") (u := .type "tuple") (by rfl) B.tuple_ (by decide +kernel) rfl) pa_nil))))) (pw_or1 (pt_cmpR op_ne (pe_callB (call_lenK (K := K) (by rfl)) (by rfl) B.len_ (by decide +kernel) (pa_cons (pv 1) pa_nil)) (pv 0) (nomark _))))) (pss_one (ps_ret pe_bl)) pss_nil)
      (pss_one (ps_ret (pe_callB (call_allK (K := K) (by rfl) (by rfl)) (by rfl) B.all_ (by decide +kernel) (pa_cons (pe_lc (own := [("number", 2)]) rfl sc_is_row.nd (pi_tupK (K := K) (by rfl) (pv 1)) (blkOk_by (own := [("number", 2)]) (N := n_is_row) (sc := defScope s_is_row) (by decide +kernel)) (fun _ _ _ _ _ => (pg_name (i := 2) sc_is_row.nd rfl (by first | exact Or.inl rfl | exact Or.inr rfl))) (fun _ _ _ _ _ => pts_nil) (fun _ _ _ _ _ => (pe_has (h_is_number) (hr.mono (by first | decide | omega)) (by rfl) (pa_cons (pv 2) pa_nil)))) pa_nil))))), ?_⟩
  rcases tup_or d with hT | ⟨ds, rfl⟩
  · refine ⟨fun _ _ => False, ?_, fun _ _ h => h.elim⟩
    refine ⟨_, rfl, ?_⟩
    dsimp only [tCons, tC, tNil]
    refine isi_tuple hd ?_
    rw [hT]
    refine ⟨_, rfl, iteT ?_⟩
    have := k H (Same.refl H)
    rw [show isRowD n d = false from by cases d <;> first | rfl | cases hT] at this
    exact this
  · obtain ⟨a, xs, rfl, hs, ha⟩ := dp_tup hd
    have hl := dpa_len _ _ ha
    have hz2 := fzAll_len ds
    simp only [fz] at hz
    by_cases hn : (ds.length : Int) = n
    · refine ⟨fun σ' H' => H' = H ∧ σ' = [some (.int n), some (.ref a), none], ?_, ?_⟩
      · refine ⟨_, rfl, ?_⟩
        dsimp only [tCons, tC, tNil]
        refine isi_tuple hd ⟨_, rfl, iteF ?_⟩
        refine ⟨_, rfl, a, _, rfl, .inr hs, _, rfl, rfl, _, rfl, ?_⟩
        exact iteNS (by rw [hl, hn]) ⟨rfl, rfl⟩
      · rintro σ' H' ⟨rfl, rfl⟩
        refine ⟨_, rfl, a, rfl, ⟨_, hs⟩, fun D1 hD1 => ?_⟩
        refine lct (K := K) (j := 2) (fun c => .bool (isNum (ds.getD c .none))) hD1 hs (by omega) (fun _ _ => by simp [tupOnly]) (fun _ => rfl) ?_ ?_
        · intro i x H1 Q1 hx e1 k1
          obtain ⟨d, hd1, hd2⟩ := dpa_get _ _ i x ha hx
          refine ⟨_, rfl, x, d, rfl, Dp.same e1 _ _ hd2, k1 _ _ (Same.refl _) ?_⟩
          rw [data_at hd1]
          exact .bl _
        · intro H1 ys e1 h1 hd1
          have ey := blsF hd1
          subst ey
          refine ⟨D1, _, rfl, SqL.of h1, ?_⟩
          rw [hl, range_all ds .none isNum]
          have := k _ e1
          simp only [isRowD, decide_eq_true hn, Bool.true_and] at this
          exact this
    · refine ⟨fun _ _ => False, ?_, fun _ _ h => h.elim⟩
      refine ⟨_, rfl, ?_⟩
      dsimp only [tCons, tC, tNil]
      refine isi_tuple hd ⟨_, rfl, iteF ?_⟩
      refine ⟨_, rfl, a, _, rfl, .inr hs, _, rfl, rfl, _, rfl, ?_⟩
      have e : (!decide (V.int (xs.length : Int) = V.int n)) = true := by
        rw [decide_eq_false (fun z => hn (by have := V.int.inj z; omega))]
        rfl
      rw [e]
      refine iteT ?_
      have := k H (Same.refl H)
      simp only [isRowD, decide_eq_false hn, Bool.false_and] at this
      exact this
def spIsTabD (K : PySem.W.Frag) : Sp := fun vs H Q _ => ∃ (v : V) (d : PyData), vs = [v] ∧ Dp K H v d ∧ fz d ≤ 8000 ∧ ∀ H', Same H H' → Q (.bl (isTabD d)) H'
theorem tab_len {ds : List PyData} (h : ds.length ≠ 2) : isTabD (.tuple ds) = false := by
  match ds with
  | [] => rfl
  | [_] => simp [isTabD]
  | [_, _] => exact absurd rfl h
  | _ :: _ :: _ :: _ => simp [isTabD]
theorem tab_num {d e : PyData} (h : isNum d = false) : isTabD (.tuple [d, e]) = false := by
  cases d <;> first | rfl | cases h
theorem num_int {d : PyData} (h : isNum d = true) : ∃ i, d = .int i := by
  cases d <;> first | exact ⟨_, rfl⟩ | cases h
theorem two_of {ds : List PyData} (h : ds.length = 2) : ∃ d e, ds = [d, e] := by
  match ds, h with
  | [d, e], _ => exact ⟨d, e, rfl⟩
theorem ok_is_table (D : Df K mg "is_table" s_is_table) (B : Bn mg) (h_is_number : Has P w K mg base "is_number" 1 p_is_number (spIsNumD K)) (h_is_row : Has P w K mg base "is_row" 2 p_is_row (spIsRowD K)) :
    Has P w K mg base "is_table" 3 p_is_table (spIsTabD K) := by
  refine has_of (k := 2) D sc_is_table bn_is_table ?_ ?_
  · rintro vs H Q E ⟨v, d, rfl, _⟩
    rfl
  rintro f cdv A outer s0 H vs Q E hr ⟨v, d, rfl, hd, hz, k⟩
  refine ⟨_, (Evl.pss_cut (ps_if (PW.pt (pw_or (pt_not (pt_val (pe_callB (call_isiK (K := K) (by rfl)) (by rfl) B.isinstance_ (by decide +kernel) (pa_cons (pv 0) (pa_cons (pe_bltn (v := .ty "tuple") (u := .type "tuple") (by rfl) B.tuple_ (by decide +kernel) rfl) pa_nil))))) (pw_or1 (pt_cmpR op_ne (pe_callB (call_lenK (K := K) (by rfl)) (by rfl) B.len_ (by decide +kernel) (pa_cons (pv 0) pa_nil)) pe_int (nomark _))))) (pss_one (ps_ret pe_bl)) pss_nil)
      (pss_cons (ps_asg (pv 0) (pg_tupK (K := K) (n := 2) (by rfl) (by rfl) (pgs_cons (pg_name (i := 1) sc_is_table.nd rfl (by first | exact Or.inl rfl | exact Or.inr rfl)) (pgs_cons (pg_name (i := 2) sc_is_table.nd rfl (by first | exact Or.inl rfl | exact Or.inr rfl)) pgs_nil))))
      (Evl.pss_cut (ps_if (PW.pt (pw_or (pt_not (pt_val (pe_has (h_is_number) (hr.mono (by first | decide | omega)) (by rfl) (pa_cons (pv 1) pa_nil)))) (pw_or (pt_cmpR op_lt (pv 1) pe_int (nomark _)) (pw_or1 (pt_not (pt_val (pe_callB (call_isiK (K := K) (by rfl)) (by rfl) B.isinstance_ (by decide +kernel) (pa_cons (pv 2) (pa_cons (pe_bltn (v := .ty "tuple") (u := .type "tuple") (by rfl) B.tuple_ (by decide +kernel) rfl) pa_nil))))))))) (pss_one (ps_ret pe_bl)) pss_nil)
      (pss_one (ps_ret (pe_callB (call_allK (K := K) (by rfl) (by rfl)) (by rfl) B.all_ (by decide +kernel) (pa_cons (pe_lc (own := [("row", 3)]) rfl sc_is_table.nd (pi_tupK (K := K) (by rfl) (pv 2)) (blkOk_by (own := [("row", 3)]) (N := n_is_table) (sc := defScope s_is_table) (by decide +kernel)) (fun _ _ _ _ _ => (pg_name (i := 3) sc_is_table.nd rfl (by first | exact Or.inl rfl | exact Or.inr rfl))) (fun _ _ _ _ _ => pts_nil) (fun _ _ _ _ _ => (pe_has (h_is_row) (hr.mono (by first | decide | omega)) (by rfl) (pa_cons (pv 1) (pa_cons (pv 3) pa_nil))))) pa_nil))))))), ?_⟩
  rcases tup_or d with hT | ⟨ds, rfl⟩
  · refine ⟨fun _ _ => False, ?_, fun _ _ h => h.elim⟩
    refine ⟨_, rfl, ?_⟩
    dsimp only [tCons, tC, tNil]
    refine isi_tuple hd ?_
    rw [hT]
    refine ⟨_, rfl, iteT ?_⟩
    have := k H (Same.refl H)
    rw [show isTabD d = false from by cases d <;> first | rfl | cases hT] at this
    exact this
  · obtain ⟨a, xs, rfl, hs, ha⟩ := dp_tup hd
    have hl := dpa_len _ _ ha
    by_cases hn : ds.length = 2
    · obtain ⟨d0, d1, rfl⟩ := two_of hn
      obtain ⟨x0, t0, rfl, q0, ha⟩ := dpa_cons ha
      obtain ⟨x1, t1, rfl, q1, ha⟩ := dpa_cons ha
      have et := dpa_nil ha
      subst et
      refine ⟨fun σ' H' => H' = H ∧ σ' = [some (.ref a), none, none, none], ?_, ?_⟩
      · refine ⟨_, rfl, ?_⟩
        dsimp only [tCons, tC, tNil]
        refine isi_tuple hd ⟨_, rfl, iteF ?_⟩
        refine ⟨_, rfl, a, _, rfl, .inr hs, rfl, _, rfl, ?_⟩
        exact iteNS rfl ⟨rfl, rfl⟩
      · rintro σ' H' ⟨rfl, rfl⟩
        refine ⟨_, rfl, a, _, rfl, hs, rfl, _, _, rfl, _, _, rfl, rfl, ?_⟩
        by_cases hnum : isNum d0 = true
        · obtain ⟨wd, rfl⟩ := num_int hnum
          cases q0
          by_cases hneg : wd < 0
          · refine ⟨fun _ _ => False, ?_, fun _ _ h => h.elim⟩
            refine ⟨_, rfl, _, _, rfl, .int wd, _, rfl, iteF ?_⟩
            refine ⟨_, rfl, _, _, rfl, rfl, _, rfl, ?_⟩
            rw [decide_eq_true hneg]
            refine iteT ?_
            have := k H' (Same.refl H')
            rw [show isTabD (.tuple [.int wd, d1]) = false from by
              cases d1 <;> first | rfl | (simp only [isTabD, decide_eq_false (show ¬ 0 ≤ wd by omega), Bool.false_and])] at this
            exact this
          · rcases tup_or d1 with hT1 | ⟨rows, rfl⟩
            · refine ⟨fun _ _ => False, ?_, fun _ _ h => h.elim⟩
              refine ⟨_, rfl, _, _, rfl, .int wd, _, rfl, iteF ?_⟩
              refine ⟨_, rfl, _, _, rfl, rfl, _, rfl, ?_⟩
              rw [decide_eq_false hneg]
              refine iteF ?_
              refine ⟨_, rfl, ?_⟩
              dsimp only [tCons, tC, tNil]
              refine isi_tuple q1 ?_
              rw [hT1]
              refine ⟨_, rfl, iteT ?_⟩
              have := k H' (Same.refl H')
              rw [show isTabD (.tuple [.int wd, d1]) = false from by cases d1 <;> first | rfl | cases hT1] at this
              exact this
            · obtain ⟨pr, ys, rfl, hys, hya⟩ := dp_tup q1
              have hly := dpa_len _ _ hya
              have hz2 := fzAll_len rows
              simp only [fz, fzAll] at hz
              refine ⟨fun σ2 H2 => H2 = H' ∧ σ2 = [some (.ref a), some (.int wd), some (.ref pr), none], ?_, ?_⟩
              · refine ⟨_, rfl, _, _, rfl, .int wd, _, rfl, iteF ?_⟩
                refine ⟨_, rfl, _, _, rfl, rfl, _, rfl, ?_⟩
                rw [decide_eq_false hneg]
                refine iteF ?_
                refine ⟨_, rfl, ?_⟩
                dsimp only [tCons, tC, tNil]
                exact isi_tuple q1 ⟨_, rfl, iteF ⟨rfl, rfl⟩⟩
              · rintro σ2 H2 ⟨rfl, rfl⟩
                refine ⟨_, rfl, pr, rfl, ⟨_, hys⟩, fun D1 hD1 => ?_⟩
                refine lct (K := K) (j := 3) (fun c => .bool (isRowD wd (rows.getD c .none))) hD1 hys (by omega) (fun _ _ => by simp [tupOnly]) (fun _ => rfl) ?_ ?_
                · intro i x H1 Q1 hx e1 k1
                  obtain ⟨d, hd1, hd2⟩ := dpa_get _ _ i x hya hx
                  have hzd := fzAll_mem (List.mem_of_getElem? hd1)
                  refine ⟨_, rfl, _, rfl, wd, x, d, rfl, Dp.same e1 _ _ hd2, by omega, fun H3 e3 => k1 _ _ e3 ?_⟩
                  rw [data_at hd1]
                  exact .bl _
                · intro H1 zs e1 h1 hd1
                  have ey := blsF hd1
                  subst ey
                  refine ⟨D1, _, rfl, SqL.of h1, ?_⟩
                  rw [hly, range_all rows .none (isRowD wd)]
                  have := k _ e1
                  simp only [isTabD, decide_eq_true (show 0 ≤ wd by omega), Bool.true_and] at this
                  exact this
        · have hnum : isNum d0 = false := by
            cases h : isNum d0 with
            | true => exact absurd h hnum
            | false => rfl
          refine ⟨fun _ _ => False, ?_, fun _ _ h => h.elim⟩
          refine ⟨_, rfl, _, _, rfl, q0, ?_⟩
          rw [hnum]
          refine ⟨_, rfl, iteT ?_⟩
          have := k H' (Same.refl H')
          rw [tab_num hnum] at this
          exact this
    · refine ⟨fun _ _ => False, ?_, fun _ _ h => h.elim⟩
      refine ⟨_, rfl, ?_⟩
      dsimp only [tCons, tC, tNil]
      refine isi_tuple hd ⟨_, rfl, iteF ?_⟩
      refine ⟨_, rfl, a, _, rfl, .inr hs, rfl, _, rfl, ?_⟩
      have e : (!decide (V.int (xs.length : Int) = V.int 2)) = true := by
        rw [decide_eq_false (fun z => hn (by have := V.int.inj z; omega))]
        rfl
      rw [e]
      refine iteT ?_
      have := k H (Same.refl H)
      rw [tab_len hn] at this
      exact this

def spUnitRow (K : PySem.W.Frag) : Sp := fun vs H Q _ => ∃ (n k : Nat), vs = [.int n, .int k] ∧ n ≤ 10000 ∧
  ∀ (y : V) (H' : Hp), Same H H' → Dp K H' y (rowD (unitRow n k)) → Q y H'
theorem ok_unit_row (D : Df K mg "unit_row" s_unit_row) (B : Bn mg) :
    Has P w K mg base "unit_row" 1 p_unit_row (spUnitRow K) := by
  refine has_of (k := 0) D sc_unit_row bn_unit_row ?_ ?_
  · rintro vs H Q E ⟨n, k, rfl, _⟩
    rfl
  rintro f cdv A outer s0 H vs Q E hr ⟨n, kk, rfl, hn, k⟩
  refine ⟨_, (pss_one (ps_ret (pe_callTy (call_tupleK (K := K) (by rfl)) (by rfl) B.tuple_ (by decide +kernel) (pa_cons (pe_lc (own := [("column", 2)]) rfl sc_unit_row.nd (pi_range1 (by rfl) B.range_ (pa_cons (pv 0) pa_nil)) (blkOk_by (own := [("column", 2)]) (N := n_unit_row) (sc := defScope s_unit_row) (by decide +kernel)) (fun _ _ _ _ _ => (pg_name (i := 2) sc_unit_row.nd rfl (by first | exact Or.inl rfl | exact Or.inr rfl))) (fun _ _ _ _ _ => pts_nil) (fun _ _ _ _ _ => (pe_ifExp (pt_cmpR op_eq (pv 2) (pv 1) (nomark _)) pe_int pe_int))) pa_nil)))), ?_⟩
  refine ⟨_, rfl, (n : Int), rfl, by omega, by omega, fun D1 hD1 => ?_⟩
  refine lcr (K := K) (n := n) (fun c => .int (if c = kk then 1 else 0)) hD1 (by omega) (fun _ _ => by simp [tupOnly]) (fun _ => rfl) ?_ ?_
  · intro c H1 Q1 hc e1 k1
    refine ⟨_, rfl, _, rfl, rfl, _, rfl, ?_⟩
    have k2 := k1 _ _ (Same.refl _) (.int _)
    by_cases h : c = kk
    · subst h
      rw [if_pos rfl] at k2
      rw [decide_eq_true (by rw [Int.zero_add])]
      exact iteT k2
    · rw [if_neg h] at k2
      rw [decide_eq_false (fun z => h (by have := V.int.inj z; omega))]
      exact iteF k2
  · intro H1 ys e1 h1 hd1
    try dsimp only [tC, tNil]
    refine tupL_dp h1 hd1 fun v2 H2 e2 hv2 => ?_
    rw [mapR_row] at hv2
    exact k _ _ (e1.trans e2) hv2
def spUnit (K : PySem.W.Frag) : Sp := fun vs H Q _ => ∃ (n : Nat), vs = [.int n] ∧ n ≤ 10000 ∧
  ∀ (y : V) (H' : Hp), Same H H' → Dp K H' y (tabD n (unitR n)) → Q y H'
theorem spUnit_len : ∀ vs H Q E, spUnit K vs H Q E → vs.length = 1 := by
  rintro vs H Q E ⟨n, rfl, _⟩
  rfl
theorem ok_unit (D : Df K mg "unit" s_unit) (B : Bn mg)
    (h_unit_row : Has P w K mg base "unit_row" 1 p_unit_row (spUnitRow K)) :
    Has P w K mg base "unit" 2 p_unit (spUnit K) := by
  refine has_of (k := 1) D sc_unit bn_unit spUnit_len ?_
  rintro f cdv A outer s0 H vs Q E hr ⟨n, rfl, hn, k⟩
  refine ⟨_, (pss_one (ps_ret (pe_tup (pa_cons (pv 0) (pa_cons (pe_callTy (call_tupleK (K := K) (by rfl)) (by rfl) B.tuple_ (by decide +kernel) (pa_cons (pe_lc (own := [("k", 1)]) rfl sc_unit.nd (pi_range1 (by rfl) B.range_ (pa_cons (pv 0) pa_nil)) (blkOk_by (own := [("k", 1)]) (N := n_unit) (sc := defScope s_unit) (by decide +kernel)) (fun _ _ _ _ _ => (pg_name (i := 1) sc_unit.nd rfl (by first | exact Or.inl rfl | exact Or.inr rfl))) (fun _ _ _ _ _ => pts_nil) (fun _ _ _ _ _ => (pe_has (h_unit_row) (hr.mono (by first | decide | omega)) (by rfl) (pa_cons (pv 0) (pa_cons (pv 1) pa_nil))))) pa_nil)) pa_nil))))), ?_⟩
  refine ⟨_, rfl, _, rfl, (n : Int), rfl, by omega, by omega, fun D1 hD1 => ?_⟩
  refine lcr (K := K) (n := n) (fun c => rowD (unitRow n c)) hD1 (by omega) (fun _ _ => rowD_tup _) (fun _ => rfl) ?_ ?_
  · intro c H1 Q1 hc e1 k1
    refine ⟨_, rfl, _, rfl, n, c, ?_, hn, fun y H2 e2 hy => k1 y H2 e2 hy⟩
    rw [Int.zero_add]
    rfl
  · intro H1 ys e1 h1 hd1
    try dsimp only [tC, tNil]
    refine tupL_dp h1 hd1 fun v2 H2 e2 hv2 => ?_
    rw [mapR_rows] at hv2
    try dsimp only [tC, tNil]
    refine tup_dp (K := K) (.cons (.int _) (.cons hv2 .nil)) (by simp) fun v3 H3 e3 hv3 => ?_
    exact k _ _ ((e1.trans e2).trans e3) hv3

end K04

set_option Elab.async false
set_option linter.all false
set_option maxRecDepth 100000
set_option maxHeartbeats 1000000
namespace K04
open PySem PySem.Spec PyProof.Rows L2 Gd
variable {P : Program} {w : World} {K : PySem.W.Frag} {mg : Str → Option Value} {base : Heap}
theorem eqv_row : ∀ r t : List Int, PyData.eqvAll (r.map PyData.int) (t.map PyData.int) = decide (r = t)
  | [], [] => by simp [PyData.eqvAll]
  | [], _ :: _ => by simp [PyData.eqvAll]
  | _ :: _, [] => by simp [PyData.eqvAll]
  | a :: r, b :: t => by
    simp only [List.map_cons, PyData.eqvAll, PyData.eqv, eqv_row r t]
    by_cases h1 : a = b <;> by_cases h2 : r = t <;> simp [h1, h2]
theorem eqv_rows : ∀ a b : List (List Int), PyData.eqvAll (a.map rowD) (b.map rowD) = decide (a = b)
  | [], [] => by simp [PyData.eqvAll]
  | [], _ :: _ => by simp [PyData.eqvAll]
  | _ :: _, [] => by simp [PyData.eqvAll]
  | r :: a, t :: b => by
    have e : PyData.eqv (rowD r) (rowD t) = decide (r = t) := by
      unfold rowD
      simp only [PyData.eqv]
      exact eqv_row r t
    simp only [List.map_cons, PyData.eqvAll, eqv_rows a b, e]
    by_cases h1 : r = t <;> by_cases h2 : a = b <;> simp [h1, h2]
theorem eqv_tab {n : Int} {a b : List (List Int)} : PyData.eqv (tabD n a) (tabD n b) = decide (a = b) := by
  have e : PyData.eqv (rowsD a) (rowsD b) = decide (a = b) := by
    unfold rowsD
    simp only [PyData.eqv]
    exact eqv_rows a b
  unfold tabD
  simp only [PyData.eqv, PyData.eqvAll, e]
  simp

abbrev Fine (d : PyData) : Prop := Fn (10 ^ 61) 20 8000 d
theorem big61 : 10 ^ 61 < 2 ^ 1900 := Nat.lt_of_lt_of_le (by decide : 10 ^ 61 < 2 ^ 250) (Nat.pow_le_pow_right (by decide) (by decide))
theorem shp_filter {ds : List PyData} {p : PyData → Bool} (h : Fine (.tuple ds)) : SeqAt.shaped (.list (ds.filter p)) = true := by
  obtain ⟨h1, h2⟩ := (fn_tup (k := 19)).mp h
  have hf : Fn (10 ^ 61) 20 100000000 (.tuple (ds.filter p)) := by
    refine (fn_tup (k := 19)).mpr ⟨fun d hd => h1 d (List.mem_filter.mp hd).1, ?_⟩
    have : ∀ l : List PyData, fzAll (l.filter p) ≤ fzAll l := by
      intro l
      induction l with
      | nil => simp [fzAll]
      | cons d l ih =>
        rw [List.filter_cons]
        split
        · simp only [fzAll]; omega
        · simp only [fzAll]; omega
    have := this ds
    omega
  exact (fn_lst hf).shaped big61 (by decide)
theorem shp_nil : SeqAt.shaped (.list []) = true := by decide
theorem list_nil (es : List PyData) : PyData.eqv (.list es) (.list []) = decide (es = []) := by
  cases es <;> simp [PyData.eqv, PyData.eqvAll]
theorem filter_not {α : Type} (p : α → Bool) (l : List α) : decide (l.filter (fun x => !p x) = []) = l.all p := by
  induction l with
  | nil => rfl
  | cons a l ih =>
    rw [List.filter_cons, List.all_cons]
    cases h : p a
    · simp
    · rw [if_neg (by simp), Bool.true_and]
      exact ih
def spIsUnitD (K : PySem.W.Frag) : Sp := fun vs H Q _ => ∃ (v : V) (d : PyData), vs = [v] ∧ Dp K H v d ∧ Fine d ∧ ∀ H', Same H H' → Q (.bl (isUnitD d)) H'
theorem unit_tabD {n : Nat} {rs : List (List Int)} (h : ∀ r ∈ rs, r.length = n) : isUnitD (tabD n rs) = (decide (rs.length = n) && decide (rs = unitR n)) := by
  have e : isUnitD (tabD n rs) = (isTabD (tabD n rs) && decide (((rs.map rowD).length : Int) = (n : Int)) && PyData.eqv (tabD n rs) (tabD (n : Int) (unitR (n : Int).toNat))) := rfl
  rw [e, tab_of h, Int.toNat_natCast, eqv_tab, List.length_map, Bool.true_and]
  congr 1
  by_cases h : rs.length = n
  · rw [decide_eq_true h, decide_eq_true (by omega)]
  · rw [decide_eq_false h, decide_eq_false (by omega)]
theorem fine_rows {n : Nat} {rs : List (List Int)} (h : Fine (tabD n rs)) : rs.length ≤ 8000 := by
  have := h.sz
  unfold tabD rowsD at this
  simp only [fz, fzAll] at this
  have h2 := fzAll_len (rs.map rowD)
  rw [List.length_map] at h2
  omega
theorem ok_is_unit (D : Df K mg "is_unit" s_is_unit) (B : Bn mg) (h_is_table : Has P w K mg base "is_table" 3 p_is_table (spIsTabD K)) (h_unit : Has P w K mg base "unit" 2 p_unit (spUnit K)) :
    Has P w K mg base "is_unit" 4 p_is_unit (spIsUnitD K) := by
  refine has_of (k := 3) D sc_is_unit bn_is_unit ?_ ?_
  · rintro vs H Q E ⟨v, d, rfl, _⟩
    rfl
  rintro f cdv A outer s0 H vs Q E hr ⟨v, d, rfl, hv, hF, k⟩
  refine ⟨_, (pss_one (ps_ret (pe_and (pe_has (h_is_table) (hr.mono (by first | decide | omega)) (by rfl) (pa_cons (pv 0) pa_nil)) (pe_and (pe_cmpR op_eq (pe_ix (ix_tupK (K := K) (by rfl)) (pv 0) pe_int (fun _ _ => rfl)) (pe_callB (call_lenK (K := K) (by rfl)) (by rfl) B.len_ (by decide +kernel) (pa_cons (pe_ix (ix_tupK (K := K) (by rfl)) (pv 0) pe_int (fun _ _ => rfl)) pa_nil)) (nomark _)) (pe_one (pe_cmpR (op_eqK (K := K) (by rfl) hr.units) (pv 0) (pe_has (h_unit) (hr.mono (by first | decide | omega)) (by rfl) (pa_cons (pe_ix (ix_tupK (K := K) (by rfl)) (pv 0) pe_int (fun _ _ => rfl)) pa_nil)) (nomark _))))))), ?_⟩
  refine ⟨_, rfl, v, d, rfl, hv, hF.sz, fun H1 e1 => ⟨_, rfl, ?_⟩⟩
  have hv1 := Dp.same e1 _ _ hv
  by_cases hT : isTabD d = true
  · obtain ⟨n, rs, rfl, hw⟩ := tab_true hT
    have hrl := fine_rows hF
    rw [hT]
    refine iteT ?_
    refine ⟨_, rfl, ?_⟩
    try dsimp only [tC, tNil]
    refine ix_dp (i := 0) hv1 rfl fun z hz => ?_
    have ez := dp_int hz
    subst ez
    refine ⟨_, rfl, ?_⟩
    try dsimp only [tC, tNil]
    refine ix_dp (i := 1) hv1 rfl fun z1 hz1 => ?_
    try dsimp only [tC, tNil]
    refine len_dp hz1 ?_
    rw [List.length_map]
    by_cases hn : rs.length = n
    · refine ⟨rfl, true, ?_, iteT ?_⟩
      · rw [hn, decide_eq_true (rfl : V.int _ = V.int _)]
      refine ⟨_, rfl, _, rfl, ?_⟩
      try dsimp only [tC, tNil]
      refine ix_dp (i := 0) hv1 rfl fun z hz => ?_
      have ez := dp_int hz
      subst ez
      refine ⟨n, rfl, by omega, fun y H2 e2 hy => ?_⟩
      refine ⟨_, _, Dp.same e2 _ _ hv1, hy, (shp_tab _ _).shaped (by decide), (shp_tab _ _).shaped (by decide), ?_⟩
      rw [eqv_tab]
      have := k _ (e1.trans e2)
      rw [unit_tabD hw, decide_eq_true hn, Bool.true_and] at this
      exact this
    · refine ⟨rfl, false, ?_, iteF ?_⟩
      · rw [decide_eq_false (fun z => hn (by have := V.int.inj z; omega))]
      have := k _ e1
      rw [unit_tabD hw, decide_eq_false hn, Bool.false_and] at this
      exact this
  · have hT : isTabD d = false := by
      cases h : isTabD d with
      | true => exact absurd h hT
      | false => rfl
    rw [hT]
    refine iteF ?_
    have := k _ e1
    rw [unit_of_tab hT] at this
    exact this
def spLRow (K : PySem.W.Frag) : Sp := fun vs H Q _ => ∃ (n : Int) (v : V) (d : PyData), vs = [.int n, v] ∧ Dp K H v d ∧ Fine d ∧ ∀ H', Same H H' → Q (.bl (isRowD n d)) H'
theorem ok_l_is_row (D : Df K mg "_law_is_row" s_l_is_row) (B : Bn mg) : Has P w K mg base "_law_is_row" 1 p_l_is_row (spLRow K) := by
  refine has_of (k := 0) D sc_l_is_row bn_l_is_row ?_ ?_
  · rintro vs H Q E ⟨n, v, d, rfl, _⟩
    rfl
  rintro f cdv A outer s0 H vs Q E hr ⟨n, v, d, rfl, hd, hF, k⟩
  refine ⟨_, (Evl.pss_cut (ps_if (PW.pt (pw_or (pt_not (pt_val (pe_callB (call_isiK (K := K) (by rfl)) (by rfl) B.isinstance_ (by decide +kernel) (pa_cons (pv 1) (pa_cons (pe_bltn (v := .ty "tuple") (u := .type "tuple") (by rfl) B.tuple_ (by decide +kernel) rfl) pa_nil))))) (pw_or1 (pt_cmpR op_ne (pe_callB (call_lenK (K := K) (by rfl)) (by rfl) B.len_ (by decide +kernel) (pa_cons (pv 1) pa_nil)) (pv 0) (nomark _))))) (pss_one (ps_ret pe_bl)) pss_nil)
      (pss_one (ps_ret (pe_cmpR (op_eqK (K := K) (by rfl) hr.units) (pe_lc (own := [("_law_one", 2)]) rfl sc_l_is_row.nd (pi_tupK (K := K) (by rfl) (pv 1)) (blkOk_by (own := [("_law_one", 2)]) (N := n_l_is_row) (sc := defScope s_l_is_row) (by decide +kernel)) (fun _ _ _ _ _ => (pg_name (i := 2) sc_l_is_row.nd rfl (by first | exact Or.inl rfl | exact Or.inr rfl))) (fun _ _ _ _ _ => (pts_one (PW.pt (pw_or (pt_not (pt_val (pe_callB (call_isiK (K := K) (by rfl)) (by rfl) B.isinstance_ (by decide +kernel) (pa_cons (pv 2) (pa_cons (pe_bltn (v := .ty "int") (u := .type "int") (by rfl) B.int_ (by decide +kernel) rfl) pa_nil))))) (pw_or1 (pt_val (pe_callB (call_isiK (K := K) (by rfl)) (by rfl) B.isinstance_ (by decide +kernel) (pa_cons (pv 2) (pa_cons (pe_bltn (v := .ty "bool") (u := .type "bool") (by rfl) B.bool_ (by decide +kernel) rfl) pa_nil))))))))) (fun _ _ _ _ _ => (pv 2))) (pe_lst pa_nil) (nomark _))))), ?_⟩
  rcases tup_or d with hT | ⟨ds, rfl⟩
  · refine ⟨fun _ _ => False, ?_, fun _ _ h => h.elim⟩
    refine ⟨_, rfl, ?_⟩
    dsimp only [tCons, tC, tNil]
    refine isi_tuple hd ?_
    rw [hT]
    refine ⟨_, rfl, iteT ?_⟩
    have := k H (Same.refl H)
    rw [show isRowD n d = false from by cases d <;> first | rfl | cases hT] at this
    exact this
  · obtain ⟨a, xs, rfl, hs, ha⟩ := dp_tup hd
    have hl := dpa_len _ _ ha
    have hz := hF.sz
    have hz2 := fzAll_len ds
    simp only [fz] at hz
    by_cases hn : (ds.length : Int) = n
    · refine ⟨fun σ' H' => H' = H ∧ σ' = [some (.int n), some (.ref a), none], ?_, ?_⟩
      · refine ⟨_, rfl, ?_⟩
        dsimp only [tCons, tC, tNil]
        refine isi_tuple hd ⟨_, rfl, iteF ?_⟩
        refine ⟨_, rfl, a, _, rfl, .inr hs, _, rfl, rfl, _, rfl, ?_⟩
        exact iteNS (by rw [hl, hn]) ⟨rfl, rfl⟩
      · rintro σ' H' ⟨rfl, rfl⟩
        refine ⟨_, rfl, a, rfl, ⟨_, hs⟩, fun D1 hD1 => ?_⟩
        refine lctP (K := K) (j := 2) (fun d => !isNum d) hD1 hs ha (by omega) (fun _ => rfl) ?_ (fun x H1 Q1 q => ⟨_, rfl, q⟩) ?_
        · intro x d H1 R hm hx e1 kR
          refine ⟨_, rfl, ?_⟩
          dsimp only [tCons, tC, tNil]
          refine isi_int hx ⟨_, rfl, ?_⟩
          have kR := kR H1 (Same.refl H1)
          cases d with
          | int i =>
            refine iteF ?_
            refine ⟨_, rfl, ?_⟩
            dsimp only [tCons, tC, tNil]
            exact isi_bool hx ⟨_, rfl, kR⟩
          | bool b =>
            refine iteF ?_
            refine ⟨_, rfl, ?_⟩
            dsimp only [tCons, tC, tNil]
            exact isi_bool hx ⟨_, rfl, kR⟩
          | none => exact iteT kR
          | str x => exact iteT kR
          | list ds => exact iteT kR
          | tuple ds => exact iteT kR
          | dict _ => cases hx
        · intro H1 ys e1 h1 hd1
          refine ⟨Nat.zero_le _, fun p np => ?_⟩
          have e2 := Same.new (o := .lst []) np
          refine ⟨.list (ds.filter fun d => !isNum d), .list [], .lst (SqL.of (e2 _ _ h1)) (DpAll.same e2 _ _ hd1), .lst (SqL.of upd_same) .nil, shp_filter hF, shp_nil, ?_⟩
          rw [list_nil, filter_not]
          have := k _ (e1.trans e2)
          simp only [isRowD, decide_eq_true hn, Bool.true_and] at this
          exact this
    · refine ⟨fun _ _ => False, ?_, fun _ _ h => h.elim⟩
      refine ⟨_, rfl, ?_⟩
      dsimp only [tCons, tC, tNil]
      refine isi_tuple hd ⟨_, rfl, iteF ?_⟩
      refine ⟨_, rfl, a, _, rfl, .inr hs, _, rfl, rfl, _, rfl, ?_⟩
      have e : (!decide (V.int (xs.length : Int) = V.int n)) = true := by
        rw [decide_eq_false (fun z => hn (by have := V.int.inj z; omega))]
        rfl
      rw [e]
      refine iteT ?_
      have := k H (Same.refl H)
      simp only [isRowD, decide_eq_false hn, Bool.false_and] at this
      exact this
def spLTab (K : PySem.W.Frag) : Sp := fun vs H Q _ => ∃ (v : V) (d : PyData), vs = [v] ∧ Dp K H v d ∧ Fine d ∧ ∀ H', Same H H' → Q (.bl (isTabD d)) H'
theorem fine_item {ds : List PyData} {d : PyData} (h : Fine (.tuple ds)) (hd : d ∈ ds) : Fine d := by
  obtain ⟨h1, h2⟩ := (fn_tup (k := 19)).mp h
  have := fzAll_mem hd
  exact ⟨(h1 d hd).1, Nat.le_trans (h1 d hd).2 (by decide), by omega⟩
theorem ok_l_is_table (D : Df K mg "_law_is_table" s_l_is_table) (B : Bn mg) (h_l_is_row : Has P w K mg base "_law_is_row" 1 p_l_is_row (spLRow K)) :
    Has P w K mg base "_law_is_table" 2 p_l_is_table (spLTab K) := by
  refine has_of (k := 1) D sc_l_is_table bn_l_is_table ?_ ?_
  · rintro vs H Q E ⟨v, d, rfl, _⟩
    rfl
  rintro f cdv A outer s0 H vs Q E hr ⟨v, d, rfl, hd, hF, k⟩
  refine ⟨_, (Evl.pss_cut (ps_if (PW.pt (pw_or (pt_not (pt_val (pe_callB (call_isiK (K := K) (by rfl)) (by rfl) B.isinstance_ (by decide +kernel) (pa_cons (pv 0) (pa_cons (pe_bltn (v := .ty "tuple") (u := .type "tuple") (by rfl) B.tuple_ (by decide +kernel) rfl) pa_nil))))) (pw_or (pt_cmpR op_ne (pe_callB (call_lenK (K := K) (by rfl)) (by rfl) B.len_ (by decide +kernel) (pa_cons (pv 0) pa_nil)) pe_int (nomark _)) (pw_or (pt_not (pt_val (pe_callB (call_isiK (K := K) (by rfl)) (by rfl) B.isinstance_ (by decide +kernel) (pa_cons (pe_ix (ix_tupK (K := K) (by rfl)) (pv 0) pe_int (fun _ _ => rfl)) (pa_cons (pe_bltn (v := .ty "int") (u := .type "int") (by rfl) B.int_ (by decide +kernel) rfl) pa_nil))))) (pw_or1 (pt_val (pe_callB (call_isiK (K := K) (by rfl)) (by rfl) B.isinstance_ (by decide +kernel) (pa_cons (pe_ix (ix_tupK (K := K) (by rfl)) (pv 0) pe_int (fun _ _ => rfl)) (pa_cons (pe_bltn (v := .ty "bool") (u := .type "bool") (by rfl) B.bool_ (by decide +kernel) rfl) pa_nil))))))))) (pss_one (ps_ret pe_bl)) pss_nil)
      (Evl.pss_cut (ps_if (PW.pt (pw_or (pt_cmpR op_lt (pe_ix (ix_tupK (K := K) (by rfl)) (pv 0) pe_int (fun _ _ => rfl)) pe_int (nomark _)) (pw_or1 (pt_not (pt_val (pe_callB (call_isiK (K := K) (by rfl)) (by rfl) B.isinstance_ (by decide +kernel) (pa_cons (pe_ix (ix_tupK (K := K) (by rfl)) (pv 0) pe_int (fun _ _ => rfl)) (pa_cons (pe_bltn (v := .ty "tuple") (u := .type "tuple") (by rfl) B.tuple_ (by decide +kernel) rfl) pa_nil)))))))) (pss_one (ps_ret pe_bl)) pss_nil)
      (pss_one (ps_ret (pe_cmpR (op_eqK (K := K) (by rfl) hr.units) (pe_lc (own := [("_law_row", 1)]) rfl sc_l_is_table.nd (pi_tupK (K := K) (by rfl) (pe_ix (ix_tupK (K := K) (by rfl)) (pv 0) pe_int (fun _ _ => rfl))) (blkOk_by (own := [("_law_row", 1)]) (N := n_l_is_table) (sc := defScope s_l_is_table) (by decide +kernel)) (fun _ _ _ _ _ => (pg_name (i := 1) sc_l_is_table.nd rfl (by first | exact Or.inl rfl | exact Or.inr rfl))) (fun _ _ _ _ _ => (pts_one (pt_not (pt_val (pe_has (h_l_is_row) (hr.mono (by first | decide | omega)) (by rfl) (pa_cons (pe_ix (ix_tupK (K := K) (by rfl)) (pv 0) pe_int (fun _ _ => rfl)) (pa_cons (pv 1) pa_nil))))))) (fun _ _ _ _ _ => (pv 1))) (pe_lst pa_nil) (nomark _)))))), ?_⟩
  rcases tup_or d with hT | ⟨ds, rfl⟩
  · refine ⟨fun _ _ => False, ?_, fun _ _ h => h.elim⟩
    refine ⟨_, rfl, ?_⟩
    dsimp only [tCons, tC, tNil]
    refine isi_tuple hd ?_
    rw [hT]
    refine ⟨_, rfl, iteT ?_⟩
    have := k H (Same.refl H)
    rw [show isTabD d = false from by cases d <;> first | rfl | cases hT] at this
    exact this
  · obtain ⟨a, xs, rfl, hs, ha⟩ := dp_tup hd
    have hl := dpa_len _ _ ha
    by_cases hn : ds.length = 2
    · obtain ⟨d0, d1, rfl⟩ := two_of hn
      obtain ⟨x0, t0, rfl, q0, ha⟩ := dpa_cons ha
      obtain ⟨x1, t1, rfl, q1, ha⟩ := dpa_cons ha
      have et := dpa_nil ha
      subst et
      by_cases hnum : isNum d0 = true
      · obtain ⟨wd, rfl⟩ := num_int hnum
        cases q0
        refine ⟨fun σ' H' => H' = H ∧ σ' = [some (.ref a), none], ?_, ?_⟩
        · refine ⟨_, rfl, ?_⟩
          dsimp only [tCons, tC, tNil]
          refine isi_tuple hd ⟨_, rfl, iteF ?_⟩
          refine ⟨_, rfl, a, _, rfl, .inr hs, rfl, _, rfl, ?_⟩
          refine iteNS rfl ?_
          refine ⟨_, rfl, a, _, 0, _, rfl, rfl, hs, rfl, ?_⟩
          dsimp only [tCons, tC, tNil]
          refine isi_int (.int wd) ⟨_, rfl, iteF ?_⟩
          refine ⟨_, rfl, a, _, 0, _, rfl, rfl, hs, rfl, ?_⟩
          dsimp only [tCons, tC, tNil]
          exact isi_bool (.int wd) ⟨_, rfl, iteF ⟨rfl, rfl⟩⟩
        · rintro σ' H' ⟨rfl, rfl⟩
          by_cases hneg : wd < 0
          · refine ⟨fun _ _ => False, ?_, fun _ _ h => h.elim⟩
            refine ⟨_, rfl, a, _, 0, _, rfl, rfl, hs, rfl, _, _, rfl, rfl, _, rfl, ?_⟩
            rw [decide_eq_true hneg]
            refine iteT ?_
            have := k H' (Same.refl H')
            rw [show isTabD (.tuple [.int wd, d1]) = false from by
              cases d1 <;> first | rfl | (simp only [isTabD, decide_eq_false (show ¬ 0 ≤ wd by omega), Bool.false_and])] at this
            exact this
          · rcases tup_or d1 with hT1 | ⟨rows, rfl⟩
            · refine ⟨fun _ _ => False, ?_, fun _ _ h => h.elim⟩
              refine ⟨_, rfl, a, _, 0, _, rfl, rfl, hs, rfl, _, _, rfl, rfl, _, rfl, ?_⟩
              rw [decide_eq_false hneg]
              refine iteF ?_
              refine ⟨_, rfl, a, _, 1, _, rfl, rfl, hs, rfl, ?_⟩
              dsimp only [tCons, tC, tNil]
              refine isi_tuple q1 ?_
              rw [hT1]
              refine ⟨_, rfl, iteT ?_⟩
              have := k H' (Same.refl H')
              rw [show isTabD (.tuple [.int wd, d1]) = false from by cases d1 <;> first | rfl | cases hT1] at this
              exact this
            · obtain ⟨pr, ys, rfl, hys, hya⟩ := dp_tup q1
              have hF1 : Fine (.tuple rows) := fine_item hF (by simp)
              have hz := hF1.sz
              have hz2 := fzAll_len rows
              simp only [fz] at hz
              refine ⟨fun σ2 H2 => H2 = H' ∧ σ2 = [some (.ref a), none], ?_, ?_⟩
              · refine ⟨_, rfl, a, _, 0, _, rfl, rfl, hs, rfl, _, _, rfl, rfl, _, rfl, ?_⟩
                rw [decide_eq_false hneg]
                refine iteF ?_
                refine ⟨_, rfl, a, _, 1, _, rfl, rfl, hs, rfl, ?_⟩
                dsimp only [tCons, tC, tNil]
                exact isi_tuple q1 ⟨_, rfl, iteF ⟨rfl, rfl⟩⟩
              · rintro σ2 H2 ⟨rfl, rfl⟩
                refine ⟨_, rfl, a, _, 1, _, rfl, rfl, hs, rfl, pr, rfl, ⟨_, hys⟩, fun D1 hD1 => ?_⟩
                refine lctP (K := K) (j := 1) (fun d => !isRowD wd d) hD1 hys hya (by omega) (fun _ => rfl) ?_ (fun x H1 Q1 q => ⟨_, rfl, q⟩) ?_
                · intro x d H1 R hm hx e1 kR
                  refine ⟨_, rfl, a, _, 0, _, rfl, rfl, sqt_same e1 hs, rfl, ?_⟩
                  exact ⟨_, rfl, wd, x, d, rfl, hx, fine_item hF1 hm, fun H3 e3 => ⟨_, rfl, kR H3 e3⟩⟩
                · intro H1 zs e1 h1 hd1
                  refine ⟨Nat.zero_le _, fun p np => ?_⟩
                  have e2 := Same.new (o := .lst []) np
                  refine ⟨.list (rows.filter fun d => !isRowD wd d), .list [], .lst (SqL.of (e2 _ _ h1)) (DpAll.same e2 _ _ hd1), .lst (SqL.of upd_same) .nil, shp_filter hF1, shp_nil, ?_⟩
                  rw [list_nil, filter_not]
                  have := k _ (e1.trans e2)
                  simp only [isTabD, decide_eq_true (show 0 ≤ wd by omega), Bool.true_and] at this
                  exact this
      · have hnum : isNum d0 = false := by
          cases h : isNum d0 with
          | true => exact absurd h hnum
          | false => rfl
        have kF := k H (Same.refl H)
        rw [tab_num hnum] at kF
        refine ⟨fun _ _ => False, ?_, fun _ _ h => h.elim⟩
        refine ⟨_, rfl, ?_⟩
        dsimp only [tCons, tC, tNil]
        refine isi_tuple hd ⟨_, rfl, iteF ?_⟩
        refine ⟨_, rfl, a, _, rfl, .inr hs, rfl, _, rfl, ?_⟩
        refine iteNS rfl ?_
        refine ⟨_, rfl, a, _, 0, _, rfl, rfl, hs, rfl, ?_⟩
        dsimp only [tCons, tC, tNil]
        refine isi_int q0 ⟨_, rfl, ?_⟩
        cases d0 with
        | int i => cases hnum
        | bool b =>
          refine iteF ?_
          refine ⟨_, rfl, a, _, 0, _, rfl, rfl, hs, rfl, ?_⟩
          dsimp only [tCons, tC, tNil]
          exact isi_bool q0 ⟨_, rfl, iteT kF⟩
        | none => exact iteT kF
        | str x => exact iteT kF
        | list ds => exact iteT kF
        | tuple ds => exact iteT kF
        | dict _ => cases q0
    · refine ⟨fun _ _ => False, ?_, fun _ _ h => h.elim⟩
      refine ⟨_, rfl, ?_⟩
      dsimp only [tCons, tC, tNil]
      refine isi_tuple hd ⟨_, rfl, iteF ?_⟩
      refine ⟨_, rfl, a, _, rfl, .inr hs, rfl, _, rfl, ?_⟩
      have e : (!decide (V.int (xs.length : Int) = V.int 2)) = true := by
        rw [decide_eq_false (fun z => hn (by have := V.int.inj z; omega))]
        rfl
      rw [e]
      refine iteT ?_
      have := k H (Same.refl H)
      rw [tab_len hn] at this
      exact this

end K04

set_option Elab.async false
set_option linter.all false
set_option maxRecDepth 100000
set_option maxHeartbeats 1000000
namespace K04
open PySem PySem.Spec PyProof.Rows L2 Gd
variable {P : Program} {w : World} {K : PySem.W.Frag} {mg : Str → Option Value} {base : Heap}
def offU (rs : List (List Int)) (i j : Nat) : Bool := !decide (V.int (ent rs i j) = V.int (if decide (V.int (0 + (i : Int)) = V.int (0 + (j : Int))) = true then 1 else 0))
theorem offU_iff {rs : List (List Int)} {i j : Nat} : offU rs i j = false ↔ ent rs i j = if j = i then 1 else 0 := by
  unfold offU
  rw [Bool.not_eq_false', decide_eq_true_iff]
  have e : (if decide (V.int (0 + (i : Int)) = V.int (0 + (j : Int))) = true then (1 : Int) else 0) = if j = i then 1 else 0 := by
    by_cases h : j = i
    · subst h
      rw [if_pos rfl, decide_eq_true rfl, if_pos rfl]
    · rw [if_neg h, decide_eq_false (fun z => h (by have := V.int.inj z; omega)), if_neg (by decide)]
  rw [e]
  constructor
  · intro h
    exact V.int.inj h
  · intro h
    rw [h]
theorem unit_iff {n : Nat} {rs : List (List Int)} (hl : rs.length = n) (hw : ∀ r ∈ rs, r.length = n) : rs = unitR n ↔ ∀ i, i < n → ∀ j, j < n → offU rs i j = false := by
  constructor
  · intro h i hi j hj
    rw [offU_iff, h, ent_unit hi hj]
  · intro h
    refine ext_getD [] (by rw [hl]; simp [unitR]) fun i hi => ?_
    have hi : i < n := by omega
    have hlu : ((unitR n).getD i []).length = n := by
      unfold unitR
      rw [getD_range hi]
      simp [unitRow]
    have hlr : (rs.getD i []).length = n := hw _ (Gd.getD_mem (by omega))
    refine ext_getD 0 (by rw [hlr, hlu]) fun j hj => ?_
    rw [hlr] at hj
    have h1 := offU_iff.mp (h i hi j hj)
    have h2 := ent_unit hi hj
    unfold ent at h1 h2
    rw [h1, h2]
theorem filter_none {n : Nat} {p : Nat → Bool} : (((List.range n).filter p).map fun (i : Nat) => (0 + (i : Int))) = [] ↔ ∀ j, j < n → p j = false := by
  rw [List.map_eq_nil_iff, List.filter_eq_nil_iff]
  constructor
  · intro h j hj
    have := h j (List.mem_range.mpr hj)
    simpa using this
  · intro h j hj
    rw [h j (List.mem_range.mp hj)]
    simp
theorem ok_l_is_unit (D : Df K mg "_law_is_unit" s_l_is_unit) (B : Bn mg) (h_l_is_table : Has P w K mg base "_law_is_table" 2 p_l_is_table (spLTab K)) :
    Has P w K mg base "_law_is_unit" 3 p_l_is_unit (spIsUnitD K) := by
  refine has_of (k := 2) D sc_l_is_unit bn_l_is_unit ?_ ?_
  · rintro vs H Q E ⟨v, d, rfl, _⟩
    rfl
  rintro f cdv A outer s0 H vs Q E hr ⟨v, d, rfl, hv, hF, k⟩
  refine ⟨_, (Evl.pss_cut (ps_if (PW.pt (pw_or (pt_not (pt_val (pe_has (h_l_is_table) (hr.mono (by first | decide | omega)) (by rfl) (pa_cons (pv 0) pa_nil)))) (pw_or1 (pt_cmpR op_ne (pe_callB (call_lenK (K := K) (by rfl)) (by rfl) B.len_ (by decide +kernel) (pa_cons (pe_ix (ix_tupK (K := K) (by rfl)) (pv 0) pe_int (fun _ _ => rfl)) pa_nil)) (pe_ix (ix_tupK (K := K) (by rfl)) (pv 0) pe_int (fun _ _ => rfl)) (nomark _))))) (pss_one (ps_ret pe_bl)) pss_nil)
      (pss_cons (ps_for PassesOwn.never rfl (pi_range1 (by rfl) B.range_ (pa_cons (pe_ix (ix_tupK (K := K) (by rfl)) (pv 0) pe_int (fun _ _ => rfl)) pa_nil)) (pg_name (i := 1) sc_l_is_unit.nd rfl (by first | exact Or.inl rfl | exact Or.inr rfl)) (pss_one (ps_if (pt_cmpR (op_neK (K := K) (by rfl) hr.units) (pe_lc (own := [("_law_j", 2)]) rfl sc_l_is_unit.nd (pi_range1 (by rfl) B.range_ (pa_cons (pe_ix (ix_tupK (K := K) (by rfl)) (pv 0) pe_int (fun _ _ => rfl)) pa_nil)) (blkOk_by (own := [("_law_j", 2)]) (N := n_l_is_unit) (sc := defScope s_l_is_unit) (by decide +kernel)) (fun _ _ _ _ _ => (pg_name (i := 2) sc_l_is_unit.nd rfl (by first | exact Or.inl rfl | exact Or.inr rfl))) (fun _ _ _ _ _ => (pts_one (pt_cmpR op_ne (pe_ix (ix_tupK (K := K) (by rfl)) (pe_ix (ix_tupK (K := K) (by rfl)) (pe_ix (ix_tupK (K := K) (by rfl)) (pv 0) pe_int (fun _ _ => rfl)) (pv 1) (fun _ _ => rfl)) (pv 2) (fun _ _ => rfl)) (pe_callTy call_int1 (by rfl) B.int_ (by decide +kernel) (pa_cons (pe_cmpR op_eq (pv 1) (pv 2) (nomark _)) pa_nil)) (nomark _)))) (fun _ _ _ _ _ => (pv 2))) (pe_lst pa_nil) (nomark _)) (pss_one (ps_ret pe_bl)) pss_nil)))
      (pss_one (ps_ret pe_bl)))), ?_⟩
  by_cases hT : isTabD d = true
  · obtain ⟨n, rs, rfl, hw⟩ := tab_true hT
    have hrl := fine_rows hF
    by_cases hn : rs.length = n
    · refine ⟨fun σ' H' => Same H H' ∧ σ' = [some v, none, none], ?_, ?_⟩
      · refine ⟨_, rfl, v, _, rfl, hv, hF, fun H1 e1 => ?_⟩
        rw [hT]
        refine ⟨_, rfl, iteF ?_⟩
        have hv1 := Dp.same e1 _ _ hv
        refine ⟨_, rfl, ?_⟩
        try dsimp only [tC, tNil]
        refine ix_dp (i := 1) hv1 rfl fun z1 hz1 => ?_
        try dsimp only [tC, tNil]
        refine len_dp hz1 ?_
        rw [List.length_map, hn]
        refine ⟨_, rfl, ?_⟩
        try dsimp only [tC, tNil]
        refine ix_dp (i := 0) hv1 rfl fun z hz => ?_
        have ez := dp_int hz
        subst ez
        exact ⟨rfl, _, rfl, iteNS rfl ⟨e1, rfl⟩⟩
      · rintro σ' H1 ⟨e1, rfl⟩
        have hv1 := Dp.same e1 _ _ hv
        obtain ⟨pt, ur, rfl, htab, hrows⟩ := dp_tab hv1
        refine ⟨_, rfl, pt, _, 0, _, rfl, rfl, htab, rfl, (n : Int), rfl, by omega, by omega, for_range (lo := 0) (n := n) (fun i σ H' => (∃ v1 v2 : Option V, σ = [some (.ref pt), v1, v2]) ∧ Same H1 H' ∧ ∀ i', i' < i → ∀ j, j < n → offU rs i' j = false) ?_ ?_ ?_⟩
        · exact ⟨⟨_, _, rfl⟩, Same.refl _, fun i' h => by omega⟩
        · rintro i σ H2 hi ⟨⟨v1, v2, rfl⟩, e2, hyp⟩
          have hv2 := Dp.same e2 _ _ hv1
          refine ⟨_, rfl, ?_⟩
          try dsimp only [tC, tNil]
          refine ix_dp (i := 0) hv2 rfl fun z hz => ?_
          have ez := dp_int hz
          subst ez
          refine ⟨(n : Int), rfl, by omega, by omega, fun D1 hD1 => ?_⟩
          refine lcrP (K := K) (n := n) (offU rs i) hD1 (by omega) (fun _ => rfl) ?_ (fun x H1 Q1 q => ⟨_, rfl, q⟩) ?_
          · intro j H3 R hj e3 kR
            have hv3 := Dp.same e3 _ _ hv2
            refine ⟨_, rfl, ?_⟩
            try dsimp only [tC, tNil]
            refine ix_dp (i := 1) hv3 rfl fun z1 hz1 => ?_
            refine ⟨_, rfl, ?_⟩
            try dsimp only [tC, tNil]
            refine ix_dp0 (i := i) hz1 (rows_getD (by omega)) fun z2 hz2 => ?_
            refine ⟨_, rfl, ?_⟩
            try dsimp only [tC, tNil]
            refine ix_dp0 (i := j) hz2 (row_getD (by rw [hw _ (Gd.getD_mem (by omega))]; exact hj)) fun z3 hz3 => ?_
            have ez := dp_int hz3
            subst ez
            refine ⟨_, rfl, _, rfl, rfl, .inr ⟨_, rfl, rfl, _, rfl, ?_⟩⟩
            exact kR H3 (Same.refl H3)
          · intro H3 ys e3 h3 hd3
            refine ⟨Nat.zero_le _, fun p np => ?_⟩
            have e4 := Same.new (o := .lst []) np
            refine ⟨_, .list [], .lst (SqL.of (e4 _ _ h3)) (DpAll.same e4 _ _ hd3), .lst (SqL.of upd_same) .nil, ints_shaped _, shp_nil, _, rfl, ?_⟩
            rw [ints_nil]
            by_cases he : ∀ j, j < n → offU rs i j = false
            · rw [decide_eq_true (filter_none.mpr he)]
              refine iteF ⟨⟨_, _, rfl⟩, (e2.trans e3).trans e4, fun i' hi' j hj => ?_⟩
              by_cases h : i' < i
              · exact hyp i' h j hj
              · have : i' = i := by omega
                subst this
                exact he j hj
            · rw [decide_eq_false (fun z => he (filter_none.mp z))]
              refine iteT ?_
              have := k _ (((e1.trans e2).trans e3).trans e4)
              rw [unit_tabD hw, decide_eq_false (fun z => he fun j hj => (unit_iff hn hw).mp z i hi j hj), Bool.and_false] at this
              exact this
        · rintro σ H2 ⟨⟨v1, v2, rfl⟩, e2, hyp⟩
          have := k _ (e1.trans e2)
          rw [unit_tabD hw, decide_eq_true hn, decide_eq_true ((unit_iff hn hw).mpr hyp)] at this
          exact this
    · refine ⟨fun _ _ => False, ?_, fun _ _ h => h.elim⟩
      refine ⟨_, rfl, v, _, rfl, hv, hF, fun H1 e1 => ?_⟩
      rw [hT]
      refine ⟨_, rfl, iteF ?_⟩
      have hv1 := Dp.same e1 _ _ hv
      refine ⟨_, rfl, ?_⟩
      try dsimp only [tC, tNil]
      refine ix_dp (i := 1) hv1 rfl fun z1 hz1 => ?_
      try dsimp only [tC, tNil]
      refine len_dp hz1 ?_
      rw [List.length_map]
      refine ⟨_, rfl, ?_⟩
      try dsimp only [tC, tNil]
      refine ix_dp (i := 0) hv1 rfl fun z hz => ?_
      have ez := dp_int hz
      subst ez
      refine ⟨rfl, _, rfl, ?_⟩
      have e : (!decide (V.int (rs.length : Int) = V.int (n : Int))) = true := by
        rw [decide_eq_false (fun z => hn (by have := V.int.inj z; omega))]
        rfl
      rw [e]
      refine iteT ?_
      have := k _ e1
      rw [unit_tabD hw, decide_eq_false hn, Bool.false_and] at this
      exact this
  · have hT : isTabD d = false := by
      cases h : isTabD d with
      | true => exact absurd h hT
      | false => rfl
    refine ⟨fun _ _ => False, ?_, fun _ _ h => h.elim⟩
    refine ⟨_, rfl, v, _, rfl, hv, hF, fun H1 e1 => ?_⟩
    rw [hT]
    refine ⟨_, rfl, iteT ?_⟩
    have := k _ e1
    rw [unit_of_tab hT] at this
    exact this
theorem ok_l_unit (D : Df K mg "_law_unit" s_l_unit) (B : Bn mg) : Has P w K mg base "_law_unit" 1 p_l_unit (spUnit K) := by
  refine has_of (k := 0) D sc_l_unit bn_l_unit spUnit_len ?_
  rintro f cdv A outer s0 H vs Q E hr ⟨n, rfl, hn, k⟩
  refine ⟨_, (pss_one (ps_ret (pe_tup (pa_cons (pv 0) (pa_cons (pe_callTy (call_tupleK (K := K) (by rfl)) (by rfl) B.tuple_ (by decide +kernel) (pa_cons (pe_lc (own := [("_law_i", 1)]) rfl sc_l_unit.nd (pi_range1 (by rfl) B.range_ (pa_cons (pv 0) pa_nil)) (blkOk_by (own := [("_law_i", 1)]) (N := n_l_unit) (sc := defScope s_l_unit) (by decide +kernel)) (fun _ _ _ _ _ => (pg_name (i := 1) sc_l_unit.nd rfl (by first | exact Or.inl rfl | exact Or.inr rfl))) (fun _ _ _ _ _ => pts_nil) (fun _ _ _ _ _ => (pe_callTy (call_tupleK (K := K) (by rfl)) (by rfl) B.tuple_ (by decide +kernel) (pa_cons (pe_lc (own := [("_law_j", 2)]) rfl sc_l_unit.nd (pi_range1 (by rfl) B.range_ (pa_cons (pv 0) pa_nil)) (blkOk_by (own := [("_law_j", 2)]) (N := n_l_unit) (sc := { kind := PySem.ScopeKind.function, names := [ (PySem.Str.ofString ".0", PySem.NameKind.local), (PySem.Str.ofString "_law_i", PySem.NameKind.cell), (PySem.Str.ofString "tuple", PySem.NameKind.globalImplicit), (PySem.Str.ofString "range", PySem.NameKind.globalImplicit), (PySem.Str.ofString "_law_n", PySem.NameKind.cell)], isGenerator := false, isCoroutine := false, more := [] : PySem.Scope }) (by decide +kernel)) (fun _ _ _ _ _ => (pg_name (i := 2) sc_l_unit.nd rfl (by first | exact Or.inl rfl | exact Or.inr rfl))) (fun _ _ _ _ _ => pts_nil) (fun _ _ _ _ _ => (pe_callTy call_int1 (by rfl) B.int_ (by decide +kernel) (pa_cons (pe_cmpR op_eq (pv 1) (pv 2) (nomark _)) pa_nil)))) pa_nil)))) pa_nil)) pa_nil))))), ?_⟩
  refine ⟨_, rfl, _, rfl, (n : Int), rfl, by omega, by omega, fun D1 hD1 => ?_⟩
  refine lcr (K := K) (n := n) (fun c => rowD (unitRow n c)) hD1 (by omega) (fun _ _ => rowD_tup _) (fun _ => rfl) ?_ ?_
  · intro c H1 Q1 hc e1 k1
    refine ⟨_, rfl, (n : Int), rfl, by omega, by omega, fun D2 hD2 => ?_⟩
    refine lcr (K := K) (n := n) (fun j => .int (if j = c then 1 else 0)) hD2 (by omega) (fun _ _ => by simp [tupOnly]) (fun _ => rfl) ?_ ?_
    · intro j H2 Q2 hj e2 k2
      refine ⟨_, rfl, _, rfl, rfl, .inr ⟨_, rfl, ?_⟩⟩
      have k2 := k2 _ _ (Same.refl _) (.int _)
      by_cases h : j = c
      · subst h
        rw [if_pos rfl] at k2
        rw [decide_eq_true rfl]
        exact k2
      · rw [if_neg h] at k2
        rw [decide_eq_false (fun z => h (by have := V.int.inj z; omega))]
        exact k2
    · intro H3 ys e3 h3 hd3
      try dsimp only [tC, tNil]
      refine tupL_dp h3 hd3 fun v4 H4 e4 hv4 => ?_
      rw [mapR_row] at hv4
      exact k1 _ _ (e3.trans e4) hv4
  · intro H1 ys e1 h1 hd1
    try dsimp only [tC, tNil]
    refine tupL_dp h1 hd1 fun v2 H2 e2 hv2 => ?_
    rw [mapR_rows] at hv2
    try dsimp only [tC, tNil]
    refine tup_dp (K := K) (.cons (.int _) (.cons hv2 .nil)) (by simp) fun v3 H3 e3 hv3 => ?_
    exact k _ _ ((e1.trans e2).trans e3) hv3

theorem ok_l_feed (D : Df K mg "_law_feed" s_l_feed) (B : Bn mg) :
    Has P w K mg base "_law_feed" 1 p_l_feed (spFeed K) := by
  refine has_of (k := 0) D sc_l_feed bn_l_feed ?_ ?_
  · rintro vs H Q E ⟨sc, ns, rfl, _⟩
    rfl
  · rintro f cdv A outer s H vs Q E hr ⟨sc, ns, rfl, hS, hl, k⟩
    refine ⟨_, (pss_one (ps_ret (pe_lst (pa_cons (pe_slice (sl_listK (K := K) (by rfl)) (pv 0) po_none (po_some pe_int)) (pa_cons pe_int (pa_cons pe_int (pa_cons pe_int pa_nil))))))), ?_⟩
    obtain ⟨ms, e, hm⟩ := cut_ints ns none (some 63)
    refine ⟨_, rfl, _, rfl, sc, _, rfl, hS, fun p np => ?_⟩
    refine ⟨by show 4 ≤ sizeLine; decide, fun a na => ?_⟩
    have npa : p ≠ a := fun z => by
      rw [z, upd_same] at na
      cases na
    have na0 : H a = none := by
      rw [upd_ne npa.symm] at na
      exact na
    refine k a p _ na0 np (Same.mut (Same.new np) na0) ⟨ms, 0, 0, 0, upd_same, ?_, by omega, by omega, by omega, by omega⟩
    rw [upd_ne npa, upd_same, e]
theorem ok_l_draw (D : Df K mg "_law_draw" s_l_draw) (B : Bn mg) :
    Has P w K mg base "_law_draw" 1 p_l_draw spDraw := by
  refine has_of (k := 0) D sc_l_draw bn_l_draw ?_ ?_
  · rintro vs H Q E ⟨a, s, m, n, rfl, _⟩
    rfl
  · rintro f cdv A outer s0 H vs Q E hr ⟨a, s, m, n, rfl, ⟨ns, p, l, c, ha, hs, hl, hp, hc, hcn⟩, hn, hm1, hm2, k⟩
    have nsa : s ≠ a := ne_of hs ha ref_ints
    refine ⟨_, (pss_cons (ps_asg (pe_op op_add (pe_ix (ix_listK (K := K) (by rfl)) (pv 0) pe_int (fun _ _ => rfl)) pe_int) (pg_sub (pv 0) pe_int set_list))
      (pss_cons (ps_if (pt_cmpR op_gt (pe_ix (ix_listK (K := K) (by rfl)) (pv 0) pe_int (fun _ _ => rfl)) pe_int (nomark _)) (pss_cons (ps_asg (pe_op op_modN (pe_ix (ix_listK (K := K) (by rfl)) (pv 0) pe_int (fun _ _ => rfl)) (pv 1)) (pg_name (i := 2) sc_l_draw.nd rfl (by first | exact Or.inl rfl | exact Or.inr rfl)))
      (pss_cons (ps_asg (pe_op op_fdivN (pe_ix (ix_listK (K := K) (by rfl)) (pv 0) pe_int (fun _ _ => rfl)) (pv 1)) (pg_sub (pv 0) pe_int set_list))
      (pss_one (ps_ret (pv 2))))) pss_nil)
      (pss_cons (ps_asg pe_int (pg_name (i := 3) sc_l_draw.nd rfl (by first | exact Or.inl rfl | exact Or.inr rfl)))
      (Evl.pss_cut (ps_if (pt_cmpR (op_neK (K := K) (by rfl) hr.units) (pe_ix (ix_listK (K := K) (by rfl)) (pv 0) pe_int (fun _ _ => rfl)) (pe_lst pa_nil) (nomark _)) (pss_one (ps_asg (pe_ix (ix_listK (K := K) (by rfl)) (pe_ix (ix_listK (K := K) (by rfl)) (pv 0) pe_int (fun _ _ => rfl)) (pe_op op_modN (pe_ix (ix_listK (K := K) (by rfl)) (pv 0) pe_int (fun _ _ => rfl)) (pe_callB (call_lenK (K := K) (by rfl)) (by rfl) B.len_ (by decide +kernel) (pa_cons (pe_ix (ix_listK (K := K) (by rfl)) (pv 0) pe_int (fun _ _ => rfl)) pa_nil))) (fun _ _ => rfl)) (pg_name (i := 3) sc_l_draw.nd rfl (by first | exact Or.inl rfl | exact Or.inr rfl)))) pss_nil)
      (pss_cons (ps_asg (pe_op op_add (pe_ix (ix_listK (K := K) (by rfl)) (pv 0) pe_int (fun _ _ => rfl)) pe_int) (pg_sub (pv 0) pe_int set_list))
      (Evl.pss_cut (ps_if (PW.pt (pw_and (pt_cmpR op_ge (pv 3) (pe_op op_pow pe_int pe_int) (nomark _)) (pw_and1 (pt_cmpR op_le (pe_ix (ix_listK (K := K) (by rfl)) (pv 0) pe_int (fun _ _ => rfl)) (pe_callB (call_lenK (K := K) (by rfl)) (by rfl) B.len_ (by decide +kernel) (pa_cons (pe_ix (ix_listK (K := K) (by rfl)) (pv 0) pe_int (fun _ _ => rfl)) pa_nil)) (nomark _))))) (pss_cons (ps_asg (pe_op op_fdivN (pv 3) (pv 1)) (pg_sub (pv 0) pe_int set_list))
      (pss_one (ps_ret (pe_op op_modN (pv 3) (pv 1))))) pss_nil)
      (pss_cons (ps_asg (pe_op op_modN (pe_op op_pow (pe_op op_add (pe_op op_modN (pv 3) pe_int) (pe_op op_mul pe_int (pe_ix (ix_listK (K := K) (by rfl)) (pv 0) pe_int (fun _ _ => rfl)))) pe_int) pe_int) (pg_name (i := 4) sc_l_draw.nd rfl (by first | exact Or.inl rfl | exact Or.inr rfl)))
      (pss_cons (ps_asg (pe_op op_modN (pe_op op_pow (pe_op op_add (pe_op op_mul (pv 4) (pe_op op_add (pe_op op_mul pe_int (pe_ix (ix_listK (K := K) (by rfl)) (pv 0) pe_int (fun _ _ => rfl))) pe_int)) pe_int) pe_int) pe_int) (pg_name (i := 4) sc_l_draw.nd rfl (by first | exact Or.inl rfl | exact Or.inr rfl)))
      (pss_one (ps_ret (pe_op op_modN (pe_op op_fdivN (pv 4) pe_int) (pv 1)))))))))))), ?_⟩
    refine ⟨_, rfl, a, _, 3, _, rfl, rfl, SqL.of ha, rfl, _, _, rfl, rfl, _, rfl, a, _, 3, 3, rfl, rfl, ha, rfl, ?_⟩
    have h1a : upd H a (.lst [.ref s, .int p, .int l, .int (c + 1)]) a = some (.lst [.ref s, .int p, .int l, .int (c + 1)]) := upd_same
    have h1s : upd H a (.lst [.ref s, .int p, .int l, .int (c + 1)]) s = some (.lst (ns.map V.int)) := by
      rw [upd_ne nsa]
      exact hs
    have sb1 : Sb a H (upd H a (.lst [.ref s, .int p, .int l, .int (c + 1)])) := Sb.own (Sb.refl a H)
    refine ⟨_, rfl, a, _, 2, _, rfl, rfl, SqL.of h1a, rfl, _, _, rfl, rfl, _, rfl, ?_⟩
    refine ite2 (fun hlt => ?_) (fun hle => ?_)
    · refine ⟨_, rfl, a, _, 2, _, rfl, rfl, SqL.of h1a, rfl, _, rfl, _, _, rfl, rfl, (by omega), ?_⟩
      refine ⟨_, rfl, a, _, 2, _, rfl, rfl, SqL.of h1a, rfl, _, rfl, _, _, rfl, rfl, ⟨by omega, by omega⟩, _, rfl, a, _, 2, 2, rfl, rfl, h1a, rfl, ?_⟩
      refine ⟨_, rfl, ?_⟩
      refine k _ _ (fmod_nn (by omega)) (fmod_lt' (by omega)) (Sb.own sb1) ⟨ns, p, _, c + 1, upd_same, ?_, hl, hp, by omega, by omega⟩
      rw [upd_ne nsa]
      exact h1s
    · refine ⟨fun σ' H' => ∃ z : Int, σ' = [some (.ref a), some (.int m), none, some (.int z), none] ∧
        H' a = some (.lst [.ref s, .int p, .int l, .int (c + 1)]) ∧ H' s = some (.lst (ns.map V.int)) ∧ Sb a H H', ?_, ?_⟩
      · refine ⟨_, rfl, a, _, 0, _, rfl, rfl, SqL.of h1a, rfl, Nat.zero_le _, fun q nq => ?_⟩
        have nqa : q ≠ a := fun z => by
          rw [z, upd_same] at nq
          cases nq
        have nq : upd H a (.lst [.ref s, .int p, .int l, .int (c + 1)]) q = none := nq
        have nqs : q ≠ s := fun z => by
          rw [z, h1s] at nq
          cases nq
        have h2a := upd_ne (H := upd H a (.lst [.ref s, .int p, .int l, .int (c + 1)])) (o := .lst []) nqa.symm
        have h2s := upd_ne (H := upd H a (.lst [.ref s, .int p, .int l, .int (c + 1)])) (o := .lst []) nqs.symm
        rw [h1a] at h2a
        rw [h1s] at h2s
        have sb2 := Sb.trans sb1 (Sb.new (a := a) (o := .lst []) nq)
        refine ⟨.list (ns.map PyData.int), .list [], .lst (SqL.of h2s) (dp_ints ns), .lst (SqL.of upd_same) .nil, ints_shaped ns, ints_shaped [], ?_⟩
        refine ⟨_, rfl, ?_⟩
        rw [ints_nil]
        refine ite2 (fun he => ?_) (fun he => ?_)
        · have hne : ns ≠ [] := by
            intro z
            rw [decide_eq_true z] at he
            cases he
          have hpos : 0 < ns.length := List.length_pos_iff.mpr hne
          obtain ⟨z, hz⟩ := at_ints (ns := ns) (i := p.fmod ((ns.map V.int).length : Int)) (fmod_nn (by rw [List.length_map]; omega))
            (by
              have := fmod_lt' (a := p) (b := ((ns.map V.int).length : Int)) (by rw [List.length_map]; omega)
              rw [List.length_map] at this ⊢
              exact this)
          refine ⟨_, rfl, a, _, 0, _, rfl, rfl, SqL.of h2a, rfl, _, rfl, a, _, 1, _, rfl, rfl, SqL.of h2a, rfl, _, rfl, a, _, 0, _, rfl, rfl, SqL.of h2a, rfl, s, _, rfl, .inl (SqL.of h2s), _, _, rfl, rfl, (by rw [List.length_map]; omega), s, _, _, _, rfl, rfl, SqL.of h2s, hz, ?_⟩
          exact ⟨z, rfl, h2a, h2s, sb2⟩
        · exact ⟨7, rfl, h2a, h2s, sb2⟩
      · rintro σ' H' ⟨z, rfl, h3a, h3s, sb3⟩
        refine ⟨_, rfl, a, _, 1, _, rfl, rfl, SqL.of h3a, rfl, _, _, rfl, rfl, _, rfl, a, _, 1, 1, rfl, rfl, h3a, rfl, ?_⟩
        have h4a : upd H' a (.lst [.ref s, .int (p + 1), .int l, .int (c + 1)]) a = some (.lst [.ref s, .int (p + 1), .int l, .int (c + 1)]) := upd_same
        have h4s : upd H' a (.lst [.ref s, .int (p + 1), .int l, .int (c + 1)]) s = some (.lst (ns.map V.int)) := by
          rw [upd_ne nsa]
          exact h3s
        have sb4 : Sb a H (upd H' a (.lst [.ref s, .int (p + 1), .int l, .int (c + 1)])) := Sb.own sb3
        refine ⟨fun σ'' H'' => σ'' = [some (.ref a), some (.int m), none, some (.int z), none] ∧ H'' = upd H' a (.lst [.ref s, .int (p + 1), .int l, .int (c + 1)]), ?_, ?_⟩
        · refine ⟨_, rfl, _, _, rfl, rfl, ⟨by decide, by decide, by decide⟩, _, _, rfl, rfl, _, rfl, ?_⟩
          refine ite2 (fun hz => ?_) (fun hz => ⟨rfl, rfl⟩)
          refine ⟨_, rfl, a, _, 1, _, rfl, rfl, SqL.of h4a, rfl, _, rfl, a, _, 0, _, rfl, rfl, SqL.of h4a, rfl, s, _, rfl, .inl (SqL.of h4s), _, _, rfl, rfl, _, rfl, ?_⟩
          refine ite2 (fun hw => ?_) (fun hw => ⟨rfl, rfl⟩)
          refine ⟨_, rfl, _, rfl, _, _, rfl, rfl, ⟨by omega, by omega⟩, _, rfl, a, _, 2, 2, rfl, rfl, h4a, rfl, ?_⟩
          refine ⟨_, rfl, _, rfl, _, _, rfl, rfl, (by omega), ?_⟩
          refine k _ _ (fmod_nn (by omega)) (fmod_lt' (by omega)) (Sb.own sb4) ⟨ns, p + 1, _, c + 1, upd_same, ?_, hl, by omega, by omega, by omega⟩
          rw [upd_ne nsa]
          exact h4s
        · rintro σ'' H'' ⟨rfl, rfl⟩
          have f1 := fmod_nn (a := z) (b := 2147483629) (by omega)
          have f2 := fmod_lt' (a := z) (b := 2147483629) (by omega)
          refine ⟨_, rfl, _, _, rfl, rfl, (by omega), _, rfl, a, _, 3, _, rfl, rfl, SqL.of h4a, rfl, _, _, rfl, rfl, .inl ⟨by omega, by omega⟩, _, _, rfl, rfl, _, _, rfl, rfl, ⟨by omega, by omega, by omega⟩, _, _, rfl, rfl, (by omega), ?_⟩
          have big : ∀ y : Int, 0 ≤ y → y < 2147483647 → (y * (2 * (c + 1) + 1) + 7919).natAbs < 2 ^ 64 := by
            intro y g1 g2
            have g3 : 0 ≤ y * (2 * (c + 1) + 1) := Int.mul_nonneg g1 (by omega)
            have g4 : y * (2 * (c + 1) + 1) ≤ 2147483647 * 2000005 := Int.mul_le_mul (by omega) (by omega) (by omega) (by omega)
            omega
          have sml : ∀ y : Int, 0 ≤ y → y < 2147483647 → -(2 ^ 64) < y ∧ y < 2 ^ 64 := by
            intro y g1 g2
            omega
          refine ⟨_, rfl, _, rfl, a, _, 3, _, rfl, rfl, SqL.of h4a, rfl, _, _, rfl, rfl, .inl ⟨by omega, by omega⟩, _, _, rfl, rfl, _, _, rfl, rfl, .inl (sml _ (fmod_nn (by omega)) (fmod_lt' (by omega))), _, _, rfl, rfl, _, _, rfl, rfl, ⟨by omega, by omega, big _ (fmod_nn (by omega)) (fmod_lt' (by omega))⟩, _, _, rfl, rfl, (by omega), ?_⟩
          refine ⟨_, rfl, _, _, rfl, rfl, ⟨by omega, by omega⟩, _, rfl, _, _, rfl, rfl, (by omega), ?_⟩
          exact k _ _ (fmod_nn (by omega)) (fmod_lt' (by omega)) sb4 ⟨ns, p + 1, l, c + 1, h4a, h4s, hl, by omega, by omega, by omega⟩

abbrev spNumber : Sp := spNum (-99) 100 2
theorem ok_l_number (D : Df K mg "_law_number" s_l_number) (B : Bn mg) (h_l_draw : Has P w K mg base "_law_draw" 1 p_l_draw spDraw) :
    Has P w K mg base "_law_number" 2 p_l_number spNumber := by
  refine has_of (k := 1) D sc_l_number bn_l_number spNum_len ?_
  rintro f cdv A outer s0 H vs Q E hr ⟨a, s, n, rfl, hF, hn, k⟩
  refine ⟨_, (pss_cons (ps_asg (pe_has (h_l_draw) (hr.mono (by first | decide | omega)) (by rfl) (pa_cons (pv 0) (pa_cons pe_int pa_nil))) (pg_name (i := 1) sc_l_number.nd rfl (by first | exact Or.inl rfl | exact Or.inr rfl)))
      (pss_cons (ps_if (pt_cmpR op_eq (pv 1) pe_int (nomark _)) (pss_one (ps_ret pe_int)) pss_nil)
      (pss_one (ps_ret (pe_ifExp (pt_cmpR op_lt (pv 1) pe_int (nomark _)) (pe_op op_sub (pe_has (h_l_draw) (hr.mono (by first | decide | omega)) (by rfl) (pa_cons (pv 0) (pa_cons pe_int pa_nil))) pe_int) (pe_op op_sub (pe_has (h_l_draw) (hr.mono (by first | decide | omega)) (by rfl) (pa_cons (pv 0) (pa_cons pe_int pa_nil))) pe_int)))))), ?_⟩
  refine ⟨_, rfl, a, s, _, n, rfl, hF, by omega, by decide, by decide, fun r H1 r0 r1 sb1 f1 => ?_⟩
  refine ⟨_, rfl, rfl, _, rfl, ?_⟩
  refine ite2 (fun _ => ?_) (fun _ => ?_)
  · exact k _ _ (by decide) (by decide) sb1 (f1.mono (by omega))
  · refine ⟨_, rfl, _, _, rfl, rfl, _, rfl, ?_⟩
    refine ite2 (fun _ => ?_) (fun _ => ?_)
    · refine ⟨_, rfl, a, s, _, n + 1, rfl, f1, by omega, by decide, by decide, fun r2 H2 r20 r21 sb2 f2 => ?_⟩
      exact ⟨_, _, rfl, rfl, k _ _ (by omega) (by omega) (Sb.trans sb1 sb2) f2⟩
    · refine ⟨_, rfl, a, s, _, n + 1, rfl, f1, by omega, by decide, by decide, fun r2 H2 r20 r21 sb2 f2 => ?_⟩
      exact ⟨_, _, rfl, rfl, k _ _ (by omega) (by omega) (Sb.trans sb1 sb2) f2⟩

def OkR (w : Nat) (r : List Int) : Prop := r.length = w ∧ ∀ x ∈ r, -99 ≤ x ∧ x ≤ 99
def spRows (K : PySem.W.Frag) : Sp := fun vs H Q _ => ∃ (a s : Addr) (m wd n : Nat),
  vs = [.ref a, .int m, .int wd] ∧ Fd H a s n ∧ m ≤ 8 ∧ wd ≤ 8 ∧ n + 200 ≤ 1000000 ∧
  ∀ (v : V) (H' : Hp) (rs : List (List Int)), Sb a H H' → Fd H' a s (n + 200) → OkT m wd rs → Dp K H' v (rowsD rs) → Q v H'
theorem ok_l_rows (D : Df K mg "_law_rows" s_l_rows) (B : Bn mg) (h_l_draw : Has P w K mg base "_law_draw" 1 p_l_draw spDraw)
    (h_l_number : Has P w K mg base "_law_number" 2 p_l_number spNumber) :
    Has P w K mg base "_law_rows" 3 p_l_rows (spRows K) := by
  refine has_of (k := 2) D sc_l_rows bn_l_rows ?_ ?_
  · rintro vs H Q E ⟨a, s, m, wd, n, rfl, _⟩
    rfl
  rintro f cdv A outer s0 H vs Q E hr ⟨a, s, m, wd, n, rfl, hF, hm, hwd, hn, k⟩
  refine ⟨_, (pss_cons (ps_asg (pe_lst pa_nil) (pg_name (i := 3) sc_l_rows.nd rfl (by first | exact Or.inl rfl | exact Or.inr rfl)))
      (pss_cons (ps_for PassesOwn.never rfl (pi_range1 (by rfl) B.range_ (pa_cons (pv 1) pa_nil)) (pg_name (i := 4) sc_l_rows.nd rfl (by first | exact Or.inl rfl | exact Or.inr rfl)) (pss_cons (ps_asg (pe_has (h_l_draw) (hr.mono (by first | decide | omega)) (by rfl) (pa_cons (pv 0) (pa_cons pe_int pa_nil))) (pg_name (i := 5) sc_l_rows.nd rfl (by first | exact Or.inl rfl | exact Or.inr rfl)))
      (pss_cons (ps_asg (pe_op (op_repK (K := K) (by rfl)) (pe_tup (pa_cons pe_int pa_nil)) (pv 2)) (pg_name (i := 6) sc_l_rows.nd rfl (by first | exact Or.inl rfl | exact Or.inr rfl)))
      (Evl.pss_cut (ps_if (PW.pt (pw_or (pt_cmpR op_gt (pv 5) pe_int (nomark _)) (pw_or1 (PW.pt (pw_and (pt_cmpR op_gt (pv 5) pe_int (nomark _)) (pw_and1 (pt_cmpR (op_eqK (K := K) (by rfl) hr.units) (pv 3) (pe_lst pa_nil) (nomark _)))))))) (pss_one (ps_asg (pe_callTy (call_tupleK (K := K) (by rfl)) (by rfl) B.tuple_ (by decide +kernel) (pa_cons (pe_lc (own := [("_law_j", 7)]) rfl sc_l_rows.nd (pi_range1 (by rfl) B.range_ (pa_cons (pv 2) pa_nil)) (blkOk_by (own := [("_law_j", 7)]) (N := n_l_rows) (sc := defScope s_l_rows) (by decide +kernel)) (fun _ _ _ _ _ => (pg_name (i := 7) sc_l_rows.nd rfl (by first | exact Or.inl rfl | exact Or.inr rfl))) (fun _ _ _ _ _ => pts_nil) (fun _ _ _ _ _ => (pe_has (h_l_number) (hr.mono (by first | decide | omega)) (by rfl) (pa_cons (pv 0) pa_nil)))) pa_nil)) (pg_name (i := 6) sc_l_rows.nd rfl (by first | exact Or.inl rfl | exact Or.inr rfl)))) (pss_one (ps_if (pt_cmpR op_gt (pv 5) pe_int (nomark _)) (pss_cons (ps_asg (pe_ix (ix_listK (K := K) (by rfl)) (pv 3) (pe_has (h_l_draw) (hr.mono (by first | decide | omega)) (by rfl) (pa_cons (pv 0) (pa_cons (pe_callB (call_lenK (K := K) (by rfl)) (by rfl) B.len_ (by decide +kernel) (pa_cons (pv 3) pa_nil)) pa_nil))) (fun _ _ => rfl)) (pg_name (i := 6) sc_l_rows.nd rfl (by first | exact Or.inl rfl | exact Or.inr rfl)))
      (pss_one (ps_asg (pe_ifExp (pt_cmpR op_eq (pv 5) pe_int (nomark _)) (pv 6) (pe_callTy (call_tupleK (K := K) (by rfl)) (by rfl) B.tuple_ (by decide +kernel) (pa_cons (pe_lc (own := [("_law_number_here", 8)]) rfl sc_l_rows.nd (pi_tupK (K := K) (by rfl) (pv 6)) (blkOk_by (own := [("_law_number_here", 8)]) (N := n_l_rows) (sc := defScope s_l_rows) (by decide +kernel)) (fun _ _ _ _ _ => (pg_name (i := 8) sc_l_rows.nd rfl (by first | exact Or.inl rfl | exact Or.inr rfl))) (fun _ _ _ _ _ => pts_nil) (fun _ _ _ _ _ => (pe_un un_neg (pv 8)))) pa_nil))) (pg_name (i := 6) sc_l_rows.nd rfl (by first | exact Or.inl rfl | exact Or.inr rfl))))) pss_nil)))
      (pss_one (ps_expr (pe_bm PySem.F.plainAttrs_list PySem.F.slot_list_append PySem.F.type_list_append mt_append (pv 3) (pa_cons (pv 6) pa_nil))))))))
      (pss_one (ps_ret (pe_callTy (call_tupleK (K := K) (by rfl)) (by rfl) B.tuple_ (by decide +kernel) (pa_cons (pv 3) pa_nil)))))), ?_⟩
  refine ⟨Nat.zero_le _, fun l nl => ?_⟩
  obtain ⟨la, ls⟩ := hF.apart nl
  refine ⟨_, rfl, (m : Int), rfl, by omega, by omega, for_range (lo := 0) (n := m) (fun i σ H' => ∃ (ys : List V) (rs : List (List Int)) (v4 v5 v6 v7 v8 : Option V),
    σ = [some (.ref a), some (.int m), some (.int wd), some (.ref l), v4, v5, v6, v7, v8] ∧ H' l = some (.lst ys) ∧ DpAll K H' ys (rs.map rowD) ∧
    OkT i wd rs ∧ Sb a H H' ∧ Fd H' a s (n + 20 * i)) ?_ ?_ ?_⟩
  · exact ⟨[], [], none, none, none, none, none, rfl, upd_same, .nil, ⟨rfl, fun r h => by cases h⟩, Sb.new nl, hF.upd la ls⟩
  · rintro i σ H' hi ⟨ys, rs, v4, v5, v6, v7, v8, rfl, hl, hall, hok, sb, f⟩
    have tall : tupAll (rs.map rowD) = true := rows_tup rs
    refine ⟨_, rfl, a, s, _, n + 20 * i, rfl, f, by omega, by decide, by decide, fun r H1 r0 r1 sb1 f1 => ?_⟩
    have hl1 := sb1 _ _ la hl
    have hall1 := DpAll.tk (f.tk sb1) _ _ tall hall
    refine ⟨by show 1 ≤ sizeLine; decide, fun p np => ⟨_, rfl, ?_⟩⟩
    refine rep_dp (K := K) (z := 0) (mk_row (r := [0]) (SqT.of upd_same)) (by omega) (by omega) fun v H2 e2 hv => ?_
    have e12 := (Same.new np).trans e2
    have hl2 := e12 _ _ hl1
    have hall2 := DpAll.same e12 _ _ hall1
    have f2 := f1.same e12
    have sb2 := (sb.trans sb1).trans (Sb.of (a := a) e12)
    -- a row of new numbers
    have body1 : ∀ (Hx : Hp) (D' : Ends), Hx l = some (.lst ys) → DpAll K Hx ys (rs.map rowD) → Sb a H Hx → Fd Hx a s (n + 20 * i + 1) →
        (∀ (u : V) (rw : List Int) (Hy : Hp), Hy l = some (.lst ys) → DpAll K Hy ys (rs.map rowD) → Sb a H Hy → Fd Hy a s (n + 20 * i + 19) → OkR wd rw → Dp K Hy u (rowD rw) →
          D'.nx [some (.ref a), some (.int m), some (.int wd), some (.ref l), some (.int (0 + (i : Int))), some (.int r), some u, v7, v8] Hy) →
        tAsg (tCB (rTupleK K) (tCons (tLc (iRng1 (tCons (tVar 2) tNil)) (gName 7) tYes (tCall spNumber [] E0 (tCons (tVar 0) tNil)) [7]) tNil)) (gName 6) D'
          [some (.ref a), some (.int m), some (.int wd), some (.ref l), some (.int (0 + (i : Int))), some (.int r), some v, v7, v8] Hx := by
      intro Hx D' hlx hallx sbx fx kx
      refine ⟨_, rfl, (wd : Int), rfl, by omega, by omega, fun D1 hD1 => ?_⟩
      refine lcrF (m := wd) (c := 2) (fun z => -99 ≤ z ∧ z ≤ 99) hD1 fx (by omega) (fun _ => rfl) ?_ ?_
      · intro j H3 Q3 hj sb3 f3 k3
        exact ⟨_, rfl, a, s, _, rfl, f3, by omega, fun z H4 z0 z1 sb4 f4 => k3 z H4 sb4 f4 ⟨z0, by omega⟩⟩
      · intro H3 ns sb3 f3 h3 hlen hb
        have tk3 := fx.tk sb3
        refine ⟨D1, _, rfl, .inl ⟨SqL.of h3, fun q nq => ?_⟩⟩
        have eq := Same.new (o := .tup (ns.map V.int)) nq
        refine kx _ ns _ (eq _ _ (sb3 _ _ la hlx)) (DpAll.same eq _ _ (DpAll.tk tk3 _ _ tall hallx)) ((sbx.trans sb3).trans (Sb.of eq)) ((f3.same eq).mono (by omega)) ⟨hlen, hb⟩ (mk_row (SqT.of upd_same))
    refine ⟨fun σ' H' => ∃ (u : V) (rw : List Int) (v4 v5 v7 v8 : Option V), σ' = [some (.ref a), some (.int m), some (.int wd), some (.ref l), v4, v5, some u, v7, v8] ∧
      H' l = some (.lst ys) ∧ DpAll K H' ys (rs.map rowD) ∧ Sb a H H' ∧ Fd H' a s (n + 20 * i + 19) ∧ OkR wd rw ∧ Dp K H' u (rowD rw), ?_, ?_⟩
    · refine ⟨_, rfl, _, _, rfl, rfl, _, rfl, ?_⟩
      refine ite2 (fun _ => ?_) (fun h2 => ?_)
      · exact body1 H2 _ hl2 hall2 sb2 (f2.mono (by omega)) fun u rw Hy g1 g2 g3 g4 g5 g6 => ⟨u, rw, _, _, _, _, rfl, g1, g2, g3, g4, g5, g6⟩
      · have h2 : ¬ r > 2 := fun z => h2 (decide_eq_true z)
        refine ⟨_, rfl, _, _, rfl, rfl, _, rfl, ?_⟩
        refine ite2 (fun h0 => ?_) (fun h0 => ?_)
        · have h0 : r > 0 := of_decide_eq_true h0
          refine ⟨_, rfl, Nat.zero_le _, fun q nq => ?_⟩
          have eq := Same.new (o := .lst []) nq
          have hl3 := eq _ _ hl2
          have hall3 := DpAll.same eq _ _ hall2
          have f3 := f2.same eq
          have sb3 := sb2.trans (Sb.of (a := a) eq)
          refine ⟨.list (rs.map rowD), .list [], .lst (SqL.of hl3) hall3, .lst (SqL.of upd_same) .nil, ?_, ints_shaped [], _, rfl, ?_⟩
          · exact rows_shaped rs
          rw [rows_nil]
          refine ite2 (fun he => ?_) (fun he => ?_)
          · exact body1 _ _ hl3 hall3 sb3 (f3.mono (by omega)) fun u rw Hy g1 g2 g3 g4 g5 g6 => ⟨u, rw, _, _, _, _, rfl, g1, g2, g3, g4, g5, g6⟩
          · have hne : rs ≠ [] := fun z => he (decide_eq_true z)
            have hpos : 0 < rs.length := List.length_pos_iff.mpr hne
            have hlen : ys.length = rs.length := by rw [dpa_len _ _ hall3, List.length_map]
            refine ⟨_, rfl, _, _, rfl, rfl, _, rfl, ?_⟩
            rw [decide_eq_true (show r > 0 from h0)]
            refine iteT ?_
            refine ⟨_, rfl, _, rfl, _, rfl, l, _, rfl, .inl (SqL.of hl3), ?_⟩
            have hb := hok.1
            refine ⟨a, s, _, n + 20 * i + 1, rfl, f3.mono (by omega), by omega, by omega, by omega, fun j H4 j0 j1 sb4 f4 => ?_⟩
            have hl4 := sb4 _ _ la hl3
            have hall4 := DpAll.tk (f3.tk sb4) _ _ tall hall3
            obtain ⟨j', rfl⟩ := Int.eq_ofNat_of_zero_le j0
            have hj' : j' < rs.length := by omega
            obtain ⟨x, hx, hdx⟩ := dpa_at _ _ j' _ hall4 (rows_getD hj')
            refine ⟨l, _, _, _, rfl, rfl, SqL.of hl4, atI_nat hx, ?_⟩
            have hmem := hok.2 _ (getD_mem (d := []) hj')
            have sb5 := sb3.trans sb4
            refine ⟨_, rfl, rfl, _, rfl, ?_⟩
            refine ite2 (fun _ => ?_) (fun _ => ?_)
            · exact ⟨_, rfl, x, _, _, _, _, _, rfl, hl4, hall4, sb5, f4.mono (by omega), hmem, hdx⟩
            · obtain ⟨px, rfl, hpx⟩ := dp_row hdx
              refine ⟨_, rfl, px, rfl, ⟨_, hpx⟩, fun D1 hD1 => ?_⟩
              refine lct (K := K) (j := 8) (fun c => .int (-((rs.getD j' []).getD c 0))) hD1 hpx (by rw [List.length_map, hmem.1]; omega) (fun _ _ => by simp [tupOnly]) (fun _ => rfl) ?_ ?_
              · intro c x H5 Q5 hx5 e5 k5
                obtain ⟨hc, rfl⟩ := row_get hx5
                exact ⟨_, rfl, _, rfl, k5 _ _ (Same.refl _) (.int _)⟩
              · intro H5 zs e5 h5 hd5
                rw [List.length_map] at hd5
                try dsimp only [tC, tNil]
                refine tupL_dp h5 hd5 fun v6 H6 e6 hv6 => ?_
                rw [mapR_row] at hv6
                have e56 := e5.trans e6
                refine ⟨v6, _, _, _, _, _, rfl, e56 _ _ hl4, DpAll.same e56 _ _ hall4, sb5.trans (Sb.of e56), (f4.same e56).mono (by omega), ⟨?_, ?_⟩, hv6⟩
                · rw [List.length_map, List.length_range]
                  exact hmem.1
                · intro z hz
                  obtain ⟨c, hc, rfl⟩ := List.mem_map.mp hz
                  have := hmem.2 _ (getD_mem (d := 0) (List.mem_range.mp hc))
                  omega
        · refine ⟨_, rfl, _, _, rfl, rfl, _, rfl, ?_⟩
          refine ite2 (fun hz => absurd hz h0) (fun _ => ?_)
          refine ⟨v, _, _, _, _, _, rfl, hl2, hall2, sb2, f2.mono (by omega), ⟨?_, ?_⟩, hv⟩
          · simp
          · intro x hx
            rw [(List.mem_replicate.mp hx).2]
            decide
    · rintro σ' H9 ⟨u, rw', w4, w5, w7, w8, rfl, hl9, hall9, sb9, f9, hok9, hu9⟩
      have hlen : ys.length = rs.length := by rw [dpa_len _ _ hall9, List.length_map]
      refine ⟨_, rfl, .inl ⟨rfl, _, SqL.of hl9⟩, _, rfl, l, _, _, rfl, rfl, hl9, ?_, ?_⟩
      · rw [hlen, hok.1]
        exact Nat.lt_of_lt_of_le (show i < 100 by omega) (by decide)
      · have tk := Tk.lst (o := .lst (ys ++ [u])) hl9
        refine ⟨ys ++ [u], rs ++ [rw'], _, _, _, _, _, rfl, upd_same, ?_, ⟨?_, ?_⟩, sb9.mut nl, (f9.upd la ls).mono (by omega)⟩
        · rw [List.map_append]
          exact dpa_snoc _ _ _ _ (DpAll.tk tk _ _ tall hall9) (Dp.tk tk _ _ (rowD_tup _) hu9)
        · rw [List.length_append, hok.1]
          rfl
        · intro r' hr'
          rcases List.mem_append.mp hr' with h | h
          · exact hok.2 r' h
          · rw [List.mem_singleton.mp h]
            exact hok9
  · rintro σ H' ⟨ys, rs, v4, v5, v6, v7, v8, rfl, hl, hall, hok, sb, f⟩
    refine ⟨_, rfl, ?_⟩
    try dsimp only [tC, tNil]
    refine tupL_dp hl hall fun v2 H2 e2 hv2 => ?_
    exact k _ _ rs (sb.trans (Sb.of e2)) ((f.same e2).mono (by omega)) hok hv2
def spTable (K : PySem.W.Frag) : Sp := fun vs H Q _ => ∃ (a s : Addr) (m wd n : Nat),
  vs = [.ref a, .int m, .int wd] ∧ Fd H a s n ∧ m ≤ 8 ∧ wd ≤ 8 ∧ n + 200 ≤ 1000000 ∧
  ∀ (v : V) (H' : Hp) (rs : List (List Int)), Sb a H H' → Fd H' a s (n + 200) → OkT m wd rs → Dp K H' v (tabD wd rs) → Q v H'
theorem ok_l_table (D : Df K mg "_law_table" s_l_table) (B : Bn mg) (h_l_rows : Has P w K mg base "_law_rows" 3 p_l_rows (spRows K)) :
    Has P w K mg base "_law_table" 4 p_l_table (spTable K) := by
  refine has_of (k := 3) D sc_l_table bn_l_table ?_ ?_
  · rintro vs H Q E ⟨a, s, m, wd, n, rfl, _⟩
    rfl
  rintro f cdv A outer s0 H vs Q E hr ⟨a, s, m, wd, n, rfl, hF, hm, hwd, hn, k⟩
  refine ⟨_, (pss_one (ps_ret (pe_tup (pa_cons (pv 2) (pa_cons (pe_has (h_l_rows) (hr.mono (by first | decide | omega)) (by rfl) (pa_cons (pv 0) (pa_cons (pv 1) (pa_cons (pv 2) pa_nil)))) pa_nil))))), ?_⟩
  refine ⟨_, rfl, _, rfl, _, rfl, _, rfl, a, s, m, wd, n, rfl, hF, hm, hwd, hn, fun v H1 rs sb1 f1 hok hv => ?_⟩
  try dsimp only [tC, tNil]
  refine tup_dp (K := K) (.cons (.int _) (.cons hv .nil)) (by simp) fun v3 H3 e3 hv3 => ?_
  exact k _ _ rs (sb1.trans (Sb.of e3)) (f1.same e3) hok hv3

end K04

set_option Elab.async false
set_option linter.all false
set_option maxRecDepth 100000
set_option maxHeartbeats 1000000
namespace K04
open PySem PySem.Spec PyProof.Rows L2 Gd
variable {P : Program} {w : World} {K : PySem.W.Frag} {mg : Str → Option Value} {base : Heap}
def oddL : List PyData := [.none, .bool true, .bool false, .str "", .str "add", .tuple [], .list [], .tuple [.int 0], .list [.int 0], .int (10 ^ Int.toNat 40), .int (-1), .int 0, .int 1, .tuple [.tuple []], .tuple [.int 0, .tuple []], .tuple [.int 1, .int 1], .str "0", .tuple [.int 1, .int 2, .int 3]]
theorem odd_fine : ∀ d ∈ oddL, Fn (10 ^ 40) 2 5 d := by
  intro d hd
  simp only [oddL, List.mem_cons, List.not_mem_nil, or_false] at hd
  rcases hd with rfl | rfl | rfl | rfl | rfl | rfl | rfl | rfl | rfl | rfl | rfl | rfl | rfl | rfl | rfl | rfl | rfl | rfl <;> exact ⟨by decide +kernel, by decide +kernel, by decide +kernel⟩
def spOdd (K : PySem.W.Frag) : Sp := fun vs H Q _ => ∃ (a s : Addr) (n : Nat), vs = [.ref a] ∧ Fd H a s n ∧ n + 1 ≤ 1000000 ∧
  ∀ (v : V) (H' : Hp) (d : PyData), Sb a H H' → Fd H' a s (n + 1) → Dq K a H' v d → Fn (10 ^ 40) 2 5 d → Q v H'
theorem ok_l_odd (D : Df K mg "_law_odd" s_l_odd) (B : Bn mg) (h_l_draw : Has P w K mg base "_law_draw" 1 p_l_draw spDraw) :
    Has P w K mg base "_law_odd" 2 p_l_odd (spOdd K) := by
  refine has_of (k := 1) D sc_l_odd bn_l_odd ?_ ?_
  · rintro vs H Q E ⟨a, s, n, rfl, _⟩
    rfl
  rintro f cdv A outer s0 H vs Q E hr ⟨a, s, n, rfl, f0, hn, k⟩
  refine ⟨_, (pss_cons (ps_asg (pe_lst (pa_cons pe_non (pa_cons pe_bl (pa_cons pe_bl (pa_cons pe_str (pa_cons pe_str (pa_cons (pe_tup pa_nil) (pa_cons (pe_lst pa_nil) (pa_cons (pe_tup (pa_cons pe_int pa_nil)) (pa_cons (pe_lst (pa_cons pe_int pa_nil)) (pa_cons (pe_op op_pow pe_int pe_int) (pa_cons (pe_un un_neg pe_int) (pa_cons pe_int (pa_cons pe_int (pa_cons (pe_tup (pa_cons (pe_tup pa_nil) pa_nil)) (pa_cons (pe_tup (pa_cons pe_int (pa_cons (pe_tup pa_nil) pa_nil))) (pa_cons (pe_tup (pa_cons pe_int (pa_cons pe_int pa_nil))) (pa_cons pe_str (pa_cons (pe_tup (pa_cons pe_int (pa_cons pe_int (pa_cons pe_int pa_nil)))) pa_nil))))))))))))))))))) (pg_name (i := 1) sc_l_odd.nd rfl (by first | exact Or.inl rfl | exact Or.inr rfl)))
      (pss_one (ps_ret (pe_ix (ix_listK (K := K) (by rfl)) (pv 1) (pe_has (h_l_draw) (hr.mono (by first | decide | omega)) (by rfl) (pa_cons (pv 0) (pa_cons pe_int pa_nil))) (fun _ _ => rfl))))), ?_⟩
  refine ⟨by show 0 ≤ sizeLine; decide, fun p1 np1 => ?_⟩
  obtain ⟨H1, xH1, e1, h1⟩ := tupQ (K := K) f0.nn np1 .nil
  rw [xH1]
  have f1 := f0.same e1
  refine ⟨by show 0 ≤ sizeLine; decide, fun p2 np2 => ?_⟩
  obtain ⟨H2, xH2, e2, h2, n2, h2'⟩ := lstQ (K := K) f1.nn np2 .nil
  rw [xH2]
  have f2 := f1.same e2
  have h2 : Dq K a H2 (.ref p2) (.list []) := Dq.lst h2 n2 h2'
  refine ⟨by show 1 ≤ sizeLine; decide, fun p3 np3 => ?_⟩
  obtain ⟨H3, xH3, e3, h3⟩ := tupQ (K := K) f2.nn np3 (.cons (.int 0) .nil)
  rw [xH3]
  have f3 := f2.same e3
  refine ⟨by show 1 ≤ sizeLine; decide, fun p4 np4 => ?_⟩
  obtain ⟨H4, xH4, e4, h4, n4, h4'⟩ := lstQ (K := K) f3.nn np4 (.cons (.int 0) .nil)
  rw [xH4]
  have f4 := f3.same e4
  have h4 : Dq K a H4 (.ref p4) (.list [.int 0]) := Dq.lst h4 n4 h4'
  refine ⟨_, _, rfl, rfl, ⟨by decide, by decide, by decide⟩, _, rfl, ?_⟩
  refine ⟨by show 0 ≤ sizeLine; decide, fun p5 np5 => ?_⟩
  obtain ⟨H5, xH5, e5, h5⟩ := tupQ (K := K) f4.nn np5 .nil
  rw [xH5]
  have f5 := f4.same e5
  refine ⟨by show 1 ≤ sizeLine; decide, fun p6 np6 => ?_⟩
  obtain ⟨H6, xH6, e6, h6⟩ := tupQ (K := K) f5.nn np6 (.cons h5 .nil)
  rw [xH6]
  have f6 := f5.same e6
  refine ⟨by show 0 ≤ sizeLine; decide, fun p7 np7 => ?_⟩
  obtain ⟨H7, xH7, e7, h7⟩ := tupQ (K := K) f6.nn np7 .nil
  rw [xH7]
  have f7 := f6.same e7
  refine ⟨by show 2 ≤ sizeLine; decide, fun p8 np8 => ?_⟩
  obtain ⟨H8, xH8, e8, h8⟩ := tupQ (K := K) f7.nn np8 (.cons (.int 0) (.cons h7 .nil))
  rw [xH8]
  have f8 := f7.same e8
  refine ⟨by show 2 ≤ sizeLine; decide, fun p9 np9 => ?_⟩
  obtain ⟨H9, xH9, e9, h9⟩ := tupQ (K := K) f8.nn np9 (.cons (.int 1) (.cons (.int 1) .nil))
  rw [xH9]
  have f9 := f8.same e9
  refine ⟨by show 3 ≤ sizeLine; decide, fun p10 np10 => ?_⟩
  obtain ⟨H10, xH10, e10, h10⟩ := tupQ (K := K) f9.nn np10 (.cons (.int 1) (.cons (.int 2) (.cons (.int 3) .nil)))
  rw [xH10]
  have f10 := f9.same e10
  have e910 := e9.trans e10
  have e810 := e8.trans e910
  have e610 := (e7.trans e8).trans e910
  have e410 := (e5.trans e6).trans e610
  have e310 := e4.trans e410
  have e210 := e3.trans e310
  have e110 := e2.trans e210
  have all : DqAll K a H10 [.non, .bl true, .bl false, .str "", .str "add", .ref p1, .ref p2, .ref p3, .ref p4, .int (10 ^ Int.toNat 40), .int (-1), .int 0, .int 1, .ref p6, .ref p8, .ref p9, .str "0", .ref p10] oddL :=
    .cons .non (.cons (.bl _) (.cons (.bl _) (.cons (.str _) (.cons (.str _) (.cons (h1.same e110) (.cons (h2.same e210) (.cons (h3.same e310) (.cons (h4.same e410) (.cons (.int _) (.cons (.int _) (.cons (.int _) (.cons (.int _)
      (.cons (h6.same e610) (.cons (h8.same e910) (.cons (h9.same e10) (.cons (.str _) (.cons h10 .nil)))))))))))))))))
  refine ⟨by show 18 ≤ sizeLine; decide, fun p11 np11 => ?_⟩
  obtain ⟨H11, xH11, e11, h11, n11, h11'⟩ := lstQ (K := K) f10.nn np11 all
  rw [xH11]
  have f11 := f10.same e11
  refine ⟨_, rfl, _, rfl, a, s, _, n, rfl, f11, by omega, by decide, by decide, fun r H12 r0 r1 sb12 f12 => ?_⟩
  obtain ⟨i, rfl⟩ := Int.eq_ofNat_of_zero_le r0
  have hi : i < oddL.length := by show i < 18; omega
  have hd : oddL[i]? = some oddL[i] := List.getElem?_eq_getElem hi
  obtain ⟨x, hx, dx⟩ := dpa_at _ _ i _ h11' hd
  refine ⟨p11, _, _, x, rfl, rfl, SqL.of (sb12 _ _ n11 h11), atI_nat hx, ?_⟩
  exact k x H12 _ ((Sb.of (((e1.trans e110)).trans e11)).trans sb12) f12 (Dq.sb dx sb12) (odd_fine _ (List.getElem_mem hi))

end K04

set_option Elab.async false
set_option linter.all false
set_option maxRecDepth 100000
set_option maxHeartbeats 1000000
namespace K04
open PySem PySem.Spec PyProof.Rows L2 Gd
variable {P : Program} {w : World} {K : PySem.W.Frag} {mg : Str → Option Value} {base : Heap}
def spBent (K : PySem.W.Frag) (k : Nat) : Sp := fun vs H Q _ => ∃ (a s : Addr) (v : V) (d : PyData) (n M m kd : Nat), vs = [.ref a, v] ∧ Fd H a s n ∧ n + 10 * (k + 1) ≤ 1000000 ∧ k ≤ 40 ∧ kd ≤ k ∧ Dq K a H v d ∧ Fn M kd m d ∧ 10 ^ 40 ≤ M ∧ M < 10 ^ 100 ∧ m ≤ 40000 ∧
  ∀ (v' : V) (H' : Hp) (d' : PyData), Sb a H H' → Fd H' a s (n + 10 * (k + 1)) → Dq K a H' v' d' → Fn (M + 1) (kd + 2) (2 * m + 1000) d' → Q v' H'
def spB (K : PySem.W.Frag) : Nat → Sp
  | 0 => fun _ _ _ _ => False
  | k + 1 => spBent K k
theorem bent_list {M k m : Nat} {ds es : List PyData} (hk : ∀ d ∈ es, fok (M + 1) d = true ∧ d.depth ≤ k + 2) (hs : 1 + fzAll es ≤ 2 * m + 1000) : Fn (M + 1) (k + 1 + 2) (2 * m + 1000) (.tuple es) :=
  (fn_tup (k := k + 2)).mpr ⟨hk, hs⟩
theorem bent_four {M k m i : Nat} {ds : List PyData} {dm : PyData} (hi1 : ∀ d ∈ ds, fok M d = true ∧ d.depth ≤ k) (hs1 : 1 + fzAll ds ≤ m) (hdm : Fn (10 ^ 40) 2 5 dm) (hM : 10 ^ 40 ≤ M) :
    ∀ d ∈ [PyData.tuple ((ds.take i ++ [dm]) ++ ds.drop i), .tuple (ds.take i ++ ds.drop (i + 1)), .tuple (ds.take (i + 1) ++ ds.drop i), .tuple ds.reverse], Fn (M + 1) (k + 1 + 2) (2 * m + 1000) d := by
  have ok : ∀ d ∈ ds, fok (M + 1) d = true ∧ d.depth ≤ k + 2 := fun d hd => ⟨fok_mono (Nat.le_succ M) _ (hi1 d hd).1, by have := (hi1 d hd).2; omega⟩
  have t1 := fz_take ds i
  have t2 := fz_take ds (i + 1)
  have t3 := fz_drop1 ds i
  have hz := hdm.sz
  intro d hd
  simp only [List.mem_cons, List.not_mem_nil, or_false] at hd
  rcases hd with rfl | rfl | rfl | rfl
  · refine bent_list (ds := ds) (fun d hd' => ?_) ?_
    · rcases List.mem_append.mp hd' with h | h
      · rcases List.mem_append.mp h with h | h
        · exact ok d (List.mem_of_mem_take h)
        · rw [List.mem_singleton.mp h]
          exact ⟨fok_mono (by omega) _ hdm.ok, by have := hdm.dep; omega⟩
      · exact ok d (List.mem_of_mem_drop h)
    · rw [fzAll_app, fzAll_app]
      simp only [fzAll]
      omega
  · refine bent_list (ds := ds) (fun d hd' => ?_) ?_
    · rcases List.mem_append.mp hd' with h | h
      · exact ok d (List.mem_of_mem_take h)
      · exact ok d (List.mem_of_mem_drop h)
    · rw [fzAll_app]
      omega
  · refine bent_list (ds := ds) (fun d hd' => ?_) ?_
    · rcases List.mem_append.mp hd' with h | h
      · exact ok d (List.mem_of_mem_take h)
      · exact ok d (List.mem_of_mem_drop h)
    · rw [fzAll_app]
      omega
  · refine bent_list (ds := ds) (fun d hd' => ok d (List.mem_reverse.mp hd')) ?_
    rw [fz_rev]
    omega
theorem bent_five {M k m : Nat} {z : Int} {b : Bool} (h : z.natAbs ≤ M) (hM2 : M < 10 ^ 100) : ∀ d ∈ [PyData.int (z + 1), .int (z - 1), .int (-z), .bool b, .str (toString z)], Fn (M + 1) (k + 2) (2 * m + 1000) d := by
  have num : ∀ y : Int, y.natAbs ≤ M + 1 → Fn (M + 1) (k + 2) (2 * m + 1000) (.int y) := fun y hy => ⟨by simp only [fok, decide_eq_true_eq]; exact hy, by simp [PyData.depth], by simp only [fz]; omega⟩
  intro d hd
  simp only [List.mem_cons, List.not_mem_nil, or_false] at hd
  rcases hd with rfl | rfl | rfl | rfl | rfl
  · exact num _ (by omega)
  · exact num _ (by omega)
  · exact num _ (by omega)
  · exact ⟨by simp [fok], by simp [PyData.depth], by simp only [fz]; omega⟩
  · refine ⟨?_, by simp [PyData.depth], ?_⟩
    · simp only [fok]
      exact strOk_of _
    · have e := PySem.int_text_length_le10 (a := z) (k := 100) (by decide) (by omega)
      have e2 := PySem.ofString_length (toString z)
      simp only [fz]
      show 1 + (Str.ofString (toString z)).length ≤ 2 * m + 1000
      omega
theorem big100 : 10 ^ 100 < 2 ^ 1900 := Nat.lt_of_lt_of_le (by decide : 10 ^ 100 < 2 ^ 400) (Nat.pow_le_pow_right (by decide) (by decide))
theorem bent_step {j k : Nat} (hj : 2 ≤ j) (D : Df K mg "_law_bent" s_l_bent) (B : Bn mg) (h_l_draw : Has P w K mg base "_law_draw" 1 p_l_draw spDraw)
    (h_l_odd : Has P w K mg base "_law_odd" 2 p_l_odd (spOdd K)) (h_l_bent : Has P w K mg base "_law_bent" j p_l_bent (spB K k)) :
    Has P w K mg base "_law_bent" (j + 1) p_l_bent (spB K (k + 1)) := by
  refine has_of (k := j) D sc_l_bent bn_l_bent ?_ ?_
  · rintro vs H Q E ⟨a, s, v, d, n, M, m, kd, rfl, _⟩
    rfl
  rintro f cdv A outer s0 H vs Q E hr ⟨a, s, v, d, n, M, m, kd, rfl, f0, hn, hk40, hkd, hd, hF, hM, hM2, hm, ke⟩
  have hM3 : M + 1 < 2 ^ 1900 := Nat.lt_of_le_of_lt hM2 big100
  have hodd : ∀ x : PyData, Fn (10 ^ 40) 2 5 x → Fn (M + 1) (kd + 2) (2 * m + 1000) x := fun x hx => hx.mono (by omega) (by omega) (by omega)
  refine ⟨_, (Evl.pss_cut (ps_if (PW.pt (pw_and (pt_val (pe_callB (call_isiK (K := K) (by rfl)) (by rfl) B.isinstance_ (by decide +kernel) (pa_cons (pv 1) (pa_cons (pe_bltn (v := .ty "tuple") (u := .type "tuple") (by rfl) B.tuple_ (by decide +kernel) rfl) pa_nil)))) (pw_and (pt_cmpR (op_neK (K := K) (by rfl) hr.units) (pv 1) (pe_tup pa_nil) (nomark _)) (pw_and1 (pt_cmpR op_gt (pe_has (h_l_draw) (hr.mono (by first | decide | omega)) (by rfl) (pa_cons (pv 0) (pa_cons pe_int pa_nil))) pe_int (nomark _)))))) (pss_cons (ps_asg (pe_has (h_l_draw) (hr.mono (by first | decide | omega)) (by rfl) (pa_cons (pv 0) (pa_cons (pe_callB (call_lenK (K := K) (by rfl)) (by rfl) B.len_ (by decide +kernel) (pa_cons (pv 1) pa_nil)) pa_nil))) (pg_name (i := 2) sc_l_bent.nd rfl (by first | exact Or.inl rfl | exact Or.inr rfl)))
      (pss_one (ps_ret (pe_op (op_catK (K := K) (by rfl)) (pe_op (op_catK (K := K) (by rfl)) (pe_slice (sl_tupK (K := K) (by rfl)) (pv 1) po_none (po_some (pv 2))) (pe_tup (pa_cons (pe_has (h_l_bent) (hr.mono (by first | decide | omega)) (by rfl) (pa_cons (pv 0) (pa_cons (pe_ix (ix_tupK (K := K) (by rfl)) (pv 1) (pv 2) (fun _ _ => rfl)) pa_nil))) pa_nil))) (pe_slice (sl_tupK (K := K) (by rfl)) (pv 1) (po_some (pe_op op_add (pv 2) pe_int)) po_none))))) pss_nil)
      (pss_cons (ps_asg (pe_has (h_l_draw) (hr.mono (by first | decide | omega)) (by rfl) (pa_cons (pv 0) (pa_cons pe_int pa_nil))) (pg_name (i := 3) sc_l_bent.nd rfl (by first | exact Or.inl rfl | exact Or.inr rfl)))
      (Evl.pss_cut (ps_if (PW.pt (pw_and (pt_val (pe_callB (call_isiK (K := K) (by rfl)) (by rfl) B.isinstance_ (by decide +kernel) (pa_cons (pv 1) (pa_cons (pe_bltn (v := .ty "tuple") (u := .type "tuple") (by rfl) B.tuple_ (by decide +kernel) rfl) pa_nil)))) (pw_and1 (pt_cmpR op_gt (pv 3) pe_int (nomark _))))) (pss_cons (ps_asg (pe_has (h_l_draw) (hr.mono (by first | decide | omega)) (by rfl) (pa_cons (pv 0) (pa_cons (pe_op op_add (pe_callB (call_lenK (K := K) (by rfl)) (by rfl) B.len_ (by decide +kernel) (pa_cons (pv 1) pa_nil)) pe_int) pa_nil))) (pg_name (i := 2) sc_l_bent.nd rfl (by first | exact Or.inl rfl | exact Or.inr rfl)))
      (pss_cons (ps_asg (pe_ifExp (pt_cmpR op_eq (pv 3) pe_int (nomark _)) (pe_has (h_l_odd) (hr.mono (by first | decide | omega)) (by rfl) (pa_cons (pv 0) pa_nil)) pe_int) (pg_name (i := 4) sc_l_bent.nd rfl (by first | exact Or.inl rfl | exact Or.inr rfl)))
      (pss_cons (ps_asg (pe_lst (pa_cons (pe_op (op_catK (K := K) (by rfl)) (pe_op (op_catK (K := K) (by rfl)) (pe_slice (sl_tupK (K := K) (by rfl)) (pv 1) po_none (po_some (pv 2))) (pe_tup (pa_cons (pv 4) pa_nil))) (pe_slice (sl_tupK (K := K) (by rfl)) (pv 1) (po_some (pv 2)) po_none)) (pa_cons (pe_op (op_catK (K := K) (by rfl)) (pe_slice (sl_tupK (K := K) (by rfl)) (pv 1) po_none (po_some (pv 2))) (pe_slice (sl_tupK (K := K) (by rfl)) (pv 1) (po_some (pe_op op_add (pv 2) pe_int)) po_none)) (pa_cons (pe_op (op_catK (K := K) (by rfl)) (pe_slice (sl_tupK (K := K) (by rfl)) (pv 1) po_none (po_some (pe_op op_add (pv 2) pe_int))) (pe_slice (sl_tupK (K := K) (by rfl)) (pv 1) (po_some (pv 2)) po_none)) pa_nil)))) (pg_name (i := 5) sc_l_bent.nd rfl (by first | exact Or.inl rfl | exact Or.inr rfl)))
      (pss_one (ps_ret (pe_ix (ix_listK (K := K) (by rfl)) (pe_op op_cat (pv 5) (pe_lst (pa_cons (pe_revTK (K := K) (by rfl) (pv 1)) pa_nil))) (pe_op op_sub (pv 3) pe_int) (fun _ _ => rfl))))))) pss_nil)
      (Evl.pss_cut (ps_if (PW.pt (pw_and (pt_val (pe_callB (call_isiK (K := K) (by rfl)) (by rfl) B.isinstance_ (by decide +kernel) (pa_cons (pv 1) (pa_cons (pe_bltn (v := .ty "tuple") (u := .type "tuple") (by rfl) B.tuple_ (by decide +kernel) rfl) pa_nil)))) (pw_and1 (pt_cmpR op_eq (pv 3) pe_int (nomark _))))) (pss_one (ps_ret (pe_callTy (call_listK (K := K) (by rfl)) (by rfl) B.list_ (by decide +kernel) (pa_cons (pv 1) pa_nil)))) pss_nil)
      (Evl.pss_cut (ps_if (PW.pt (pw_and (pt_val (pe_callB (call_isiK (K := K) (by rfl)) (by rfl) B.isinstance_ (by decide +kernel) (pa_cons (pv 1) (pa_cons (pe_bltn (v := .ty "int") (u := .type "int") (by rfl) B.int_ (by decide +kernel) rfl) pa_nil)))) (pw_and (pt_not (pt_val (pe_callB (call_isiK (K := K) (by rfl)) (by rfl) B.isinstance_ (by decide +kernel) (pa_cons (pv 1) (pa_cons (pe_bltn (v := .ty "bool") (u := .type "bool") (by rfl) B.bool_ (by decide +kernel) rfl) pa_nil))))) (pw_and1 (pt_cmpR op_gt (pv 3) pe_int (nomark _)))))) (pss_one (ps_ret (pe_ix (ix_listK (K := K) (by rfl)) (pe_lst (pa_cons (pe_op op_add (pv 1) pe_int) (pa_cons (pe_op op_sub (pv 1) pe_int) (pa_cons (pe_un un_neg (pv 1)) (pa_cons (pe_cmpR op_eq (pv 1) pe_int (nomark _)) (pa_cons (pe_callTy call_str_int (by rfl) B.str_ (by decide +kernel) (pa_cons (pv 1) pa_nil)) pa_nil)))))) (pe_op op_sub (pv 3) pe_int) (fun _ _ => rfl)))) pss_nil)
      (pss_one (ps_ret (pe_has (h_l_odd) (hr.mono (by first | decide | omega)) (by rfl) (pa_cons (pv 0) pa_nil))))))))), ?_⟩
  refine ⟨fun σ' H' => Sb a H H' ∧ Fd H' a s (n + 1) ∧ σ' = [some (.ref a), some v, none, none, none, none], ?_, ?_⟩
  · refine ⟨_, rfl, ?_⟩
    dsimp only [tCons, tC, tNil]
    refine isi_tuple hd.dp ⟨_, rfl, ?_⟩
    rcases tup_or d with hT | ⟨ds, rfl⟩
    · rw [hT]
      exact iteF ⟨Sb.refl a H, f0.mono (by omega), rfl⟩
    · refine iteT ?_
      refine ⟨_, rfl, by show 0 ≤ sizeLine; decide, fun p1 np1 => ?_⟩
      obtain ⟨H1, xH1, e1, h1⟩ := tupQ (K := K) f0.nn np1 .nil
      rw [xH1]
      have f1 := f0.same e1
      have hd1 := hd.same e1
      cases kd with
      | zero =>
        have := hF.dep
        simp only [PyData.depth] at this
        omega
      | succ kd =>
      cases k with
      | zero => omega
      | succ k =>
      obtain ⟨hi1, hs1⟩ := (fn_tup (k := kd)).mp hF
      have hlen := fzAll_len ds
      refine ⟨.tuple ds, .tuple [], hd1.dp, h1.dp, (hF.mono (Nat.le_succ M) (Nat.le_refl _) (Nat.le_refl _)).shaped hM3 ?_, by decide, _, rfl, ?_⟩
      · omega
      rw [eqv_nilT]
      by_cases hne : ds = []
      · rw [decide_eq_true hne]
        exact iteF ⟨Sb.of e1, f1.mono (by omega), rfl⟩
      · rw [decide_eq_false hne]
        refine iteT ?_
        have hpos : 0 < ds.length := List.length_pos_iff.mpr hne
        refine ⟨_, rfl, a, s, _, n, rfl, f1, by omega, by decide, by decide, fun r H2 r0 r1 sb2 f2 => ⟨_, _, rfl, rfl, _, rfl, ?_⟩⟩
        refine ite2 (fun _ => ?_) (fun _ => ⟨(Sb.of e1).trans sb2, f2, rfl⟩)
        have hd2 := Dq.sb hd1 sb2
        refine ⟨_, rfl, _, rfl, ?_⟩
        try dsimp only [tC, tNil]
        refine len_dp hd2.dp ?_
        refine ⟨a, s, _, n + 1, rfl, f2, by omega, by omega, by omega, fun ri H3 i0 i1 sb3 f3 => ?_⟩
        obtain ⟨i, rfl⟩ := Int.eq_ofNat_of_zero_le i0
        have hi : i < ds.length := by omega
        have hd3 := Dq.sb hd2 sb3
        have hx : ds[i]? = some ds[i] := List.getElem?_eq_getElem hi
        have hmem : ds[i] ∈ ds := List.getElem_mem hi
        refine ⟨_, rfl, _, rfl, _, rfl, ?_⟩
        refine sl_to (i := i) rfl f3.nn hd3 fun v4 H4 e4 hv4 => ?_
        have f4 := f3.same e4
        have hd4 := hd3.same e4
        refine ⟨_, rfl, _, rfl, _, rfl, ?_⟩
        refine ix_dq hd4 hx fun x5 hx5 => ?_
        have hz := fz_split hx
        refine ⟨a, s, x5, ds[i], n + 2, M, fz ds[i], kd, rfl, f4, by omega, by omega, by omega, hx5, ⟨(hi1 _ hmem).1, (hi1 _ hmem).2, Nat.le_refl _⟩, hM, hM2, by omega, fun v6 H6 d6 sb6 f6 hv6 hF6 => ?_⟩
        refine ⟨by show 1 ≤ sizeLine; decide, fun p7 np7 => ?_⟩
        obtain ⟨H7, xH7, e7, h7⟩ := tupQ (K := K) f6.nn np7 (.cons hv6 .nil)
        rw [xH7]
        have f7 := f6.same e7
        have hv7 := (Dq.sb hv4 sb6).same e7
        have hd7 := (Dq.sb hd4 sb6).same e7
        refine cat_dq f7.nn hv7 h7 (by rw [List.length_take]; simp; omega) fun v8 H8 e8 hv8 => ?_
        have f8 := f7.same e8
        have hd8 := hd7.same e8
        refine ⟨_, rfl, _, rfl, _, _, rfl, rfl, _, rfl, ?_⟩
        dsimp only [tNoPart]
        refine sl_from (i := i + 1) (z := (i : Int) + 1) (by omega) f8.nn hd8 fun v9 H9 e9 hv9 => ?_
        have f9 := f8.same e9
        refine cat_dq f9.nn (hv8.same e9) hv9 (by rw [List.length_append, List.length_take, List.length_drop]; simp; omega) fun v10 H10 e10 hv10 => ?_
        refine ke v10 H10 _ ?_ ?_ hv10 ?_
        · exact ((((((Sb.of e1).trans sb2).trans sb3).trans (Sb.of e4)).trans sb6).trans (Sb.of (e7.trans e8))).trans (Sb.of (e9.trans e10))
        · exact (f9.same e10).mono (by omega)
        · refine bent_list (ds := ds) (fun d hd' => ?_) ?_
          · rcases List.mem_append.mp hd' with h | h
            · rcases List.mem_append.mp h with h | h
              · have := hi1 d (List.mem_of_mem_take h)
                exact ⟨fok_mono (Nat.le_succ M) _ this.1, by omega⟩
              · rw [List.mem_singleton.mp h]
                exact ⟨hF6.ok, hF6.dep⟩
            · have := hi1 d (List.mem_of_mem_drop h)
              exact ⟨fok_mono (Nat.le_succ M) _ this.1, by omega⟩
          · rw [fzAll_app, fzAll_app]
            have := hF6.sz
            simp only [fzAll]
            omega
  rintro σ' H1 ⟨sb1, f1, rfl⟩
  have hd1 := Dq.sb hd sb1
  refine ⟨_, rfl, a, s, _, n + 1, rfl, f1, by omega, by decide, by decide, fun rw H2 w0 w1 sb2 f2 => ?_⟩
  have hd2 := Dq.sb hd1 sb2
  have sb02 := sb1.trans sb2
  refine ⟨fun σ' H' => (isT d = false ∨ rw ≤ 1) ∧ H' = H2 ∧ σ' = [some (.ref a), some v, none, some (.int rw), none, none], ?_, ?_⟩
  · refine ⟨_, rfl, ?_⟩
    dsimp only [tCons, tC, tNil]
    refine isi_tuple hd2.dp ⟨_, rfl, ?_⟩
    rcases tup_or d with hT | ⟨ds, rfl⟩
    · rw [hT]
      exact iteF ⟨Or.inl rfl, rfl, rfl⟩
    · refine iteT ?_
      refine ⟨_, rfl, _, _, rfl, rfl, _, rfl, ?_⟩
      refine ite2 (fun hgt => ?_) (fun hle => ⟨Or.inr ?_, rfl, rfl⟩)
      · have hgt := of_decide_eq_true hgt
        cases kd with
        | zero =>
          have := hF.dep
          simp only [PyData.depth] at this
          omega
        | succ kd =>
        obtain ⟨hi1, hs1⟩ := (fn_tup (k := kd)).mp hF
        have hlen := fzAll_len ds
        refine ⟨_, rfl, _, rfl, ?_⟩
        try dsimp only [tC, tNil]
        refine len_dp hd2.dp ?_
        refine ⟨_, _, rfl, rfl, a, s, _, n + 2, rfl, f2, by omega, by omega, by omega, fun ri H3 i0 i1 sb3 f3 => ?_⟩
        obtain ⟨i, rfl⟩ := Int.eq_ofNat_of_zero_le i0
        have hi : i ≤ ds.length := by omega
        have hd3 := Dq.sb hd2 sb3
        refine ⟨_, rfl, rfl, _, rfl, ?_⟩
        refine ite2 (fun _ => ?_) (fun _ => ?_)
        · refine ⟨_, rfl, a, s, n + 3, rfl, f3, by omega, fun x H4 dm sb4 f4 hx hFx => ?_⟩
          have hd4 := Dq.sb hd3 sb4

          refine ⟨_, rfl, _, rfl, _, rfl, ?_⟩
          refine sl_to (i := i) rfl f4.nn hd4 fun v5 H5 e5 hv5 => ?_
          have f5 := f4.same e5
          refine ⟨_, rfl, by show 1 ≤ sizeLine; decide, fun p6 np6 => ?_⟩
          obtain ⟨H6, xH6, e6, h6⟩ := tupQ (K := K) f5.nn np6 (.cons (hx.same e5) .nil)
          rw [xH6]
          have f6 := f5.same e6
          refine cat_dq f6.nn (hv5.same e6) h6 (by rw [List.length_take]; simp; omega) fun v7 H7 e7 hv7 => ?_
          have f7 := f6.same e7
          have hd7 := hd4.same ((e5.trans e6).trans e7)
          refine ⟨_, rfl, _, rfl, _, rfl, ?_⟩
          dsimp only [tNoPart]
          refine sl_from (i := i) rfl f7.nn hd7 fun v8 H8 e8 hv8 => ?_
          have f8 := f7.same e8
          refine cat_dq f8.nn (hv7.same e8) hv8 (by rw [List.length_append, List.length_take, List.length_drop]; simp; omega) fun v9 H9 e9 hv9 => ?_
          have f9 := f8.same e9
          have hd9 := hd7.same (e8.trans e9)
          refine ⟨_, rfl, _, rfl, _, rfl, ?_⟩
          refine sl_to (i := i) rfl f9.nn hd9 fun v10 H10 e10 hv10 => ?_
          have f10 := f9.same e10
          refine ⟨_, rfl, _, rfl, _, _, rfl, rfl, _, rfl, ?_⟩
          dsimp only [tNoPart]
          refine sl_from (i := i + 1) (z := (i : Int) + 1) (by omega) f10.nn (hd9.same e10) fun v11 H11 e11 hv11 => ?_
          have f11 := f10.same e11
          refine cat_dq f11.nn (hv10.same e11) hv11 (by rw [List.length_take, List.length_drop]; omega) fun v12 H12 e12 hv12 => ?_
          have f12 := f11.same e12
          have e912 := (e10.trans e11).trans e12
          have hd12 := hd9.same e912
          refine ⟨_, rfl, _, rfl, _, _, rfl, rfl, _, rfl, ?_⟩
          refine sl_to (i := i + 1) (z := (i : Int) + 1) (by omega) f12.nn hd12 fun v13 H13 e13 hv13 => ?_
          have f13 := f12.same e13
          refine ⟨_, rfl, _, rfl, _, rfl, ?_⟩
          dsimp only [tNoPart]
          refine sl_from (i := i) rfl f13.nn (hd12.same e13) fun v14 H14 e14 hv14 => ?_
          have f14 := f13.same e14
          refine cat_dq f14.nn (hv13.same e14) hv14 (by rw [List.length_take, List.length_drop]; omega) fun v15 H15 e15 hv15 => ?_
          have f15 := f14.same e15
          have e1215 := (e13.trans e14).trans e15
          refine ⟨by show 3 ≤ sizeLine; decide, fun p16 np16 => ?_⟩
          obtain ⟨H16, xH16, e16, h16, n16, h16'⟩ := lstQ (K := K) f15.nn np16 (.cons (hv9.same (e912.trans e1215)) (.cons (hv12.same e1215) (.cons hv15 .nil)))
          rw [xH16]
          have f16 := f15.same e16
          have hd16 := hd12.same (e1215.trans e16)
          obtain ⟨b17, xs17, rfl, hs17, ha17⟩ := dp_tup hd16
          refine ⟨_, rfl, _, rfl, b17, xs17, rfl, sqt_same hid_le hs17, fun p17 np17 => ?_⟩
          obtain ⟨H17, xH17, e17, hv17⟩ := tupQ (K := K) f16.nn np17 (dpa_reverse _ _ ha17)
          rw [xH17]
          have f17 := f16.same e17
          refine ⟨by show 1 ≤ sizeLine; decide, fun p18 np18 => ?_⟩
          obtain ⟨H18, xH18, e18, h18, n18, h18'⟩ := lstQ (K := K) f17.nn np18 (.cons hv17 .nil)
          rw [xH18]
          have f18 := f17.same e18
          refine ⟨p16, p18, _, _, rfl, rfl, (e17.trans e18) _ _ h16, h18, by show 4 ≤ sizeLine; decide, fun p19 np19 => ?_⟩
          obtain ⟨H19, xH19, e19, h19, n19, h19'⟩ := lstQ (K := K) f18.nn np19 (dpa_append _ _ _ _ (h16'.same (e17.trans e18)) h18')
          rw [xH19]
          obtain ⟨q, eq, hq⟩ : ∃ q : Nat, rw - 2 = (q : Int) ∧ q < 4 := ⟨(rw - 2).toNat, by omega, by omega⟩
          have h19' : DqAll K a H19 [v9, v12, v15, .ref p17] [PyData.tuple ((ds.take i ++ [dm]) ++ ds.drop i), .tuple (ds.take i ++ ds.drop (i + 1)), .tuple (ds.take (i + 1) ++ ds.drop i), .tuple ds.reverse] := h19'
          have four := bent_four (i := i) hi1 hs1 hFx hM
          generalize [PyData.tuple ((ds.take i ++ [dm]) ++ ds.drop i), .tuple (ds.take i ++ ds.drop (i + 1)), .tuple (ds.take (i + 1) ++ ds.drop i), .tuple ds.reverse] = L4 at h19' four
          have hl4 : L4.length = 4 := (dpa_len _ _ h19').symm
          have hq4 : q < L4.length := by omega
          obtain ⟨x20, hx20, dx20⟩ := dpa_at _ _ q _ h19' (List.getElem?_eq_getElem hq4)
          refine ⟨_, rfl, _, _, rfl, rfl, p19, _, _, x20, rfl, rfl, SqL.of h19, by rw [eq]; exact atI_nat hx20, ?_⟩
          refine ke x20 H19 _ ?_ ?_ dx20 (four _ (List.getElem_mem hq4))
          · exact (((sb02.trans sb3).trans sb4).trans (Sb.of (((((((e5.trans e6).trans e7).trans e8).trans e9).trans e912).trans e1215).trans ((e16.trans e17).trans (e18.trans e19)))))
          · exact ((f18.same e19)).mono (by omega)
        · have sb4 : Sb a H3 H3 := Sb.refl a H3
          obtain ⟨dm, edm⟩ : ∃ dm, dm = PyData.int 0 := ⟨_, rfl⟩
          have hx : Dq K a H3 (.int 0) dm := by rw [edm]; exact .int 0
          have hFx : Fn (10 ^ 40) 2 5 dm := by rw [edm]; exact ⟨by decide +kernel, by decide +kernel, by decide +kernel⟩
          have f4 := f3
          have hd4 := hd3

          refine ⟨_, rfl, _, rfl, _, rfl, ?_⟩
          refine sl_to (i := i) rfl f4.nn hd4 fun v5 H5 e5 hv5 => ?_
          have f5 := f4.same e5
          refine ⟨_, rfl, by show 1 ≤ sizeLine; decide, fun p6 np6 => ?_⟩
          obtain ⟨H6, xH6, e6, h6⟩ := tupQ (K := K) f5.nn np6 (.cons (hx.same e5) .nil)
          rw [xH6]
          have f6 := f5.same e6
          refine cat_dq f6.nn (hv5.same e6) h6 (by rw [List.length_take]; simp; omega) fun v7 H7 e7 hv7 => ?_
          have f7 := f6.same e7
          have hd7 := hd4.same ((e5.trans e6).trans e7)
          refine ⟨_, rfl, _, rfl, _, rfl, ?_⟩
          dsimp only [tNoPart]
          refine sl_from (i := i) rfl f7.nn hd7 fun v8 H8 e8 hv8 => ?_
          have f8 := f7.same e8
          refine cat_dq f8.nn (hv7.same e8) hv8 (by rw [List.length_append, List.length_take, List.length_drop]; simp; omega) fun v9 H9 e9 hv9 => ?_
          have f9 := f8.same e9
          have hd9 := hd7.same (e8.trans e9)
          refine ⟨_, rfl, _, rfl, _, rfl, ?_⟩
          refine sl_to (i := i) rfl f9.nn hd9 fun v10 H10 e10 hv10 => ?_
          have f10 := f9.same e10
          refine ⟨_, rfl, _, rfl, _, _, rfl, rfl, _, rfl, ?_⟩
          dsimp only [tNoPart]
          refine sl_from (i := i + 1) (z := (i : Int) + 1) (by omega) f10.nn (hd9.same e10) fun v11 H11 e11 hv11 => ?_
          have f11 := f10.same e11
          refine cat_dq f11.nn (hv10.same e11) hv11 (by rw [List.length_take, List.length_drop]; omega) fun v12 H12 e12 hv12 => ?_
          have f12 := f11.same e12
          have e912 := (e10.trans e11).trans e12
          have hd12 := hd9.same e912
          refine ⟨_, rfl, _, rfl, _, _, rfl, rfl, _, rfl, ?_⟩
          refine sl_to (i := i + 1) (z := (i : Int) + 1) (by omega) f12.nn hd12 fun v13 H13 e13 hv13 => ?_
          have f13 := f12.same e13
          refine ⟨_, rfl, _, rfl, _, rfl, ?_⟩
          dsimp only [tNoPart]
          refine sl_from (i := i) rfl f13.nn (hd12.same e13) fun v14 H14 e14 hv14 => ?_
          have f14 := f13.same e14
          refine cat_dq f14.nn (hv13.same e14) hv14 (by rw [List.length_take, List.length_drop]; omega) fun v15 H15 e15 hv15 => ?_
          have f15 := f14.same e15
          have e1215 := (e13.trans e14).trans e15
          refine ⟨by show 3 ≤ sizeLine; decide, fun p16 np16 => ?_⟩
          obtain ⟨H16, xH16, e16, h16, n16, h16'⟩ := lstQ (K := K) f15.nn np16 (.cons (hv9.same (e912.trans e1215)) (.cons (hv12.same e1215) (.cons hv15 .nil)))
          rw [xH16]
          have f16 := f15.same e16
          have hd16 := hd12.same (e1215.trans e16)
          obtain ⟨b17, xs17, rfl, hs17, ha17⟩ := dp_tup hd16
          refine ⟨_, rfl, _, rfl, b17, xs17, rfl, sqt_same hid_le hs17, fun p17 np17 => ?_⟩
          obtain ⟨H17, xH17, e17, hv17⟩ := tupQ (K := K) f16.nn np17 (dpa_reverse _ _ ha17)
          rw [xH17]
          have f17 := f16.same e17
          refine ⟨by show 1 ≤ sizeLine; decide, fun p18 np18 => ?_⟩
          obtain ⟨H18, xH18, e18, h18, n18, h18'⟩ := lstQ (K := K) f17.nn np18 (.cons hv17 .nil)
          rw [xH18]
          have f18 := f17.same e18
          refine ⟨p16, p18, _, _, rfl, rfl, (e17.trans e18) _ _ h16, h18, by show 4 ≤ sizeLine; decide, fun p19 np19 => ?_⟩
          obtain ⟨H19, xH19, e19, h19, n19, h19'⟩ := lstQ (K := K) f18.nn np19 (dpa_append _ _ _ _ (h16'.same (e17.trans e18)) h18')
          rw [xH19]
          obtain ⟨q, eq, hq⟩ : ∃ q : Nat, rw - 2 = (q : Int) ∧ q < 4 := ⟨(rw - 2).toNat, by omega, by omega⟩
          have h19' : DqAll K a H19 [v9, v12, v15, .ref p17] [PyData.tuple ((ds.take i ++ [dm]) ++ ds.drop i), .tuple (ds.take i ++ ds.drop (i + 1)), .tuple (ds.take (i + 1) ++ ds.drop i), .tuple ds.reverse] := h19'
          have four := bent_four (i := i) hi1 hs1 hFx hM
          generalize [PyData.tuple ((ds.take i ++ [dm]) ++ ds.drop i), .tuple (ds.take i ++ ds.drop (i + 1)), .tuple (ds.take (i + 1) ++ ds.drop i), .tuple ds.reverse] = L4 at h19' four
          have hl4 : L4.length = 4 := (dpa_len _ _ h19').symm
          have hq4 : q < L4.length := by omega
          obtain ⟨x20, hx20, dx20⟩ := dpa_at _ _ q _ h19' (List.getElem?_eq_getElem hq4)
          refine ⟨_, rfl, _, _, rfl, rfl, p19, _, _, x20, rfl, rfl, SqL.of h19, by rw [eq]; exact atI_nat hx20, ?_⟩
          refine ke x20 H19 _ ?_ ?_ dx20 (four _ (List.getElem_mem hq4))
          · exact (((sb02.trans sb3).trans sb4).trans (Sb.of (((((((e5.trans e6).trans e7).trans e8).trans e9).trans e912).trans e1215).trans ((e16.trans e17).trans (e18.trans e19)))))
          · exact ((f18.same e19)).mono (by omega)
      · have : ¬ (1 : Int) < rw := fun z => hle (decide_eq_true z)
        omega
  rintro σ' H' ⟨hcase, rfl, rfl⟩
  refine ⟨fun σ' H2 => (isT d = false ∨ rw = 0) ∧ H2 = H' ∧ σ' = [some (.ref a), some v, none, some (.int rw), none, none], ?_, ?_⟩
  · refine ⟨_, rfl, ?_⟩
    dsimp only [tCons, tC, tNil]
    refine isi_tuple hd2.dp ⟨_, rfl, ?_⟩
    rcases tup_or d with hT | ⟨ds, rfl⟩
    · rw [hT]
      exact iteF ⟨Or.inl rfl, rfl, rfl⟩
    · have hle : rw ≤ 1 := by
        rcases hcase with h | h
        · cases h
        · exact h
      refine iteT ?_
      refine ⟨_, rfl, rfl, _, rfl, ?_⟩
      refine ite2 (fun heq => ?_) (fun hne => ⟨Or.inr ?_, rfl, rfl⟩)
      · refine ⟨_, rfl, ?_⟩
        try dsimp only [tC, tNil]
        refine listT_dq f2.nn hd2 fun l H3 nl e3 hl3 => ?_
        refine ke _ H3 _ (sb02.trans (Sb.of e3)) ((f2.same e3).mono (by omega)) hl3 ?_
        exact fn_lst (hF.mono (by omega) (by omega) (by omega))
      · have : ¬ rw = 1 := fun z => hne (decide_eq_true (by rw [z]))
        omega
  rintro σ' H2 ⟨hcase2, rfl, rfl⟩
  refine ⟨fun σ' H3 => H3 = H2 ∧ σ' = [some (.ref a), some v, none, some (.int rw), none, none], ?_, ?_⟩
  · refine ⟨_, rfl, ?_⟩
    dsimp only [tCons, tC, tNil]
    refine isi_int hd2.dp ⟨_, rfl, ?_⟩
    by_cases hnum : isNum d = true
    · obtain ⟨z, rfl⟩ : ∃ i, d = PyData.int i := by
        cases d <;> first | exact ⟨_, rfl⟩ | cases hnum
      have ev := dp_int hd2
      subst ev
      refine iteT ?_
      refine ⟨_, rfl, ?_⟩
      dsimp only [tCons, tC, tNil]
      refine isi_bool hd2.dp ⟨_, rfl, iteT ?_⟩
      refine ⟨_, rfl, _, _, rfl, rfl, _, rfl, ?_⟩
      refine ite2 (fun hgt => ?_) (fun _ => ⟨rfl, rfl⟩)
      have hgt := of_decide_eq_true hgt
      have hzM : z.natAbs ≤ M := by
        have := hF.ok
        simpa only [fok, decide_eq_true_eq] using this
      have hlog : z.natAbs.log2 < 1920 := by
        have h1 : z.natAbs < 2 ^ 1900 := by omega
        have := PySem.Flt.log2_lt_of (by decide) h1
        omega
      refine ⟨_, rfl, _, _, rfl, rfl, _, rfl, _, _, rfl, rfl, _, rfl, _, rfl, _, rfl, rfl, _, rfl, z, rfl, hlog, ?_⟩
      refine ⟨by show 5 ≤ sizeLine; decide, fun p3 np3 => ?_⟩
      have five := bent_five (k := kd) (m := m) (b := decide (V.int z = V.int 1)) hzM hM2
      obtain ⟨H3, xH3, e3, h3, n3, h3'⟩ := lstQ (K := K) f2.nn np3 (.cons (.int (z + 1)) (.cons (.int (z - 1)) (.cons (.int (-z)) (.cons (.bl (decide (V.int z = V.int 1))) (.cons (.str (toString z)) .nil)))))
      rw [xH3]
      generalize [PyData.int (z + 1), .int (z - 1), .int (-z), .bool (decide (V.int z = V.int 1)), .str (toString z)] = L5 at h3' five
      have hl5 : L5.length = 5 := (dpa_len _ _ h3').symm
      obtain ⟨q, eq, hq⟩ : ∃ q : Nat, rw - 1 = (q : Int) ∧ q < 5 := ⟨(rw - 1).toNat, by omega, by omega⟩
      have hq5 : q < L5.length := by omega
      obtain ⟨x4, hx4, dx4⟩ := dpa_at _ _ q _ h3' (List.getElem?_eq_getElem hq5)
      refine ⟨_, rfl, _, _, rfl, rfl, p3, _, _, x4, rfl, rfl, SqL.of h3, by rw [eq]; exact atI_nat hx4, ?_⟩
      exact ke x4 H3 _ (sb02.trans (Sb.of e3)) ((f2.same e3).mono (by omega)) dx4 (five _ (List.getElem_mem hq5))
    · cases d with
      | int i => exact absurd rfl hnum
      | bool b =>
        refine iteT ?_
        refine ⟨_, rfl, ?_⟩
        dsimp only [tCons, tC, tNil]
        exact isi_bool hd2.dp ⟨_, rfl, iteF ⟨rfl, rfl⟩⟩
      | none => exact iteF ⟨rfl, rfl⟩
      | str x => exact iteF ⟨rfl, rfl⟩
      | list ds => exact iteF ⟨rfl, rfl⟩
      | tuple ds => exact iteF ⟨rfl, rfl⟩
      | dict _ => cases hd2
  rintro σ' H3 ⟨rfl, rfl⟩
  refine ⟨_, rfl, a, s, n + 2, rfl, f2, by omega, fun x H4 d4 sb4 f4 hx hFx => ?_⟩
  exact ke x H4 d4 (sb02.trans sb4) (f4.mono (by omega)) hx (hodd _ hFx)
theorem bent_at (D : Df K mg "_law_bent" s_l_bent) (B : Bn mg) (h_l_draw : Has P w K mg base "_law_draw" 1 p_l_draw spDraw)
    (h_l_odd : Has P w K mg base "_law_odd" 2 p_l_odd (spOdd K)) : ∀ k : Nat, Has P w K mg base "_law_bent" (k + 2) p_l_bent (spB K k)
  | 0 => has_of (k := 1) D sc_l_bent bn_l_bent (fun _ _ _ _ h => h.elim) (fun _ _ _ _ _ _ _ _ _ _ h => h.elim)
  | k + 1 => bent_step (by omega) D B h_l_draw h_l_odd (bent_at D B h_l_draw h_l_odd k)
theorem ok_l_bent (D : Df K mg "_law_bent" s_l_bent) (B : Bn mg) (h_l_draw : Has P w K mg base "_law_draw" 1 p_l_draw spDraw)
    (h_l_odd : Has P w K mg base "_law_odd" 2 p_l_odd (spOdd K)) : Has P w K mg base "_law_bent" 8 p_l_bent (spBent K 5) := bent_at D B h_l_draw h_l_odd 6

end K04

set_option Elab.async false
set_option linter.all false
set_option maxRecDepth 100000
set_option maxHeartbeats 1000000
namespace K04
open PySem PySem.Spec PyProof.Rows L2 Gd
variable {P : Program} {w : World} {K : PySem.W.Frag} {mg : Str → Option Value} {base : Heap}
def spVast (K : PySem.W.Frag) (k : Nat) : Sp := fun vs H Q _ => ∃ (v : V) (d : PyData) (M m : Nat), vs = [v] ∧ Dp K H v d ∧ Fn M k m d ∧ M < 2 ^ 1900 ∧ m ≤ 8000 ∧ k ≤ 40 ∧ ∀ b H', Same H H' → Q (.bl b) H'
def spV (K : PySem.W.Frag) : Nat → Sp
  | 0 => fun _ _ _ _ => False
  | k + 1 => spVast K k
theorem vast_step {j k : Nat} (D : Df K mg "_law_is_vast" s_l_is_vast) (B : Bn mg) (h_l_is_vast : Has P w K mg base "_law_is_vast" j p_l_is_vast (spV K k)) :
    Has P w K mg base "_law_is_vast" (j + 1) p_l_is_vast (spV K (k + 1)) := by
  refine has_of (k := j) D sc_l_is_vast bn_l_is_vast ?_ ?_
  · rintro vs H Q E ⟨v, d, M, m, rfl, _⟩
    rfl
  rintro f cdv A outer s0 H vs Q E hr ⟨v, d, M, m, rfl, hd, hF, hM, hm, hk, ke⟩
  refine ⟨_, (pss_cons (ps_if (pt_not (pt_val (pe_callB (call_isiK (K := K) (by rfl)) (by rfl) B.isinstance_ (by decide +kernel) (pa_cons (pv 0) (pa_cons (pe_bltn (v := .ty "tuple") (u := .type "tuple") (by rfl) B.tuple_ (by decide +kernel) rfl) pa_nil))))) (pss_one (ps_ret pe_bl)) pss_nil)
      (Evl.pss_cut (ps_if (PW.pt (pw_and (pt_cmpR op_eq (pe_callB (call_lenK (K := K) (by rfl)) (by rfl) B.len_ (by decide +kernel) (pa_cons (pv 0) pa_nil)) pe_int (nomark _)) (pw_and (pt_val (pe_callB (call_isiK (K := K) (by rfl)) (by rfl) B.isinstance_ (by decide +kernel) (pa_cons (pe_ix (ix_tupK (K := K) (by rfl)) (pv 0) pe_int (fun _ _ => rfl)) (pa_cons (pe_bltn (v := .ty "int") (u := .type "int") (by rfl) B.int_ (by decide +kernel) rfl) pa_nil)))) (pw_and (pt_cmpR op_gtN (pe_ix (ix_tupK (K := K) (by rfl)) (pv 0) pe_int (fun _ _ => rfl)) pe_int (nomark _)) (pw_and1 (pt_cmpR (op_eqK (K := K) (by rfl) hr.units) (pe_ix (ix_tupK (K := K) (by rfl)) (pv 0) pe_int (fun _ _ => rfl)) (pe_tup pa_nil) (nomark _))))))) (pss_one (ps_ret pe_bl)) pss_nil)
      (pss_one (ps_ret (pe_callB (call_anyK (K := K) (by rfl) (by rfl)) (by rfl) B.any_ (by decide +kernel) (pa_cons (pe_lc (own := [("_law_one", 1)]) rfl sc_l_is_vast.nd (pi_tupK (K := K) (by rfl) (pv 0)) (blkOk_by (own := [("_law_one", 1)]) (N := n_l_is_vast) (sc := defScope s_l_is_vast) (by decide +kernel)) (fun _ _ _ _ _ => (pg_name (i := 1) sc_l_is_vast.nd rfl (by first | exact Or.inl rfl | exact Or.inr rfl))) (fun _ _ _ _ _ => pts_nil) (fun _ _ _ _ _ => (pe_has (h_l_is_vast) (hr.mono (by first | decide | omega)) (by rfl) (pa_cons (pv 1) pa_nil)))) pa_nil)))))), ?_⟩
  refine ⟨_, rfl, ?_⟩
  dsimp only [tCons, tC, tNil]
  refine isi_tuple hd ⟨_, rfl, ?_⟩
  rcases tup_or d with hT | ⟨ds, rfl⟩
  · rw [hT]
    exact iteT (ke _ _ (Same.refl H))
  refine iteF ?_
  cases k with
  | zero =>
    have := hF.dep
    simp only [PyData.depth] at this
    omega
  | succ k =>
  obtain ⟨hi1, hs1⟩ := (fn_tup (k := k)).mp hF
  have hlen := fzAll_len ds
  obtain ⟨a, xs, rfl, hs, ha⟩ := dp_tup hd
  have hl := dpa_len _ _ ha
  refine ⟨fun σ' H' => Same H H' ∧ σ' = [some (.ref a), none], ?_, ?_⟩
  · refine ⟨_, rfl, a, _, rfl, .inr hs, rfl, _, rfl, ?_⟩
    refine ite2 (fun he => ?_) (fun _ => ⟨Same.refl H, rfl⟩)
    have he : ds.length = 2 := by
      have := V.int.inj (of_decide_eq_true he)
      omega
    obtain ⟨d0, d1, rfl⟩ := two_of he
    obtain ⟨x0, t0, rfl, q0, ha⟩ := dpa_cons ha
    obtain ⟨x1, t1, rfl, q1, ha⟩ := dpa_cons ha
    have et := dpa_nil ha
    subst et
    refine ⟨_, rfl, a, _, 0, _, rfl, rfl, hs, rfl, ?_⟩
    dsimp only [tCons, tC, tNil]
    refine isi_int q0 ⟨_, rfl, ?_⟩
    have go : ∀ (D' : Ends), D'.rt = Q → D'.nx [some (.ref a), none] = D'.nx [some (.ref a), none] → True := fun _ _ _ => trivial
    have fin : (b : Bool) → ∀ (G1 G2 : Prop), G1 → G2 → if b = true then G1 else G2 := fun b G1 G2 h1 h2 => by
      cases b with
      | true => exact iteT h1
      | false => exact iteF h2
    have last : ∀ (R : Bool → Hp → Prop), (∀ b H2, Same H H2 → R b H2) → ∀ p, H p = none → rEqD K x1 (.ref p) (upd H p (.tup [])) fun x H1 => ∃ c, x = V.bl c ∧ R c H1 := by
      intro R hR p np
      have e1 := Same.new (o := .tup []) np
      have hF1 : Fn M (k + 1) m d1 := ⟨(hi1 d1 (by simp)).1, by have := (hi1 d1 (by simp)).2; omega, by
        have := fzAll_mem (show d1 ∈ [d0, d1] by simp)
        omega⟩
      exact ⟨d1, .tuple [], Dp.same e1 _ _ q1, .tup (SqT.of upd_same) .nil, hF1.shaped hM (by omega), by decide, _, rfl, hR _ _ e1⟩
    cases d0 with
    | int i =>
      cases q0
      refine iteT ?_
      refine ⟨_, rfl, a, _, 0, _, rfl, rfl, hs, rfl, .inl ⟨_, _, rfl, rfl, _, rfl, ?_⟩⟩
      refine ite2 (fun _ => ?_) (fun _ => ⟨Same.refl H, rfl⟩)
      refine ⟨_, rfl, a, _, 1, _, rfl, rfl, hs, rfl, by show 0 ≤ sizeLine; decide, fun p np => ?_⟩
      refine last _ (fun b H2 e2 => ?_) p np
      exact fin b _ _ (ke _ _ e2) ⟨e2, rfl⟩
    | bool b =>
      cases q0
      refine iteT ?_
      refine ⟨_, rfl, a, _, 0, _, rfl, rfl, hs, rfl, .inr ⟨_, _, rfl, rfl, _, rfl, ?_⟩⟩
      refine ite2 (fun _ => ?_) (fun _ => ⟨Same.refl H, rfl⟩)
      refine ⟨_, rfl, a, _, 1, _, rfl, rfl, hs, rfl, by show 0 ≤ sizeLine; decide, fun p np => ?_⟩
      refine last _ (fun b H2 e2 => ?_) p np
      exact fin b _ _ (ke _ _ e2) ⟨e2, rfl⟩
    | none => exact iteF ⟨Same.refl H, rfl⟩
    | str x => exact iteF ⟨Same.refl H, rfl⟩
    | list ds => exact iteF ⟨Same.refl H, rfl⟩
    | tuple ds => exact iteF ⟨Same.refl H, rfl⟩
    | dict _ => cases q0
  · rintro σ' H1 ⟨e1, rfl⟩
    have hs1' := sqt_same e1 hs
    refine ⟨_, rfl, a, rfl, ⟨_, hs1'⟩, fun D1 hD1 => ?_⟩
    refine lctB (K := K) (j := 1) hD1 hs1' (by omega) (fun _ => rfl) ?_ ?_
    · intro i x H2 Q2 hx e2 k2
      obtain ⟨d, hd1, hd2⟩ := dpa_get _ _ i x ha hx
      have hmem := List.mem_of_getElem? hd1
      have := fzAll_mem hmem
      exact ⟨_, rfl, x, d, M, m, rfl, Dp.same (e1.trans e2) _ _ hd2, ⟨(hi1 d hmem).1, (hi1 d hmem).2, by omega⟩, hM, hm, by omega, fun b H3 e3 => k2 b H3 e3⟩
    · intro H2 bs e2 h2
      exact ⟨D1, bs, rfl, SqL.of h2, ke _ _ (e1.trans e2)⟩
theorem vast_at (D : Df K mg "_law_is_vast" s_l_is_vast) (B : Bn mg) : ∀ k : Nat, Has P w K mg base "_law_is_vast" (k + 1) p_l_is_vast (spV K k)
  | 0 => has_of (k := 0) D sc_l_is_vast bn_l_is_vast (fun _ _ _ _ h => h.elim) (fun _ _ _ _ _ _ _ _ _ _ h => h.elim)
  | k + 1 => vast_step D B (vast_at D B k)
theorem ok_l_is_vast (D : Df K mg "_law_is_vast" s_l_is_vast) (B : Bn mg) : Has P w K mg base "_law_is_vast" 22 p_l_is_vast (spVast K 20) := vast_at D B 21

end K04

set_option Elab.async false
set_option linter.all false
set_option maxRecDepth 100000
set_option maxHeartbeats 1000000
namespace K04
open PySem PySem.Spec PyProof.Rows L2 Gd
variable {P : Program} {w : World} {K : PySem.W.Frag} {mg : Str → Option Value} {base : Heap}
def hand1 : List PyData := [.tuple [.int 0, .tuple []], .tuple [.int 0, .tuple [.tuple [], .tuple []]], .tuple [.int 2, .tuple []], .tuple [.int 1, .tuple [.tuple [.int 1]]], .tuple [.int 2, .tuple [.tuple [.int 1, .int 0], .tuple [.int 0, .int 1]]], .tuple [.int 2, .tuple [.tuple [.int 1, .int 0], .tuple [.int 0, .bool true]]], .tuple [.int 0, .tuple [.tuple []]]]
def hand2 : List PyData := [.tuple [.bool true, .tuple [.tuple [.int 1]]], .tuple [.bool false, .tuple []], .tuple [.int 1, .list [.tuple [.int 1]]], .tuple [.int 1, .tuple [.list [.int 1]]], .tuple [.int (-1), .tuple []], .tuple [.int 1, .tuple [.tuple [.int 1, .int 0]]], .tuple [.int 2, .tuple [.tuple [.int 1, .int 0]]]]
def hand3 : List PyData := [.tuple [.int 2, .tuple [.tuple [.int 1, .int 0], .tuple [.int 0, .int 1], .tuple [.int 0, .int 0]]], .list [.int 1, .tuple [.tuple [.int 1]]], .tuple [.int 1, .tuple [.tuple [.int 1]], .tuple []], .tuple [.int 1], .none, .tuple [], .str "table", .int 0, .bool true]
def hand4 : List PyData := [.tuple [.int 2, .tuple [.tuple [.int 0, .int 1], .tuple [.int 1, .int 0]]], .tuple [.int 2, .tuple [.tuple [.int 1, .int 0], .tuple [.int 1, .int 1]]], .tuple [.int 1, .tuple [.tuple [.int (10 ^ Int.toNat 60)]]], .tuple [.int 1, .tuple [.tuple [.str "1"]]], .tuple [.str "1", .tuple [.tuple [.int 1]]]]
def handL : List PyData := ((hand1 ++ hand2) ++ hand3) ++ hand4
theorem hand1_fine : ∀ d ∈ hand1, Fine d := by
  intro d hd
  simp only [hand1, List.mem_cons, List.not_mem_nil, or_false] at hd
  rcases hd with rfl | rfl | rfl | rfl | rfl | rfl | rfl <;> exact ⟨by decide +kernel, by decide +kernel, by decide +kernel⟩
theorem hand2_fine : ∀ d ∈ hand2, Fine d := by
  intro d hd
  simp only [hand2, List.mem_cons, List.not_mem_nil, or_false] at hd
  rcases hd with rfl | rfl | rfl | rfl | rfl | rfl | rfl <;> exact ⟨by decide +kernel, by decide +kernel, by decide +kernel⟩
theorem hand3_fine : ∀ d ∈ hand3, Fine d := by
  intro d hd
  simp only [hand3, List.mem_cons, List.not_mem_nil, or_false] at hd
  rcases hd with rfl | rfl | rfl | rfl | rfl | rfl | rfl | rfl | rfl <;> exact ⟨by decide +kernel, by decide +kernel, by decide +kernel⟩
theorem hand4_fine : ∀ d ∈ hand4, Fine d := by
  intro d hd
  simp only [hand4, List.mem_cons, List.not_mem_nil, or_false] at hd
  rcases hd with rfl | rfl | rfl | rfl | rfl <;> exact ⟨by decide +kernel, by decide +kernel, by decide +kernel⟩
theorem hand_fine : ∀ d ∈ handL, Fine d := by
  intro d hd
  rcases List.mem_append.mp hd with h | h
  · rcases List.mem_append.mp h with h | h
    · rcases List.mem_append.mp h with h | h
      · exact hand1_fine d h
      · exact hand2_fine d h
    · exact hand3_fine d h
  · exact hand4_fine d h
def spHand (K : PySem.W.Frag) : Sp := fun vs H Q _ => ∃ a : Addr, vs = [] ∧ H a ≠ none ∧ ∀ (l : Addr) (H' : Hp) (xs : List V), Same H H' → H' l = some (.lst xs) → l ≠ a → DqAll K a H' xs handL → Q (.ref l) H'
theorem ok_l_by_hand (D : Df K mg "_law_by_hand" s_l_by_hand) (B : Bn mg) : Has P w K mg base "_law_by_hand" 1 p_l_by_hand (spHand K) := by
  refine has_of (k := 0) D sc_l_by_hand bn_l_by_hand ?_ ?_
  · rintro vs H Q E ⟨a, rfl, _⟩
    rfl
  rintro f cdv A outer s0 H0 vs Q E hr ⟨a, rfl, na0, k⟩
  refine ⟨_, (pss_cons (ps_asg (pe_lst (pa_cons (pe_tup (pa_cons pe_int (pa_cons (pe_tup pa_nil) pa_nil))) (pa_cons (pe_tup (pa_cons pe_int (pa_cons (pe_tup (pa_cons (pe_tup pa_nil) (pa_cons (pe_tup pa_nil) pa_nil))) pa_nil))) (pa_cons (pe_tup (pa_cons pe_int (pa_cons (pe_tup pa_nil) pa_nil))) (pa_cons (pe_tup (pa_cons pe_int (pa_cons (pe_tup (pa_cons (pe_tup (pa_cons pe_int pa_nil)) pa_nil)) pa_nil))) (pa_cons (pe_tup (pa_cons pe_int (pa_cons (pe_tup (pa_cons (pe_tup (pa_cons pe_int (pa_cons pe_int pa_nil))) (pa_cons (pe_tup (pa_cons pe_int (pa_cons pe_int pa_nil))) pa_nil))) pa_nil))) (pa_cons (pe_tup (pa_cons pe_int (pa_cons (pe_tup (pa_cons (pe_tup (pa_cons pe_int (pa_cons pe_int pa_nil))) (pa_cons (pe_tup (pa_cons pe_int (pa_cons pe_bl pa_nil))) pa_nil))) pa_nil))) (pa_cons (pe_tup (pa_cons pe_int (pa_cons (pe_tup (pa_cons (pe_tup pa_nil) pa_nil)) pa_nil))) pa_nil)))))))) (pg_name (i := 0) sc_l_by_hand.nd rfl (by first | exact Or.inl rfl | exact Or.inr rfl)))
      (pss_cons (ps_asg (pe_op op_cat (pv 0) (pe_lst (pa_cons (pe_tup (pa_cons pe_bl (pa_cons (pe_tup (pa_cons (pe_tup (pa_cons pe_int pa_nil)) pa_nil)) pa_nil))) (pa_cons (pe_tup (pa_cons pe_bl (pa_cons (pe_tup pa_nil) pa_nil))) (pa_cons (pe_tup (pa_cons pe_int (pa_cons (pe_lst (pa_cons (pe_tup (pa_cons pe_int pa_nil)) pa_nil)) pa_nil))) (pa_cons (pe_tup (pa_cons pe_int (pa_cons (pe_tup (pa_cons (pe_lst (pa_cons pe_int pa_nil)) pa_nil)) pa_nil))) (pa_cons (pe_tup (pa_cons (pe_un un_neg pe_int) (pa_cons (pe_tup pa_nil) pa_nil))) (pa_cons (pe_tup (pa_cons pe_int (pa_cons (pe_tup (pa_cons (pe_tup (pa_cons pe_int (pa_cons pe_int pa_nil))) pa_nil)) pa_nil))) (pa_cons (pe_tup (pa_cons pe_int (pa_cons (pe_tup (pa_cons (pe_tup (pa_cons pe_int (pa_cons pe_int pa_nil))) pa_nil)) pa_nil))) pa_nil))))))))) (pg_name (i := 0) sc_l_by_hand.nd rfl (by first | exact Or.inl rfl | exact Or.inr rfl)))
      (pss_cons (ps_asg (pe_op op_cat (pv 0) (pe_lst (pa_cons (pe_tup (pa_cons pe_int (pa_cons (pe_tup (pa_cons (pe_tup (pa_cons pe_int (pa_cons pe_int pa_nil))) (pa_cons (pe_tup (pa_cons pe_int (pa_cons pe_int pa_nil))) (pa_cons (pe_tup (pa_cons pe_int (pa_cons pe_int pa_nil))) pa_nil)))) pa_nil))) (pa_cons (pe_lst (pa_cons pe_int (pa_cons (pe_tup (pa_cons (pe_tup (pa_cons pe_int pa_nil)) pa_nil)) pa_nil))) (pa_cons (pe_tup (pa_cons pe_int (pa_cons (pe_tup (pa_cons (pe_tup (pa_cons pe_int pa_nil)) pa_nil)) (pa_cons (pe_tup pa_nil) pa_nil)))) (pa_cons (pe_tup (pa_cons pe_int pa_nil)) (pa_cons pe_non (pa_cons (pe_tup pa_nil) (pa_cons pe_str (pa_cons pe_int (pa_cons pe_bl pa_nil))))))))))) (pg_name (i := 0) sc_l_by_hand.nd rfl (by first | exact Or.inl rfl | exact Or.inr rfl)))
      (pss_one (ps_ret (pe_op op_cat (pv 0) (pe_lst (pa_cons (pe_tup (pa_cons pe_int (pa_cons (pe_tup (pa_cons (pe_tup (pa_cons pe_int (pa_cons pe_int pa_nil))) (pa_cons (pe_tup (pa_cons pe_int (pa_cons pe_int pa_nil))) pa_nil))) pa_nil))) (pa_cons (pe_tup (pa_cons pe_int (pa_cons (pe_tup (pa_cons (pe_tup (pa_cons pe_int (pa_cons pe_int pa_nil))) (pa_cons (pe_tup (pa_cons pe_int (pa_cons pe_int pa_nil))) pa_nil))) pa_nil))) (pa_cons (pe_tup (pa_cons pe_int (pa_cons (pe_tup (pa_cons (pe_tup (pa_cons (pe_op op_pow pe_int pe_int) pa_nil)) pa_nil)) pa_nil))) (pa_cons (pe_tup (pa_cons pe_int (pa_cons (pe_tup (pa_cons (pe_tup (pa_cons pe_str pa_nil)) pa_nil)) pa_nil))) (pa_cons (pe_tup (pa_cons pe_str (pa_cons (pe_tup (pa_cons (pe_tup (pa_cons pe_int pa_nil)) pa_nil)) pa_nil))) pa_nil)))))))))))), ?_⟩
  refine ⟨by show 0 ≤ sizeLine; decide, fun p1 np1 => ?_⟩
  obtain ⟨H1, xH1, e1, h1⟩ := tupQ (K := K) na0 np1 .nil
  rw [xH1]
  have na1 := Gd.Same.nn e1 na0
  refine ⟨by show 2 ≤ sizeLine; decide, fun p2 np2 => ?_⟩
  obtain ⟨H2, xH2, e2, h2⟩ := tupQ (K := K) na1 np2 (.cons (.int _) (.cons h1 .nil))
  rw [xH2]
  have na2 := Gd.Same.nn e2 na1
  refine ⟨by show 0 ≤ sizeLine; decide, fun p3 np3 => ?_⟩
  obtain ⟨H3, xH3, e3, h3⟩ := tupQ (K := K) na2 np3 .nil
  rw [xH3]
  have na3 := Gd.Same.nn e3 na2
  refine ⟨by show 0 ≤ sizeLine; decide, fun p4 np4 => ?_⟩
  obtain ⟨H4, xH4, e4, h4⟩ := tupQ (K := K) na3 np4 .nil
  rw [xH4]
  have na4 := Gd.Same.nn e4 na3
  refine ⟨by show 2 ≤ sizeLine; decide, fun p5 np5 => ?_⟩
  obtain ⟨H5, xH5, e5, h5⟩ := tupQ (K := K) na4 np5 (.cons (h3.same e4) (.cons h4 .nil))
  rw [xH5]
  have na5 := Gd.Same.nn e5 na4
  refine ⟨by show 2 ≤ sizeLine; decide, fun p6 np6 => ?_⟩
  obtain ⟨H6, xH6, e6, h6⟩ := tupQ (K := K) na5 np6 (.cons (.int _) (.cons h5 .nil))
  rw [xH6]
  have na6 := Gd.Same.nn e6 na5
  refine ⟨by show 0 ≤ sizeLine; decide, fun p7 np7 => ?_⟩
  obtain ⟨H7, xH7, e7, h7⟩ := tupQ (K := K) na6 np7 .nil
  rw [xH7]
  have na7 := Gd.Same.nn e7 na6
  refine ⟨by show 2 ≤ sizeLine; decide, fun p8 np8 => ?_⟩
  obtain ⟨H8, xH8, e8, h8⟩ := tupQ (K := K) na7 np8 (.cons (.int _) (.cons h7 .nil))
  rw [xH8]
  have na8 := Gd.Same.nn e8 na7
  refine ⟨by show 1 ≤ sizeLine; decide, fun p9 np9 => ?_⟩
  obtain ⟨H9, xH9, e9, h9⟩ := tupQ (K := K) na8 np9 (.cons (.int _) .nil)
  rw [xH9]
  have na9 := Gd.Same.nn e9 na8
  refine ⟨by show 1 ≤ sizeLine; decide, fun p10 np10 => ?_⟩
  obtain ⟨H10, xH10, e10, h10⟩ := tupQ (K := K) na9 np10 (.cons h9 .nil)
  rw [xH10]
  have na10 := Gd.Same.nn e10 na9
  refine ⟨by show 2 ≤ sizeLine; decide, fun p11 np11 => ?_⟩
  obtain ⟨H11, xH11, e11, h11⟩ := tupQ (K := K) na10 np11 (.cons (.int _) (.cons h10 .nil))
  rw [xH11]
  have na11 := Gd.Same.nn e11 na10
  refine ⟨by show 2 ≤ sizeLine; decide, fun p12 np12 => ?_⟩
  obtain ⟨H12, xH12, e12, h12⟩ := tupQ (K := K) na11 np12 (.cons (.int _) (.cons (.int _) .nil))
  rw [xH12]
  have na12 := Gd.Same.nn e12 na11
  refine ⟨by show 2 ≤ sizeLine; decide, fun p13 np13 => ?_⟩
  obtain ⟨H13, xH13, e13, h13⟩ := tupQ (K := K) na12 np13 (.cons (.int _) (.cons (.int _) .nil))
  rw [xH13]
  have na13 := Gd.Same.nn e13 na12
  refine ⟨by show 2 ≤ sizeLine; decide, fun p14 np14 => ?_⟩
  obtain ⟨H14, xH14, e14, h14⟩ := tupQ (K := K) na13 np14 (.cons (h12.same e13) (.cons h13 .nil))
  rw [xH14]
  have na14 := Gd.Same.nn e14 na13
  refine ⟨by show 2 ≤ sizeLine; decide, fun p15 np15 => ?_⟩
  obtain ⟨H15, xH15, e15, h15⟩ := tupQ (K := K) na14 np15 (.cons (.int _) (.cons h14 .nil))
  rw [xH15]
  have na15 := Gd.Same.nn e15 na14
  refine ⟨by show 2 ≤ sizeLine; decide, fun p16 np16 => ?_⟩
  obtain ⟨H16, xH16, e16, h16⟩ := tupQ (K := K) na15 np16 (.cons (.int _) (.cons (.int _) .nil))
  rw [xH16]
  have na16 := Gd.Same.nn e16 na15
  refine ⟨by show 2 ≤ sizeLine; decide, fun p17 np17 => ?_⟩
  obtain ⟨H17, xH17, e17, h17⟩ := tupQ (K := K) na16 np17 (.cons (.int _) (.cons (.bl _) .nil))
  rw [xH17]
  have na17 := Gd.Same.nn e17 na16
  refine ⟨by show 2 ≤ sizeLine; decide, fun p18 np18 => ?_⟩
  obtain ⟨H18, xH18, e18, h18⟩ := tupQ (K := K) na17 np18 (.cons (h16.same e17) (.cons h17 .nil))
  rw [xH18]
  have na18 := Gd.Same.nn e18 na17
  refine ⟨by show 2 ≤ sizeLine; decide, fun p19 np19 => ?_⟩
  obtain ⟨H19, xH19, e19, h19⟩ := tupQ (K := K) na18 np19 (.cons (.int _) (.cons h18 .nil))
  rw [xH19]
  have na19 := Gd.Same.nn e19 na18
  refine ⟨by show 0 ≤ sizeLine; decide, fun p20 np20 => ?_⟩
  obtain ⟨H20, xH20, e20, h20⟩ := tupQ (K := K) na19 np20 .nil
  rw [xH20]
  have na20 := Gd.Same.nn e20 na19
  refine ⟨by show 1 ≤ sizeLine; decide, fun p21 np21 => ?_⟩
  obtain ⟨H21, xH21, e21, h21⟩ := tupQ (K := K) na20 np21 (.cons h20 .nil)
  rw [xH21]
  have na21 := Gd.Same.nn e21 na20
  refine ⟨by show 2 ≤ sizeLine; decide, fun p22 np22 => ?_⟩
  obtain ⟨H22, xH22, e22, h22⟩ := tupQ (K := K) na21 np22 (.cons (.int _) (.cons h21 .nil))
  rw [xH22]
  have na22 := Gd.Same.nn e22 na21
  refine ⟨by show 7 ≤ sizeLine; decide, fun p23 np23 => ?_⟩
  obtain ⟨H23, xH23, e23, g23, b23, l23⟩ := lstQ (K := K) na22 np23 (.cons (h2.same (((((((((((((((((((e3.trans e4).trans e5).trans e6).trans e7).trans e8).trans e9).trans e10).trans e11).trans e12).trans e13).trans e14).trans e15).trans e16).trans e17).trans e18).trans e19).trans e20).trans e21).trans e22)) (.cons (h6.same (((((((((((((((e7.trans e8).trans e9).trans e10).trans e11).trans e12).trans e13).trans e14).trans e15).trans e16).trans e17).trans e18).trans e19).trans e20).trans e21).trans e22)) (.cons (h8.same (((((((((((((e9.trans e10).trans e11).trans e12).trans e13).trans e14).trans e15).trans e16).trans e17).trans e18).trans e19).trans e20).trans e21).trans e22)) (.cons (h11.same ((((((((((e12.trans e13).trans e14).trans e15).trans e16).trans e17).trans e18).trans e19).trans e20).trans e21).trans e22)) (.cons (h15.same ((((((e16.trans e17).trans e18).trans e19).trans e20).trans e21).trans e22)) (.cons (h19.same ((e20.trans e21).trans e22)) (.cons h22 .nil)))))))
  rw [xH23]
  have na23 := Gd.Same.nn e23 na22
  have h23 : Dq K a H23 (.ref p23) (.list [.tuple [.int 0, .tuple []], .tuple [.int 0, .tuple [.tuple [], .tuple []]], .tuple [.int 2, .tuple []], .tuple [.int 1, .tuple [.tuple [.int 1]]], .tuple [.int 2, .tuple [.tuple [.int 1, .int 0], .tuple [.int 0, .int 1]]], .tuple [.int 2, .tuple [.tuple [.int 1, .int 0], .tuple [.int 0, .bool true]]], .tuple [.int 0, .tuple [.tuple []]]]) := Dq.lst g23 b23 l23
  refine ⟨_, rfl, ?_⟩
  refine ⟨by show 1 ≤ sizeLine; decide, fun p24 np24 => ?_⟩
  obtain ⟨H24, xH24, e24, h24⟩ := tupQ (K := K) na23 np24 (.cons (.int _) .nil)
  rw [xH24]
  have na24 := Gd.Same.nn e24 na23
  refine ⟨by show 1 ≤ sizeLine; decide, fun p25 np25 => ?_⟩
  obtain ⟨H25, xH25, e25, h25⟩ := tupQ (K := K) na24 np25 (.cons h24 .nil)
  rw [xH25]
  have na25 := Gd.Same.nn e25 na24
  refine ⟨by show 2 ≤ sizeLine; decide, fun p26 np26 => ?_⟩
  obtain ⟨H26, xH26, e26, h26⟩ := tupQ (K := K) na25 np26 (.cons (.bl _) (.cons h25 .nil))
  rw [xH26]
  have na26 := Gd.Same.nn e26 na25
  refine ⟨by show 0 ≤ sizeLine; decide, fun p27 np27 => ?_⟩
  obtain ⟨H27, xH27, e27, h27⟩ := tupQ (K := K) na26 np27 .nil
  rw [xH27]
  have na27 := Gd.Same.nn e27 na26
  refine ⟨by show 2 ≤ sizeLine; decide, fun p28 np28 => ?_⟩
  obtain ⟨H28, xH28, e28, h28⟩ := tupQ (K := K) na27 np28 (.cons (.bl _) (.cons h27 .nil))
  rw [xH28]
  have na28 := Gd.Same.nn e28 na27
  refine ⟨by show 1 ≤ sizeLine; decide, fun p29 np29 => ?_⟩
  obtain ⟨H29, xH29, e29, h29⟩ := tupQ (K := K) na28 np29 (.cons (.int _) .nil)
  rw [xH29]
  have na29 := Gd.Same.nn e29 na28
  refine ⟨by show 1 ≤ sizeLine; decide, fun p30 np30 => ?_⟩
  obtain ⟨H30, xH30, e30, g30, b30, l30⟩ := lstQ (K := K) na29 np30 (.cons h29 .nil)
  rw [xH30]
  have na30 := Gd.Same.nn e30 na29
  have h30 : Dq K a H30 (.ref p30) (.list [.tuple [.int 1]]) := Dq.lst g30 b30 l30
  refine ⟨by show 2 ≤ sizeLine; decide, fun p31 np31 => ?_⟩
  obtain ⟨H31, xH31, e31, h31⟩ := tupQ (K := K) na30 np31 (.cons (.int _) (.cons h30 .nil))
  rw [xH31]
  have na31 := Gd.Same.nn e31 na30
  refine ⟨by show 1 ≤ sizeLine; decide, fun p32 np32 => ?_⟩
  obtain ⟨H32, xH32, e32, g32, b32, l32⟩ := lstQ (K := K) na31 np32 (.cons (.int _) .nil)
  rw [xH32]
  have na32 := Gd.Same.nn e32 na31
  have h32 : Dq K a H32 (.ref p32) (.list [.int 1]) := Dq.lst g32 b32 l32
  refine ⟨by show 1 ≤ sizeLine; decide, fun p33 np33 => ?_⟩
  obtain ⟨H33, xH33, e33, h33⟩ := tupQ (K := K) na32 np33 (.cons h32 .nil)
  rw [xH33]
  have na33 := Gd.Same.nn e33 na32
  refine ⟨by show 2 ≤ sizeLine; decide, fun p34 np34 => ?_⟩
  obtain ⟨H34, xH34, e34, h34⟩ := tupQ (K := K) na33 np34 (.cons (.int _) (.cons h33 .nil))
  rw [xH34]
  have na34 := Gd.Same.nn e34 na33
  refine ⟨_, rfl, ?_⟩
  refine ⟨by show 0 ≤ sizeLine; decide, fun p35 np35 => ?_⟩
  obtain ⟨H35, xH35, e35, h35⟩ := tupQ (K := K) na34 np35 .nil
  rw [xH35]
  have na35 := Gd.Same.nn e35 na34
  refine ⟨by show 2 ≤ sizeLine; decide, fun p36 np36 => ?_⟩
  obtain ⟨H36, xH36, e36, h36⟩ := tupQ (K := K) na35 np36 (.cons (.int _) (.cons h35 .nil))
  rw [xH36]
  have na36 := Gd.Same.nn e36 na35
  refine ⟨by show 2 ≤ sizeLine; decide, fun p37 np37 => ?_⟩
  obtain ⟨H37, xH37, e37, h37⟩ := tupQ (K := K) na36 np37 (.cons (.int _) (.cons (.int _) .nil))
  rw [xH37]
  have na37 := Gd.Same.nn e37 na36
  refine ⟨by show 1 ≤ sizeLine; decide, fun p38 np38 => ?_⟩
  obtain ⟨H38, xH38, e38, h38⟩ := tupQ (K := K) na37 np38 (.cons h37 .nil)
  rw [xH38]
  have na38 := Gd.Same.nn e38 na37
  refine ⟨by show 2 ≤ sizeLine; decide, fun p39 np39 => ?_⟩
  obtain ⟨H39, xH39, e39, h39⟩ := tupQ (K := K) na38 np39 (.cons (.int _) (.cons h38 .nil))
  rw [xH39]
  have na39 := Gd.Same.nn e39 na38
  refine ⟨by show 2 ≤ sizeLine; decide, fun p40 np40 => ?_⟩
  obtain ⟨H40, xH40, e40, h40⟩ := tupQ (K := K) na39 np40 (.cons (.int _) (.cons (.int _) .nil))
  rw [xH40]
  have na40 := Gd.Same.nn e40 na39
  refine ⟨by show 1 ≤ sizeLine; decide, fun p41 np41 => ?_⟩
  obtain ⟨H41, xH41, e41, h41⟩ := tupQ (K := K) na40 np41 (.cons h40 .nil)
  rw [xH41]
  have na41 := Gd.Same.nn e41 na40
  refine ⟨by show 2 ≤ sizeLine; decide, fun p42 np42 => ?_⟩
  obtain ⟨H42, xH42, e42, h42⟩ := tupQ (K := K) na41 np42 (.cons (.int _) (.cons h41 .nil))
  rw [xH42]
  have na42 := Gd.Same.nn e42 na41
  refine ⟨by show 7 ≤ sizeLine; decide, fun p43 np43 => ?_⟩
  obtain ⟨H43, xH43, e43, g43, b43, l43⟩ := lstQ (K := K) na42 np43 (.cons (h26.same (((((((((((((((e27.trans e28).trans e29).trans e30).trans e31).trans e32).trans e33).trans e34).trans e35).trans e36).trans e37).trans e38).trans e39).trans e40).trans e41).trans e42)) (.cons (h28.same (((((((((((((e29.trans e30).trans e31).trans e32).trans e33).trans e34).trans e35).trans e36).trans e37).trans e38).trans e39).trans e40).trans e41).trans e42)) (.cons (h31.same ((((((((((e32.trans e33).trans e34).trans e35).trans e36).trans e37).trans e38).trans e39).trans e40).trans e41).trans e42)) (.cons (h34.same (((((((e35.trans e36).trans e37).trans e38).trans e39).trans e40).trans e41).trans e42)) (.cons (h36.same (((((e37.trans e38).trans e39).trans e40).trans e41).trans e42)) (.cons (h39.same ((e40.trans e41).trans e42)) (.cons h42 .nil)))))))
  rw [xH43]
  have na43 := Gd.Same.nn e43 na42
  have h43 : Dq K a H43 (.ref p43) (.list [.tuple [.bool true, .tuple [.tuple [.int 1]]], .tuple [.bool false, .tuple []], .tuple [.int 1, .list [.tuple [.int 1]]], .tuple [.int 1, .tuple [.list [.int 1]]], .tuple [.int (-1), .tuple []], .tuple [.int 1, .tuple [.tuple [.int 1, .int 0]]], .tuple [.int 2, .tuple [.tuple [.int 1, .int 0]]]]) := Dq.lst g43 b43 l43
  refine ⟨_, _, _, _, rfl, rfl, (((((((((((((((((((e24.trans e25).trans e26).trans e27).trans e28).trans e29).trans e30).trans e31).trans e32).trans e33).trans e34).trans e35).trans e36).trans e37).trans e38).trans e39).trans e40).trans e41).trans e42).trans e43) _ _ g23, g43, by show 14 ≤ sizeLine; decide, fun p44 np44 => ?_⟩
  obtain ⟨H44, xH44, e44, g44, b44, l44⟩ := lstQ (K := K) na43 np44 (dpa_append _ _ _ _ (l23.same (((((((((((((((((((e24.trans e25).trans e26).trans e27).trans e28).trans e29).trans e30).trans e31).trans e32).trans e33).trans e34).trans e35).trans e36).trans e37).trans e38).trans e39).trans e40).trans e41).trans e42).trans e43)) l43)
  rw [xH44]
  have na44 := Gd.Same.nn e44 na43
  refine ⟨_, rfl, ?_⟩
  refine ⟨by show 2 ≤ sizeLine; decide, fun p45 np45 => ?_⟩
  obtain ⟨H45, xH45, e45, h45⟩ := tupQ (K := K) na44 np45 (.cons (.int _) (.cons (.int _) .nil))
  rw [xH45]
  have na45 := Gd.Same.nn e45 na44
  refine ⟨by show 2 ≤ sizeLine; decide, fun p46 np46 => ?_⟩
  obtain ⟨H46, xH46, e46, h46⟩ := tupQ (K := K) na45 np46 (.cons (.int _) (.cons (.int _) .nil))
  rw [xH46]
  have na46 := Gd.Same.nn e46 na45
  refine ⟨by show 2 ≤ sizeLine; decide, fun p47 np47 => ?_⟩
  obtain ⟨H47, xH47, e47, h47⟩ := tupQ (K := K) na46 np47 (.cons (.int _) (.cons (.int _) .nil))
  rw [xH47]
  have na47 := Gd.Same.nn e47 na46
  refine ⟨by show 3 ≤ sizeLine; decide, fun p48 np48 => ?_⟩
  obtain ⟨H48, xH48, e48, h48⟩ := tupQ (K := K) na47 np48 (.cons (h45.same (e46.trans e47)) (.cons (h46.same e47) (.cons h47 .nil)))
  rw [xH48]
  have na48 := Gd.Same.nn e48 na47
  refine ⟨by show 2 ≤ sizeLine; decide, fun p49 np49 => ?_⟩
  obtain ⟨H49, xH49, e49, h49⟩ := tupQ (K := K) na48 np49 (.cons (.int _) (.cons h48 .nil))
  rw [xH49]
  have na49 := Gd.Same.nn e49 na48
  refine ⟨by show 1 ≤ sizeLine; decide, fun p50 np50 => ?_⟩
  obtain ⟨H50, xH50, e50, h50⟩ := tupQ (K := K) na49 np50 (.cons (.int _) .nil)
  rw [xH50]
  have na50 := Gd.Same.nn e50 na49
  refine ⟨by show 1 ≤ sizeLine; decide, fun p51 np51 => ?_⟩
  obtain ⟨H51, xH51, e51, h51⟩ := tupQ (K := K) na50 np51 (.cons h50 .nil)
  rw [xH51]
  have na51 := Gd.Same.nn e51 na50
  refine ⟨by show 2 ≤ sizeLine; decide, fun p52 np52 => ?_⟩
  obtain ⟨H52, xH52, e52, g52, b52, l52⟩ := lstQ (K := K) na51 np52 (.cons (.int _) (.cons h51 .nil))
  rw [xH52]
  have na52 := Gd.Same.nn e52 na51
  have h52 : Dq K a H52 (.ref p52) (.list [.int 1, .tuple [.tuple [.int 1]]]) := Dq.lst g52 b52 l52
  refine ⟨by show 1 ≤ sizeLine; decide, fun p53 np53 => ?_⟩
  obtain ⟨H53, xH53, e53, h53⟩ := tupQ (K := K) na52 np53 (.cons (.int _) .nil)
  rw [xH53]
  have na53 := Gd.Same.nn e53 na52
  refine ⟨by show 1 ≤ sizeLine; decide, fun p54 np54 => ?_⟩
  obtain ⟨H54, xH54, e54, h54⟩ := tupQ (K := K) na53 np54 (.cons h53 .nil)
  rw [xH54]
  have na54 := Gd.Same.nn e54 na53
  refine ⟨by show 0 ≤ sizeLine; decide, fun p55 np55 => ?_⟩
  obtain ⟨H55, xH55, e55, h55⟩ := tupQ (K := K) na54 np55 .nil
  rw [xH55]
  have na55 := Gd.Same.nn e55 na54
  refine ⟨by show 3 ≤ sizeLine; decide, fun p56 np56 => ?_⟩
  obtain ⟨H56, xH56, e56, h56⟩ := tupQ (K := K) na55 np56 (.cons (.int _) (.cons (h54.same e55) (.cons h55 .nil)))
  rw [xH56]
  have na56 := Gd.Same.nn e56 na55
  refine ⟨by show 1 ≤ sizeLine; decide, fun p57 np57 => ?_⟩
  obtain ⟨H57, xH57, e57, h57⟩ := tupQ (K := K) na56 np57 (.cons (.int _) .nil)
  rw [xH57]
  have na57 := Gd.Same.nn e57 na56
  refine ⟨by show 0 ≤ sizeLine; decide, fun p58 np58 => ?_⟩
  obtain ⟨H58, xH58, e58, h58⟩ := tupQ (K := K) na57 np58 .nil
  rw [xH58]
  have na58 := Gd.Same.nn e58 na57
  refine ⟨by show 9 ≤ sizeLine; decide, fun p59 np59 => ?_⟩
  obtain ⟨H59, xH59, e59, g59, b59, l59⟩ := lstQ (K := K) na58 np59 (.cons (h49.same ((((((((e50.trans e51).trans e52).trans e53).trans e54).trans e55).trans e56).trans e57).trans e58)) (.cons (h52.same (((((e53.trans e54).trans e55).trans e56).trans e57).trans e58)) (.cons (h56.same (e57.trans e58)) (.cons (h57.same e58) (.cons .non (.cons h58 (.cons (.str _) (.cons (.int _) (.cons (.bl _) .nil)))))))))
  rw [xH59]
  have na59 := Gd.Same.nn e59 na58
  have h59 : Dq K a H59 (.ref p59) (.list [.tuple [.int 2, .tuple [.tuple [.int 1, .int 0], .tuple [.int 0, .int 1], .tuple [.int 0, .int 0]]], .list [.int 1, .tuple [.tuple [.int 1]]], .tuple [.int 1, .tuple [.tuple [.int 1]], .tuple []], .tuple [.int 1], .none, .tuple [], .str "table", .int 0, .bool true]) := Dq.lst g59 b59 l59
  refine ⟨_, _, _, _, rfl, rfl, ((((((((((((((e45.trans e46).trans e47).trans e48).trans e49).trans e50).trans e51).trans e52).trans e53).trans e54).trans e55).trans e56).trans e57).trans e58).trans e59) _ _ g44, g59, by show 23 ≤ sizeLine; decide, fun p60 np60 => ?_⟩
  obtain ⟨H60, xH60, e60, g60, b60, l60⟩ := lstQ (K := K) na59 np60 (dpa_append _ _ _ _ (l44.same ((((((((((((((e45.trans e46).trans e47).trans e48).trans e49).trans e50).trans e51).trans e52).trans e53).trans e54).trans e55).trans e56).trans e57).trans e58).trans e59)) l59)
  rw [xH60]
  have na60 := Gd.Same.nn e60 na59
  refine ⟨_, rfl, ?_⟩
  refine ⟨by show 2 ≤ sizeLine; decide, fun p61 np61 => ?_⟩
  obtain ⟨H61, xH61, e61, h61⟩ := tupQ (K := K) na60 np61 (.cons (.int _) (.cons (.int _) .nil))
  rw [xH61]
  have na61 := Gd.Same.nn e61 na60
  refine ⟨by show 2 ≤ sizeLine; decide, fun p62 np62 => ?_⟩
  obtain ⟨H62, xH62, e62, h62⟩ := tupQ (K := K) na61 np62 (.cons (.int _) (.cons (.int _) .nil))
  rw [xH62]
  have na62 := Gd.Same.nn e62 na61
  refine ⟨by show 2 ≤ sizeLine; decide, fun p63 np63 => ?_⟩
  obtain ⟨H63, xH63, e63, h63⟩ := tupQ (K := K) na62 np63 (.cons (h61.same e62) (.cons h62 .nil))
  rw [xH63]
  have na63 := Gd.Same.nn e63 na62
  refine ⟨by show 2 ≤ sizeLine; decide, fun p64 np64 => ?_⟩
  obtain ⟨H64, xH64, e64, h64⟩ := tupQ (K := K) na63 np64 (.cons (.int _) (.cons h63 .nil))
  rw [xH64]
  have na64 := Gd.Same.nn e64 na63
  refine ⟨by show 2 ≤ sizeLine; decide, fun p65 np65 => ?_⟩
  obtain ⟨H65, xH65, e65, h65⟩ := tupQ (K := K) na64 np65 (.cons (.int _) (.cons (.int _) .nil))
  rw [xH65]
  have na65 := Gd.Same.nn e65 na64
  refine ⟨by show 2 ≤ sizeLine; decide, fun p66 np66 => ?_⟩
  obtain ⟨H66, xH66, e66, h66⟩ := tupQ (K := K) na65 np66 (.cons (.int _) (.cons (.int _) .nil))
  rw [xH66]
  have na66 := Gd.Same.nn e66 na65
  refine ⟨by show 2 ≤ sizeLine; decide, fun p67 np67 => ?_⟩
  obtain ⟨H67, xH67, e67, h67⟩ := tupQ (K := K) na66 np67 (.cons (h65.same e66) (.cons h66 .nil))
  rw [xH67]
  have na67 := Gd.Same.nn e67 na66
  refine ⟨by show 2 ≤ sizeLine; decide, fun p68 np68 => ?_⟩
  obtain ⟨H68, xH68, e68, h68⟩ := tupQ (K := K) na67 np68 (.cons (.int _) (.cons h67 .nil))
  rw [xH68]
  have na68 := Gd.Same.nn e68 na67
  refine ⟨_, _, rfl, rfl, ⟨by decide, by decide, by decide⟩, ?_⟩
  refine ⟨by show 1 ≤ sizeLine; decide, fun p69 np69 => ?_⟩
  obtain ⟨H69, xH69, e69, h69⟩ := tupQ (K := K) na68 np69 (.cons (.int _) .nil)
  rw [xH69]
  have na69 := Gd.Same.nn e69 na68
  refine ⟨by show 1 ≤ sizeLine; decide, fun p70 np70 => ?_⟩
  obtain ⟨H70, xH70, e70, h70⟩ := tupQ (K := K) na69 np70 (.cons h69 .nil)
  rw [xH70]
  have na70 := Gd.Same.nn e70 na69
  refine ⟨by show 2 ≤ sizeLine; decide, fun p71 np71 => ?_⟩
  obtain ⟨H71, xH71, e71, h71⟩ := tupQ (K := K) na70 np71 (.cons (.int _) (.cons h70 .nil))
  rw [xH71]
  have na71 := Gd.Same.nn e71 na70
  refine ⟨by show 1 ≤ sizeLine; decide, fun p72 np72 => ?_⟩
  obtain ⟨H72, xH72, e72, h72⟩ := tupQ (K := K) na71 np72 (.cons (.str _) .nil)
  rw [xH72]
  have na72 := Gd.Same.nn e72 na71
  refine ⟨by show 1 ≤ sizeLine; decide, fun p73 np73 => ?_⟩
  obtain ⟨H73, xH73, e73, h73⟩ := tupQ (K := K) na72 np73 (.cons h72 .nil)
  rw [xH73]
  have na73 := Gd.Same.nn e73 na72
  refine ⟨by show 2 ≤ sizeLine; decide, fun p74 np74 => ?_⟩
  obtain ⟨H74, xH74, e74, h74⟩ := tupQ (K := K) na73 np74 (.cons (.int _) (.cons h73 .nil))
  rw [xH74]
  have na74 := Gd.Same.nn e74 na73
  refine ⟨by show 1 ≤ sizeLine; decide, fun p75 np75 => ?_⟩
  obtain ⟨H75, xH75, e75, h75⟩ := tupQ (K := K) na74 np75 (.cons (.int _) .nil)
  rw [xH75]
  have na75 := Gd.Same.nn e75 na74
  refine ⟨by show 1 ≤ sizeLine; decide, fun p76 np76 => ?_⟩
  obtain ⟨H76, xH76, e76, h76⟩ := tupQ (K := K) na75 np76 (.cons h75 .nil)
  rw [xH76]
  have na76 := Gd.Same.nn e76 na75
  refine ⟨by show 2 ≤ sizeLine; decide, fun p77 np77 => ?_⟩
  obtain ⟨H77, xH77, e77, h77⟩ := tupQ (K := K) na76 np77 (.cons (.str _) (.cons h76 .nil))
  rw [xH77]
  have na77 := Gd.Same.nn e77 na76
  refine ⟨by show 5 ≤ sizeLine; decide, fun p78 np78 => ?_⟩
  obtain ⟨H78, xH78, e78, g78, b78, l78⟩ := lstQ (K := K) na77 np78 (.cons (h64.same ((((((((((((e65.trans e66).trans e67).trans e68).trans e69).trans e70).trans e71).trans e72).trans e73).trans e74).trans e75).trans e76).trans e77)) (.cons (h68.same ((((((((e69.trans e70).trans e71).trans e72).trans e73).trans e74).trans e75).trans e76).trans e77)) (.cons (h71.same (((((e72.trans e73).trans e74).trans e75).trans e76).trans e77)) (.cons (h74.same ((e75.trans e76).trans e77)) (.cons h77 .nil)))))
  rw [xH78]
  have na78 := Gd.Same.nn e78 na77
  have h78 : Dq K a H78 (.ref p78) (.list [.tuple [.int 2, .tuple [.tuple [.int 0, .int 1], .tuple [.int 1, .int 0]]], .tuple [.int 2, .tuple [.tuple [.int 1, .int 0], .tuple [.int 1, .int 1]]], .tuple [.int 1, .tuple [.tuple [.int (10 ^ Int.toNat 60)]]], .tuple [.int 1, .tuple [.tuple [.str "1"]]], .tuple [.str "1", .tuple [.tuple [.int 1]]]]) := Dq.lst g78 b78 l78
  refine ⟨_, _, _, _, rfl, rfl, (((((((((((((((((e61.trans e62).trans e63).trans e64).trans e65).trans e66).trans e67).trans e68).trans e69).trans e70).trans e71).trans e72).trans e73).trans e74).trans e75).trans e76).trans e77).trans e78) _ _ g60, g78, by show 28 ≤ sizeLine; decide, fun p79 np79 => ?_⟩
  obtain ⟨H79, xH79, e79, g79, b79, l79⟩ := lstQ (K := K) na78 np79 (dpa_append _ _ _ _ (l60.same (((((((((((((((((e61.trans e62).trans e63).trans e64).trans e65).trans e66).trans e67).trans e68).trans e69).trans e70).trans e71).trans e72).trans e73).trans e74).trans e75).trans e76).trans e77).trans e78)) l78)
  rw [xH79]
  have na79 := Gd.Same.nn e79 na78
  exact k p79 H79 _ ((((((((((((((((((((((((((((((((((((((((((((((((((((((((((((((((((((((((((((((e1.trans e2).trans e3).trans e4).trans e5).trans e6).trans e7).trans e8).trans e9).trans e10).trans e11).trans e12).trans e13).trans e14).trans e15).trans e16).trans e17).trans e18).trans e19).trans e20).trans e21).trans e22).trans e23).trans e24).trans e25).trans e26).trans e27).trans e28).trans e29).trans e30).trans e31).trans e32).trans e33).trans e34).trans e35).trans e36).trans e37).trans e38).trans e39).trans e40).trans e41).trans e42).trans e43).trans e44).trans e45).trans e46).trans e47).trans e48).trans e49).trans e50).trans e51).trans e52).trans e53).trans e54).trans e55).trans e56).trans e57).trans e58).trans e59).trans e60).trans e61).trans e62).trans e63).trans e64).trans e65).trans e66).trans e67).trans e68).trans e69).trans e70).trans e71).trans e72).trans e73).trans e74).trans e75).trans e76).trans e77).trans e78).trans e79) g79 b79 l79

end K04

set_option Elab.async false
set_option linter.all false
set_option maxRecDepth 100000
set_option maxHeartbeats 1000000
namespace K04
open PySem PySem.Spec PyProof.Rows L2 Gd
variable {P : Program} {w : World} {K : PySem.W.Frag} {mg : Str → Option Value} {base : Heap}
def two (b c : Bool) : PyData := .list [.bool b, .bool c]
theorem sh_two (b c : Bool) : Sh 1 100 (two b c) := by
  cases b <;> cases c <;> exact ⟨by decide +kernel, by decide +kernel, by decide +kernel, by decide +kernel⟩
theorem sh_one (b : Bool) : Sh 0 100 (.bool b) := by
  cases b <;> exact ⟨by decide +kernel, by decide +kernel, by decide +kernel, by decide +kernel⟩
theorem Fn.fineSh {d : PyData} (h : Fine d) : Sh 20 15300000 d := Gd.Fn.sh h big61 (by decide)
def spRightD (K : PySem.W.Frag) : Sp := fun vs H Q _ => ∃ (v : V) (d : PyData), vs = [v] ∧ Dp K H v d ∧ Fine d ∧ ∀ H', Same H H' → Q (.bl true) H'
theorem ok_l_right (D : Df K mg "_law_right" s_l_right) (B : Bn mg) (h_l_is_table : Has P w K mg base "_law_is_table" 2 p_l_is_table (spLTab K))
    (h_l_is_unit : Has P w K mg base "_law_is_unit" 3 p_l_is_unit (spIsUnitD K)) (h_is_table : Has P w K mg base "is_table" 3 p_is_table (spIsTabD K))
    (h_is_unit : Has P w K mg base "is_unit" 4 p_is_unit (spIsUnitD K)) : HasG P w K mg base "_law_right" 5 p_l_right (spRightD K) := by
  refine hasG_of (k := 4) D sc_l_right bn_l_right ?_ ?_
  · rintro vs H Q E ⟨v, d, rfl, _⟩
    rfl
  rintro f cdv A outer s0 H vs Q E hG hr ⟨v, d, rfl, hd, hF, k⟩
  refine ⟨_, (pss_cons (ps_asg (pe_callB (call_reprDK (K := K) (by rfl) hG hr.units) (by rfl) B.repr_ (by decide +kernel) (pa_cons (pv 0) pa_nil)) (pg_name (i := 1) sc_l_right.nd rfl (by first | exact Or.inl rfl | exact Or.inr rfl)))
      (pss_cons (ps_asg (pe_callB (call_reprDK (K := K) (by rfl) hG hr.units) (by rfl) B.repr_ (by decide +kernel) (pa_cons (pe_lst (pa_cons (pe_has (h_l_is_table) (hr.mono (by first | decide | omega)) (by rfl) (pa_cons (pv 0) pa_nil)) (pa_cons (pe_has (h_l_is_unit) (hr.mono (by first | decide | omega)) (by rfl) (pa_cons (pv 0) pa_nil)) pa_nil))) pa_nil)) (pg_name (i := 2) sc_l_right.nd rfl (by first | exact Or.inl rfl | exact Or.inr rfl)))
      (pss_cons (ps_for PassesOwn.never rfl (pi_range1 (by rfl) B.range_ (pa_cons pe_int pa_nil)) (pg_name (i := 3) sc_l_right.nd rfl (by first | exact Or.inl rfl | exact Or.inr rfl)) (pss_one (ps_if (pt_cmpR op_ne (pe_callB (call_reprDK (K := K) (by rfl) hG hr.units) (by rfl) B.repr_ (by decide +kernel) (pa_cons (pe_lst (pa_cons (pe_has (h_is_table) (hr.mono (by first | decide | omega)) (by rfl) (pa_cons (pv 0) pa_nil)) (pa_cons (pe_has (h_is_unit) (hr.mono (by first | decide | omega)) (by rfl) (pa_cons (pv 0) pa_nil)) pa_nil))) pa_nil)) (pv 2) (nomark _)) (pss_one (ps_ret pe_bl)) pss_nil)))
      (pss_one (ps_ret (pe_cmpR op_eq (pe_callB (call_reprDK (K := K) (by rfl) hG hr.units) (by rfl) B.repr_ (by decide +kernel) (pa_cons (pv 0) pa_nil)) (pv 1) (nomark _))))))), ?_⟩
  have sd := Fn.fineSh hF
  have s2 := sh_two (isTabD d) (isUnitD d)
  obtain ⟨S1, hS1⟩ : ∃ S1, d.shown = S1 := ⟨_, rfl⟩
  obtain ⟨S2, hS2⟩ : ∃ S2, (two (isTabD d) (isUnitD d)).shown = S2 := ⟨_, rfl⟩
  refine ⟨_, rfl, ?_⟩
  try dsimp only [tC, tNil]
  refine reprD hd sd (by decide) (by decide) hS1 ?_
  refine ⟨_, rfl, v, d, rfl, hd, hF, fun H1 e1 => ?_⟩
  refine ⟨_, rfl, v, d, rfl, Dp.same e1 _ _ hd, hF, fun H2 e2 => ?_⟩
  refine ⟨by show 2 ≤ sizeLine; decide, fun p3 np3 => ?_⟩
  obtain ⟨H3, xH3, e3, h3, h3'⟩ := lst_new (K := K) np3 (.cons (.bl (isTabD d)) (.cons (.bl (isUnitD d)) .nil))
  rw [xH3]
  have h3 : Dp K H3 (.ref p3) (two (isTabD d) (isUnitD d)) := .lst (SqL.of h3) h3'
  try dsimp only [tC, tNil]
  refine reprD h3 s2 (by decide) (by decide) hS2 ?_
  have e03 := (e1.trans e2).trans e3
  refine ⟨2, rfl, by decide, by decide, for_range (lo := 0) (n := 2) (fun i σ H' => Same H H' ∧ ∃ v3 : Option V, σ = [some v, some (.str S1), some (.str S2), v3]) ?_ ?_ ?_⟩
  · exact ⟨e03, _, rfl⟩
  · rintro i σ H4 hi ⟨e4, v3, rfl⟩
    have hd4 := Dp.same e4 _ _ hd
    refine ⟨_, rfl, v, d, rfl, hd4, hF.sz, fun H5 e5 => ?_⟩
    refine ⟨_, rfl, v, d, rfl, Dp.same e5 _ _ hd4, hF, fun H6 e6 => ?_⟩
    refine ⟨by show 2 ≤ sizeLine; decide, fun p7 np7 => ?_⟩
    obtain ⟨H7, xH7, e7, h7, h7'⟩ := lst_new (K := K) np7 (.cons (.bl (isTabD d)) (.cons (.bl (isUnitD d)) .nil))
    rw [xH7]
    have h7 : Dp K H7 (.ref p7) (two (isTabD d) (isUnitD d)) := .lst (SqL.of h7) h7'
    try dsimp only [tC, tNil]
    refine reprD h7 s2 (by decide) (by decide) hS2 ?_
    refine ⟨_, rfl, rfl, _, rfl, ?_⟩
    exact iteNS rfl ⟨e4.trans ((e5.trans e6).trans e7), _, rfl⟩
  · rintro σ H4 ⟨e4, v3, rfl⟩
    refine ⟨_, rfl, ?_⟩
    try dsimp only [tC, tNil]
    refine reprD (Dp.same e4 _ _ hd) sd (by decide) (by decide) hS1 ?_
    refine ⟨_, rfl, rfl, ?_⟩
    rw [decide_eq_true (rfl : V.str _ = V.str _)]
    exact k _ e4
def spThings (K : PySem.W.Frag) : Sp := fun vs H Q _ => ∃ (a s : Addr) (n : Nat), vs = [.ref a] ∧ Fd H a s n ∧ n + 2000 ≤ 1000000 ∧
  ∀ (l : Addr) (H' : Hp) (xs : List V) (ds : List PyData), Sb a H H' → Fd H' a s (n + 2000) → H' l = some (.lst xs) → l ≠ a → DqAll K a H' xs ds → (∀ d ∈ ds, Fine d) → ds.length ≤ 30 → Q (.ref l) H'
theorem ints_fz (M : Nat) : ∀ r : List Int, (∀ x ∈ r, x.natAbs ≤ M) → fokAll M (r.map PyData.int) = true ∧ PyData.depthAll (r.map PyData.int) = 0 ∧ fzAll (r.map PyData.int) = r.length
  | [], _ => ⟨by simp [fokAll], by simp [PyData.depthAll], by simp [fzAll]⟩
  | x :: r, h => by
    obtain ⟨h1, h2, h3⟩ := ints_fz M r (fun y hy => h y (List.mem_cons_of_mem _ hy))
    have hx := h x (List.mem_cons_self ..)
    refine ⟨?_, ?_, ?_⟩
    · simp only [List.map_cons, fokAll, fok, h1, Bool.and_true, decide_eq_true_eq]
      exact hx
    · simp only [List.map_cons, PyData.depthAll, PyData.depth, h2]
      rfl
    · simp only [List.map_cons, fzAll, fz, h3, List.length_cons]
      omega
theorem row_fn {M : Nat} {r : List Int} (h : ∀ x ∈ r, x.natAbs ≤ M) : fok M (rowD r) = true ∧ (rowD r).depth ≤ 1 ∧ fz (rowD r) = 1 + r.length := by
  obtain ⟨h1, h2, h3⟩ := ints_fz M r h
  refine ⟨?_, ?_, ?_⟩
  · simp only [rowD, fok]
    exact h1
  · simp only [rowD, PyData.depth, h2]
    omega
  · simp only [rowD, fz, h3]
theorem rows_fn {M wd : Nat} : ∀ rs : List (List Int), (∀ r ∈ rs, r.length = wd ∧ ∀ x ∈ r, x.natAbs ≤ M) → (∀ d ∈ rs.map rowD, fok M d = true ∧ d.depth ≤ 1) ∧ fzAll (rs.map rowD) = rs.length * (1 + wd)
  | [], _ => ⟨fun d hd => by simp at hd, by simp [fzAll]⟩
  | r :: rs, h => by
    obtain ⟨h1, h2⟩ := rows_fn rs (fun y hy => h y (List.mem_cons_of_mem _ hy))
    have hr := h r (List.mem_cons_self ..)
    obtain ⟨k1, k2, k3⟩ := row_fn hr.2
    refine ⟨fun d hd => ?_, ?_⟩
    · rcases List.mem_cons.mp hd with rfl | hd
      · exact ⟨k1, k2⟩
      · exact h1 d hd
    · simp only [List.map_cons, fzAll, k3, h2, hr.1, List.length_cons, Nat.add_mul]
      omega
theorem tab_fn {M wd m : Nat} {z : Int} {rs : List (List Int)} (hz : z.natAbs ≤ M) (h : ∀ r ∈ rs, r.length = wd ∧ ∀ x ∈ r, x.natAbs ≤ M) (hm : 3 + rs.length * (1 + wd) ≤ m) : Fn M 3 m (tabD z rs) := by
  obtain ⟨h1, h2⟩ := rows_fn rs h
  unfold tabD rowsD
  refine (fn_tup (k := 2)).mpr ⟨fun d hd => ?_, ?_⟩
  · simp only [List.mem_cons, List.not_mem_nil, or_false] at hd
    rcases hd with rfl | rfl
    · exact ⟨by simp only [fok, decide_eq_true_eq]; exact hz, by simp [PyData.depth]⟩
    · have := (fn_tup (M := M) (k := 1) (n := 1 + fzAll (rs.map rowD)) (ds := rs.map rowD)).mpr ⟨h1, Nat.le_refl _⟩
      exact ⟨this.ok, this.dep⟩
  · simp only [fzAll, fz, h2]
    omega
theorem unit_small {n : Nat} : ∀ r ∈ unitR n, r.length = n ∧ ∀ x ∈ r, x.natAbs ≤ 10 ^ 40 := by
  intro r hr
  refine ⟨by obtain ⟨k, _, rfl⟩ := List.mem_map.mp hr; simp [unitRow], fun x hx => ?_⟩
  have := bs_unit r hr x hx
  omega
theorem okt_small {m wd : Nat} {rs : List (List Int)} (o : OkT m wd rs) : ∀ r ∈ rs, r.length = wd ∧ ∀ x ∈ r, x.natAbs ≤ 10 ^ 40 := fun r hr => ⟨(o.2 r hr).1, fun x hx => by
  have := (o.2 r hr).2 x hx
  omega⟩

end K04

set_option Elab.async false
set_option linter.all false
set_option maxRecDepth 100000
set_option maxHeartbeats 1000000
namespace K04
open PySem PySem.Spec PyProof.Rows L2 Gd
variable {P : Program} {w : World} {K : PySem.W.Frag} {mg : Str → Option Value} {base : Heap}
theorem fine_small {d : PyData} {M k m : Nat} (h : Fn M k m d) (hM : M ≤ 10 ^ 61) (hk : k ≤ 20) (hm : m ≤ 8000) : Fine d := h.mono hM hk hm
theorem ok_l_things (D : Df K mg "_law_things" s_l_things) (B : Bn mg) (h_l_draw : Has P w K mg base "_law_draw" 1 p_l_draw spDraw)
    (h_l_table : Has P w K mg base "_law_table" 4 p_l_table (spTable K)) (h_l_unit : Has P w K mg base "_law_unit" 1 p_l_unit (spUnit K))
    (h_l_bent : Has P w K mg base "_law_bent" 8 p_l_bent (spBent K 5)) (h_l_odd : Has P w K mg base "_law_odd" 2 p_l_odd (spOdd K)) :
    Has P w K mg base "_law_things" 9 p_l_things (spThings K) := by
  refine has_of (k := 8) D sc_l_things bn_l_things ?_ ?_
  · rintro vs H Q E ⟨a, s, n, rfl, _⟩
    rfl
  rintro f cdv A outer s0 H vs Q E hr ⟨a, s, n, rfl, f0, hn, ke⟩
  refine ⟨_, (pss_cons (ps_asg (pe_has (h_l_table) (hr.mono (by first | decide | omega)) (by rfl) (pa_cons (pv 0) (pa_cons (pe_has (h_l_draw) (hr.mono (by first | decide | omega)) (by rfl) (pa_cons (pv 0) (pa_cons pe_int pa_nil))) (pa_cons (pe_has (h_l_draw) (hr.mono (by first | decide | omega)) (by rfl) (pa_cons (pv 0) (pa_cons pe_int pa_nil))) pa_nil)))) (pg_name (i := 1) sc_l_things.nd rfl (by first | exact Or.inl rfl | exact Or.inr rfl)))
      (pss_cons (ps_asg (pe_has (h_l_draw) (hr.mono (by first | decide | omega)) (by rfl) (pa_cons (pv 0) (pa_cons pe_int pa_nil))) (pg_name (i := 2) sc_l_things.nd rfl (by first | exact Or.inl rfl | exact Or.inr rfl)))
      (pss_cons (ps_asg (pe_has (h_l_unit) (hr.mono (by first | decide | omega)) (by rfl) (pa_cons (pv 2) pa_nil)) (pg_name (i := 3) sc_l_things.nd rfl (by first | exact Or.inl rfl | exact Or.inr rfl)))
      (pss_cons (ps_asg (pe_lst (pa_cons (pv 1) (pa_cons (pv 3) (pa_cons (pe_callTy (call_listK (K := K) (by rfl)) (by rfl) B.list_ (by decide +kernel) (pa_cons (pv 1) pa_nil)) (pa_cons (pe_revTK (K := K) (by rfl) (pv 1)) (pa_cons (pe_tup (pa_cons (pe_op op_add (pe_ix (ix_tupK (K := K) (by rfl)) (pv 1) pe_int (fun _ _ => rfl)) pe_int) (pa_cons (pe_ix (ix_tupK (K := K) (by rfl)) (pv 1) pe_int (fun _ _ => rfl)) pa_nil))) (pa_cons (pe_tup (pa_cons (pe_callB (call_lenK (K := K) (by rfl)) (by rfl) B.len_ (by decide +kernel) (pa_cons (pe_ix (ix_tupK (K := K) (by rfl)) (pv 1) pe_int (fun _ _ => rfl)) pa_nil)) (pa_cons (pe_ix (ix_tupK (K := K) (by rfl)) (pv 1) pe_int (fun _ _ => rfl)) pa_nil))) pa_nil))))))) (pg_name (i := 4) sc_l_things.nd rfl (by first | exact Or.inl rfl | exact Or.inr rfl)))
      (pss_cons (ps_for PassesOwn.never rfl (pi_tupK (K := K) (by rfl) (pe_tup (pa_cons (pv 1) (pa_cons (pv 3) pa_nil)))) (pg_name (i := 5) sc_l_things.nd rfl (by first | exact Or.inl rfl | exact Or.inr rfl)) (pss_cons (ps_asg (pe_has (h_l_bent) (hr.mono (by first | decide | omega)) (by rfl) (pa_cons (pv 0) (pa_cons (pv 5) pa_nil))) (pg_name (i := 6) sc_l_things.nd rfl (by first | exact Or.inl rfl | exact Or.inr rfl)))
      (pss_one (ps_asg (pe_op op_cat (pv 4) (pe_lst (pa_cons (pv 6) (pa_cons (pe_has (h_l_bent) (hr.mono (by first | decide | omega)) (by rfl) (pa_cons (pv 0) (pa_cons (pv 6) pa_nil))) (pa_cons (pe_has (h_l_bent) (hr.mono (by first | decide | omega)) (by rfl) (pa_cons (pv 0) (pa_cons (pv 5) pa_nil))) pa_nil))))) (pg_name (i := 4) sc_l_things.nd rfl (by first | exact Or.inl rfl | exact Or.inr rfl))))))
      (pss_one (ps_ret (pe_op op_cat (pv 4) (pe_lst (pa_cons (pe_has (h_l_odd) (hr.mono (by first | decide | omega)) (by rfl) (pa_cons (pv 0) pa_nil)) pa_nil)))))))))), ?_⟩
  refine ⟨_, rfl, _, rfl, a, s, _, n, rfl, f0, by omega, by decide, by decide, fun r1 H1 r10 r11 sb1 f1 => ?_⟩
  refine ⟨_, rfl, a, s, _, n + 1, rfl, f1, by omega, by decide, by decide, fun r2 H2 r20 r21 sb2 f2 => ?_⟩
  obtain ⟨m, rfl⟩ := Int.eq_ofNat_of_zero_le r10
  obtain ⟨wd, rfl⟩ := Int.eq_ofNat_of_zero_le r20
  refine ⟨a, s, m, wd, n + 2, rfl, f2, by omega, by omega, by omega, fun v1 H3 rs sb3 f3 o hv1 => ?_⟩
  refine ⟨_, rfl, a, s, _, n + 202, rfl, f3, by omega, by decide, by decide, fun r4 H4 r40 r41 sb4 f4 => ?_⟩
  obtain ⟨u, rfl⟩ := Int.eq_ofNat_of_zero_le r40
  refine ⟨_, rfl, u, rfl, by omega, fun y3 H5 e5 hy3 => ?_⟩
  have f5 := f4.same e5
  have hv1 := Dp.q f5 (tabD_tup _ _) (Dp.same e5 _ _ (Dp.tk (f3.tk sb4) _ _ (tabD_tup _ _) hv1))
  have hy3 := Dp.q f5 (tabD_tup _ _) hy3
  have sb05 := (((sb1.trans sb2).trans sb3).trans sb4).trans (Sb.of e5)
  have hl : rs.length = m := o.1
  have F1 : Fn (10 ^ 40) 3 200 (tabD wd rs) := tab_fn (by omega) (okt_small o) (by
    rw [hl]
    have : m * (1 + wd) ≤ 4 * 5 := Nat.mul_le_mul (by omega) (by omega)
    omega)
  have F2 : Fn (10 ^ 40) 3 200 (tabD u (unitR u)) := tab_fn (by omega) unit_small (by
    have e : (unitR u).length = u := by simp [unitR]
    rw [e]
    have : u * (1 + u) ≤ 11 * 12 := Nat.mul_le_mul (by omega) (by omega)
    omega)
  have Fr : ∀ z : Int, z.natAbs ≤ 10 ^ 40 → Fn (10 ^ 40) 3 200 (tabD z rs) := fun z hz => tab_fn hz (okt_small o) (by
    rw [hl]
    have : m * (1 + wd) ≤ 4 * 5 := Nat.mul_le_mul (by omega) (by omega)
    omega)
  -- the six
  obtain ⟨pt, xt, rfl, hst, hat⟩ := dp_tup hv1
  obtain ⟨x0, t0, rfl, q0, hat'⟩ := dpa_cons hat
  obtain ⟨x1, t1, rfl, q1, hat'⟩ := dpa_cons hat'
  have et := dpa_nil hat'
  subst et
  have ex0 := dp_int q0
  subst ex0
  have hat : DqAll K a H5 _ _ := hat
  have q1 : Dq K a H5 _ _ := q1
  refine ⟨_, rfl, _, rfl, _, rfl, ?_⟩
  try dsimp only [tC, tNil]
  refine listT_dq f5.nn hv1 fun l6 H6 nl6 e6 h6 => ?_
  have f6 := f5.same e6
  refine ⟨_, rfl, pt, _, rfl, sqt_same (hid_le.trans e6) hst, fun p7 np7 => ?_⟩
  obtain ⟨H7, xH7, e7, h7⟩ := tupQ (K := K) f6.nn np7 (dpa_reverse _ _ (hat.same e6))
  rw [xH7]
  have f7 := f6.same e7
  have hst7 := sqt_same (hid_le.trans (e6.trans e7)) hst
  refine ⟨_, rfl, pt, _, 0, _, rfl, rfl, hst7, rfl, _, _, rfl, rfl, _, rfl, pt, _, 1, _, rfl, rfl, hst7, rfl, by show 2 ≤ sizeLine; decide, fun p8 np8 => ?_⟩
  obtain ⟨H8, xH8, e8, h8⟩ := tupQ (K := K) f7.nn np8 (.cons (.int ((wd : Int) + 1)) (.cons (q1.same (e6.trans e7)) .nil))
  rw [xH8]
  have f8 := f7.same e8
  have hst8 := sqt_same e8 hst7
  have q18 := q1.same ((e6.trans e7).trans e8)
  refine ⟨_, rfl, pt, _, 1, _, rfl, rfl, hst8, rfl, ?_⟩
  try dsimp only [tC, tNil]
  refine len_dp q18.dp ?_
  rw [List.length_map]
  refine ⟨_, rfl, pt, _, 1, _, rfl, rfl, hst8, rfl, by show 2 ≤ sizeLine; decide, fun p9 np9 => ?_⟩
  obtain ⟨H9, xH9, e9, h9⟩ := tupQ (K := K) f8.nn np9 (.cons (.int (rs.length : Int)) (.cons q18 .nil))
  rw [xH9]
  have f9 := f8.same e9
  have e79 := (e7.trans e8).trans e9
  have e59 := e6.trans e79
  refine ⟨by show 6 ≤ sizeLine; decide, fun p10 np10 => ?_⟩
  obtain ⟨H10, xH10, e10, h10, n10, h10'⟩ := lstQ (K := K) f9.nn np10 (.cons (hv1.same e59) (.cons (hy3.same e59) (.cons (h6.same e79) (.cons (h7.same (e8.trans e9)) (.cons (h8.same e9) (.cons h9 .nil))))))
  rw [xH10]
  have f10 := f9.same e10
  have six : ∀ d ∈ [tabD wd rs, tabD u (unitR u), .list [.int wd, rowsD rs], .tuple [PyData.int wd, rowsD rs].reverse, .tuple [.int ((wd : Int) + 1), rowsD rs], .tuple [.int (rs.length : Int), rowsD rs]], Fine d := by
    intro d hd
    simp only [List.mem_cons, List.not_mem_nil, or_false] at hd
    rcases hd with rfl | rfl | rfl | rfl | rfl | rfl
    · exact fine_small F1 (by decide) (by decide) (by decide)
    · exact fine_small F2 (by decide) (by decide) (by decide)
    · exact fine_small (fn_lst F1) (by decide) (by decide) (by decide)
    · have h := (fn_tup (k := 2)).mp F1
      have h2 : Fn (10 ^ 40) 3 200 (.tuple [PyData.int wd, rowsD rs].reverse) := (fn_tup (k := 2)).mpr ⟨fun d hd => h.1 d (List.mem_reverse.mp hd), by rw [fz_rev]; exact h.2⟩
      exact fine_small h2 (by decide) (by decide) (by decide)
    · exact fine_small (Fr ((wd : Int) + 1) (by omega)) (by decide) (by decide) (by decide)
    · exact fine_small (Fr (rs.length : Int) (by omega)) (by decide) (by decide) (by decide)
  have hv10 := hv1.same (e59.trans e10)
  have hy10 := hy3.same (e59.trans e10)
  have sb010 := sb05.trans (Sb.of (e59.trans e10))
  refine ⟨_, rfl, _, rfl, by show 2 ≤ sizeLine; decide, fun p11 np11 => ?_⟩
  obtain ⟨H11, xH11, e11, h11⟩ := tupQ (K := K) f10.nn np11 (.cons hv10 (.cons hy10 .nil))
  rw [xH11]
  have f11 := f10.same e11
  obtain ⟨_, _, z1, hs11, ha11⟩ := dp_tup h11
  have es11 : SqT K H11 p11 [.ref pt, y3] := by
    rw [← xH11]
    exact SqT.of upd_same
  have hp11 : H11 p11 = some (.tup [.ref pt, y3]) := by
    rw [← xH11]
    exact upd_same
  have np11a : p11 ≠ a := new_ne f10.nn np11
  refine ⟨p11, rfl, ⟨_, es11⟩, for_tup (K := K) (xs := [.ref pt, y3]) (fun i σ H' => ∃ (l : Addr) (xs : List V) (ds : List PyData) (v5 v6 : Option V), σ = [some (.ref a), some (.ref pt), some (.int u), some y3, some (.ref l), v5, v6] ∧
    H' l = some (.lst xs) ∧ l ≠ a ∧ DqAll K a H' xs ds ∧ (∀ d ∈ ds, Fine d) ∧ ds.length = 6 + 3 * i ∧ Sb a H11 H' ∧ Fd H' a s (n + 203 + 200 * i)) ?_ ?_ ?_ ?_⟩
  · exact ⟨p10, _, _, _, _, rfl, e11 _ _ h10, n10, h10'.same e11, six, rfl, Sb.refl a H11, f11⟩
  · rintro i σ H' _ ⟨l, xs, ds, v5, v6, rfl, _, _, _, _, _, sb, _⟩
    exact SqT.of (sb _ _ np11a hp11)
  · rintro i x σ H' hx ⟨l, xs, ds, v5, v6, rfl, g1, g2, g3, g4, g5, sb, fi⟩
    have hi2 : i < 2 := (List.getElem?_eq_some_iff.mp hx).1
    have hxd : ∃ d, Dq K a H' x d ∧ Fn (10 ^ 40) 3 200 d := by
      have hv := Dq.sb (hv10.same e11) sb
      have hy := Dq.sb (hy10.same e11) sb
      match i, hx with
      | 0, hx =>
        cases hx
        exact ⟨_, hv, F1⟩
      | 1, hx =>
        cases hx
        exact ⟨_, hy, F2⟩
    obtain ⟨d, hxd, hxF⟩ := hxd
    refine ⟨_, rfl, _, rfl, a, s, x, d, n + 203 + 200 * i, 10 ^ 40, 200, 3, rfl, fi, by omega, by decide, by decide, hxd, hxF, by decide, by decide, by decide, fun v12 H12 d12 sb12 f12 hv12 F12 => ?_⟩
    refine ⟨_, rfl, _, rfl, _, rfl, _, rfl, a, s, v12, d12, _, 10 ^ 40 + 1, 1400, 5, rfl, f12, by omega, by decide, by decide, hv12, F12, by decide, by decide, by decide, fun v13 H13 d13 sb13 f13 hv13 F13 => ?_⟩
    refine ⟨_, rfl, _, rfl, a, s, x, d, _, 10 ^ 40, 200, 3, rfl, f13, by omega, by decide, by decide, Dq.sb (Dq.sb hxd sb12) sb13, hxF, by decide, by decide, by decide, fun v14 H14 d14 sb14 f14 hv14 F14 => ?_⟩
    refine ⟨by show 3 ≤ sizeLine; decide, fun p15 np15 => ?_⟩
    obtain ⟨H15, xH15, e15, h15, n15, h15'⟩ := lstQ (K := K) f14.nn np15 (.cons (Dq.sb (Dq.sb hv12 sb13) sb14) (.cons (Dq.sb hv13 sb14) (.cons hv14 .nil)))
    rw [xH15]
    have f15 := f14.same e15
    have sb1214 := (sb12.trans sb13).trans sb14
    have sb15 := sb1214.trans (Sb.of e15)
    have hlx : xs.length = ds.length := dpa_len _ _ g3
    refine ⟨l, p15, _, _, rfl, rfl, sb15 _ _ g2 g1, h15, Nat.le_trans (show xs.length + 3 ≤ 1000 by omega) (by decide), fun p16 np16 => ?_⟩
    obtain ⟨H16, xH16, e16, h16, n16, h16'⟩ := lstQ (K := K) f15.nn np16 (dpa_append _ _ _ _ (DqAll.sb g3 sb15) h15')
    rw [xH16]
    refine ⟨p16, _, _, _, _, rfl, h16, n16, h16', ?_, ?_, sb.trans (sb15.trans (Sb.of e16)), (f15.same e16).mono (by omega)⟩
    · intro d hd
      rcases List.mem_append.mp hd with h | h
      · exact g4 d h
      · simp only [List.mem_cons, List.not_mem_nil, or_false] at h
        rcases h with rfl | rfl | rfl
        · exact fine_small F12 (by decide) (by decide) (by decide)
        · exact fine_small F13 (by decide) (by decide) (by decide)
        · exact fine_small F14 (by decide) (by decide) (by decide)
    · rw [List.length_append, g5]
      show 6 + 3 * i + 3 = 6 + 3 * (i + 1)
      omega
  · rintro σ H' ⟨l, xs, ds, v5, v6, rfl, g1, g2, g3, g4, g5, sb, fi⟩
    have hlx : xs.length = ds.length := dpa_len _ _ g3
    have g5 : ds.length = 12 := g5
    refine ⟨_, rfl, _, rfl, a, s, n + 603, rfl, fi, by omega, fun x17 H17 d17 sb17 f17 hx17 F17 => ?_⟩
    refine ⟨by show 1 ≤ sizeLine; decide, fun p18 np18 => ?_⟩
    obtain ⟨H18, xH18, e18, h18, n18, h18'⟩ := lstQ (K := K) f17.nn np18 (.cons hx17 .nil)
    rw [xH18]
    have f18 := f17.same e18
    have sb18 := sb17.trans (Sb.of e18)
    refine ⟨l, p18, _, _, rfl, rfl, sb18 _ _ g2 g1, h18, Nat.le_trans (show xs.length + 1 ≤ 1000 by omega) (by decide), fun p19 np19 => ?_⟩
    obtain ⟨H19, xH19, e19, h19, n19, h19'⟩ := lstQ (K := K) f18.nn np19 (dpa_append _ _ _ _ (DqAll.sb g3 sb18) h18')
    rw [xH19]
    refine ke p19 H19 _ _ ?_ ((f18.same e19).mono (by omega)) h19 n19 h19' ?_ ?_
    · exact sb010.trans ((Sb.of e11).trans (sb.trans (sb18.trans (Sb.of e19))))
    · intro d hd
      rcases List.mem_append.mp hd with h | h
      · exact g4 d h
      · rw [List.mem_singleton.mp h]
        exact fine_small F17 (by decide) (by decide) (by decide)
    · rw [List.length_append, g5]
      show 12 + 1 ≤ 30
      decide

end K04

set_option Elab.async false
set_option linter.all false
set_option maxRecDepth 100000
set_option maxHeartbeats 1000000
namespace K04
open PySem PySem.Spec PyProof.Rows L2 Gd
variable {P : Program} {w : World} {K : PySem.W.Frag} {mg : Str → Option Value} {base : Heap}
def zeros (n : Int) : List PyData := (List.replicate n.toNat (0 : Int)).map PyData.int
def ga0 : PyData := tabD 50 (unitR 50)
def ga1 : PyData := .tuple [.int 50, .tuple (((unitR 50).map rowD).take 49 ++ [.tuple (zeros 48 ++ [.int 1, .int 1])])]
def ga2 : PyData := .tuple [.int 50, .tuple (((unitR 50).map rowD).take 49 ++ [.tuple (zeros 49 ++ [.bool true])])]
def gb0 : PyData := .tuple [.int 300, .tuple [.tuple (zeros 300)]]
def gb1 : PyData := .tuple [.int 300, .tuple [.tuple (zeros 299 ++ [.bool true])]]
def longL : List PyData := List.replicate (Int.toNat 299) (.tuple [.int 1, .int 0])
def gb2 : PyData := .tuple [.int 2, .tuple longL]
def gb3 : PyData := .tuple [.int 2, .tuple (longL ++ [.tuple [.int 1, .none]])]
theorem great_fine : ∀ d ∈ [ga0, ga1, ga2] ++ [gb0, gb1, gb2, gb3], Fine d := by
  intro d hd
  simp only [List.cons_append, List.nil_append, List.mem_cons, List.not_mem_nil, or_false] at hd
  rcases hd with rfl | rfl | rfl | rfl | rfl | rfl | rfl <;> exact ⟨by decide +kernel, by decide +kernel, by decide +kernel⟩
theorem long_tup : tupOnly (.tuple longL) = true := by decide +kernel
theorem zeros_tup (z : Int) : tupOnly (.tuple (zeros z)) = true := rowD_tup _
theorem rows_of {wd : Nat} : ∀ es : List PyData, (∀ e ∈ es, ∃ r, e = rowD r ∧ OkR wd r) → ∃ rs : List (List Int), es = rs.map rowD ∧ ∀ r ∈ rs, OkR wd r
  | [], _ => ⟨[], rfl, fun r hr => by cases hr⟩
  | e :: es, h => by
    obtain ⟨r, rfl, hr⟩ := h e (List.mem_cons_self ..)
    obtain ⟨rs, rfl, hrs⟩ := rows_of es (fun y hy => h y (List.mem_cons_of_mem _ hy))
    refine ⟨r :: rs, rfl, fun x hx => ?_⟩
    rcases List.mem_cons.mp hx with rfl | hx
    · exact hr
    · exact hrs x hx
theorem ok_l_great_ones (D : Df K mg "_law_great_ones" s_l_great_ones) (B : Bn mg) (h_l_unit : Has P w K mg base "_law_unit" 1 p_l_unit (spUnit K)) (h_l_number : Has P w K mg base "_law_number" 2 p_l_number spNumber)
    (h_l_draw : Has P w K mg base "_law_draw" 1 p_l_draw spDraw) (h_l_odd : Has P w K mg base "_law_odd" 2 p_l_odd (spOdd K)) :
    Has P w K mg base "_law_great_ones" 3 p_l_great_ones (spThings K) := by
  refine has_of (k := 2) D sc_l_great_ones bn_l_great_ones ?_ ?_
  · rintro vs H Q E ⟨a, s, n, rfl, _⟩
    rfl
  rintro f cdv A outer s0 H vs Q E hr ⟨a, s, n, rfl, f0, hn, ke⟩
  refine ⟨_, (pss_cons (ps_asg (pe_has (h_l_unit) (hr.mono (by first | decide | omega)) (by rfl) (pa_cons pe_int pa_nil)) (pg_name (i := 1) sc_l_great_ones.nd rfl (by first | exact Or.inl rfl | exact Or.inr rfl)))
      (pss_cons (ps_asg (pe_op (op_repK (K := K) (by rfl)) (pe_tup (pa_cons (pe_tup (pa_cons pe_int (pa_cons pe_int pa_nil))) pa_nil)) pe_int) (pg_name (i := 2) sc_l_great_ones.nd rfl (by first | exact Or.inl rfl | exact Or.inr rfl)))
      (pss_cons (ps_asg (pe_lst (pa_cons (pv 1) (pa_cons (pe_tup (pa_cons pe_int (pa_cons (pe_op (op_catK (K := K) (by rfl)) (pe_slice (sl_tupK (K := K) (by rfl)) (pe_ix (ix_tupK (K := K) (by rfl)) (pv 1) pe_int (fun _ _ => rfl)) po_none (po_some pe_int)) (pe_tup (pa_cons (pe_op (op_catK (K := K) (by rfl)) (pe_op (op_repK (K := K) (by rfl)) (pe_tup (pa_cons pe_int pa_nil)) pe_int) (pe_tup (pa_cons pe_int (pa_cons pe_int pa_nil)))) pa_nil))) pa_nil))) (pa_cons (pe_tup (pa_cons pe_int (pa_cons (pe_op (op_catK (K := K) (by rfl)) (pe_slice (sl_tupK (K := K) (by rfl)) (pe_ix (ix_tupK (K := K) (by rfl)) (pv 1) pe_int (fun _ _ => rfl)) po_none (po_some pe_int)) (pe_tup (pa_cons (pe_op (op_catK (K := K) (by rfl)) (pe_op (op_repK (K := K) (by rfl)) (pe_tup (pa_cons pe_int pa_nil)) pe_int) (pe_tup (pa_cons pe_bl pa_nil))) pa_nil))) pa_nil))) pa_nil)))) (pg_name (i := 3) sc_l_great_ones.nd rfl (by first | exact Or.inl rfl | exact Or.inr rfl)))
      (pss_cons (ps_asg (pe_op op_cat (pv 3) (pe_lst (pa_cons (pe_tup (pa_cons pe_int (pa_cons (pe_tup (pa_cons (pe_op (op_repK (K := K) (by rfl)) (pe_tup (pa_cons pe_int pa_nil)) pe_int) pa_nil)) pa_nil))) (pa_cons (pe_tup (pa_cons pe_int (pa_cons (pe_tup (pa_cons (pe_op (op_catK (K := K) (by rfl)) (pe_op (op_repK (K := K) (by rfl)) (pe_tup (pa_cons pe_int pa_nil)) pe_int) (pe_tup (pa_cons pe_bl pa_nil))) pa_nil)) pa_nil))) (pa_cons (pe_tup (pa_cons pe_int (pa_cons (pv 2) pa_nil))) (pa_cons (pe_tup (pa_cons pe_int (pa_cons (pe_op (op_catK (K := K) (by rfl)) (pv 2) (pe_tup (pa_cons (pe_tup (pa_cons pe_int (pa_cons pe_non pa_nil))) pa_nil))) pa_nil))) pa_nil)))))) (pg_name (i := 3) sc_l_great_ones.nd rfl (by first | exact Or.inl rfl | exact Or.inr rfl)))
      (pss_cons (ps_asg (pe_tup (pa_cons pe_int (pa_cons (pe_callTy (call_tupleK (K := K) (by rfl)) (by rfl) B.tuple_ (by decide +kernel) (pa_cons (pe_lc (own := [("_law_i", 5)]) rfl sc_l_great_ones.nd (pi_range1 (by rfl) B.range_ (pa_cons pe_int pa_nil)) (blkOk_by (own := [("_law_i", 5)]) (N := n_l_great_ones) (sc := defScope s_l_great_ones) (by decide +kernel)) (fun _ _ _ _ _ => (pg_name (i := 5) sc_l_great_ones.nd rfl (by first | exact Or.inl rfl | exact Or.inr rfl))) (fun _ _ _ _ _ => pts_nil) (fun _ _ _ _ _ => (pe_callTy (call_tupleK (K := K) (by rfl)) (by rfl) B.tuple_ (by decide +kernel) (pa_cons (pe_lc (own := [("_law_j", 6)]) rfl sc_l_great_ones.nd (pi_range1 (by rfl) B.range_ (pa_cons pe_int pa_nil)) (blkOk_by (own := [("_law_j", 6)]) (N := n_l_great_ones) (sc := { kind := PySem.ScopeKind.function, names := [ (PySem.Str.ofString ".0", PySem.NameKind.local), (PySem.Str.ofString "_law_i", PySem.NameKind.local), (PySem.Str.ofString "tuple", PySem.NameKind.globalImplicit), (PySem.Str.ofString "range", PySem.NameKind.globalImplicit), (PySem.Str.ofString "_law_feed_here", PySem.NameKind.cell)], isGenerator := false, isCoroutine := false, more := [] : PySem.Scope }) (by decide +kernel)) (fun _ _ _ _ _ => (pg_name (i := 6) sc_l_great_ones.nd rfl (by first | exact Or.inl rfl | exact Or.inr rfl))) (fun _ _ _ _ _ => pts_nil) (fun _ _ _ _ _ => (pe_has (h_l_number) (hr.mono (by first | decide | omega)) (by rfl) (pa_cons (pv 0) pa_nil)))) pa_nil)))) pa_nil)) pa_nil))) (pg_name (i := 4) sc_l_great_ones.nd rfl (by first | exact Or.inl rfl | exact Or.inr rfl)))
      (pss_cons (ps_par (i := 5) (j := 6) (by rfl) sc_l_great_ones.nd rfl rfl (by decide) rfl rfl (pa_cons (pe_has (h_l_draw) (hr.mono (by first | decide | omega)) (by rfl) (pa_cons (pv 0) (pa_cons pe_int pa_nil))) (pa_cons (pe_has (h_l_draw) (hr.mono (by first | decide | omega)) (by rfl) (pa_cons (pv 0) (pa_cons pe_int pa_nil))) pa_nil)) (by rfl))
      (pss_cons (ps_asg (pe_op (op_catK (K := K) (by rfl)) (pe_op (op_catK (K := K) (by rfl)) (pe_slice (sl_tupK (K := K) (by rfl)) (pe_ix (ix_tupK (K := K) (by rfl)) (pe_ix (ix_tupK (K := K) (by rfl)) (pv 4) pe_int (fun _ _ => rfl)) (pv 5) (fun _ _ => rfl)) po_none (po_some (pv 6))) (pe_tup (pa_cons (pe_has (h_l_odd) (hr.mono (by first | decide | omega)) (by rfl) (pa_cons (pv 0) pa_nil)) pa_nil))) (pe_slice (sl_tupK (K := K) (by rfl)) (pe_ix (ix_tupK (K := K) (by rfl)) (pe_ix (ix_tupK (K := K) (by rfl)) (pv 4) pe_int (fun _ _ => rfl)) (pv 5) (fun _ _ => rfl)) (po_some (pe_op op_add (pv 6) pe_int)) po_none)) (pg_name (i := 7) sc_l_great_ones.nd rfl (by first | exact Or.inl rfl | exact Or.inr rfl)))
      (pss_one (ps_ret (pe_op op_cat (pv 3) (pe_lst (pa_cons (pv 4) (pa_cons (pe_tup (pa_cons pe_int (pa_cons (pe_op (op_catK (K := K) (by rfl)) (pe_op (op_catK (K := K) (by rfl)) (pe_slice (sl_tupK (K := K) (by rfl)) (pe_ix (ix_tupK (K := K) (by rfl)) (pv 4) pe_int (fun _ _ => rfl)) po_none (po_some (pv 5))) (pe_tup (pa_cons (pv 7) pa_nil))) (pe_slice (sl_tupK (K := K) (by rfl)) (pe_ix (ix_tupK (K := K) (by rfl)) (pv 4) pe_int (fun _ _ => rfl)) (po_some (pe_op op_add (pv 5) pe_int)) po_none)) pa_nil))) pa_nil))))))))))))), ?_⟩
  refine ⟨50, rfl, by decide, fun y1 H1 e1 hy1 => ?_⟩
  have f1 := f0.same e1
  have hy1 : Dq K a H1 y1 ga0 := Dp.q f1 (tabD_tup _ _) hy1
  refine ⟨by show 2 ≤ sizeLine; decide, fun p2 np2 => ?_⟩
  obtain ⟨H2, xH2, e2, h2⟩ := tupQ (K := K) f1.nn np2 (.cons (.int 1) (.cons (.int 0) .nil))
  rw [xH2]
  have f2 := f1.same e2
  refine ⟨by show 1 ≤ sizeLine; decide, fun p3 np3 => ?_⟩
  obtain ⟨H3, xH3, e3, h3⟩ := tupQ (K := K) f2.nn np3 (.cons h2 .nil)
  have s3 : SqT K H3 p3 [.ref p2] := by
    rw [← xH3]
    exact SqT.of upd_same
  rw [xH3]
  have f3 := f2.same e3
  try dsimp only [tC, tNil]
  refine rep1_dp (x := .ref p3) (k := 299) s3 ((h2.same e3).dp) (by decide) (by decide) fun v4 H4 e4 hv4 => ?_
  have f4 := f3.same e4
  have hv4 : Dq K a H4 v4 (.tuple longL) := Dp.q f4 long_tup hv4
  have e14 := (e2.trans e3).trans e4
  have hy4 := hy1.same e14
  refine ⟨_, rfl, _, rfl, ?_⟩
  try dsimp only [tC, tNil]
  refine ix_dq (i := 1) hy4 rfl fun z5 hz5 => ?_
  refine ⟨_, rfl, ?_⟩
  refine sl_to (i := 49) rfl f4.nn hz5 fun v5 H5 e5 hv5 => ?_
  have f5 := f4.same e5
  refine ⟨by show 1 ≤ sizeLine; decide, fun pz6 npz6 => ?_⟩
  obtain ⟨Hz6, xHz6, ez6, hz6⟩ := tup_new (K := K) npz6 (.cons (.int 0) .nil)
  rw [xHz6]
  have hz6 : Dp K Hz6 (.ref pz6) (rowD [0]) := hz6
  try dsimp only [tC, tNil]
  refine rep_dp (k := 48) hz6 (by decide) (by decide) fun v6 H6 ew6 hv6 => ?_
  have e6 := ez6.trans ew6
  have hv6 : Dq K a H6 v6 (.tuple (zeros 48)) := Dp.q (f5.same e6) (rowD_tup _) hv6
  have f6 := f5.same e6
  refine ⟨by show 2 ≤ sizeLine; decide, fun p7 np7 => ?_⟩
  obtain ⟨H7, xH7, e7, h7⟩ := tupQ (K := K) f6.nn np7 (.cons (.int 1) (.cons (.int 1) .nil))
  rw [xH7]
  have f7 := f6.same e7
  refine cat_dq f7.nn (hv6.same e7) h7 (by simp [zeros]) fun v8 H8 e8 hv8 => ?_
  have f8 := f7.same e8
  refine ⟨by show 1 ≤ sizeLine; decide, fun p9 np9 => ?_⟩
  obtain ⟨H9, xH9, e9, h9⟩ := tupQ (K := K) f8.nn np9 (.cons hv8 .nil)
  rw [xH9]
  have f9 := f8.same e9
  refine cat_dq f9.nn (hv5.same (((e6.trans e7).trans e8).trans e9)) h9 (by rw [List.length_take]; simp; omega) fun v10 H10 e10 hv10 => ?_
  have f10 := f9.same e10
  refine ⟨by show 2 ≤ sizeLine; decide, fun p11 np11 => ?_⟩
  obtain ⟨H11, xH11, e11, h11⟩ := tupQ (K := K) f10.nn np11 (.cons (.int 50) (.cons hv10 .nil))
  rw [xH11]
  have f11 := f10.same e11
  have h11 : Dq K a H11 (.ref p11) ga1 := h11
  have e411 := (((((e5.trans e6).trans e7).trans e8).trans e9).trans e10).trans e11
  have hy11 := hy4.same e411
  refine ⟨_, rfl, ?_⟩
  try dsimp only [tC, tNil]
  refine ix_dq (i := 1) hy11 rfl fun z12 hz12 => ?_
  refine ⟨_, rfl, ?_⟩
  refine sl_to (i := 49) rfl f11.nn hz12 fun v12 H12 e12 hv12 => ?_
  have f12 := f11.same e12
  refine ⟨by show 1 ≤ sizeLine; decide, fun pz13 npz13 => ?_⟩
  obtain ⟨Hz13, xHz13, ez13, hz13⟩ := tup_new (K := K) npz13 (.cons (.int 0) .nil)
  rw [xHz13]
  have hz13 : Dp K Hz13 (.ref pz13) (rowD [0]) := hz13
  try dsimp only [tC, tNil]
  refine rep_dp (k := 49) hz13 (by decide) (by decide) fun v13 H13 ew13 hv13 => ?_
  have e13 := ez13.trans ew13
  have hv13 : Dq K a H13 v13 (.tuple (zeros 49)) := Dp.q (f12.same e13) (rowD_tup _) hv13
  have f13 := f12.same e13
  refine ⟨by show 1 ≤ sizeLine; decide, fun p14 np14 => ?_⟩
  obtain ⟨H14, xH14, e14', h14⟩ := tupQ (K := K) f13.nn np14 (.cons (.bl true) .nil)
  rw [xH14]
  have f14 := f13.same e14'
  refine cat_dq f14.nn (hv13.same e14') h14 (by simp [zeros]) fun v15 H15 e15 hv15 => ?_
  have f15 := f14.same e15
  refine ⟨by show 1 ≤ sizeLine; decide, fun p16 np16 => ?_⟩
  obtain ⟨H16, xH16, e16, h16⟩ := tupQ (K := K) f15.nn np16 (.cons hv15 .nil)
  rw [xH16]
  have f16 := f15.same e16
  refine cat_dq f16.nn (hv12.same (((e13.trans e14').trans e15).trans e16)) h16 (by rw [List.length_take]; simp; omega) fun v17 H17 e17 hv17 => ?_
  have f17 := f16.same e17
  refine ⟨by show 2 ≤ sizeLine; decide, fun p18 np18 => ?_⟩
  obtain ⟨H18, xH18, e18, h18⟩ := tupQ (K := K) f17.nn np18 (.cons (.int 50) (.cons hv17 .nil))
  rw [xH18]
  have f18 := f17.same e18
  have h18 : Dq K a H18 (.ref p18) ga2 := h18
  have e1118 := (((((e12.trans e13).trans e14').trans e15).trans e16).trans e17).trans e18
  refine ⟨by show 3 ≤ sizeLine; decide, fun p19 np19 => ?_⟩
  obtain ⟨H19, xH19, e19, h19, n19, l19⟩ := lstQ (K := K) f18.nn np19 (.cons (hy11.same e1118) (.cons (h11.same e1118) (.cons h18 .nil)))
  rw [xH19]
  have f19 := f18.same e19
  -- the four
  refine ⟨_, rfl, ?_⟩
  refine ⟨by show 1 ≤ sizeLine; decide, fun pz20 npz20 => ?_⟩
  obtain ⟨Hz20, xHz20, ez20, hz20⟩ := tup_new (K := K) npz20 (.cons (.int 0) .nil)
  rw [xHz20]
  have hz20 : Dp K Hz20 (.ref pz20) (rowD [0]) := hz20
  try dsimp only [tC, tNil]
  refine rep_dp (k := 300) hz20 (by decide) (by decide) fun v20 H20 ew20 hv20 => ?_
  have e20 := ez20.trans ew20
  have hv20 : Dq K a H20 v20 (.tuple (zeros 300)) := Dp.q (f19.same e20) (rowD_tup _) hv20
  have f20 := f19.same e20
  refine ⟨by show 1 ≤ sizeLine; decide, fun p21 np21 => ?_⟩
  obtain ⟨H21, xH21, e21, h21⟩ := tupQ (K := K) f20.nn np21 (.cons hv20 .nil)
  rw [xH21]
  have f21 := f20.same e21
  refine ⟨by show 2 ≤ sizeLine; decide, fun p22 np22 => ?_⟩
  obtain ⟨H22, xH22, e22, h22⟩ := tupQ (K := K) f21.nn np22 (.cons (.int 300) (.cons h21 .nil))
  rw [xH22]
  have f22 := f21.same e22
  have h22 : Dq K a H22 (.ref p22) gb0 := h22
  refine ⟨by show 1 ≤ sizeLine; decide, fun pz23 npz23 => ?_⟩
  obtain ⟨Hz23, xHz23, ez23, hz23⟩ := tup_new (K := K) npz23 (.cons (.int 0) .nil)
  rw [xHz23]
  have hz23 : Dp K Hz23 (.ref pz23) (rowD [0]) := hz23
  try dsimp only [tC, tNil]
  refine rep_dp (k := 299) hz23 (by decide) (by decide) fun v23 H23 ew23 hv23 => ?_
  have e23 := ez23.trans ew23
  have hv23 : Dq K a H23 v23 (.tuple (zeros 299)) := Dp.q (f22.same e23) (rowD_tup _) hv23
  have f23 := f22.same e23
  refine ⟨by show 1 ≤ sizeLine; decide, fun p24 np24 => ?_⟩
  obtain ⟨H24, xH24, e24, h24⟩ := tupQ (K := K) f23.nn np24 (.cons (.bl true) .nil)
  rw [xH24]
  have f24 := f23.same e24
  refine cat_dq f24.nn (hv23.same e24) h24 (by simp [zeros]) fun v25 H25 e25 hv25 => ?_
  have f25 := f24.same e25
  refine ⟨by show 1 ≤ sizeLine; decide, fun p26 np26 => ?_⟩
  obtain ⟨H26, xH26, e26, h26⟩ := tupQ (K := K) f25.nn np26 (.cons hv25 .nil)
  rw [xH26]
  have f26 := f25.same e26
  refine ⟨by show 2 ≤ sizeLine; decide, fun p27 np27 => ?_⟩
  obtain ⟨H27, xH27, e27, h27⟩ := tupQ (K := K) f26.nn np27 (.cons (.int 300) (.cons h26 .nil))
  rw [xH27]
  have f27 := f26.same e27
  have h27 : Dq K a H27 (.ref p27) gb1 := h27
  have e2227 := (((e23.trans e24).trans e25).trans e26).trans e27
  have e1927 := (((e20.trans e21).trans e22).trans e2227)
  have e427 := ((e411.trans e1118).trans e19).trans e1927
  have hv27 := hv4.same e427
  refine ⟨_, rfl, by show 2 ≤ sizeLine; decide, fun p28 np28 => ?_⟩
  obtain ⟨H28, xH28, e28, h28⟩ := tupQ (K := K) f27.nn np28 (.cons (.int 2) (.cons hv27 .nil))
  rw [xH28]
  have f28 := f27.same e28
  have h28 : Dq K a H28 (.ref p28) gb2 := h28
  refine ⟨_, rfl, ?_⟩
  refine ⟨by show 2 ≤ sizeLine; decide, fun p29 np29 => ?_⟩
  obtain ⟨H29, xH29, e29, h29⟩ := tupQ (K := K) f28.nn np29 (.cons (.int 1) (.cons .non .nil))
  rw [xH29]
  have f29 := f28.same e29
  refine ⟨by show 1 ≤ sizeLine; decide, fun p30 np30 => ?_⟩
  obtain ⟨H30, xH30, e30, h30⟩ := tupQ (K := K) f29.nn np30 (.cons h29 .nil)
  rw [xH30]
  have f30 := f29.same e30
  refine cat_dq f30.nn (hv27.same ((e28.trans e29).trans e30)) h30 (by simp [longL]) fun v31 H31 e31 hv31 => ?_
  have f31 := f30.same e31
  refine ⟨by show 2 ≤ sizeLine; decide, fun p32 np32 => ?_⟩
  obtain ⟨H32, xH32, e32, h32⟩ := tupQ (K := K) f31.nn np32 (.cons (.int 2) (.cons hv31 .nil))
  rw [xH32]
  have f32 := f31.same e32
  have h32 : Dq K a H32 (.ref p32) gb3 := h32
  have e2832 := (((e29.trans e30).trans e31).trans e32)
  refine ⟨by show 4 ≤ sizeLine; decide, fun p33 np33 => ?_⟩
  obtain ⟨H33, xH33, e33, h33, n33, l33⟩ := lstQ (K := K) f32.nn np33 (.cons (h22.same ((e2227.trans e28).trans e2832)) (.cons (h27.same (e28.trans e2832)) (.cons (h28.same e2832) (.cons h32 .nil))))
  rw [xH33]
  have f33 := f32.same e33
  have e1933 := ((e1927.trans e28).trans e2832).trans e33
  refine ⟨p19, p33, _, _, rfl, rfl, e1933 _ _ h19, h33, by show 7 ≤ sizeLine; decide, fun p34 np34 => ?_⟩
  obtain ⟨H34, xH34, e34, h34, n34, l34⟩ := lstQ (K := K) f33.nn np34 (dpa_append _ _ _ _ (l19.same e1933) l33)
  rw [xH34]
  have f34 := f33.same e34
  have sb034 : Sb a H H34 := Sb.of (((((e1.trans e14).trans ((e411.trans e1118).trans e19)).trans e1933)).trans e34)
  -- forty rows
  refine ⟨40, rfl, by decide, by decide, fun D35 hD35 => ?_⟩
  refine lcrD (K := K) (m := 40) (c := 16) (fun e => ∃ r, e = rowD r ∧ OkR 8 r) hD35 f34 (by decide) (fun e he => by obtain ⟨r, rfl, _⟩ := he; exact rowD_tup r) (fun _ => rfl) ?_ ?_
  · intro j H35 Q35 hj sb35 f35 k35
    refine ⟨8, rfl, by decide, by decide, fun D36 hD36 => ?_⟩
    refine lcrF (m := 8) (c := 2) (fun z => -99 ≤ z ∧ z ≤ 99) hD36 f35 (by decide) (fun _ => rfl) ?_ ?_
    · intro i H36 Q36 hi sb36 f36 k36
      exact ⟨_, rfl, a, s, _, rfl, f36, by omega, fun z H37 z0 z1 sb37 f37 => k36 z H37 sb37 f37 ⟨z0, by omega⟩⟩
    · intro H36 ns sb36 f36 h36 hlen hb
      refine ⟨D36, _, rfl, .inl ⟨SqL.of h36, fun q nq => ?_⟩⟩
      have eq := Same.new (o := .tup (ns.map V.int)) nq
      exact k35 _ (rowD ns) _ (sb36.trans (Sb.of eq)) ((f36.same eq).mono (by omega)) ⟨ns, rfl, hlen, hb⟩ (mk_row (SqT.of upd_same))
  intro H35 ys es sb35 f35 h35 ha35 hl35 hp35
  obtain ⟨rs, rfl, hrs⟩ := rows_of es hp35
  rw [List.length_map] at hl35
  try dsimp only [tC, tNil]
  refine tupL_dp h35 ha35 fun v36 H36 e36 hv36 => ?_
  have f36 := f35.same e36
  have hv36 : Dq K a H36 v36 (.tuple (rs.map rowD)) := Dp.q f36 (rowsD_tup rs) hv36
  refine ⟨by show 2 ≤ sizeLine; decide, fun p37 np37 => ?_⟩
  obtain ⟨H37, xH37, e37, h37⟩ := tupQ (K := K) f36.nn np37 (.cons (.int 8) (.cons hv36 .nil))
  rw [xH37]
  have f37 := f36.same e37
  have sb3437 := sb35.trans (Sb.of (e36.trans e37))
  refine ⟨_, rfl, a, s, _, _, rfl, f37, by omega, by decide, by decide, fun ri H38 i0 i1 sb38 f38 => ?_⟩
  refine ⟨_, rfl, a, s, _, _, rfl, f38, by omega, by decide, by decide, fun rj H39 j0 j1 sb39 f39 => ?_⟩
  obtain ⟨i, rfl⟩ := Int.eq_ofNat_of_zero_le i0
  obtain ⟨j, rfl⟩ := Int.eq_ofNat_of_zero_le j0
  refine ⟨_, _, rfl, ?_⟩
  have hi : i < rs.length := by omega
  have hri : (rs.getD i []).length = 8 := (hrs _ (Gd.getD_mem hi)).1
  have h39 := Dq.sb (Dq.sb h37 sb38) sb39
  refine ⟨_, rfl, ?_⟩
  try dsimp only [tC, tNil]
  refine ix_dq (i := 1) h39 rfl fun z40 hz40 => ?_
  refine ⟨_, rfl, ?_⟩
  refine ix_dq (i := i) hz40 (rows_getD hi) fun z41 hz41 => ?_
  refine ⟨_, rfl, _, rfl, ?_⟩
  refine sl_to (i := j) rfl f39.nn hz41 fun v42 H42 e42 hv42 => ?_
  have f42 := f39.same e42
  refine ⟨_, rfl, a, s, _, rfl, f42, by omega, fun x43 H43 d43 sb43 f43 hx43 F43 => ?_⟩
  refine ⟨by show 1 ≤ sizeLine; decide, fun p44 np44 => ?_⟩
  obtain ⟨H44, xH44, e44, h44⟩ := tupQ (K := K) f43.nn np44 (.cons hx43 .nil)
  rw [xH44]
  have f44 := f43.same e44
  refine cat_dq f44.nn ((Dq.sb hv42 sb43).same e44) h44 (by rw [List.length_take, List.length_map]; simp; omega) fun v45 H45 e45 hv45 => ?_
  have f45 := f44.same e45
  have sb3945 := ((Sb.of (a := a) e42).trans sb43).trans (Sb.of (e44.trans e45))
  have h45 := Dq.sb h39 sb3945
  refine ⟨_, rfl, ?_⟩
  try dsimp only [tC, tNil]
  refine ix_dq (i := 1) h45 rfl fun z46 hz46 => ?_
  refine ⟨_, rfl, ?_⟩
  refine ix_dq (i := i) hz46 (rows_getD hi) fun z47 hz47 => ?_
  refine ⟨_, rfl, _, _, rfl, rfl, _, rfl, ?_⟩
  dsimp only [tNoPart]
  refine sl_from (i := j + 1) (z := (j : Int) + 1) (by omega) f45.nn hz47 fun v48 H48 e48 hv48 => ?_
  have f48 := f45.same e48
  refine cat_dq f48.nn (hv45.same e48) hv48 (by rw [List.length_append, List.length_take, List.length_drop, List.length_map, hri, List.length_singleton]; omega) fun v49 H49 e49 hv49 => ?_
  have f49 := f48.same e49
  have h49 := h45.same (e48.trans e49)
  have sb4549 : Sb a H45 H49 := Sb.of (e48.trans e49)
  have sb3449 := ((sb3437.trans sb38).trans sb39).trans (sb3945.trans sb4549)
  -- the row that is bent
  have small : ∀ r ∈ rs, r.length = 8 ∧ ∀ x ∈ r, x.natAbs ≤ 10 ^ 40 := fun r hr => ⟨(hrs r hr).1, fun x hx => by have := (hrs r hr).2 x hx; omega⟩
  have rowF : ∀ d ∈ (((rs.getD i []).map PyData.int).take j ++ [d43]) ++ ((rs.getD i []).map PyData.int).drop (j + 1), fok (10 ^ 40) d = true ∧ d.depth ≤ 2 := by
    have base : ∀ d ∈ (rs.getD i []).map PyData.int, fok (10 ^ 40) d = true ∧ d.depth ≤ 2 := by
      intro d hd
      obtain ⟨x, hx, rfl⟩ := List.mem_map.mp hd
      have := (small _ (Gd.getD_mem hi)).2 x hx
      exact ⟨by simp only [fok, decide_eq_true_eq]; exact this, by simp [PyData.depth]⟩
    intro d hd
    rcases List.mem_append.mp hd with h | h
    · rcases List.mem_append.mp h with h | h
      · exact base d (List.mem_of_mem_take h)
      · rw [List.mem_singleton.mp h]
        exact ⟨F43.ok, F43.dep⟩
    · exact base d (List.mem_of_mem_drop h)
  have rowS : fzAll ((((rs.getD i []).map PyData.int).take j ++ [d43]) ++ ((rs.getD i []).map PyData.int).drop (j + 1)) ≤ 30 := by
    rw [fzAll_app, fzAll_app]
    have t1 := fz_take ((rs.getD i []).map PyData.int) j
    have t2 := fz_drop1 ((rs.getD i []).map PyData.int) j
    have t3 := (ints_fz (10 ^ 40) (rs.getD i []) (small _ (Gd.getD_mem hi)).2).2.2
    have t4 := F43.sz
    simp only [fzAll]
    omega
  have rowFn : Fn (10 ^ 40) 3 31 (.tuple ((((rs.getD i []).map PyData.int).take j ++ [d43]) ++ ((rs.getD i []).map PyData.int).drop (j + 1))) := (fn_tup (k := 2)).mpr ⟨rowF, by omega⟩
  generalize PyData.tuple ((((rs.getD i []).map PyData.int).take j ++ [d43]) ++ ((rs.getD i []).map PyData.int).drop (j + 1)) = dr at hv49 rowFn
  obtain ⟨rw1, rw2⟩ := rows_fn rs small
  refine ⟨_, rfl, _, rfl, _, rfl, ?_⟩
  try dsimp only [tC, tNil]
  refine ix_dq (i := 1) h49 rfl fun z50 hz50 => ?_
  refine ⟨_, rfl, _, rfl, ?_⟩
  refine sl_to (i := i) rfl f49.nn hz50 fun v51 H51 e51 hv51 => ?_
  have f51 := f49.same e51
  refine ⟨_, rfl, by show 1 ≤ sizeLine; decide, fun p52 np52 => ?_⟩
  obtain ⟨H52, xH52, e52, h52⟩ := tupQ (K := K) f51.nn np52 (.cons (hv49.same e51) .nil)
  rw [xH52]
  have f52 := f51.same e52
  refine cat_dq f52.nn (hv51.same e52) h52 (by rw [List.length_take, List.length_map]; simp; omega) fun v53 H53 e53 hv53 => ?_
  have f53 := f52.same e53
  have h53 := h49.same ((e51.trans e52).trans e53)
  refine ⟨_, rfl, ?_⟩
  try dsimp only [tC, tNil]
  refine ix_dq (i := 1) h53 rfl fun z54 hz54 => ?_
  refine ⟨_, rfl, _, _, rfl, rfl, _, rfl, ?_⟩
  dsimp only [tNoPart]
  refine sl_from (i := i + 1) (z := (i : Int) + 1) (by omega) f53.nn hz54 fun v55 H55 e55 hv55 => ?_
  have f55 := f53.same e55
  refine cat_dq f55.nn (hv53.same e55) hv55 (by rw [List.length_append, List.length_take, List.length_drop, List.length_map]; simp; omega) fun v56 H56 e56 hv56 => ?_
  have f56 := f55.same e56
  refine ⟨by show 2 ≤ sizeLine; decide, fun p57 np57 => ?_⟩
  obtain ⟨H57, xH57, e57, h57⟩ := tupQ (K := K) f56.nn np57 (.cons (.int 8) (.cons hv56 .nil))
  rw [xH57]
  have f57 := f56.same e57
  have e4957 := ((((e51.trans e52).trans e53).trans e55).trans e56).trans e57
  refine ⟨by show 2 ≤ sizeLine; decide, fun p58 np58 => ?_⟩
  obtain ⟨H58, xH58, e58, h58, n58, l58⟩ := lstQ (K := K) f57.nn np58 (.cons (h49.same e4957) (.cons h57 .nil))
  rw [xH58]
  have f58 := f57.same e58
  have sb3458 := sb3449.trans (Sb.of (e4957.trans e58))
  refine ⟨p34, p58, _, _, rfl, rfl, sb3458 _ _ n34 h34, h58, by show 9 ≤ sizeLine; decide, fun p59 np59 => ?_⟩
  obtain ⟨H59, xH59, e59, h59, n59, l59⟩ := lstQ (K := K) f58.nn np59 (dpa_append _ _ _ _ (DqAll.sb l34 sb3458) l58)
  rw [xH59]
  refine ke p59 H59 _ _ ?_ ((f58.same e59).mono (by omega)) h59 n59 l59 ?_ (by show 9 ≤ 30; decide)
  · exact sb034.trans (sb3458.trans (Sb.of e59))
  · intro d hd
    rcases List.mem_append.mp hd with h | h
    · exact great_fine d h
    · simp only [List.mem_cons, List.not_mem_nil, or_false] at h
      rcases h with rfl | rfl
      · have := tab_fn (M := 10 ^ 40) (wd := 8) (m := 400) (z := 8) (rs := rs) (by decide) small (by rw [hl35]; decide)
        exact fine_small this (by decide) (by decide) (by decide)
      · refine (fn_tup (k := 19)).mpr ⟨fun d hd => ?_, ?_⟩
        · simp only [List.mem_cons, List.not_mem_nil, or_false] at hd
          rcases hd with rfl | rfl
          · exact ⟨by decide +kernel, by decide +kernel⟩
          · have hh : Fn (10 ^ 61) 19 8000 (.tuple (((rs.map rowD).take i ++ [dr]) ++ (rs.map rowD).drop (i + 1))) := by
              refine (fn_tup (k := 18)).mpr ⟨fun d hd => ?_, ?_⟩
              · rcases List.mem_append.mp hd with h | h
                · rcases List.mem_append.mp h with h | h
                  · have := rw1 d (List.mem_of_mem_take h)
                    exact ⟨fok_mono (by decide) _ this.1, by omega⟩
                  · rw [List.mem_singleton.mp h]
                    exact ⟨fok_mono (by decide) _ rowFn.ok, by have := rowFn.dep; omega⟩
                · have := rw1 d (List.mem_of_mem_drop h)
                  exact ⟨fok_mono (by decide) _ this.1, by omega⟩
              · rw [fzAll_app, fzAll_app]
                have t1 := fz_take (rs.map rowD) i
                have t2 := fz_drop1 (rs.map rowD) i
                have t4 := rowFn.sz
                simp only [fzAll]
                rw [hl35] at rw2
                omega
            exact ⟨hh.ok, hh.dep⟩
        · simp only [fzAll, fz]
          rw [fzAll_app, fzAll_app]
          have t1 := fz_take (rs.map rowD) i
          have t2 := fz_drop1 (rs.map rowD) i
          have t4 := rowFn.sz
          simp only [fzAll]
          rw [hl35] at rw2
          omega

end K04

set_option Elab.async false
set_option linter.all false
set_option maxRecDepth 100000
set_option maxHeartbeats 1000000
namespace K04
open PySem PySem.Spec PyProof.Rows L2 Gd
variable {P : Program} {w : World} {K : PySem.W.Frag} {mg : Str → Option Value} {base : Heap}
def spRowRight (K : PySem.W.Frag) : Sp := fun vs H Q _ => ∃ (a s : Addr) (n : Nat), vs = [.ref a] ∧ Fd H a s n ∧ n + 1000 ≤ 1000000 ∧ ∀ H', Sb a H H' → Fd H' a s (n + 1000) → Q (.bl true) H'
theorem ok_l_row_right (D : Df K mg "_law_row_right" s_l_row_right) (B : Bn mg) (h_l_draw : Has P w K mg base "_law_draw" 1 p_l_draw spDraw) (h_l_number : Has P w K mg base "_law_number" 2 p_l_number spNumber)
    (h_l_bent : Has P w K mg base "_law_bent" 8 p_l_bent (spBent K 5)) (h_l_odd : Has P w K mg base "_law_odd" 2 p_l_odd (spOdd K))
    (h_is_row : Has P w K mg base "is_row" 2 p_is_row (spIsRowD K)) (h_l_is_row : Has P w K mg base "_law_is_row" 1 p_l_is_row (spLRow K)) :
    HasG P w K mg base "_law_row_right" 9 p_l_row_right (spRowRight K) := by
  refine hasG_of (k := 8) D sc_l_row_right bn_l_row_right ?_ ?_
  · rintro vs H Q E ⟨a, s, n, rfl, _⟩
    rfl
  rintro f cdv A outer s0 H vs Q E hG hr ⟨a, s, n, rfl, f0, hn, ke⟩
  refine ⟨_, (pss_cons (ps_asg (pe_has (h_l_draw) (hr.mono (by first | decide | omega)) (by rfl) (pa_cons (pv 0) (pa_cons pe_int pa_nil))) (pg_name (i := 1) sc_l_row_right.nd rfl (by first | exact Or.inl rfl | exact Or.inr rfl)))
      (pss_cons (ps_asg (pe_callTy (call_tupleK (K := K) (by rfl)) (by rfl) B.tuple_ (by decide +kernel) (pa_cons (pe_lc (own := [("_law_k", 5)]) rfl sc_l_row_right.nd (pi_range1 (by rfl) B.range_ (pa_cons (pv 1) pa_nil)) (blkOk_by (own := [("_law_k", 5)]) (N := n_l_row_right) (sc := defScope s_l_row_right) (by decide +kernel)) (fun _ _ _ _ _ => (pg_name (i := 5) sc_l_row_right.nd rfl (by first | exact Or.inl rfl | exact Or.inr rfl))) (fun _ _ _ _ _ => pts_nil) (fun _ _ _ _ _ => (pe_has (h_l_number) (hr.mono (by first | decide | omega)) (by rfl) (pa_cons (pv 0) pa_nil)))) pa_nil)) (pg_name (i := 2) sc_l_row_right.nd rfl (by first | exact Or.inl rfl | exact Or.inr rfl)))
      (pss_cons (ps_for PassesOwn.never rfl (pi_tupK (K := K) (by rfl) (pe_tup (pa_cons (pv 2) (pa_cons (pe_callTy (call_listK (K := K) (by rfl)) (by rfl) B.list_ (by decide +kernel) (pa_cons (pv 2) pa_nil)) (pa_cons (pe_has (h_l_bent) (hr.mono (by first | decide | omega)) (by rfl) (pa_cons (pv 0) (pa_cons (pv 2) pa_nil))) (pa_cons (pe_has (h_l_bent) (hr.mono (by first | decide | omega)) (by rfl) (pa_cons (pv 0) (pa_cons (pv 2) pa_nil))) (pa_cons (pe_op (op_catK (K := K) (by rfl)) (pv 2) (pe_tup (pa_cons pe_bl pa_nil))) (pa_cons (pe_has (h_l_odd) (hr.mono (by first | decide | omega)) (by rfl) (pa_cons (pv 0) pa_nil)) pa_nil)))))))) (pg_name (i := 3) sc_l_row_right.nd rfl (by first | exact Or.inl rfl | exact Or.inr rfl)) (pss_one (ps_for PassesOwn.never rfl (pi_tupK (K := K) (by rfl) (pe_tup (pa_cons (pv 1) (pa_cons (pe_op op_add (pv 1) pe_int) (pa_cons (pe_callB (call_max2 (by rfl)) (by rfl) B.max_ (by decide +kernel) (pa_cons pe_int (pa_cons (pe_op op_sub (pv 1) pe_int) pa_nil))) (pa_cons pe_int pa_nil)))))) (pg_name (i := 4) sc_l_row_right.nd rfl (by first | exact Or.inl rfl | exact Or.inr rfl)) (pss_one (ps_if (pt_cmpR op_ne (pe_callB (call_reprDK (K := K) (by rfl) hG hr.units) (by rfl) B.repr_ (by decide +kernel) (pa_cons (pe_has (h_is_row) (hr.mono (by first | decide | omega)) (by rfl) (pa_cons (pv 4) (pa_cons (pv 3) pa_nil))) pa_nil)) (pe_callB (call_reprDK (K := K) (by rfl) hG hr.units) (by rfl) B.repr_ (by decide +kernel) (pa_cons (pe_has (h_l_is_row) (hr.mono (by first | decide | omega)) (by rfl) (pa_cons (pv 4) (pa_cons (pv 3) pa_nil))) pa_nil)) (nomark _)) (pss_one (ps_ret pe_bl)) pss_nil)))))
      (pss_one (ps_ret (pe_cmpR op_eq (pe_callB (call_reprDK (K := K) (by rfl) hG hr.units) (by rfl) B.repr_ (by decide +kernel) (pa_cons (pe_lst (pa_cons (pe_has (h_is_row) (hr.mono (by first | decide | omega)) (by rfl) (pa_cons pe_int (pa_cons (pe_op (op_repK (K := K) (by rfl)) (pe_tup (pa_cons pe_int pa_nil)) pe_int) pa_nil))) (pa_cons (pe_has (h_is_row) (hr.mono (by first | decide | omega)) (by rfl) (pa_cons pe_int (pa_cons (pe_op (op_repK (K := K) (by rfl)) (pe_tup (pa_cons pe_int pa_nil)) pe_int) pa_nil))) pa_nil))) pa_nil)) (pe_callB (call_reprDK (K := K) (by rfl) hG hr.units) (by rfl) B.repr_ (by decide +kernel) (pa_cons (pe_lst (pa_cons pe_bl (pa_cons pe_bl pa_nil))) pa_nil)) (nomark _))))))), ?_⟩
  refine ⟨_, rfl, a, s, _, n, rfl, f0, by omega, by decide, by decide, fun r1 H1 r10 r11 sb1 f1 => ?_⟩
  obtain ⟨wd, rfl⟩ := Int.eq_ofNat_of_zero_le r10
  refine ⟨_, rfl, (wd : Int), rfl, by omega, by omega, fun D2 hD2 => ?_⟩
  refine lcrF (m := wd) (c := 2) (fun z => -99 ≤ z ∧ z ≤ 99) hD2 f1 (by omega) (fun _ => rfl) ?_ ?_
  · intro i H2 Q2 hi sb2 f2 k2
    exact ⟨_, rfl, a, s, _, rfl, f2, by omega, fun z H3 z0 z1 sb3 f3 => k2 z H3 sb3 f3 ⟨z0, by omega⟩⟩
  intro H2 ns sb2 f2 h2 hlen hb
  refine ⟨D2, _, rfl, .inl ⟨SqL.of h2, fun p3 np3 => ?_⟩⟩
  obtain ⟨H3, xH3, e3, h3⟩ := tupQ (K := K) f2.nn np3 (dp_ints ns)
  rw [xH3]
  have f3 := f2.same e3
  have h3 : Dq K a H3 (.ref p3) (rowD ns) := h3
  have sb03 := (sb1.trans sb2).trans (Sb.of e3)
  have small : ∀ x ∈ ns, x.natAbs ≤ 10 ^ 40 := fun x hx => by
    have := hb x hx
    omega
  obtain ⟨k1, k2, k3⟩ := row_fn small
  have F3 : Fn (10 ^ 40) 1 20 (rowD ns) := ⟨k1, k2, by omega⟩
  -- the six things
  refine ⟨_, rfl, _, rfl, ?_⟩
  try dsimp only [tC, tNil]
  refine listT_dq f3.nn h3 fun l4 H4 nl4 e4 h4 => ?_
  have f4 := f3.same e4
  have h34 := h3.same e4
  refine ⟨_, rfl, _, rfl, a, s, .ref p3, rowD ns, _, 10 ^ 40, 20, 1, rfl, f4, by omega, by decide, by decide, h34, F3, by decide, by decide, by decide, fun v5 H5 d5 sb5 f5 hv5 F5 => ?_⟩
  have h35 := Dq.sb h34 sb5
  refine ⟨_, rfl, _, rfl, a, s, .ref p3, rowD ns, _, 10 ^ 40, 20, 1, rfl, f5, by omega, by decide, by decide, h35, F3, by decide, by decide, by decide, fun v6 H6 d6 sb6 f6 hv6 F6 => ?_⟩
  have h36 := Dq.sb h35 sb6
  refine ⟨_, rfl, by show 1 ≤ sizeLine; decide, fun p7 np7 => ?_⟩
  obtain ⟨H7, xH7, e7, h7⟩ := tupQ (K := K) f6.nn np7 (.cons (.bl true) .nil)
  rw [xH7]
  have f7 := f6.same e7
  refine cat_dq f7.nn (h36.same e7) h7 (by rw [List.length_map]; simp; omega) fun v8 H8 e8 hv8 => ?_
  have f8 := f7.same e8
  refine ⟨_, rfl, a, s, _, rfl, f8, by omega, fun v9 H9 d9 sb9 f9 hv9 F9 => ?_⟩
  have sb69 := (Sb.of (a := a) (e7.trans e8)).trans sb9
  have F8 : Fine (.tuple (ns.map PyData.int ++ [.bool true])) := by
    refine (fn_tup (k := 19)).mpr ⟨fun d hd => ?_, ?_⟩
    · rcases List.mem_append.mp hd with h | h
      · obtain ⟨x, hx, rfl⟩ := List.mem_map.mp h
        exact ⟨by simp only [fok, decide_eq_true_eq]; have := small x hx; omega, by simp [PyData.depth]⟩
      · rw [List.mem_singleton.mp h]
        exact ⟨by decide +kernel, by decide +kernel⟩
    · rw [fzAll_app, (ints_fz (10 ^ 40) ns small).2.2]
      simp only [fzAll, fz]
      omega
  have all : DqAll K a H9 [.ref p3, .ref l4, v5, v6, v8, v9] [rowD ns, .list (ns.map PyData.int), d5, d6, .tuple (ns.map PyData.int ++ [.bool true]), d9] :=
    .cons (Dq.sb h36 sb69) (.cons (Dq.sb (Dq.sb (Dq.sb h4 sb5) sb6) sb69) (.cons (Dq.sb (Dq.sb hv5 sb6) sb69) (.cons (Dq.sb hv6 sb69) (.cons (Dq.sb hv8 sb9) (.cons hv9 .nil)))))
  have fine : ∀ d ∈ [rowD ns, .list (ns.map PyData.int), d5, d6, .tuple (ns.map PyData.int ++ [.bool true]), d9], Fine d := by
    intro d hd
    simp only [List.mem_cons, List.not_mem_nil, or_false] at hd
    rcases hd with rfl | rfl | rfl | rfl | rfl | rfl
    · exact fine_small F3 (by decide) (by decide) (by decide)
    · exact fine_small (fn_lst F3) (by decide) (by decide) (by decide)
    · exact fine_small F5 (by decide) (by decide) (by decide)
    · exact fine_small F6 (by decide) (by decide) (by decide)
    · exact F8
    · exact fine_small F9 (by decide) (by decide) (by decide)
  refine ⟨by show 6 ≤ sizeLine; decide, fun p10 np10 => ?_⟩
  have e10 := Same.new (o := .tup [.ref p3, .ref l4, v5, v6, v8, v9]) np10
  have h10 : SqT K (upd H9 p10 (.tup [.ref p3, .ref l4, v5, v6, v8, v9])) p10 [.ref p3, .ref l4, v5, v6, v8, v9] := SqT.of upd_same
  generalize upd H9 p10 (.tup [.ref p3, .ref l4, v5, v6, v8, v9]) = H10 at e10 h10 ⊢
  have all10 := (DqAll.same all e10).dp
  have f10 := f9.same e10
  generalize [rowD ns, .list (ns.map PyData.int), d5, d6, .tuple (ns.map PyData.int ++ [.bool true]), d9] = L6 at all10 fine
  refine ⟨p10, rfl, ⟨_, h10⟩, for_tup (K := K) (D := { nx := _, rt := Q, bk := fun _ _ => False, ct := fun _ _ => False }) (xs := [.ref p3, .ref l4, v5, v6, v8, v9]) (fun i σ H' => Same H10 H' ∧ ∃ v3 v4 v5 : Option V, σ = [some (.ref a), some (.int wd), some (.ref p3), v3, v4, v5]) ?_ ?_ ?_ ?_⟩
  · exact ⟨Same.refl _, _, _, _, rfl⟩
  · rintro i σ H' _ ⟨e, _⟩
    exact sqt_same e h10
  · rintro i x σ H' hx ⟨e, w3, w4, w5, rfl⟩
    obtain ⟨d, hd1, hd2⟩ := dpa_get _ _ i x all10 hx
    have hF := fine d (List.mem_of_getElem? hd1)
    refine ⟨_, rfl, _, rfl, _, _, rfl, rfl, _, rfl, _, _, rfl, rfl, _, _, rfl, by show 4 ≤ sizeLine; decide, fun p11 np11 => ?_⟩
    obtain ⟨nums, enums⟩ : ∃ nums : List Int, [V.int wd, .int ((wd : Int) + 1), .int (if (wd : Int) - 1 > 0 then (wd : Int) - 1 else 0), .int 0] = nums.map V.int := ⟨[(wd : Int), (wd : Int) + 1, if (wd : Int) - 1 > 0 then (wd : Int) - 1 else 0, 0], rfl⟩
    have e11 := Same.new (o := .tup (nums.map V.int)) np11
    have h11 : SqT K (upd H' p11 (.tup (nums.map V.int))) p11 (nums.map V.int) := SqT.of upd_same
    dsimp only
    rw [enums]
    generalize upd H' p11 (.tup (nums.map V.int)) = H11 at e11 h11 ⊢
    have e011 := e.trans e11
    refine ⟨p11, rfl, ⟨_, h11⟩, for_tup (K := K) (D := { nx := _, rt := Q, bk := fun _ _ => False, ct := fun _ _ => False }) (xs := nums.map V.int) (fun i σ H' => Same H11 H' ∧ ∃ v4 v5 : Option V, σ = [some (.ref a), some (.int wd), some (.ref p3), some x, v4, v5]) ?_ ?_ ?_ ?_⟩
    · exact ⟨Same.refl _, _, _, rfl⟩
    · rintro i σ H'' _ ⟨e2, _⟩
      exact sqt_same e2 h11
    · rintro j y σ H12 hy ⟨e12, w4, w5, rfl⟩
      obtain ⟨_, rfl⟩ := row_get hy
      have hd12 := Dp.same (e011.trans e12) _ _ hd2
      obtain ⟨S1, hS1⟩ : ∃ S1, (PyData.bool (isRowD (nums.getD j 0) d)).shown = S1 := ⟨_, rfl⟩
      refine ⟨_, rfl, _, rfl, _, x, d, rfl, hd12, hF.sz, fun H13 e13 => ?_⟩
      try dsimp only [tC, tNil]
      refine reprD (.bl _) (sh_one _) (by decide) (by decide) hS1 ?_
      refine ⟨_, rfl, _, rfl, _, x, d, rfl, Dp.same e13 _ _ hd12, hF, fun H14 e14 => ?_⟩
      try dsimp only [tC, tNil]
      refine reprD (.bl _) (sh_one _) (by decide) (by decide) hS1 ?_
      refine ⟨rfl, _, rfl, ?_⟩
      exact iteNS rfl ⟨e12.trans (e13.trans e14), _, _, rfl⟩
    · rintro σ H12 ⟨e12, w4, w5, rfl⟩
      exact ⟨e011.trans e12, _, _, _, rfl⟩
  · rintro σ H11 ⟨e11, w3, w4, w5, rfl⟩
    obtain ⟨S2, hS2⟩ : ∃ S2, (two true false).shown = S2 := ⟨_, rfl⟩
    have rowz : ∀ z : Int, (0 ≤ z) → z ≤ 1000 → fz (rowD (List.replicate z.toNat 0)) ≤ 8000 := by
      intro z h0 h1
      have := (row_fn (M := 10 ^ 40) (r := List.replicate z.toNat 0) (fun x hx => by rw [List.eq_of_mem_replicate hx]; decide)).2.2
      rw [List.length_replicate] at this
      omega
    refine ⟨by show 1 ≤ sizeLine; decide, fun p12 np12 => ?_⟩
    obtain ⟨H12, xH12, e12, h12⟩ := tup_new (K := K) np12 (.cons (.int 0) .nil)
    rw [xH12]
    have h12 : Dp K H12 (.ref p12) (rowD [0]) := h12
    try dsimp only [tC, tNil]
    refine rep_dp (k := 99) h12 (by decide) (by decide) fun v13 H13 e13 hv13 => ?_
    refine ⟨99, v13, _, rfl, hv13, rowz 99 (by decide) (by decide), fun H14 e14 => ?_⟩
    refine ⟨by show 1 ≤ sizeLine; decide, fun p15 np15 => ?_⟩
    obtain ⟨H15, xH15, e15, h15⟩ := tup_new (K := K) np15 (.cons (.int 0) .nil)
    rw [xH15]
    have h15 : Dp K H15 (.ref p15) (rowD [0]) := h15
    try dsimp only [tC, tNil]
    refine rep_dp (k := 98) h15 (by decide) (by decide) fun v16 H16 e16 hv16 => ?_
    refine ⟨99, v16, _, rfl, hv16, rowz 98 (by decide) (by decide), fun H17 e17 => ?_⟩
    have b1 : isRowD 99 (rowD (List.replicate (Int.toNat 99) 0)) = true := by decide +kernel
    have b2 : isRowD 99 (rowD (List.replicate (Int.toNat 98) 0)) = false := by decide +kernel
    rw [b1, b2]
    refine ⟨by show 2 ≤ sizeLine; decide, fun p18 np18 => ?_⟩
    obtain ⟨H18, xH18, e18, h18, h18'⟩ := lst_new (K := K) np18 (.cons (.bl true) (.cons (.bl false) .nil))
    rw [xH18]
    have h18 : Dp K H18 (.ref p18) (two true false) := .lst (SqL.of h18) h18'
    try dsimp only [tC, tNil]
    refine reprD h18 (sh_two _ _) (by decide) (by decide) hS2 ?_
    refine ⟨by show 2 ≤ sizeLine; decide, fun p19 np19 => ?_⟩
    obtain ⟨H19, xH19, e19, h19, h19'⟩ := lst_new (K := K) np19 (.cons (.bl true) (.cons (.bl false) .nil))
    rw [xH19]
    have h19 : Dp K H19 (.ref p19) (two true false) := .lst (SqL.of h19) h19'
    try dsimp only [tC, tNil]
    refine reprD h19 (sh_two _ _) (by decide) (by decide) hS2 ?_
    refine ⟨rfl, ?_⟩
    rw [decide_eq_true (rfl : V.str _ = V.str _)]
    have eAll := e10.trans (e11.trans (((((e12.trans e13).trans e14).trans e15).trans e16).trans ((e17.trans e18).trans e19)))
    refine ke H19 ?_ ((f9.same eAll).mono (by omega))
    exact ((((sb03.trans (Sb.of e4)).trans sb5).trans sb6).trans sb69).trans (Sb.of eAll)

end K04

set_option Elab.async false
set_option linter.all false
set_option maxRecDepth 100000
set_option maxHeartbeats 1000000
namespace K04
open PySem PySem.Spec PyProof.Rows L2 Gd
variable {P : Program} {w : World} {K : PySem.W.Frag} {mg : Str → Option Value} {base : Heap}
theorem in_trues : ∀ n : Nat, inV (.bl false) ((List.replicate n true).map V.bl) = false
  | 0 => rfl
  | n + 1 => by
    rw [List.replicate_succ, List.map_cons]
    show (eqV (V.bl true) (V.bl false) || inV (.bl false) ((List.replicate n true).map V.bl)) = false
    rw [in_trues n]
    rfl
theorem flat_trues : ∀ n : Nat, ((List.replicate n true).map V.bl).all flatV = true
  | 0 => rfl
  | n + 1 => by
    rw [List.replicate_succ, List.map_cons, List.all_cons, flat_trues n]
    rfl
def spLaw (K : PySem.W.Frag) : Sp := fun vs H Q _ => ∃ (a : Addr) (ns : List Int), vs = [.ref a] ∧ SqL K H a (ns.map V.int) ∧ ns.length ≤ 63 ∧ ∀ H', Q (.bl true) H'
abbrev FnP (K : PySem.W.Frag) (x : Str) (st : Stmt) (f : Addr) (fd : FuncData) : Prop := FunD K x x (defArgs st) (defBody st) (defScope st) [] [] f fd
theorem ok_law {f : Addr} {fd : FuncData} (F : FnP K "law" s_law f fd) (B : Bn mg)
    (h_l_feed : Has P w K mg base "_law_feed" 1 p_l_feed (spFeed K))
    (h_l_by_hand : Has P w K mg base "_law_by_hand" 1 p_l_by_hand (spHand K))
    (h_l_things : Has P w K mg base "_law_things" 9 p_l_things (spThings K))
    (h_l_draw : Has P w K mg base "_law_draw" 1 p_l_draw spDraw)
    (h_l_great_ones : Has P w K mg base "_law_great_ones" 3 p_l_great_ones (spThings K))
    (h_l_right : HasG P w K mg base "_law_right" 5 p_l_right (spRightD K))
    (h_l_is_vast : Has P w K mg base "_law_is_vast" 22 p_l_is_vast (spVast K 20))
    (h_l_row_right : HasG P w K mg base "_law_row_right" 9 p_l_row_right (spRowRight K)) :
    FnG P w K mg base 23 f fd ["_law_script"] (spLaw K) := by
  refine okG (k := 22) F sc_law ?_ ?_
  · rintro vs H Q E ⟨a, ns, rfl, _⟩
    rfl
  rintro cdv A outer s0 H vs Q E hG hr ⟨sc, ns, rfl, hS, hl, k⟩
  refine ⟨_, PSs.nox (pss_cons (ps_asg (pe_has (h_l_feed) (hr.mono (by first | decide | omega)) (by rfl) (pa_cons (pv 0) pa_nil)) (pg_name (i := 1) sc_law.nd rfl (by first | exact Or.inl rfl | exact Or.inr rfl)))
      (pss_cons (ps_asg (pe_has0 (h_l_by_hand) (hr.mono (by first | decide | omega)) (by rfl)) (pg_name (i := 2) sc_law.nd rfl (by first | exact Or.inl rfl | exact Or.inr rfl)))
      (pss_cons (ps_for PassesOwn.never rfl (pi_range1 (by rfl) B.range_ (pa_cons pe_int pa_nil)) (pg_name (i := 3) sc_law.nd rfl (by first | exact Or.inl rfl | exact Or.inr rfl)) (pss_one (ps_asg (pe_op op_cat (pv 2) (pe_has (h_l_things) (hr.mono (by first | decide | omega)) (by rfl) (pa_cons (pv 1) pa_nil))) (pg_name (i := 2) sc_law.nd rfl (by first | exact Or.inl rfl | exact Or.inr rfl)))))
      (Evl.pss_cut (ps_if (pt_cmpR op_eq (pe_has (h_l_draw) (hr.mono (by first | decide | omega)) (by rfl) (pa_cons (pv 1) (pa_cons pe_int pa_nil))) pe_int (nomark _)) (pss_one (ps_asg (pe_op op_cat (pv 2) (pe_has (h_l_great_ones) (hr.mono (by first | decide | omega)) (by rfl) (pa_cons (pv 1) pa_nil))) (pg_name (i := 2) sc_law.nd rfl (by first | exact Or.inl rfl | exact Or.inr rfl)))) pss_nil)
      (pss_cons (ps_if (pt_cmpR (op_in_seqK (K := K) (by rfl)) pe_bl (pe_lc (own := [("_law_thing", 4)]) rfl sc_law.nd (pi_listK (K := K) (by rfl) (pv 2)) (blkOk_by (own := [("_law_thing", 4)]) (N := n_law) (sc := defScope s_law) (by decide +kernel)) (fun _ _ _ _ _ => (pg_name (i := 4) sc_law.nd rfl (by first | exact Or.inl rfl | exact Or.inr rfl))) (fun _ _ _ _ _ => (pts_one (pt_not (pt_val (pe_has (h_l_is_vast) (hr.mono (by first | decide | omega)) (by rfl) (pa_cons (pv 4) pa_nil)))))) (fun _ _ _ _ _ => (pe_hasG (h_l_right) hG (hr.mono (by first | decide | omega)) (by rfl) (pa_cons (pv 4) pa_nil)))) (by with_unfolding_all rfl)) (pss_one (ps_ret pe_bl)) pss_nil)
      (pss_one (ps_ret (pe_cmpR (op_notIn_seqK (K := K) (by rfl)) pe_bl (pe_lc (own := [("_law_k", 3)]) rfl sc_law.nd (pi_range1 (by rfl) B.range_ (pa_cons pe_int pa_nil)) (blkOk_by (own := [("_law_k", 3)]) (N := n_law) (sc := defScope s_law) (by decide +kernel)) (fun _ _ _ _ _ => (pg_name (i := 3) sc_law.nd rfl (by first | exact Or.inl rfl | exact Or.inr rfl))) (fun _ _ _ _ _ => pts_nil) (fun _ _ _ _ _ => (pe_hasG (h_l_row_right) hG (hr.mono (by first | decide | omega)) (by rfl) (pa_cons (pv 1) pa_nil)))) (by with_unfolding_all rfl))))))))), ?_⟩
  refine ⟨_, rfl, sc, ns, rfl, hS, hl, fun a s H1 na ns1 e1 f1 => ?_⟩
  refine ⟨a, rfl, f1.nn, fun l2 H2 xs2 e2 h2 n2 q2 => ?_⟩
  have f2 := f1.same e2
  refine ⟨2, rfl, by decide, by decide, for_range (lo := 0) (n := 2) (fun i σ H' => ∃ (l : Addr) (xs : List V) (ds : List PyData) (v3 v4 : Option V), σ = [some (.ref sc), some (.ref a), some (.ref l), v3, v4] ∧
    H' l = some (.lst xs) ∧ l ≠ a ∧ DqAll K a H' xs ds ∧ (∀ d ∈ ds, Fine d) ∧ ds.length ≤ 30 + 30 * i ∧ Fd H' a s (2000 * i)) ?_ ?_ ?_⟩
  · exact ⟨l2, xs2, handL, _, _, rfl, h2, n2, q2, hand_fine, by decide, f2⟩
  · rintro i σ H3 hi ⟨l, xs, ds, v3, v4, rfl, g1, g2, g3, g4, g5, f3⟩
    refine ⟨_, rfl, _, rfl, a, s, 2000 * i, rfl, f3, by omega, fun l4 H4 xs4 ds4 sb4 f4 h4 n4 q4 F4 len4 => ?_⟩
    have hx : xs.length = ds.length := dpa_len _ _ g3
    have hx4 : xs4.length = ds4.length := dpa_len _ _ q4
    refine ⟨l, l4, _, _, rfl, rfl, sb4 _ _ g2 g1, h4, Nat.le_trans (show xs.length + xs4.length ≤ 1000 by omega) (by decide), fun p5 np5 => ?_⟩
    obtain ⟨H5, xH5, e5, h5, n5, l5⟩ := lstQ (K := K) f4.nn np5 (dpa_append _ _ _ _ (DqAll.sb g3 sb4) q4)
    rw [xH5]
    refine ⟨p5, _, _, _, _, rfl, h5, n5, l5, ?_, by rw [List.length_append]; omega, (f4.same e5).mono (by omega)⟩
    intro d hd
    rcases List.mem_append.mp hd with h | h
    · exact g4 d h
    · exact F4 d h
  · rintro σ H3 ⟨l, xs, ds, v3, v4, rfl, g1, g2, g3, g4, g5, f3⟩
    refine ⟨fun σ' H' => ∃ (l : Addr) (xs : List V) (ds : List PyData), σ' = [some (.ref sc), some (.ref a), some (.ref l), v3, v4] ∧
      H' l = some (.lst xs) ∧ l ≠ a ∧ DqAll K a H' xs ds ∧ (∀ d ∈ ds, Fine d) ∧ ds.length ≤ 200 ∧ Fd H' a s 10000, ?_, ?_⟩
    · refine ⟨_, rfl, a, s, _, 4000, rfl, f3, by decide, by decide, by decide, fun r H4 r0 r1 sb4 f4 => ?_⟩
      refine ⟨rfl, _, rfl, ?_⟩
      have g14 := sb4 _ _ g2 g1
      have g34 := DqAll.sb g3 sb4
      refine ite2 (fun _ => ?_) (fun _ => ⟨l, xs, ds, rfl, g14, g2, g34, g4, by omega, f4.mono (by decide)⟩)
      refine ⟨_, rfl, _, rfl, a, s, 4001, rfl, f4, by decide, fun l5 H5 xs5 ds5 sb5 f5 h5 n5 q5 F5 len5 => ?_⟩
      have hx : xs.length = ds.length := dpa_len _ _ g3
      have hx5 : xs5.length = ds5.length := dpa_len _ _ q5
      refine ⟨l, l5, _, _, rfl, rfl, sb5 _ _ g2 g14, h5, Nat.le_trans (show xs.length + xs5.length ≤ 1000 by omega) (by decide), fun p6 np6 => ?_⟩
      obtain ⟨H6, xH6, e6, h6, n6, l6⟩ := lstQ (K := K) f5.nn np6 (dpa_append _ _ _ _ (DqAll.sb g34 sb5) q5)
      rw [xH6]
      refine ⟨p6, _, _, rfl, h6, n6, l6, ?_, by rw [List.length_append]; omega, (f5.same e6).mono (by decide)⟩
      intro d hd
      rcases List.mem_append.mp hd with h | h
      · exact g4 d h
      · exact F5 d h
    · rintro σ' H4 ⟨l, xs, ds, rfl, g1, g2, g3, g4, g5, f4⟩
      have hx : xs.length = ds.length := dpa_len _ _ g3
      have g3 := g3.dp
      refine ⟨_, rfl, l, rfl, ⟨_, SqL.of g1⟩, fun D5 hD5 => ?_⟩
      refine lclT (K := K) (j := 4) hD5 (SqL.of g1) (by omega) (fun _ => rfl) ?_ ?_ ?_
      · intro i x H5 R hxi e5 kR
        obtain ⟨d, hd1, hd2⟩ := dpa_get _ _ i x g3 hxi
        exact ⟨_, rfl, x, d, 10 ^ 61, 8000, rfl, Dp.same e5 _ _ hd2, g4 d (List.mem_of_getElem? hd1), big61, by decide, by decide, fun b H6 e6 => ⟨_, rfl, kR (!b) H6 e6⟩⟩
      · intro i x H5 Q5 hxi e5 kQ
        obtain ⟨d, hd1, hd2⟩ := dpa_get _ _ i x g3 hxi
        exact ⟨_, rfl, x, d, rfl, Dp.same e5 _ _ hd2, g4 d (List.mem_of_getElem? hd1), fun H6 e6 => kQ H6 e6⟩
      intro H5 n5 e5 h5
      refine ⟨D5, _, rfl, .inl (SqL.of h5), rfl, flat_trues n5, _, rfl, ?_⟩
      rw [in_trues]
      refine iteF ?_
      have f5 := f4.same e5
      refine ⟨2, rfl, by decide, by decide, fun D6 hD6 => ?_⟩
      refine lcrT (m := 2) (c := 1000) hD6 f5 (by decide) (fun _ => rfl) ?_ ?_
      · intro i H6 Q6 hi sb6 f6 k6
        exact ⟨_, rfl, a, s, _, rfl, f6, by omega, fun H7 sb7 f7 => k6 H7 sb7 f7⟩
      intro H6 sb6 f6 h6
      refine ⟨D6, _, rfl, .inl (SqL.of h6), rfl, flat_trues 2, ?_⟩
      rw [in_trues]
      exact k _
def d_is_number : He.DefD := ⟨("is_number", none), "is_number", "is_number", defArgs s_is_number, defBody s_is_number, defScope s_is_number, [], []⟩
def d_is_row : He.DefD := ⟨("is_row", none), "is_row", "is_row", defArgs s_is_row, defBody s_is_row, defScope s_is_row, [], []⟩
def d_is_table : He.DefD := ⟨("is_table", none), "is_table", "is_table", defArgs s_is_table, defBody s_is_table, defScope s_is_table, [], []⟩
def d_is_unit : He.DefD := ⟨("is_unit", none), "is_unit", "is_unit", defArgs s_is_unit, defBody s_is_unit, defScope s_is_unit, [], []⟩
def d_unit : He.DefD := ⟨("unit", none), "unit", "unit", defArgs s_unit, defBody s_unit, defScope s_unit, [], []⟩
def d_unit_row : He.DefD := ⟨("unit_row", none), "unit_row", "unit_row", defArgs s_unit_row, defBody s_unit_row, defScope s_unit_row, [], []⟩
def d_l_feed : He.DefD := ⟨("_law_feed", none), "_law_feed", "_law_feed", defArgs s_l_feed, defBody s_l_feed, defScope s_l_feed, [], []⟩
def d_l_draw : He.DefD := ⟨("_law_draw", none), "_law_draw", "_law_draw", defArgs s_l_draw, defBody s_l_draw, defScope s_l_draw, [], []⟩
def d_l_number : He.DefD := ⟨("_law_number", none), "_law_number", "_law_number", defArgs s_l_number, defBody s_l_number, defScope s_l_number, [], []⟩
def d_l_rows : He.DefD := ⟨("_law_rows", none), "_law_rows", "_law_rows", defArgs s_l_rows, defBody s_l_rows, defScope s_l_rows, [], []⟩
def d_l_table : He.DefD := ⟨("_law_table", none), "_law_table", "_law_table", defArgs s_l_table, defBody s_l_table, defScope s_l_table, [], []⟩
def d_l_odd : He.DefD := ⟨("_law_odd", none), "_law_odd", "_law_odd", defArgs s_l_odd, defBody s_l_odd, defScope s_l_odd, [], []⟩
def d_l_bent : He.DefD := ⟨("_law_bent", none), "_law_bent", "_law_bent", defArgs s_l_bent, defBody s_l_bent, defScope s_l_bent, [], []⟩
def d_l_is_row : He.DefD := ⟨("_law_is_row", none), "_law_is_row", "_law_is_row", defArgs s_l_is_row, defBody s_l_is_row, defScope s_l_is_row, [], []⟩
def d_l_is_table : He.DefD := ⟨("_law_is_table", none), "_law_is_table", "_law_is_table", defArgs s_l_is_table, defBody s_l_is_table, defScope s_l_is_table, [], []⟩
def d_l_is_unit : He.DefD := ⟨("_law_is_unit", none), "_law_is_unit", "_law_is_unit", defArgs s_l_is_unit, defBody s_l_is_unit, defScope s_l_is_unit, [], []⟩
def d_l_unit : He.DefD := ⟨("_law_unit", none), "_law_unit", "_law_unit", defArgs s_l_unit, defBody s_l_unit, defScope s_l_unit, [], []⟩
def d_l_by_hand : He.DefD := ⟨("_law_by_hand", none), "_law_by_hand", "_law_by_hand", defArgs s_l_by_hand, defBody s_l_by_hand, defScope s_l_by_hand, [], []⟩
def d_l_great_ones : He.DefD := ⟨("_law_great_ones", none), "_law_great_ones", "_law_great_ones", defArgs s_l_great_ones, defBody s_l_great_ones, defScope s_l_great_ones, [], []⟩
def d_l_things : He.DefD := ⟨("_law_things", none), "_law_things", "_law_things", defArgs s_l_things, defBody s_l_things, defScope s_l_things, [], []⟩
def d_l_right : He.DefD := ⟨("_law_right", none), "_law_right", "_law_right", defArgs s_l_right, defBody s_l_right, defScope s_l_right, [], []⟩
def d_l_row_right : He.DefD := ⟨("_law_row_right", none), "_law_row_right", "_law_row_right", defArgs s_l_row_right, defBody s_l_row_right, defScope s_l_row_right, [], []⟩
def d_l_is_vast : He.DefD := ⟨("_law_is_vast", none), "_law_is_vast", "_law_is_vast", defArgs s_l_is_vast, defBody s_l_is_vast, defScope s_l_is_vast, [], []⟩
def d_law : He.DefD := ⟨("law", none), "law", "law", defArgs s_law, defBody s_law, defScope s_law, [], []⟩
def fnL : List He.DefD := [d_is_number, d_is_row, d_is_table, d_is_unit, d_unit, d_unit_row, d_l_feed, d_l_draw, d_l_number, d_l_rows, d_l_table, d_l_odd, d_l_bent, d_l_is_row, d_l_is_table, d_l_is_unit, d_l_unit, d_l_by_hand, d_l_great_ones, d_l_things, d_l_right, d_l_row_right, d_l_is_vast, d_law]
def faL : List He.Fa := [.glo "is_number", .glo "is_row", .glo "is_table", .glo "is_unit", .glo "unit", .glo "unit_row", .glo "_law_feed", .glo "_law_draw", .glo "_law_number", .glo "_law_rows", .glo "_law_table", .glo "_law_odd", .glo "_law_bent", .glo "_law_is_row", .glo "_law_is_table", .glo "_law_is_unit", .glo "_law_unit", .glo "_law_by_hand", .glo "_law_great_ones", .glo "_law_things", .glo "_law_right", .glo "_law_row_right", .glo "_law_is_vast", .glo "law", .free "isinstance", .free "int", .free "bool", .free "all", .free "tuple", .free "len", .free "range", .free "list", .free "str", .free "repr", .free "max", .free "any"]
abbrev Rw : PySem.W.OpenRow := PySem.W.OpenLaw.row PySem.Challenge.rw_stepforms_k04_what_is_a_table
abbrev hk : PySem.W.Hook := He.hookD 4 faL fnL
def ob (s : PySem.W.SharedT) : He.AlD := He.obsDG 4 faL fnL (HandSHeadRun.getT s)
theorem ob_eq (s : PySem.W.SharedT) : ob s = hk.obs s.abs := He.obsDG_eq (HandSHeadRun.getT_eq s)
abbrev loose : List Str := ["is_number", "is_row", "is_table", "is_unit", "unit", "unit_row", "_law_feed", "_law_draw", "_law_number", "_law_rows", "_law_table", "_law_odd", "_law_bent", "_law_is_row", "_law_is_table", "_law_is_unit", "_law_unit", "_law_by_hand", "_law_great_ones", "_law_things", "_law_right", "_law_row_right", "_law_is_vast"]
theorem run (w : World) : HandSHeadRun.RunEq Rw (PySem.W.view Rw.prog [26]) hk ob 2000 loose w := by
  intro os
  kernel_rfl
theorem facts {P : Program} {w : World} {K : PySem.W.Frag} {h : Heap} {mg : Str → Option Value} {f : Addr}
    (X : K.In h) (G : h.Ns mainGlobals mg) (hfa : mg ("law" : Str) = some (.ref f)) (c : He.SaysD faL fnL K) :
    ∃ fd : FuncData, (∀ (s : Shared) (v : Value), BindsTo s fd ⟨[v], []⟩ [("_law_script", v)]) ∧
      ∀ base : Heap, K.In base → base.Ns mainGlobals mg →
        FnG P w K mg base 23 f fd ["_law_script"] (spLaw K) := by
  obtain ⟨fd0, F0⟩ := c.def_ 0 (d := d_is_number) rfl
  have D0 : Df K mg "is_number" s_is_number := ⟨_, _, F0, He.glo_ok X G (c.fact 0 (f := .glo "is_number") rfl)⟩
  obtain ⟨fd1, F1⟩ := c.def_ 1 (d := d_is_row) rfl
  have D1 : Df K mg "is_row" s_is_row := ⟨_, _, F1, He.glo_ok X G (c.fact 1 (f := .glo "is_row") rfl)⟩
  obtain ⟨fd2, F2⟩ := c.def_ 2 (d := d_is_table) rfl
  have D2 : Df K mg "is_table" s_is_table := ⟨_, _, F2, He.glo_ok X G (c.fact 2 (f := .glo "is_table") rfl)⟩
  obtain ⟨fd3, F3⟩ := c.def_ 3 (d := d_is_unit) rfl
  have D3 : Df K mg "is_unit" s_is_unit := ⟨_, _, F3, He.glo_ok X G (c.fact 3 (f := .glo "is_unit") rfl)⟩
  obtain ⟨fd4, F4⟩ := c.def_ 4 (d := d_unit) rfl
  have D4 : Df K mg "unit" s_unit := ⟨_, _, F4, He.glo_ok X G (c.fact 4 (f := .glo "unit") rfl)⟩
  obtain ⟨fd5, F5⟩ := c.def_ 5 (d := d_unit_row) rfl
  have D5 : Df K mg "unit_row" s_unit_row := ⟨_, _, F5, He.glo_ok X G (c.fact 5 (f := .glo "unit_row") rfl)⟩
  obtain ⟨fd6, F6⟩ := c.def_ 6 (d := d_l_feed) rfl
  have D6 : Df K mg "_law_feed" s_l_feed := ⟨_, _, F6, He.glo_ok X G (c.fact 6 (f := .glo "_law_feed") rfl)⟩
  obtain ⟨fd7, F7⟩ := c.def_ 7 (d := d_l_draw) rfl
  have D7 : Df K mg "_law_draw" s_l_draw := ⟨_, _, F7, He.glo_ok X G (c.fact 7 (f := .glo "_law_draw") rfl)⟩
  obtain ⟨fd8, F8⟩ := c.def_ 8 (d := d_l_number) rfl
  have D8 : Df K mg "_law_number" s_l_number := ⟨_, _, F8, He.glo_ok X G (c.fact 8 (f := .glo "_law_number") rfl)⟩
  obtain ⟨fd9, F9⟩ := c.def_ 9 (d := d_l_rows) rfl
  have D9 : Df K mg "_law_rows" s_l_rows := ⟨_, _, F9, He.glo_ok X G (c.fact 9 (f := .glo "_law_rows") rfl)⟩
  obtain ⟨fd10, F10⟩ := c.def_ 10 (d := d_l_table) rfl
  have D10 : Df K mg "_law_table" s_l_table := ⟨_, _, F10, He.glo_ok X G (c.fact 10 (f := .glo "_law_table") rfl)⟩
  obtain ⟨fd11, F11⟩ := c.def_ 11 (d := d_l_odd) rfl
  have D11 : Df K mg "_law_odd" s_l_odd := ⟨_, _, F11, He.glo_ok X G (c.fact 11 (f := .glo "_law_odd") rfl)⟩
  obtain ⟨fd12, F12⟩ := c.def_ 12 (d := d_l_bent) rfl
  have D12 : Df K mg "_law_bent" s_l_bent := ⟨_, _, F12, He.glo_ok X G (c.fact 12 (f := .glo "_law_bent") rfl)⟩
  obtain ⟨fd13, F13⟩ := c.def_ 13 (d := d_l_is_row) rfl
  have D13 : Df K mg "_law_is_row" s_l_is_row := ⟨_, _, F13, He.glo_ok X G (c.fact 13 (f := .glo "_law_is_row") rfl)⟩
  obtain ⟨fd14, F14⟩ := c.def_ 14 (d := d_l_is_table) rfl
  have D14 : Df K mg "_law_is_table" s_l_is_table := ⟨_, _, F14, He.glo_ok X G (c.fact 14 (f := .glo "_law_is_table") rfl)⟩
  obtain ⟨fd15, F15⟩ := c.def_ 15 (d := d_l_is_unit) rfl
  have D15 : Df K mg "_law_is_unit" s_l_is_unit := ⟨_, _, F15, He.glo_ok X G (c.fact 15 (f := .glo "_law_is_unit") rfl)⟩
  obtain ⟨fd16, F16⟩ := c.def_ 16 (d := d_l_unit) rfl
  have D16 : Df K mg "_law_unit" s_l_unit := ⟨_, _, F16, He.glo_ok X G (c.fact 16 (f := .glo "_law_unit") rfl)⟩
  obtain ⟨fd17, F17⟩ := c.def_ 17 (d := d_l_by_hand) rfl
  have D17 : Df K mg "_law_by_hand" s_l_by_hand := ⟨_, _, F17, He.glo_ok X G (c.fact 17 (f := .glo "_law_by_hand") rfl)⟩
  obtain ⟨fd18, F18⟩ := c.def_ 18 (d := d_l_great_ones) rfl
  have D18 : Df K mg "_law_great_ones" s_l_great_ones := ⟨_, _, F18, He.glo_ok X G (c.fact 18 (f := .glo "_law_great_ones") rfl)⟩
  obtain ⟨fd19, F19⟩ := c.def_ 19 (d := d_l_things) rfl
  have D19 : Df K mg "_law_things" s_l_things := ⟨_, _, F19, He.glo_ok X G (c.fact 19 (f := .glo "_law_things") rfl)⟩
  obtain ⟨fd20, F20⟩ := c.def_ 20 (d := d_l_right) rfl
  have D20 : Df K mg "_law_right" s_l_right := ⟨_, _, F20, He.glo_ok X G (c.fact 20 (f := .glo "_law_right") rfl)⟩
  obtain ⟨fd21, F21⟩ := c.def_ 21 (d := d_l_row_right) rfl
  have D21 : Df K mg "_law_row_right" s_l_row_right := ⟨_, _, F21, He.glo_ok X G (c.fact 21 (f := .glo "_law_row_right") rfl)⟩
  obtain ⟨fd22, F22⟩ := c.def_ 22 (d := d_l_is_vast) rfl
  have D22 : Df K mg "_law_is_vast" s_l_is_vast := ⟨_, _, F22, He.glo_ok X G (c.fact 22 (f := .glo "_law_is_vast") rfl)⟩
  obtain ⟨fd23, F23⟩ := c.def_ 23 (d := d_law) rfl
  have D23 : Df K mg "law" s_law := ⟨_, _, F23, He.glo_ok X G (c.fact 23 (f := .glo "law") rfl)⟩
  have B : Bn mg := ⟨He.free_ok X G (c.fact 24 (f := .free "isinstance") rfl), He.free_ok X G (c.fact 25 (f := .free "int") rfl), He.free_ok X G (c.fact 26 (f := .free "bool") rfl), He.free_ok X G (c.fact 27 (f := .free "all") rfl), He.free_ok X G (c.fact 28 (f := .free "tuple") rfl), He.free_ok X G (c.fact 29 (f := .free "len") rfl), He.free_ok X G (c.fact 30 (f := .free "range") rfl), He.free_ok X G (c.fact 31 (f := .free "list") rfl), He.free_ok X G (c.fact 32 (f := .free "str") rfl), He.free_ok X G (c.fact 33 (f := .free "repr") rfl), He.free_ok X G (c.fact 34 (f := .free "max") rfl), He.free_ok X G (c.fact 35 (f := .free "any") rfl)⟩
  have e := hfa.symm.trans (He.glo_ok X G (c.fact 23 (f := .glo "law") rfl))
  cases e
  have b := FunD.bindsA (ps := ["_law_script"]) F23 fun _ _ _ _ _ _ us hl => match us, hl with | [_], _ => rfl
  refine ⟨fd23, fun s v => b s [v] rfl, fun base _ _ => ?_⟩
  have H0 := ok_is_number (P := P) (w := w) (base := base) D0 B
  have H5 := ok_unit_row (P := P) (w := w) (base := base) D5 B
  have H6 := ok_l_feed (P := P) (w := w) (base := base) D6 B
  have H7 := ok_l_draw (P := P) (w := w) (base := base) D7 B
  have H13 := ok_l_is_row (P := P) (w := w) (base := base) D13 B
  have H16 := ok_l_unit (P := P) (w := w) (base := base) D16 B
  have H17 := ok_l_by_hand (P := P) (w := w) (base := base) D17 B
  have H1 := ok_is_row (P := P) (w := w) (base := base) D1 B (h_is_number := H0)
  have H4 := ok_unit (P := P) (w := w) (base := base) D4 B (h_unit_row := H5)
  have H8 := ok_l_number (P := P) (w := w) (base := base) D8 B (h_l_draw := H7)
  have H11 := ok_l_odd (P := P) (w := w) (base := base) D11 B (h_l_draw := H7)
  have H14 := ok_l_is_table (P := P) (w := w) (base := base) D14 B (h_l_is_row := H13)
  have H2 := ok_is_table (P := P) (w := w) (base := base) D2 B (h_is_number := H0) (h_is_row := H1)
  have H9 := ok_l_rows (P := P) (w := w) (base := base) D9 B (h_l_draw := H7) (h_l_number := H8)
  have H15 := ok_l_is_unit (P := P) (w := w) (base := base) D15 B (h_l_is_table := H14)
  have H18 := ok_l_great_ones (P := P) (w := w) (base := base) D18 B (h_l_unit := H16) (h_l_draw := H7) (h_l_odd := H11) (h_l_number := H8)
  have H3 := ok_is_unit (P := P) (w := w) (base := base) D3 B (h_is_table := H2) (h_unit := H4)
  have H10 := ok_l_table (P := P) (w := w) (base := base) D10 B (h_l_rows := H9)
  have H20 := ok_l_right (P := P) (w := w) (base := base) D20 B (h_l_is_table := H14) (h_l_is_unit := H15) (h_is_table := H2) (h_is_unit := H3)
  have H12 := ok_l_bent (P := P) (w := w) (base := base) D12 B (h_l_draw := H7) (h_l_odd := H11)
  have H19 := ok_l_things (P := P) (w := w) (base := base) D19 B (h_l_table := H10) (h_l_draw := H7) (h_l_unit := H16) (h_l_bent := H12) (h_l_odd := H11)
  have H21 := ok_l_row_right (P := P) (w := w) (base := base) D21 B (h_l_draw := H7) (h_l_bent := H12) (h_l_odd := H11) (h_l_number := H8) (h_is_row := H1) (h_l_is_row := H13)
  have H22 := ok_l_is_vast (P := P) (w := w) (base := base) D22 B
  exact ok_law F23 B (h_l_feed := H6) (h_l_by_hand := H17) (h_l_draw := H7) (h_l_things := H19) (h_l_great_ones := H18) (h_l_right := H20) (h_l_row_right := H21) (h_l_is_vast := H22)
end K04
open PySem PySem.W PySem.Calls PyProof.Rows
set_option maxRecDepth 100000 in
set_option maxHeartbeats 0 in
theorem PySem.Challenge.cw_stepforms_k04_what_is_a_table_holds : PySem.Challenge.rw_stepforms_k04_what_is_a_table.Holds := by
  w_on; o_law
  refine HandSHeadRun.head_any (r := OpenLaw.row PySem.Challenge.rw_stepforms_k04_what_is_a_table)
    (q := view (OpenLaw.row PySem.Challenge.rw_stepforms_k04_what_is_a_table).prog [26]) (H := K04.hk) (ob := K04.ob)
    (M := 2000) (loose := K04.loose) (d := HandSHeadRun.topDef (OpenLaw.row PySem.Challenge.rw_stepforms_k04_what_is_a_table).prog 26)
    (kwd := []) K04.ob_eq (by kernel_rfl) (fun s => by kernel_rfl) K04.run (by kernel_rfl) (by kernel_rfl)
    (by kernel_rfl) (by rfl) (by first | assumption | decide +kernel) (by decide +kernel)
    ⟨rfl, rfl, rfl, rfl, rfl, by decide +kernel⟩ ?hw ?hc
  case hw => w_witness2
  case hc =>
    refine Gd.walkG (l := PySem.Challenge.rw_stepforms_k04_what_is_a_table) (n := 63) (k := 23) (x := "_law_script") rfl
      (by decide) (by kernel_rfl) ⟨rfl, by decide, by decide⟩ ?F
    intro w mg fa h Y G hmg0
    obtain ⟨K, KX, c⟩ := Y
    have hmg : mg ("law" : PySem.Str) = some (.ref fa) := by
      have e : (HandSHeadRun.topDef (OpenLaw.row PySem.Challenge.rw_stepforms_k04_what_is_a_table).prog 26).name = ("law" : PySem.Str) := by
        kernel_rfl
      rw [← e]
      exact hmg0
    obtain ⟨fd, hb, hF⟩ := K04.facts (P := (PySem.Challenge.rw_stepforms_k04_what_is_a_table).prog) (w := w) KX G hmg c
    exact ⟨K, fd, K04.spLaw K, KX, hb,
      fun H a ns hl _ hS => ⟨a, ns, rfl, hS, hl, fun _ => rfl⟩, hF⟩
