import PyProof.Rows.All
import Wide.All
import OpenK.AllK
import Wide.FinOn
import HandS.ForMost
import HandS.Codes
import HandS.Exc
import HandS.ExcInit
import HandS.ExcField
import HandS.IsInst
import HandS.TryOnly
import HandS.WordsExc
import KE.KExcIs
import HandS.CallSlots
import HandS.ExcCtx
import HandS.SuiteRaise
import HandS.RaiseFrom
import HandS.ExcInitHot
import KE.KExcInit
import PyProof.ExcBaseAll.LookupError
import HandS.ExcIs
import KE.KExcMake
import HandS.Defaults
import HandS.Walk
import HandS.FStr
import HandS.Dict
import HandS.Lambda
import HandS.FStrTup
import PyProof.ExcBaseAll.ArithmeticError
import PyProof.ExcBaseAll.RuntimeError
import PySem.Challenge.RW_ordermerge_k17_errors_created
set_option Elab.async false
set_option linter.all false
set_option maxRecDepth 100000
set_option maxHeartbeats 8000000
/-! a def's promise where no repr is under way -/
namespace OM
open PySem PySem.Spec PyProof.Rows L2

/-- FnOk, for callers around whom nothing is being shown -/
structure FnG (P : Program) (w : World) (K : PySem.W.Frag)
    (mg : Str → Option Value) (base : Heap) (CX : CXT)
    (k : Nat) (f : Addr) (fd : FuncData) (ps : List Str) (sp : Sp) : Prop where
  len : ∀ vs H Q E, sp vs H Q E → vs.length = ps.length
  run : ∀ (A : Around) (outer : List Env) (s : Shared) (H : Hp)
      (args : Args) (us : List Value) (vs : List V) (Q : VK) (E : XK),
    Room k A → A.guards = some [] →
    Env0 P w K mg base A outer s H →
    BindsTo s fd args (ps.zip us) → Vals vs us → sp vs H Q E →
    codeAny (model P w) A (.call (.ref f) args)
      (CR CX outer P w H s Q E) s

section
variable {P : Program} {w : World} {K : PySem.W.Frag}
  {mg : Str → Option Value} {base : Heap} {CX : CXT}
theorem FnG.ofOk {k : Nat} {f : Addr} {fd : FuncData} {ps : List Str} {sp : Sp}
    (F : FnOk P w K mg base CX k f fd ps sp) :
    FnG P w K mg base CX k f fd ps sp :=
  ⟨F.len, fun A o s H ar us vs Q E r _ e b v z =>
    F.run A o s H ar us vs Q E r e b v z⟩

theorem FnG.mk' {k : Nat} {f : Addr} {nm qual : Str} {pr : Arguments}
    {bd : List Stmt} {sc : Scope} {dV kV dc pm cv ct oc : Value}
    {an od : Option Addr} {sl : Array (Option Value)} {N ps : List Str} {sp : Sp}
    (lk : K.lookup f = some ⟨oc, od,
      .func (PySem.W.fnOf nm qual pr bd sc dV kV dc pm an cv ct), sl⟩)
    (hc : PySem.W.codeIn K cv qual = true) (S : FnScope N ps sc)
    (len : ∀ vs H Q E, sp vs H Q E → vs.length = ps.length)
    (body : ∀ (A : Around) (outer : List Env) (s : Shared) (H : Hp)
        (vs : List V) (Q : VK) (E : XK),
      Room k (A.deeper (envOfC qual sc s.heap.objs.size f cv)) →
      A.guards = some [] → sp vs H Q E →
      ∃ t, PSs (cxOf CX P w K mg base N qual sc f cv A outer s H E) bd t ∧
        t { nx := fun _ H' => Q .non H', rt := Q } (start N vs) H) :
    FnG P w K mg base CX (k + 1) f
      (PySem.W.fnOf nm qual pr bd sc dV kV dc pm an cv ct) ps sp := by
  refine ⟨len, ?_⟩
  intro A outer s H args us vs Q E room gd env bnd rel hsp
  have kin : K.In s.heap :=
    env.mod.kin.keeps fun b o q => (env.bs b o q).1
  have nol : s.heap.NoLimit :=
    env.mod.nolimit.keeps fun b o q => (env.bs b o q).1
  have kinds : ∀ y ∈ ps.zip us, sc.names.lookup y.1 = some .local ∨
      (sc.names.lookup y.1 = some .cell ∧
        ((cellsFrom (s.heap.objs.size + 1) sc.names []).lookup y.1).isSome
          = true) := by
    rintro ⟨n, v⟩ hy
    cases S.par n (List.of_mem_zip hy).1 with
    | inl q => exact Or.inl q
    | inr q => exact Or.inr ⟨q, PySem.W.cellsFrom_some _ _ _ (.inl q)⟩
  refine codeAny_call_function room.depth (kin _ _ lk) rfl S.co S.gen rfl
    (PySem.W.codeRec_of kin hc) (bnd _ _ _ _ ?_)
  refine wpAny_newFunctionEnv_cells S.kind kinds ?_
  intro env' he s1 x
  subst he
  refine ⟨nol.keeps x.toInCall.keep, codeAny_func ?_⟩
  obtain ⟨t, ht, hq⟩ := body A outer s H vs Q E (room.deeper _) gd hsp
  have I := inv_start (CX := CX) (E := E) S room.hd env
    (len _ _ _ _ hsp) rel x
  refine wpAny_mono (ht.run [] s1 (start N vs) H _ I hq) ?_
    (fun e s' z => z)
  intro fl s' hs
  cases fl with
  | ret u =>
    obtain ⟨v, σ', H', J, rv, q⟩ := hs
    exact ⟨v, H', J.os, J.bare, J.base, J.hok, rv, q⟩
  | next =>
    obtain ⟨σ', H', J, q⟩ := hs
    exact ⟨V.non, H', J.os, J.bare, J.base, J.hok, rfl, q⟩
  | brk => exact (hs.choose_spec.choose_spec.2 : False).elim
  | cont => exact (hs.choose_spec.choose_spec.2 : False).elim

/-- a def of the text, by its body -/
theorem okG {x qual : Str} {st : Stmt} {f : Addr} {fd : FuncData}
    {N ps : List Str} {k : Nat} {sp : Sp} (F : Fun K x qual st f fd)
    (S : FnScope N ps (defScope st))
    (len : ∀ vs H Q E, sp vs H Q E → vs.length = ps.length)
    (body : ∀ (cv : Value) (A : Around) (outer : List Env) (s : Shared)
        (H : Hp) (vs : List V) (Q : VK) (E : XK),
      Room k (A.deeper (envOfC qual (defScope st) s.heap.objs.size f cv)) →
      A.guards = some [] → sp vs H Q E →
      ∃ t, PSs (cxOf CX0 P w K mg base N qual (defScope st) f cv A
          outer s H E).nox (defBody st) t ∧
        t { nx := fun _ H' => Q .non H', rt := Q } (start N vs) H) :
    FnG P w K mg base CX0 (k + 1) f fd ps sp := by
  obtain ⟨oc, od, kV, dc, pm, an, cv, ct, sl, rfl, lk, hc⟩ := F.ex
  refine FnG.mk' lk hc S len ?_
  intro A outer s H vs Q E room gd hsp
  obtain ⟨t, h, q⟩ := body cv A outer s H vs Q E room gd hsp
  exact ⟨t, h.nox, q⟩
end

section
variable {X : Cx} {CX : CXT} {k : Nat} {f : Addr} {fd : FuncData}
  {ps : List Str} {sp : Sp} {dvs : List V} {ds : List Value} {E : XK}
theorem runG {pins : List (Addr × Obj)} {σ : L2.St} {H : Hp} {s : Shared}
    {Q : VK} {us : List Value} {vs : List V}
    (F : FnG X.prog X.w X.K X.mg X.base CX k f fd ps sp)
    (room : Room k X.A) (gd : X.A.guards = some [])
    (hb : Binds X.K fd ps ds) (hd : Vals dvs ds) (hx : Passes CX X E)
    (I : Inv X pins σ H s) (r : Vals vs us) (h : sp (vs ++ dvs) H Q E) :
    wpAny (model X.prog X.w) X.A (call (.ref f) us) (EP X pins σ Q) X.xe s := by
  have rr := r.append hd
  have hl : (us ++ ds).length = ps.length :=
    rr.length.symm.trans (F.len _ _ _ _ h)
  refine wpAny_call (codeAny_mono (F.run X.A X.stack s H ⟨us, []⟩ (us ++ ds)
    (vs ++ dvs) Q E room gd I.env0 (hb s us I.kIn hl) rr h) ?_)
  intro r s' hq
  match r, hq with
  | .error e, hq => exact hx pins σ H s e s' I hq
  | .ok (.ret u), hq => exact I.after hq
  | .ok .next, hq => exact False.elim hq
  | .ok .brk, hq => exact False.elim hq
  | .ok .cont, hq => exact False.elim hq

theorem pe_callG {x : Str} {p pos : Pos} {e : Expr} {es : List Expr} {t : TA}
    (F : FnG X.prog X.w X.K X.mg X.base CX k f fd ps sp)
    (room : Room k X.A) (gd : X.A.guards = some []) (hg : Gl X x)
    (hm : X.mg x = some (.ref f)) (hk : PySem.W.keepIn X.K (.ref f) = true)
    (hb : Binds X.K fd ps ds) (hd : Vals dvs ds) (hx : Passes CX X E)
    (ha : PA X (e :: es) t)
    (h1 : (x == ("__debug__" : Str)) = false := by decide)
    (h2 : starEach (e :: es) X.env =
      (false, eval e X.env) :: starEach es X.env := by rfl)
    (h3 : (backTo pos (starEach es X.env)).any (·.1) = false := by rfl) :
    PE X (.Call (.Name x p) (e :: es) [] pos) (tCall sp dvs E t) := by
  constructor
  intro pins s σ H Q I h
  refine wpAny_Call_Name_kw (ld_glob I hg hm ?_ h1)
  refine PySem.W.callWith_K (h₀ := X.base) I.ok.mod.kin hk
    (thn (ha.run pos pins s σ H _ I h) ?_) h2 h3
  rintro us s1 ⟨vs, H1, I1, r, q⟩
  exact ⟨I1.kIn, runG F room gd hb hd hx I1 r q⟩
end

/-! ### repr of data -/
section
variable {X : Cx}
theorem DpAll.noDict : ∀ {K : PySem.W.Frag} {H : Hp} (ds : List PyData)
    {vs : List V}, (∀ d ∈ ds, ∀ v, Dp K H v d → d.hasDict = false) →
    DpAll K H vs ds → PyData.hasDictAll ds = false
  | _, _, [], _, _, _ => by simp only [PyData.hasDictAll]
  | _, _, d :: ds, _, f, h => by
    cases h with
    | cons h1 h2 =>
      simp only [PyData.hasDictAll]
      rw [f d List.mem_cons_self _ h1,
        DpAll.noDict ds (fun e he => f e (List.mem_cons_of_mem _ he)) h2]
      rfl
mutual
theorem Dp.noDict {K : PySem.W.Frag} {H : Hp} :
    ∀ (d : PyData) {v : V}, Dp K H v d → d.hasDict = false
  | .none, _, _ => by simp only [PyData.hasDict]
  | .bool _, _, _ => by simp only [PyData.hasDict]
  | .int _, _, _ => by simp only [PyData.hasDict]
  | .str _, _, _ => by simp only [PyData.hasDict]
  | .list ds, _, h => by
    cases h with
    | lst _ h => simp only [PyData.hasDict]; exact Dp.noDicts ds h
  | .tuple ds, _, h => by
    cases h with
    | tup _ h => simp only [PyData.hasDict]; exact Dp.noDicts ds h
  | .dict _, _, h => by cases h
theorem Dp.noDicts {K : PySem.W.Frag} {H : Hp} :
    ∀ (ds : List PyData) {vs : List V}, DpAll K H vs ds →
      PyData.hasDictAll ds = false
  | [], _, _ => by simp only [PyData.hasDictAll]
  | d :: ds, _, h => by
    cases h with
    | cons h1 h2 =>
      simp only [PyData.hasDictAll]
      rw [Dp.noDict d h1, Dp.noDicts ds h2]
      rfl
end
/-- repr(x) of data without dicts -/
def rRepr (K : PySem.W.Frag) : List V → Hp → VK → Prop := fun xs H Q =>
  ∃ v d, xs = [v] ∧ Dp K H v d ∧ d.showable = true ∧ d.depth ≤ 60 ∧
    d.shown.length ≤ sizeLine ∧ Q (.str d.shown) H
theorem call_reprD {k : Nat} (room : Room k X.A)
    (gd : X.A.guards = some []) :
    CallR X (.builtin "repr") (rRepr X.K) := by
  intro pins s σ H xs us Q I r h
  obtain ⟨v, d, rfl, hd, sh, dp, sz, q⟩ := h
  cases r with
  | cons rv rn =>
    cases rn
    rename_i u
    obtain ⟨as, rd⟩ := Dp.reads I d v u hd rv
    have un := room.units
    cases hd with
    | non =>
      cases rv
      exact PySem.P.repr_of_none ⟨.str _, H, I.tok _, ⟨_, rfl⟩, q⟩
    | bl b =>
      cases rv
      exact PySem.P.repr_of_bool ⟨.str _, H, I.tok _, ⟨_, rfl⟩, q⟩
    | int i =>
      obtain ⟨t, rfl⟩ := rv
      refine PySem.P.repr_of_int ?_ ⟨.str _, H, I.tok _, ⟨_, rfl⟩, q⟩
      simpa [PyData.showable] using sh
    | str x =>
      obtain ⟨t, rfl⟩ := rv
      exact PySem.P.repr_of_str ⟨.str _, H, I.tok _, ⟨_, rfl⟩, q⟩ sz
    | lst a b =>
      cases rv
      refine repr_of_reads' rd sh (PyData.noDict_hsm
        (Dp.noDict _ (Dp.lst a b))) gd (by omega) (fun _ _ e => e)
        (fun h' u tk hk => ?_) sz
      exact ⟨.str _, H, I.kept hk, ⟨_, rfl⟩, q⟩
    | tup a b =>
      cases rv
      refine repr_of_reads' rd sh (PyData.noDict_hsm
        (Dp.noDict _ (Dp.tup a b))) gd (by omega) (fun _ _ e => e)
        (fun h' u tk hk => ?_) sz
      exact ⟨.str _, H, I.kept hk, ⟨_, rfl⟩, q⟩
end
end OM
namespace OM
open PySem PySem.Spec PyProof.Rows L2

/-- the law's call, nothing being shown around it -/
theorem lawG {P : Program} {w : World} {K : PySem.W.Frag}
    {mg mb : Str → Option Value} {k : Nat} {fa a : Addr} {fd : FuncData}
    {x : Str} {sp : Sp} {s1 : Shared} {vs : List Value} {ns : List Int}
    (kin : K.In s1.heap) (glob : s1.heap.Ns mainGlobals mg)
    (blt : s1.heap.Ns builtinsNs mb)
    (boot : ∀ x : Str, x ≠ "__name__" → mb x = bootBuiltins x)
    (nol : s1.heap.NoLimit) (gens : s1.gens = #[])
    (ha : s1.heap.get? a =
      some { cls := .type "list", data := .seq vs.toArray })
    (hints : IntsAre vs ns) (hl : ns.length ≤ sizeLine)
    (room : Room k callerA)
    (F : ∀ base : Heap, K.In base → base.Ns mainGlobals mg →
      FnG P w K mg base CX0 k fa fd [x] sp)
    (bind : ∀ (s : Shared) (u : Value), BindsTo s fd ⟨[u], []⟩ [(x, u)])
    (hsp : ∀ H : Hp, Only H → SqL K H a (ns.map V.int) →
      sp [.ref a] H (fun v _ => v = .bl true) E0) :
    codeAny (model P w) callerA (.call (.ref fa) ⟨[.ref a], []⟩)
      (fun r s' => r = .ok (.ret (.bool true)) ∧ OldK s1.heap s'.heap ∧
        s'.os = s1.os ∧ AllBare s'.gens) s1 := by
  have rel := vals_ints hints
  have lv := hints.length
  -- H tracks the script alone, or nothing
  suffices core : ∀ H : Hp, Only H → SqL K H a (ns.map V.int) →
      HOk P w H s1.heap → (∀ b, H b ≠ none → b = a) →
      (H a ≠ none → K.lookup a = none) →
      codeAny (model P w) callerA (.call (.ref fa) ⟨[.ref a], []⟩)
        (fun r s' => r = .ok (.ret (.bool true)) ∧ OldK s1.heap s'.heap ∧
          s'.os = s1.os ∧ AllBare s'.gens) s1 by
    by_cases hk : ∃ o, K.lookup a = some o
    · obtain ⟨o, hk⟩ := hk
      have e := kin a o hk
      rw [ha] at e
      cases e
      refine core (fun _ => none) (fun _ => Or.inl rfl) (Or.inr ?_)
        (fun b u z => ?_) (fun b z => absurd rfl z) (fun z => absurd rfl z)
      · exact ⟨_, vs.toArray, _, hk, rfl, rfl, rfl,
          by rw [List.size_toArray, lv]; exact hl, by simpa using rel⟩
      · cases (show (none : Option HO) = some u from z)
    · have hk : K.lookup a = none := by
        cases q : K.lookup a with
        | none => rfl
        | some o => exact absurd ⟨o, q⟩ hk
      let ob : Obj := { cls := .type "list", data := .seq vs.toArray }
      refine core (fun b => if b = a then
          some (.frz ob (.lst (ns.map V.int))) else none)
        (fun b => ?_) (Or.inl (Or.inr ⟨ob, if_pos rfl⟩))
        (fun b u z => ?_) (fun b z => ?_) (fun _ => hk)
      · by_cases hb : b = a
        · exact Or.inr ⟨_, _, if_pos hb⟩
        · exact Or.inl (if_neg hb)
      · by_cases hb : b = a
        · cases (if_pos hb).symm.trans z
          subst hb
          exact ⟨ha, by rw [List.length_map]; exact hl, vs, _, rel, ha⟩
        · cases (if_neg hb).symm.trans z
      · by_cases hb : b = a
        · exact hb
        · exact absurd (if_neg hb) z
  intro H only sq ok alone notK
  have untracked : ∀ {b : Addr} {o : Obj}, s1.heap.get? b = some o →
      (∀ z, o.data ≠ .seq z 0) → H b = none := by
    intro b o e d
    cases q : H b with
    | none => rfl
    | some u =>
      have z : b = a := alone b (by rw [q]; exact nofun)
      subst z
      rw [ha] at e
      cases e
      exact absurd rfl (d _)
  have ns' : ∀ {b : Addr} {m : Str → Option Value}, s1.heap.Ns b m →
      (hidT s1.heap H).Ns b m := by
    rintro b m ⟨o, es, ep, e, d, r⟩
    refine ⟨o, es, ep, hidT_get e (untracked e fun z y => ?_), d, r⟩
    cases d.symm.trans y
  have kin' : K.In (hidT s1.heap H) := by
    intro b o e
    refine hidT_get (kin b o e) ?_
    cases q : H b with
    | none => rfl
    | some u =>
      have z : b = a := alone b (by rw [q]; exact nofun)
      subst z
      rw [notK (by rw [q]; exact nofun)] at e
      cases e
  have md : Mod K mg (hidT s1.heap H) := by
    obtain ⟨mc, h1, h2⟩ := nol
    exact ⟨kin', ns' glob, ⟨mb, ns' blt, boot⟩, ⟨mc, ns' h1, h2⟩⟩
  have env : Env0 P w K mg (hidT s1.heap H) callerA [] s1 H :=
    ⟨rfl, md, fun b o e => of_hidT e, Nat.le_of_eq (hidT_size _ _), trivial,
      fun b hb => (nomatch (show b ∈ ([] : List Addr) from hb)), ok,
      .of_eq gens⟩
  refine codeAny_mono ((F _ kin' (ns' glob)).run callerA [] s1 H ⟨[.ref a], []⟩
    [.ref a] [.ref a] _ _ room rfl env (bind s1 (.ref a)) (.cons rfl .nil)
    (hsp H only sq)) ?_
  intro r s' h
  match r, h with
  | .error e, h => exact False.elim h
  | .ok .next, h => exact False.elim h
  | .ok .brk, h => exact False.elim h
  | .ok .cont, h => exact False.elim h
  | .ok (.ret u), h =>
    obtain ⟨v, H', os, bare, un, ok', rv, q⟩ := h
    cases (show v = .bl true from q)
    cases (show u = Value.bool true from rv)
    refine ⟨rfl, OldK.of_keep fun b o e => ?_, os, bare⟩
    cases q : H b with
    | none =>
      exact un.keep b o e q
        (fun z => nomatch (show b ∈ ([] : List Addr) from z)) (by simp)
    | some u =>
      cases only b with
      | inl z => rw [q] at z; cases z
      | inr z =>
        obtain ⟨ob, xs, z⟩ := z
        have e1 := (ok b _ z).1
        have e2 := (ok' b _ (un.frzs b ob _ z)).1
        rw [e] at e1
        cases e1
        exact e2

/-- what the head leaves, from the law's promise -/
theorem walkG {l : PySem.W.OpenLaw} {n k : Nat} {q : Program} {ls : List Str}
    {XP : (Str → Option Value) → Heap → Prop} {YP : World → Heap → Prop}
    {d : DefRec} {K : Params → PySem.W.Frag} {sp : PySem.W.Frag → Sp} {x : Str}
    (hn : l.most = some n) (hn2 : n ≤ sizeLine)
    (hdf : d.params.defaults = []) (room : Room k callerA)
    (hY : ∀ (w : World) (h : Heap), YP w h → (K w.params).In h)
    (F : ∀ (w : World) (mg : Str → Option Value) (fa : Addr) (h : Heap),
      (K w.params).In h → h.Ns mainGlobals mg → mg d.name = some (.ref fa) →
      ∃ fd : FuncData,
        (∀ (s : Shared) (u : Value), BindsTo s fd ⟨[u], []⟩ [(x, u)]) ∧
        ∀ base : Heap, (K w.params).In base → base.Ns mainGlobals mg →
          FnG l.prog w (K w.params) mg base CX0 k fa fd [x]
            (sp (K w.params)))
    (hsp : ∀ (K : PySem.W.Frag) (H : Hp) (a : Addr) (ns : List Int),
      ns.length ≤ n → Only H → SqL K H a (ns.map V.int) →
      sp K [.ref a] H (fun v _ => v = .bl true) E0) :
    PySem.W.WalkO q ls XP YP l.row.toRowW d []
      (fun f vs => PySem.call f vs) := by
  refine Att.attach_call hn hdf ?_
  intro w s₀ s1 mg mb fa o pm cd doc a vs ns G Y ho hd hcd hmg hobj hi hlen hg
  have KX := hY w _ Y
  obtain ⟨fd, hb, hF⟩ := F w mg fa _ KX G.T.g hmg
  exact lawG KX G.T.g G.T.b G.T.builtins G.T.nolimit hg hobj hi
    (Nat.le_trans hlen hn2) room hF hb
    (fun H hO hS => hsp (K w.params) H a ns hlen hO hS)
end OM
namespace OM
open PySem PySem.Spec PyProof.Rows L2

/-! ### a callee, in one word -/
structure Cal (P : Program) (w : World) (K : PySem.W.Frag)
    (mg : Str → Option Value) (base : Heap) (k : Nat) (x : Str)
    (ps : List Str) (sp : Sp) : Prop where
  ex : ∃ f fd, FnOk P w K mg base CX0 k f fd ps sp ∧
    mg x = some (.ref f) ∧ PySem.W.keepIn K (.ref f) = true ∧
    Binds K fd ps []
structure CalG (P : Program) (w : World) (K : PySem.W.Frag)
    (mg : Str → Option Value) (base : Heap) (k : Nat) (x : Str)
    (ps : List Str) (sp : Sp) : Prop where
  ex : ∃ f fd, FnG P w K mg base CX0 k f fd ps sp ∧
    mg x = some (.ref f) ∧ PySem.W.keepIn K (.ref f) = true ∧
    Binds K fd ps []
section
variable {X : Cx} {k : Nat} {ps : List Str} {sp : Sp} {x : Str}
  {p pos : Pos} {e : Expr} {es : List Expr} {t : TA}
theorem pe_cal (C : Cal X.prog X.w X.K X.mg X.base k x ps sp)
    (room : Room k X.A) (ha : PA X (e :: es) t)
    (hg : Gl X x := by rfl)
    (h1 : (x == ("__debug__" : Str)) = false := by decide)
    (h2 : starEach (e :: es) X.env =
      (false, eval e X.env) :: starEach es X.env := by rfl)
    (h3 : (backTo pos (starEach es X.env)).any (·.1) = false := by rfl) :
    PE X (.Call (.Name x p) (e :: es) [] pos) (tCall sp [] E0 t) := by
  obtain ⟨f, fd, F, m, kp, b⟩ := C.ex
  exact pe_call F room hg m kp b .nil pass0 ha h1 h2 h3
theorem pe_calG (C : CalG X.prog X.w X.K X.mg X.base k x ps sp)
    (room : Room k X.A) (gd : X.A.guards = some [])
    (ha : PA X (e :: es) t)
    (hg : Gl X x := by rfl)
    (h1 : (x == ("__debug__" : Str)) = false := by decide)
    (h2 : starEach (e :: es) X.env =
      (false, eval e X.env) :: starEach es X.env := by rfl)
    (h3 : (backTo pos (starEach es X.env)).any (·.1) = false := by rfl) :
    PE X (.Call (.Name x p) (e :: es) [] pos) (tCall sp [] E0 t) := by
  obtain ⟨f, fd, F, m, kp, b⟩ := C.ex
  exact pe_callG F room gd hg m kp b .nil pass0 ha h1 h2 h3
end

/-! ### heaps: what may have changed -/
/-- all but p is as it was -/
def But (p : Addr) (H H' : Hp) : Prop :=
  ∀ q o, H q = some o → q ≠ p → H' q = some o
theorem But.refl {p : Addr} (H : Hp) : But p H H := fun _ _ h _ => h
theorem But.trans {p : Addr} {H H1 H2 : Hp} (a : But p H H1)
    (b : But p H1 H2) : But p H H2 :=
  fun q o h n => b q o (a q o h n) n
theorem But.of {p : Addr} {H H' : Hp} (a : Same H H') : But p H H' :=
  fun q o h _ => a q o h
theorem But.new {p q : Addr} {o : HO} {H H' : Hp} (a : But p H H')
    (n : H q = none) : But p H (upd H' q o) := fun b u h nb => by
  rw [upd_ne (ne_of_none h n)]
  exact a b u h nb
theorem But.at {p : Addr} {o : HO} {H H' : Hp} (a : But p H H') :
    But p H (upd H' p o) := fun b u h nb => by
  rw [upd_ne nb]
  exact a b u h nb
theorem But.same {p : Addr} {H H' : Hp} (a : But p H H')
    (n : H p = none) : Same H H' := fun q o h =>
  a q o h (ne_of_none h n)
theorem sameNew {H : Hp} {p : Addr} {o : HO} (h : H p = none) :
    Same H (upd H p o) := fun b x e => by
  rw [upd_ne (ne_of_none e h)]
  exact e
theorem Same.put {H H' : Hp} {p : Addr} {o : HO} (a : Same H H')
    (h : H p = none) : Same H (upd H' p o) := fun b x e => by
  rw [upd_ne (ne_of_none e h)]
  exact a b x e
theorem But.free {p q : Addr} {H H' : Hp} (a : But p H H') (n : q ≠ p)
    (h : H' q = none) : H q = none := by
  cases e : H q with
  | none => rfl
  | some o => rw [a q o e n] at h; cases h
theorem But.seq {K : PySem.W.Frag} {p a : Addr} {H H' : Hp} {xs : List V}
    (b : But p H H') (h : SqL K H a xs) (n : a ≠ p) : SqL K H' a xs := by
  rcases h with (h | ⟨o, h⟩) | h
  · exact .inl (.inl (b _ _ h n))
  · exact .inl (.inr ⟨o, b _ _ h n⟩)
  · exact .inr h

/-! ### the built-ins' names -/
structure Bl (mg : Str → Option Value) : Prop where
  len : mg "len" = none
  divmod : mg "divmod" = none
  abs : mg "abs" = none
  max : mg "max" = none
  min : mg "min" = none
  range : mg "range" = none
  enum : mg "enumerate" = none
  isi : mg "isinstance" = none
  str : mg "str" = none
  list : mg "list" = none
  set : mg "set" = none
  all : mg "all" = none
  repr : mg "repr" = none
theorem bt_divmod : bootBuiltins "divmod" = some (.builtin "divmod") := by
  decide +kernel
theorem bt_abs : bootBuiltins "abs" = some (.builtin "abs") := by
  decide +kernel
theorem bt_max : bootBuiltins "max" = some (.builtin "max") := by
  decide +kernel
theorem bt_min : bootBuiltins "min" = some (.builtin "min") := by
  decide +kernel
theorem bt_isi : bootBuiltins "isinstance" = some (.builtin "isinstance") := by
  decide +kernel
theorem bt_str : bootBuiltins "str" = some (.type "str") := by
  decide +kernel
theorem bt_list : bootBuiltins "list" = some (.type "list") := by
  decide +kernel
theorem bt_set : bootBuiltins "set" = some (.type "set") := by
  decide +kernel
theorem bt_all : bootBuiltins "all" = some (.builtin "all") := by
  decide +kernel
theorem bt_repr : bootBuiltins "repr" = some (.builtin "repr") := by
  decide +kernel

/-! ### the drawing state -/
def Rng (H : Hp) (p : Addr) : Prop :=
  ∃ a b : Int, H p = some (.lst [.int a, .int b]) ∧ 0 ≤ a ∧ 0 ≤ b ∧
    b < 2147483647
theorem Rng.but {H H' : Hp} {p q : Addr} (r : Rng H p) (b : But q H H')
    (n : p ≠ q) : Rng H' p := by
  obtain ⟨x, y, e, z⟩ := r
  exact ⟨x, y, b _ _ e n, z⟩
theorem Rng.same {H H' : Hp} {p : Addr} (r : Rng H p) (b : Same H H') :
    Rng H' p := by
  obtain ⟨x, y, e, z⟩ := r
  exact ⟨x, y, b _ _ e, z⟩
theorem Rng.ne {H : Hp} {p q : Addr} (r : Rng H p) (n : H q = none) :
    p ≠ q := by
  obtain ⟨x, y, e, z⟩ := r
  exact ne_of_none e n

/-- a draw below m: some number, the state moved on -/
def spDraw : Sp := fun vs H Q _ => ∃ (p : Addr) (m : Int),
  vs = [.ref p, .int m] ∧ Rng H p ∧ 0 < m ∧ m < 1000000 ∧
  ∀ (d : Int) (H' : Hp), 0 ≤ d → d < m → Rng H' p → But p H H' →
    Q (.int d) H'
/-- a new drawing state -/
def spRng (K : PySem.W.Frag) : Sp := fun vs H Q _ =>
  ∃ (a : Addr) (ns : List Int) (k : Nat), vs = [.ref a, .int k] ∧
  SqL K H a (ns.map V.int) ∧ k ≤ 1000 ∧
  ∀ (p : Addr) (H' : Hp), H p = none → Rng H' p → Same H H' →
    Q (.ref p) H'
end OM
/-! names as lists of codes -/
namespace OM
open PySem L2

/-- one to eight letters from a to z -/
structure Nm (l : List Nat) : Prop where
  lo : 1 ≤ l.length
  hi : l.length ≤ 8
  az : ∀ c ∈ l, 97 ≤ c ∧ c ≤ 122
abbrev vS (l : List Nat) : V := .str (SX.S l)
theorem vS_inj {a b : List Nat} (h : vS a = vS b) : a = b :=
  SX.S_inj (V.str.inj h)

theorem nodup_le {α : Type} [BEq α] [LawfulBEq α] : ∀ {l m : List α},
    l.Nodup → (∀ x ∈ l, x ∈ m) → l.length ≤ m.length
  | [], _, _, _ => Nat.zero_le _
  | x :: l, m, nd, h => by
    have hx : x ∈ m := h x List.mem_cons_self
    have nd' := List.nodup_cons.mp nd
    have r : l.length ≤ (m.erase x).length := by
      refine nodup_le nd'.2 fun y hy => ?_
      have ne : y ≠ x := fun e => nd'.1 (e ▸ hy)
      exact (List.mem_erase_of_ne ne).mpr (h y (List.mem_cons_of_mem _ hy))
    rw [List.length_erase_of_mem hx] at r
    have : 0 < m.length := List.length_pos_of_mem hx
    rw [List.length_cons]
    omega

/-- the k-th name to fall back upon -/
def frs6 (l : List Nat) (k : Nat) : List Nat :=
  l.take 6 ++ [97 + k / 26, 97 + k % 26]
theorem frs6_inj {l : List Nat} {j k : Nat} (h : frs6 l j = frs6 l k) :
    j = k := by
  have e := List.append_cancel_left h
  injection e with e1 e2
  injection e2 with e2 _
  omega
theorem Nm.frs {l : List Nat} (n : Nm l) {k : Nat} (hk : k < 676) :
    Nm (frs6 l k) := by
  unfold frs6
  refine ⟨?_, ?_, ?_⟩
  · simp
  · rw [List.length_append, List.length_take]
    show min 6 l.length + 2 ≤ 8
    omega
  · intro c hc
    rcases List.mem_append.mp hc with h | h
    · exact n.az c (List.mem_of_mem_take h)
    · rcases List.mem_cons.mp h with h | h
      · omega
      · rcases List.mem_cons.mp h with h | h
        · omega
        · cases h
def fresh (l : List Nat) : List (List Nat) :=
  l :: (List.range 676).map (frs6 l)
theorem fresh_nm {l : List Nat} (n : Nm l) : ∀ x ∈ fresh l, Nm x := by
  intro x hx
  rcases List.mem_cons.mp hx with h | h
  · rw [h]; exact n
  · obtain ⟨k, hk, rfl⟩ := List.mem_map.mp h
    exact n.frs (List.mem_range.mp hk)
theorem nodup_map {α β : Type} {f : α → β} (hf : ∀ a b, f a = f b → a = b) :
    ∀ {l : List α}, l.Nodup → (l.map f).Nodup
  | [], _ => List.nodup_nil
  | x :: l, h => by
    have h' := List.nodup_cons.mp h
    rw [List.map_cons]
    refine List.nodup_cons.mpr ⟨fun m => ?_, nodup_map hf h'.2⟩
    obtain ⟨y, hy, e⟩ := List.mem_map.mp m
    exact h'.1 (hf _ _ e ▸ hy)
theorem fresh_some {l : List Nat} {us : List (List Nat)}
    (h : us.length < 676) :
    ∃ x r, (fresh l).filter (fun y => decide (y ∉ us)) = x :: r := by
  cases e : (fresh l).filter (fun y => decide (y ∉ us)) with
  | cons x r => exact ⟨x, r, rfl⟩
  | nil =>
    exfalso
    have all : ∀ x ∈ (List.range 676).map (frs6 l), x ∈ us := by
      intro x hx
      apply Classical.byContradiction
      intro nx
      have : x ∈ (fresh l).filter (fun y => decide (y ∉ us)) :=
        List.mem_filter.mpr ⟨List.mem_cons_of_mem _ hx, decide_eq_true nx⟩
      rw [e] at this
      cases this
    have le := nodup_le (nodup_map (fun a b => frs6_inj (l := l))
      List.nodup_range) all
    rw [List.length_map, List.length_range] at le
    omega
theorem inV_S (x : List Nat) : ∀ us : List (List Nat),
    inV (vS x) (us.map vS) = decide (x ∈ us)
  | [] => by simp [inV]
  | u :: us => by
    have ih := inV_S x us
    unfold inV at ih ⊢
    rw [List.map_cons, List.any_cons, ih]
    by_cases e : u = x
    · subst e
      simp [eqV]
    · have ne : ¬ x = u := fun z => e z.symm
      have : eqV (vS u) (vS x) = false := by
        unfold eqV
        simp
        intro z
        exact e z
      rw [this]
      simp [ne]
theorem flat_S (us : List (List Nat)) : (us.map vS).all flatV = true := by
  rw [List.all_eq_true]
  intro v hv
  obtain ⟨l, _, rfl⟩ := List.mem_map.mp hv
  rfl
end OM
namespace OM
open PySem PySem.Spec PyProof.Rows L2
/-- an expression, with a word behind it -/
def tMid (t : TE) : TE := fun σ H Q =>
  ∃ M : V → Hp → Prop, t σ H M ∧ ∀ v H', M v H' → Q v H'
theorem pe_mid {X : Cx} {e : Expr} {t : TE} (h : PE X e t) :
    PE X e (tMid t) := by
  constructor
  intro pins s σ H Q I q
  obtain ⟨M, m, k⟩ := q
  refine thn (h.run pins s σ H M I m) ?_
  rintro u s1 ⟨v, H1, I1, r, z⟩
  exact ⟨v, H1, I1, r, k v H1 z⟩
def tMidT (t : TT) : TT := fun σ H Q =>
  ∃ M : Bool → Hp → Prop, t σ H M ∧ ∀ v H', M v H' → Q v H'
theorem pt_mid {X : Cx} {e : Expr} {t : TT} (h : PT X e t) :
    PT X e (tMidT t) := by
  constructor
  intro pins s σ H Q I q
  obtain ⟨M, m, k⟩ := q
  refine thn (h.run pins s σ H M I m) ?_
  rintro u s1 ⟨H1, I1, z⟩
  exact ⟨H1, I1, k u H1 z⟩
theorem But.put {p t : Addr} {o : HO} {H H1 : Hp} (a : But p H H1)
    (n : H1 t = none) (ne : t ≠ p) : But p H (upd H1 t o) :=
  a.new (a.free ne n)
/-- len of a list or tuple, the written part a letter -/
def rLenK (K : PySem.W.Frag) : List V → Hp → VK → Prop := fun xs H Q =>
  ∃ p ys, xs = [.ref p] ∧ (SqL K H p ys ∨ SqT K H p ys) ∧
    Q (.int ys.length) H
theorem call_lenK {X : Cx} : CallR X (.builtin "len") (rLenK X.K) :=
  call_len_seq
theorem sz {n : Nat} (h : n ≤ 100000) : n ≤ sizeLine :=
  Nat.le_trans h (by decide)
theorem sz' {n : Nat} (h : n < 100000) : n < sizeLine :=
  Nat.lt_of_lt_of_le h (by decide)
end OM
namespace OM
open PySem PySem.Spec PyProof.Rows L2
/-- what the written part says of an error's class -/
structure XCl (K : PySem.W.Frag) (C : Addr) : Prop where
  ox : OexC K C
  xf : XfC K C
  ha : PySem.W.findIn K (.ref C) "__class__" =
    some (some (.builtin "object.__class__"))
  hn : PySem.W.specialIn K (.builtin "object.__class__") "__get__" =
    some (some (.builtin "getset_descriptor.__get__"))
  ht : PySem.W.takesIn K (.builtin "object.__class__") = some true
  hm : PySem.W.mroIn K C (.type "object") = some true
theorem ps_imp {X : Cx} {st : Stmt} {t t' : TS} (h : PS X st t)
    (i : ∀ D σ H, t' D σ H → t D σ H) : PS X st t' :=
  ⟨fun pins s σ H D I w => h.run pins s σ H D I (i D σ H w)⟩
/-- the promise of an error's __init__ of two fields -/
def spX2 (C : Addr) (f1 f2 : Str) : Sp := fun vs H Q _ =>
  ∃ (a : Addr) (v1 v2 : V), vs = [.ref a, v1, v2] ∧
  H a = some (exo a C none) ∧ ∀ dx, H dx = none → dx ≠ a →
    Q .non (upd (upd (upd H dx (exd dx [(f1, v1)])) a (exo a C (some dx))) dx
      (exd dx [(f2, v2), (f1, v1)]))
def spX1 (C : Addr) (f1 : Str) : Sp := fun vs H Q _ =>
  ∃ (a : Addr) (v1 : V), vs = [.ref a, v1] ∧
  H a = some (exo a C none) ∧ ∀ dx, H dx = none → dx ≠ a →
    Q .non (upd (upd H dx (exd dx [(f1, v1)])) a (exo a C (some dx)))
/-- a class whose error is raised, in one word -/
structure XMk (P : Program) (w : World) (K : PySem.W.Frag)
    (mg : Str → Option Value) (base : Heap) (C : Addr) (k : Nat) (x : Str)
    (ps : List Str) (sp : Sp) : Prop where
  mgC : mg x = some (.ref C)
  cl : XCl K C
  ex : ∃ f fd, FnOk P w K mg base CX0 k f fd ps sp ∧
    PySem.W.findIn K (.ref C) "__init__" = some (some (.ref f)) ∧
    PySem.W.typeIn K (.ref f) = some (.type "function") ∧ Binds K fd ps []
section
variable {X : Cx}
theorem pass0' {E : XK} : Passes CX0 X E := fun _ _ _ _ _ _ _ h => h.elim
/-- raise C(e1, e2) -/
def tRaise2 (C : Addr) (f1 f2 : Str) (W : WX) (ta : TA) : TS := fun _ σ H =>
  ta σ H fun vs H1 => ∃ v1 v2, vs = [v1, v2] ∧ ∀ d H', H1 d = none →
    H' d = some (.xd [(f2, v2), (f1, v1)]) → Same H1 H' →
    W (.ref C) (some d) σ H'
def tMidA (t : TA) : TA := fun σ H Q =>
  ∃ M : List V → Hp → Prop, t σ H M ∧ ∀ vs H', M vs H' → Q vs H'
theorem pa_mid {es : List Expr} {t : TA} (h : PA X es t) :
    PA X es (tMidA t) := by
  constructor
  intro pos pins s σ H Q I q
  obtain ⟨M, m, k⟩ := q
  refine thn (h.run pos pins s σ H M I m) ?_
  rintro u s1 ⟨v, H1, I1, r, z⟩
  exact ⟨v, H1, I1, r, k v H1 z⟩
theorem made_same {H : Hp} {a d : Addr} {C : Addr} {fs : List (Str × V)}
    {H2 : Hp} (na : H a = none) (nd : H d = none)
    (s : ∀ b o, H b = some o → H2 b = some o) :
    (upd (del H2 a) d (.xd fs)) d = some (.xd fs) ∧
    Same H (upd (del H2 a) d (.xd fs)) :=
  ⟨upd_same, fun b o e => by
    rw [upd_ne (ne_of_none e nd), del_ne (ne_of_none e na)]
    exact s b o e⟩
theorem ps_raise2 {C : Addr} {k : Nat} {x : Str} {ps : List Str}
    {f1 f2 : Str} {W : WX} {p pos pos2 : Pos} {e : Expr} {es : List Expr}
    {ta : TA} (M : XMk X.prog X.w X.K X.mg X.base C k x ps (spX2 C f1 f2))
    (room : Room (k + 1) X.A) (hc : X.calm = true) (tk : Takes X W)
    (ha : PA X (e :: es) ta) (hg : Gl X x := by rfl)
    (h1 : (x == ("__debug__" : Str)) = false := by decide)
    (h2 : starEach (e :: es) X.env =
      (false, eval e X.env) :: starEach es X.env := by rfl)
    (h3 : (backTo pos (starEach es X.env)).any (·.1) = false := by rfl) :
    PS X (.Raise (some (.Call (.Name x p) (e :: es) [] pos)) none pos2)
      (tRaise2 C f1 f2 W ta) := by
  obtain ⟨f, fd, F, iC, tI, b⟩ := M.ex
  refine ps_imp (ps_raise hc tk (pmk_oex M.cl.ox iC tI F room b .nil pass0' hg
    M.mgC (pa_mid ha) h1 h2 h3)) ?_
  intro D σ H h
  refine ⟨_, h, ?_⟩
  rintro vs H1 ⟨v1, v2, rfl, q⟩
  refine ⟨by simp, fun a na => ⟨a, v1, v2, rfl, upd_same, fun d nd ne => ?_⟩⟩
  have nd1 : H1 d = none := by rw [upd_ne ne] at nd; exact nd
  refine ⟨rfl, d, _, ?_, upd_same, nd1, ?_⟩
  · rw [upd_ne ne.symm, upd_same]
  · obtain ⟨e1, e2⟩ := made_same (C := C) (fs := [(f2, v2), (f1, v1)]) na nd1
      (H2 := upd (upd (upd (upd H1 a (exo a C none)) d (exd d [(f1, v1)])) a
        (exo a C (some d))) d (exd d [(f2, v2), (f1, v1)])) fun b o z => by
        rw [upd_ne (ne_of_none z nd1), upd_ne (ne_of_none z na),
          upd_ne (ne_of_none z nd1), upd_ne (ne_of_none z na)]
        exact z
    exact q d _ nd1 e1 e2
/-- raise C(e1) -/
def tRaise1 (C : Addr) (f1 : Str) (W : WX) (ta : TA) : TS := fun _ σ H =>
  ta σ H fun vs H1 => ∃ v1, vs = [v1] ∧ ∀ d H', H1 d = none →
    H' d = some (.xd [(f1, v1)]) → Same H1 H' → W (.ref C) (some d) σ H'
theorem ps_raise1 {C : Addr} {k : Nat} {x : Str} {ps : List Str}
    {f1 : Str} {W : WX} {p pos pos2 : Pos} {e : Expr} {es : List Expr}
    {ta : TA} (M : XMk X.prog X.w X.K X.mg X.base C k x ps (spX1 C f1))
    (room : Room (k + 1) X.A) (hc : X.calm = true) (tk : Takes X W)
    (ha : PA X (e :: es) ta) (hg : Gl X x := by rfl)
    (h1 : (x == ("__debug__" : Str)) = false := by decide)
    (h2 : starEach (e :: es) X.env =
      (false, eval e X.env) :: starEach es X.env := by rfl)
    (h3 : (backTo pos (starEach es X.env)).any (·.1) = false := by rfl) :
    PS X (.Raise (some (.Call (.Name x p) (e :: es) [] pos)) none pos2)
      (tRaise1 C f1 W ta) := by
  obtain ⟨f, fd, F, iC, tI, b⟩ := M.ex
  refine ps_imp (ps_raise hc tk (pmk_oex M.cl.ox iC tI F room b .nil pass0' hg
    M.mgC (pa_mid ha) h1 h2 h3)) ?_
  intro D σ H h
  refine ⟨_, h, ?_⟩
  rintro vs H1 ⟨v1, rfl, q⟩
  refine ⟨by simp, fun a na => ⟨a, v1, rfl, upd_same, fun d nd ne => ?_⟩⟩
  have nd1 : H1 d = none := by rw [upd_ne ne] at nd; exact nd
  refine ⟨rfl, d, [(f1, v1)], upd_same, ?_, nd1, ?_⟩
  · rw [upd_ne ne, upd_same]
  · obtain ⟨e1, e2⟩ := made_same (C := C) (fs := [(f1, v1)]) na nd1
      (H2 := upd (upd (upd H1 a (exo a C none)) d (exd d [(f1, v1)])) a
        (exo a C (some d))) fun b o z => by
        rw [upd_ne (ne_of_none z na), upd_ne (ne_of_none z nd1),
          upd_ne (ne_of_none z na)]
        exact z
    exact q d _ nd1 e1 e2
/-- the error that a suite holds -/
theorem suite_inst {a C dd : Addr} {oe : Obj} {pn : List (Addr × Obj)}
    {pins : List (Addr × Obj)} {σ : L2.St} {H : Hp} {s : Shared}
    {fs : List (Str × V)}
    (I : Inv (X.suite a ((a, oe) :: pn)) pins σ H s)
    (hz : Zc (.ref C) (some dd) oe) (hf : ∃ vs, oe.data = .fields vs)
    (hd : H dd = some (.xd fs)) :
    ∃ od, PySem.W.InstAt s.heap a oe C (some od) := by
  obtain ⟨ha, _⟩ := I.pin (a, oe) (List.mem_append_left _ List.mem_cons_self)
  obtain ⟨vs, hv⟩ := hf
  obtain ⟨mA, hns, _⟩ := (show ObjOk X.prog X.w H s.heap dd (.xd fs) from
    I.hok dd _ hd)
  obtain ⟨od, ho, _⟩ := lookIn_ns hns
  exact ⟨od, ha, hz.1, by unfold PySem.W.notCls; rw [hv] <;> rfl,
    by rw [hz.2]; exact ho⟩
def rIsX (K : PySem.W.Frag) (a : Addr) (cls : Value) (d : Option Addr) :
    List V → Hp → VK → Prop := fun xs H Q =>
  ∃ (C dd : Addr) (fs : List (Str × V)) (c : V) (cv : Value) (b : Bool),
    XCl K C ∧ cls = .ref C ∧ d = some dd ∧ H dd = some (.xd fs) ∧
    xs = [.ref a, c] ∧ ClsV c cv ∧
    PySem.W.kitOne K (.ref C) cv = some b ∧ Q (.bl b) H
theorem call_isX {a : Addr} {cls : Value} {d : Option Addr} {oe : Obj}
    {pn : List (Addr × Obj)} (hz : Zc cls d oe)
    (hf : ∃ vs, oe.data = .fields vs) :
    CallR (X.suite a ((a, oe) :: pn)) (.builtin "isinstance")
      (rIsX X.K a cls d) := by
  intro pins s σ H xs us Q I r h
  obtain ⟨C, dd, fs, c, cv, b, T, rfl, rfl, hd, rfl, k, e, q⟩ := h
  obtain ⟨u1, u2, rfl, r1, r2⟩ := vals2 r
  cases r1
  cases k.eq r2
  obtain ⟨od, J⟩ := suite_inst I hz hf hd
  obtain ⟨cd, hc, _⟩ := PySem.W.any_some T.xf.hdC
  exact PySem.W.kia_one (PySem.W.kitx_exc (by rw [hc]; rfl) T.xf.ga T.xf.gg
    T.xf.exC T.ha T.hn T.ht T.hm) I.kIn J e (fun z => nomatch z) fun tk =>
    ⟨.bl b, H, I.kept (t' := tk) fun _ _ z => z, rfl, q⟩
def rIsXT (K : PySem.W.Frag) (a : Addr) (cls : Value) (d : Option Addr) :
    List V → Hp → VK → Prop := fun xs H Q =>
  ∃ (C dd tp : Addr) (fs : List (Str × V)) (cs : List V) (us : List Value)
    (b : Bool), XCl K C ∧ cls = .ref C ∧ d = some dd ∧
    H dd = some (.xd fs) ∧ xs = [.ref a, .ref tp] ∧ H tp = some (.tup cs) ∧
    Paired ClsV cs us ∧ PySem.W.kitAny K (.ref C) us = some b ∧ Q (.bl b) H
theorem paired_eq : ∀ {cs : List V} {us vs : List Value},
    Paired ClsV cs us → Vals cs vs → vs = us
  | _, _, _, .nil, .nil => rfl
  | _, _, _, .cons h t, .cons r s => by
    rw [h.eq r, paired_eq t s]
theorem call_isXT {a : Addr} {cls : Value} {d : Option Addr} {oe : Obj}
    {pn : List (Addr × Obj)} (hz : Zc cls d oe)
    (hf : ∃ vs, oe.data = .fields vs) :
    CallR (X.suite a ((a, oe) :: pn)) (.builtin "isinstance")
      (rIsXT X.K a cls d) := by
  intro pins s σ H xs us Q I r h
  obtain ⟨C, dd, tp, fs, cs, vs, b, T, rfl, rfl, hd, rfl, ht, pr, e, q⟩ := h
  obtain ⟨u1, u2, rfl, r1, r2⟩ := vals2 r
  cases r1
  cases r2
  obtain ⟨od, J⟩ := suite_inst I hz hf hd
  obtain ⟨cd, hc, _⟩ := PySem.W.any_some T.xf.hdC
  obtain ⟨z, its, rv, ob, ho, hcl, n, hdt⟩ := I.hok tp _ ht
  cases paired_eq pr rv
  obtain ⟨oc, od', da, sl⟩ := ob
  dsimp only at hcl hdt
  subst hcl hdt
  exact PySem.W.kia_tup (PySem.W.kitx_exc (by rw [hc]; rfl) T.xf.ga T.xf.gg
    T.xf.exC T.ha T.hn T.ht T.hm) I.kIn J ho e (fun z => nomatch z) fun tk =>
    ⟨.bl b, H, I.kept (t' := tk) fun _ _ z => z, rfl, q⟩
end
end OM
namespace OM
open PySem PySem.Spec PyProof.Rows L2
section
variable {X : Cx} {k : Nat} {ps : List Str} {sp : Sp} {x : Str} {C : Addr}
  {p pos : Pos} {e : Expr} {es : List Expr} {t : TA}
/-- a callee that may raise -/
structure CalX (P : Program) (w : World) (K : PySem.W.Frag)
    (mg : Str → Option Value) (base : Heap) (k : Nat) (x : Str)
    (ps : List Str) (sp : Sp) : Prop where
  ex : ∃ f fd, FnOk P w K mg base (L2.CX P w) k f fd ps sp ∧
    mg x = some (.ref f) ∧ PySem.W.keepIn K (.ref f) = true ∧
    Binds K fd ps []
/-- f(..), what leaves f leaves this def -/
theorem pe_calX {E : XK} {W : WX}
    (M : CalX X.prog X.w X.K X.mg X.base k x ps sp)
    (room : Room k X.A) (tk : Takes X W)
    (hW : ∀ cls d σ H, E cls d H → W cls d σ H) (ha : PA X (e :: es) t)
    (hg : Gl X x := by rfl)
    (h1 : (x == ("__debug__" : Str)) = false := by decide)
    (h2 : starEach (e :: es) X.env =
      (false, eval e X.env) :: starEach es X.env := by rfl)
    (h3 : (backTo pos (starEach es X.env)).any (·.1) = false := by rfl) :
    PE X (.Call (.Name x p) (e :: es) [] pos) (tCall sp [] E t) := by
  obtain ⟨f, fd, F, m, kp, b⟩ := M.ex
  exact pe_call F room hg m kp b .nil (passes_call tk hW) ha h1 h2 h3
/-- a class that is made, its __init__ may raise -/
structure CalCX (P : Program) (w : World) (K : PySem.W.Frag)
    (mg : Str → Option Value) (base : Heap) (C : Addr) (k : Nat) (x : Str)
    (ps : List Str) (sp : Sp) : Prop where
  mgC : mg x = some (.ref C)
  ex : ∃ f fd, FnOk P w K mg base (L2.CX P w) k f fd ps sp ∧ Mk K C f ∧
    Binds K fd ps []
def tMakeS (C : Addr) (sp : Sp) (E : L2.St → XK) (t : TA) : TE :=
  fun σ H Q => t σ H fun vs H1 => ∀ x dx, H1 x = none → H1 dx = none →
    dx ≠ x → sp (.ref x :: vs) (upd (upd H1 dx (.own x)) x (.ins C dx []))
      (fun v H2 => v = .non ∧ Q (.ref x) H2) (E σ)
theorem pe_makeS {E : L2.St → XK}
    (M : CalCX X.prog X.w X.K X.mg X.base C k x ps sp)
    (room : Room (k + 1) X.A)
    (hx : ∀ σ, PassesAt (L2.CX X.prog X.w) X σ (E σ))
    (ha : PA X (e :: es) t) (hg : Gl X x := by rfl)
    (h1 : (x == ("__debug__" : Str)) = false := by decide)
    (h2 : starEach (e :: es) X.env =
      (false, eval e X.env) :: starEach es X.env := by rfl)
    (h3 : (backTo pos (starEach es X.env)).any (·.1) = false := by rfl) :
    PE X (.Call (.Name x p) (e :: es) [] pos) (tMakeS C sp E t) := by
  obtain ⟨f, fd, F, mk, b⟩ := M.ex
  constructor
  intro pins s σ H Q I h
  refine wpAny_Call_Name_kw (ld_glob I hg M.mgC ?_ h1)
  refine PySem.W.callWith_K (h₀ := X.base) I.ok.mod.kin mk.kp
    (thn (ha.run pos pins s σ H _ I h) ?_) h2 h3
  rintro us s1 ⟨vs, H1, I1, r, q⟩
  refine ⟨I1.kIn, ?_⟩
  show wpAny _ _ (call (.ref C) us) _ _ s1
  let a := s1.heap.objs.size + 1
  have q1 := q a s1.heap.objs.size (I1.hok.fresh (Nat.le_succ _))
    (I1.hok.fresh (Nat.le_refl _)) (Nat.ne_of_lt (Nat.lt_succ_self _))
  have I2 := Inv.made (C := C) I1
  have rr : Vals (V.ref a :: vs) (Value.ref a :: us) := .cons rfl r
  have hl : (Value.ref a :: us).length = ps.length :=
    rr.length.symm.trans (F.len _ _ _ _ q1)
  have bd := b _ (Value.ref a :: us) I2.kIn (by
    rw [List.append_nil]; exact hl)
  rw [List.append_nil] at bd
  refine wpAny_call (make_map (f := f) I1.kIn mk.makes mk.init
    (beq_iff_eq.mp mk.fn) (codeAny_mono (F.run _ X.stack _ _
      ⟨Value.ref a :: us, []⟩ (Value.ref a :: us) _ _ (E σ)
      (room.make C us []) (I2.env0.make C us []) bd rr q1) ?_))
  intro r s' hq
  match r, hq with
  | .error e, hq => exact hx σ pins _ _ e s' I2 hq
  | .ok .next, hq => exact False.elim hq
  | .ok .brk, hq => exact False.elim hq
  | .ok .cont, hq => exact False.elim hq
  | .ok (.ret u), hq =>
    obtain ⟨v, H', I3, rv, ev, q3⟩ := I2.after hq
    subst ev
    exact ⟨rv, ⟨V.ref a, H', I3, rfl, q3⟩⟩
end
end OM
/-! Errors whose context is None: raised in a def, passed on by its callers,
caught where the suite raises another one. -/
namespace OM
open PySem PySem.Spec PyProof.Rows L2
section
variable {X : Cx} {k : Nat} {ps : List Str} {sp : Sp} {x : Str} {C : Addr}
  {p pos pos2 : Pos} {e : Expr} {es : List Expr} {ta : TA}
/-- C(e, ..), made in order to be raised where nothing is handled -/
theorem pmkN (M : XMk X.prog X.w X.K X.mg X.base C k x ps sp)
    (room : Room (k + 1) X.A) (ha : PA X (e :: es) ta)
    (hg : Gl X x := by rfl)
    (h1 : (x == ("__debug__" : Str)) = false := by decide)
    (h2 : starEach (e :: es) X.env =
      (false, eval e X.env) :: starEach es X.env := by rfl)
    (h3 : (backTo pos (starEach es X.env)).any (·.1) = false := by rfl) :
    L2N.PMk X (.Call (.Name x p) (e :: es) [] pos) (tMkO C sp [] ta) := by
  obtain ⟨f, fd, fn, at_, ty, bd⟩ := M.ex
  have ox := M.cl.ox
  obtain ⟨_, _, _, _, bm, _, _, _, _, _, _, _, _, _, _, known, isVE⟩ := ox.cls
  intro pins s σ H Q I h
  refine wpAny_Call_Name_kw (ld_glob I hg M.mgC ?_ h1)
  refine PySem.W.callWith_K (h₀ := X.base) I.ok.mod.kin ox.kC
    (thn (ha.run pos pins s σ H _ I h) ?_) h2 h3
  rintro us ⟨hp, g, dr, tk, os⟩ ⟨vs, H1, I1, r1, few, q1⟩
  refine ⟨I1.kIn, ?_⟩
  show wpAny _ _ (call (.ref C) us) _ _ _
  have above : hp.objs.size ≤ hp.objs.size + 1 := Nat.le_succ _
  have todo := q1 (hp.objs.size + 1) (I1.hok.fresh above)
  rw [List.append_nil] at todo
  have grown : ∀ b o, hp.get? b = some o →
      ((hp.push (PySem.W.kdv_tup us)).push
        (PySem.HandSPX.excO C hp.objs.size)).get? b = some o :=
    fun b o z => Heap.get?_push_of_some _ (Heap.get?_push_of_some _ z)
  have new : ((hp.push (PySem.W.kdv_tup us)).push
      (PySem.HandSPX.excO C hp.objs.size)).get? (hp.objs.size + 1) =
      some (PySem.HandSPX.excO C hp.objs.size) := by heap_get
  have I2 := I1.laid (t' := tk) (o := exo (hp.objs.size + 1) C none) grown above
    (exo_ok new)
  have rr : Vals (V.ref (hp.objs.size + 1) :: vs)
      (Value.ref (hp.objs.size + 1) :: us) := .cons rfl r1
  have many : (Value.ref (hp.objs.size + 1) :: us).length = ps.length :=
    rr.length.symm.trans (fn.len _ _ _ _ todo)
  have args := bd _ (Value.ref (hp.objs.size + 1) :: us) I2.kIn (by
    rw [List.append_nil]; exact many)
  rw [List.append_nil] at args
  have short : us.length ≤ sizeLine := by
    have := Paired.length r1
    rw [sizeLine_eq]
    omega
  have ran := fn.run _ X.stack _ _ ⟨Value.ref (hp.objs.size + 1) :: us, []⟩
    (Value.ref (hp.objs.size + 1) :: us) _ _ (fun _ _ _ => False)
    (room.make C us []) (I2.env0.make C us []) args rr todo
  refine wpAny_call (PySem.HandSPX.call_own PySem.F.excBase_ValueError
    (fun Y => PySem.HandSPX.refsVE_contains Y bm isVE) (I1.kIn _ _ known)
    (PySem.W.looks_findIn I1.kIn at_)
    (fun self => PySem.W.bind_fn I1.kIn self ty) short
    (codeAny_mono ran ?_))
  rintro r ⟨h2', g2, d2, t2, os2⟩ out
  match r, out with
  | .error er, out => exact False.elim out
  | .ok .next, out => exact False.elim out
  | .ok .brk, out => exact False.elim out
  | .ok .cont, out => exact False.elim out
  | .ok (.ret u), out =>
    obtain ⟨v, H2, eo, bare, un, hok, rv, ev, d, fs, ea, ed, nd, q2⟩ := out
    subst ev
    obtain ⟨t0, G, J, kG, ng, at2, na⟩ := mk_end0 (d2 := d2) (t2 := t2) I1
      above grown un hok eo bare ea ed nd
    exact ⟨rv, hp.objs.size + 1, _, _, ⟨G, g2, d2, t2, os2⟩, _, .ref C, some d,
      rfl, J, kG, ng, at2, ⟨rfl, rfl, fun vs z => by cases z; rfl⟩, rfl, rfl, na,
      rfl, bare, raises_own ox.exC ox.tyC, q2⟩
/-- raise C(e1, e2), its context None -/
theorem ps_raise2N {f1 f2 : Str} {W : WX}
    (M : XMk X.prog X.w X.K X.mg X.base C k x ps (spX2 C f1 f2))
    (room : Room (k + 1) X.A) (hc : X.calm = true) (tk : L2N.Takes X W)
    (ha : PA X (e :: es) ta) (hg : Gl X x := by rfl)
    (h1 : (x == ("__debug__" : Str)) = false := by decide)
    (h2 : starEach (e :: es) X.env =
      (false, eval e X.env) :: starEach es X.env := by rfl)
    (h3 : (backTo pos (starEach es X.env)).any (·.1) = false := by rfl) :
    PS X (.Raise (some (.Call (.Name x p) (e :: es) [] pos)) none pos2)
      (tRaise2 C f1 f2 W ta) := by
  refine ps_imp (L2N.ps_raise hc tk (pmkN M room (pa_mid ha) hg h1 h2 h3)) ?_
  intro D σ H h
  refine ⟨_, h, ?_⟩
  rintro vs H1 ⟨v1, v2, rfl, q⟩
  refine ⟨by simp, fun a na => ⟨a, v1, v2, rfl, upd_same, fun d nd ne => ?_⟩⟩
  have nd1 : H1 d = none := by rw [upd_ne ne] at nd; exact nd
  refine ⟨rfl, d, _, ?_, upd_same, nd1, ?_⟩
  · rw [upd_ne ne.symm, upd_same]
  · obtain ⟨e1, e2⟩ := made_same (C := C) (fs := [(f2, v2), (f1, v1)]) na nd1
      (H2 := upd (upd (upd (upd H1 a (exo a C none)) d (exd d [(f1, v1)])) a
        (exo a C (some d))) d (exd d [(f2, v2), (f1, v1)])) fun b o z => by
        rw [upd_ne (ne_of_none z nd1), upd_ne (ne_of_none z na),
          upd_ne (ne_of_none z nd1), upd_ne (ne_of_none z na)]
        exact z
    exact q d _ nd1 e1 e2
/-- a class whose error is raised while another one is handled -/
structure XMkH (P : Program) (w : World) (K : PySem.W.Frag)
    (mg : Str → Option Value) (base : Heap) (C : Addr) (k : Nat) (x : Str)
    (ps : List Str) (sp : Sp) : Prop where
  mgC : mg x = some (.ref C)
  cl : XCl K C
  ex : ∃ f fd, L2H.FnH P w K mg base CX0 k f fd ps sp ∧
    PySem.W.findIn K (.ref C) "__init__" = some (some (.ref f)) ∧
    PySem.W.typeIn K (.ref f) = some (.type "function") ∧ Binds K fd ps []
/-- raise C(e1) from None, in an except suite -/
theorem ps_raise1H {f1 : Str} {W : WX} {j : Nat} {cpos : Pos}
    (M : XMkH X.prog X.w X.K X.mg X.base C k x ps (spX1 C f1))
    (room : L2H.RoomH (k + 1) X.A) (hc : L2H.HotC X) (tk : L2.Takes X W)
    (ha : PA X (e :: es) ta) (hg : Gl X x := by rfl)
    (h1 : (x == ("__debug__" : Str)) = false := by decide)
    (h2 : starEach (e :: es) X.env =
      (false, eval e X.env) :: starEach es X.env := by rfl)
    (h3 : (backTo pos (starEach es X.env)).any (·.1) = false := by rfl) :
    PS X (.Raise (some (.Call (.Name x p) (e :: es) [] pos))
      (some (.Constant .none j cpos)) pos2) (tRaise1 C f1 W ta) := by
  obtain ⟨f, fd, fn, iC, tI, b⟩ := M.ex
  refine ps_imp (L2H.ps_raiseHN hc tk (L2H.pmk5_oexH M.cl.ox iC tI fn room hc b
    pass0' hg M.mgC (pa_mid ha) h1 h2 h3)) ?_
  intro D σ H h
  refine ⟨_, h, ?_⟩
  rintro vs H1 ⟨v1, rfl, q⟩
  refine ⟨by simp, fun a na => ⟨a, v1, rfl, upd_same, fun d nd ne => ?_⟩⟩
  have nd1 : H1 d = none := by rw [upd_ne ne] at nd; exact nd
  refine ⟨rfl, d, [(f1, v1)], upd_same, ?_, nd1, ?_⟩
  · rw [upd_ne ne, upd_same]
  · obtain ⟨e1, e2⟩ := made_same (C := C) (fs := [(f1, v1)]) na nd1
      (H2 := upd (upd (upd H1 a (exo a C none)) d (exd d [(f1, v1)])) a
        (exo a C (some d))) fun b o z => by
        rw [upd_ne (ne_of_none z na), upd_ne (ne_of_none z nd1),
          upd_ne (ne_of_none z na)]
        exact z
    exact q d _ nd1 e1 e2
end
/-! ### callees that raise, whatever is known of what they raise -/
section
variable {X : Cx} {k : Nat} {ps : List Str} {sp : Sp} {x : Str} {C : Addr}
  {p pos : Pos} {e : Expr} {es : List Expr} {t : TA} {CX : CXT}
structure CalE (CX : CXT) (P : Program) (w : World) (K : PySem.W.Frag)
    (mg : Str → Option Value) (base : Heap) (k : Nat) (x : Str)
    (ps : List Str) (sp : Sp) : Prop where
  ex : ∃ f fd, FnOk P w K mg base CX k f fd ps sp ∧
    mg x = some (.ref f) ∧ PySem.W.keepIn K (.ref f) = true ∧
    Binds K fd ps []
theorem pe_calE {E : XK} (M : CalE CX X.prog X.w X.K X.mg X.base k x ps sp)
    (room : Room k X.A) (hx : Passes CX X E) (ha : PA X (e :: es) t)
    (hg : Gl X x := by rfl)
    (h1 : (x == ("__debug__" : Str)) = false := by decide)
    (h2 : starEach (e :: es) X.env =
      (false, eval e X.env) :: starEach es X.env := by rfl)
    (h3 : (backTo pos (starEach es X.env)).any (·.1) = false := by rfl) :
    PE X (.Call (.Name x p) (e :: es) [] pos) (tCall sp [] E t) := by
  obtain ⟨f, fd, fn, m, kp, b⟩ := M.ex
  exact pe_call fn room hg m kp b .nil hx ha h1 h2 h3
structure CalCE (CX : CXT) (P : Program) (w : World) (K : PySem.W.Frag)
    (mg : Str → Option Value) (base : Heap) (C : Addr) (k : Nat) (x : Str)
    (ps : List Str) (sp : Sp) : Prop where
  mgC : mg x = some (.ref C)
  ex : ∃ f fd, FnOk P w K mg base CX k f fd ps sp ∧ Mk K C f ∧
    Binds K fd ps []
theorem pe_makeE {E : L2.St → XK}
    (M : CalCE CX X.prog X.w X.K X.mg X.base C k x ps sp)
    (room : Room (k + 1) X.A) (hx : ∀ σ, PassesAt CX X σ (E σ))
    (ha : PA X (e :: es) t) (hg : Gl X x := by rfl)
    (h1 : (x == ("__debug__" : Str)) = false := by decide)
    (h2 : starEach (e :: es) X.env =
      (false, eval e X.env) :: starEach es X.env := by rfl)
    (h3 : (backTo pos (starEach es X.env)).any (·.1) = false := by rfl) :
    PE X (.Call (.Name x p) (e :: es) [] pos) (tMakeS C sp E t) := by
  obtain ⟨f, fd, F, mk, b⟩ := M.ex
  constructor
  intro pins s σ H Q I h
  refine wpAny_Call_Name_kw (ld_glob I hg M.mgC ?_ h1)
  refine PySem.W.callWith_K (h₀ := X.base) I.ok.mod.kin mk.kp
    (thn (ha.run pos pins s σ H _ I h) ?_) h2 h3
  rintro us s1 ⟨vs, H1, I1, r, q⟩
  refine ⟨I1.kIn, ?_⟩
  show wpAny _ _ (call (.ref C) us) _ _ s1
  let a := s1.heap.objs.size + 1
  have q1 := q a s1.heap.objs.size (I1.hok.fresh (Nat.le_succ _))
    (I1.hok.fresh (Nat.le_refl _)) (Nat.ne_of_lt (Nat.lt_succ_self _))
  have I2 := Inv.made (C := C) I1
  have rr : Vals (V.ref a :: vs) (Value.ref a :: us) := .cons rfl r
  have hl : (Value.ref a :: us).length = ps.length :=
    rr.length.symm.trans (F.len _ _ _ _ q1)
  have bd := b _ (Value.ref a :: us) I2.kIn (by
    rw [List.append_nil]; exact hl)
  rw [List.append_nil] at bd
  refine wpAny_call (make_map (f := f) I1.kIn mk.makes mk.init
    (beq_iff_eq.mp mk.fn) (codeAny_mono (F.run _ X.stack _ _
      ⟨Value.ref a :: us, []⟩ (Value.ref a :: us) _ _ (E σ)
      (room.make C us []) (I2.env0.make C us []) bd rr q1) ?_))
  intro r s' hq
  match r, hq with
  | .error e, hq => exact hx σ pins _ _ e s' I2 hq
  | .ok .next, hq => exact False.elim hq
  | .ok .brk, hq => exact False.elim hq
  | .ok .cont, hq => exact False.elim hq
  | .ok (.ret u), hq =>
    obtain ⟨v, H', I3, rv, ev, q3⟩ := I2.after hq
    subst ev
    exact ⟨rv, ⟨V.ref a, H', I3, rfl, q3⟩⟩
end
section
variable {P : Program} {w : World} {K : PySem.W.Frag}
  {mg : Str → Option Value} {base : Heap} {CX : CXT}
/-- a def, whatever is told of what it raises -/
theorem okE {x qual : Str} {st : Stmt} {f : Addr} {fd : FuncData}
    {N ps : List Str} {k : Nat} {sp : Sp} (F : Fun K x qual st f fd)
    (S : FnScope N ps (defScope st))
    (len : ∀ vs H Q E, sp vs H Q E → vs.length = ps.length)
    (body : ∀ (cdv : Value) (A : Around) (outer : List Env) (s : Shared)
      (H : Hp) (vs : List V) (Q : VK) (E : XK),
      Room k (A.deeper (envOfC qual (defScope st) s.heap.objs.size f cdv)) →
      sp vs H Q E → ∃ t, PSs (cxOf CX P w K mg base N qual (defScope st) f cdv
        A outer s H E) (defBody st) t ∧
        t { nx := fun _ H' => Q .non H', rt := Q } (start N vs) H) :
    FnOk P w K mg base CX (k + 1) f fd ps sp := by
  obtain ⟨_, _, _, _, _, _, cdv, _, _, rfl, lk, hcd⟩ := F.ex
  exact fn_of lk hcd S len fun A outer s H vs Q E room h =>
    body cdv A outer s H vs Q E room h
/-- a def called while an error is handled -/
theorem okH {x qual : Str} {st : Stmt} {f : Addr} {fd : FuncData}
    {N ps : List Str} {k : Nat} {sp : Sp} (F : Fun K x qual st f fd)
    (S : FnScope N ps (defScope st))
    (len : ∀ vs H Q E, sp vs H Q E → vs.length = ps.length)
    (body : ∀ (cdv : Value) (A : Around) (outer : List Env) (s : Shared)
      (H : Hp) (vs : List V) (Q : VK) (E : XK) (p : Addr × Obj),
      sp vs H Q E → ∃ t, PSs (L2H.cxH CX P w K mg base N qual (defScope st) f
        cdv A outer s H E p) (defBody st) t ∧
        t { nx := fun _ H' => Q .non H', rt := Q } (start N vs) H) :
    L2H.FnH P w K mg base CX (k + 1) f fd ps sp := by
  obtain ⟨_, _, _, _, _, _, cdv, _, _, rfl, lk, hcd⟩ := F.ex
  exact L2H.fn_ofH lk hcd S len fun A outer s H vs Q E p _ _ h =>
    body cdv A outer s H vs Q E p h
end
end OM
/-! Own errors whose class stands right below a built-in one (LookupError ..),
with one field. -/
namespace OM
open PySem PySem.Spec PyProof.Rows L2
/-- what is asked of the built-in class -/
structure Fam (B newId initId : String) (bm : List Value) : Prop where
  base : ExcBaseFacts B newId initId bm
  pass : ∀ self : Value, refuseLoop self "__setattr__" bm = pure ()
  obj : bm.contains (.type "object") = true
abbrev leTail : List Value :=
  [.type "LookupError", .type "Exception", .type "BaseException",
    .type "object"]
theorem fam_LE : Fam "LookupError" "LookupError.__new__"
    "LookupError.__init__" leTail :=
  ⟨PySem.F.excBase_LookupError, PySem.F.store_LookupError.passes,
    by decide +kernel⟩
/-- what the written part says of the own class -/
structure OexF (K : PySem.W.Frag) (C : Addr) : Prop where
  cls : ∃ B newId initId bm nm q N bs sn sub ab col dd k0 k1 k2 k3 k5,
    Fam B newId initId bm ∧ K.lookup C = some (excClassObj nm q C N bs bm true
      sn sub ab col dd k0 k1 k2 k3 k5 newId)
  sa : PySem.W.findIn K (.ref C) "__setattr__" =
    some (some (.builtin "object.__setattr__"))
  exC : PySem.W.subIn K (.ref C) (.type "BaseException") = some true
  tyC : PySem.W.typeIn K (.ref C) = some (.type "type")
  kC : PySem.W.keepIn K (.ref C) = true
section
open Builtin Builtin.ObjectAttr
variable {P : Program} {w : World} {A : Around} {R : Result → Shared → Prop}
  {hp : Heap} {g : Array GenState} {d : Drawn} {t : Nat} {os : OsState}
/-- self.name = v, the error having no dict as yet -/
theorem fam_store {K : PySem.W.Frag} {name : Str} {tk : Tok} {v : Value}
    {x C : Addr} {fv : Array Value} {cd : ClassData} {bm : List Value}
    {B newId initId : String} (fm : Fam B newId initId bm) (kin : K.In hp)
    (hx : hp.get? x = some { cls := .ref C, data := .fields fv })
    (hcd : PySem.W.clsIn K C = some cd) (hm : cd.mro = .ref C :: bm)
    (hh : cd.hasDict = true)
    (ha : PySem.W.findIn K (.ref C) name = some none)
    (hq : ∀ h' tk' dx,
      (∀ b o, b ≠ x → hp.get? b = some o → h'.get? b = some o) →
      hp.objs.size ≤ dx → dx ≠ x →
      h'.get? x = some { cls := .ref C, dict := some dx, data := .fields fv } →
      h'.Ns1 dx (fun y => if y = name then some v else none) →
      R (.ok (.ret .none)) ⟨h', g, d, tk', os⟩) :
    codeAny (model P w) A (.call (.builtin "object.__setattr__")
      ⟨[.ref x, .str name tk, v], []⟩) R ⟨hp, g, d, t, os⟩ := by
  have at_ : PySem.W.InstAt hp x { cls := .ref C, data := .fields fv } C none :=
    ⟨hx, rfl, rfl, trivial⟩
  have low : x ≠ hp.objs.size := Nat.ne_of_lt (Heap.lt_size hx)
  have hasObj : cd.mro.contains (.type "object") = true := by
    rw [hm, List.contains_cons, fm.obj, Bool.or_true]
  have notNil : cd.mro.isEmpty = false := by rw [hm]; rfl
  have isObj : PySem.W.Looks (model P w) hp
      (isInstance (.ref x) (.type "object")) true := by
    refine at_.type.andThen (PySem.W.looks_mroIn kin ?_)
    unfold PySem.W.mroIn
    rw [hcd, Option.bind_some, if_neg (by rw [notNil]; decide), hasObj]
  have data : PySem.W.Looks (model P w) hp (classData C) cd :=
    PySem.W.looks_clsIn kin hcd
  have line : PySem.W.Looks (model P w) hp (mroOf (.ref C)) cd.mro :=
    (PySem.W.looks_clsIn kin hcd).andThen .now
  have noTaker : PySem.W.Looks (model P w) hp (storeTaker? none) none := .now
  have st := PySem.F.store_object
  refine codeAny_call_builtin st.slot.plain st.entry
    (@PySem.W.check_slot (model P w) _ _ ⟨hp, g, d, t, os⟩
      "object.__setattr__" "object" "__setattr__" (.ref x)
      [.str name tk, v] [] _ st.kind st.split isObj
      (st.args (.ref x) (.str name tk) v) ?_)
  rw [PySem.W.osa_eq, refuse_eq]
  refine wpAny_bind (wpAny_bind (at_.type.at (wpAny_bind
    (line.at ?_))))
  rw [hm, refuseLoop_ref, fm.pass]
  refine wpAny_pure (wpAny_bind (at_.type.at (wpAny_bind
    ((PySem.W.looks_findIn kin ha).at (wpAny_bind (noTaker.at ?_))))))
  show wpAny _ _ (storeInOwnDict (.ref x) (.ref C) (.str name tk) name v
    false) _ _ _
  rcases cd with ⟨c1, c2, c3, c4, c5, c6, c7, c8, c9, c10, c11⟩
  have hh' : c6 = true := hh
  subst hh'
  unfold storeInOwnDict ownDictForStores
  repeat (first
    | with_reducible refine PySem.HandSPX.store_in_new ?_ ?_
    | with_reducible refine wpAny_loadPart_at hx ?_
    | with_reducible refine data.at ?_
    | wp_step)
  · exact ⟨_, #[], _, (Heap.get?_update_ne _ _ _ _ low.symm).trans
      (Heap.get?_push_at rfl rfl), rfl,
      fun e he => absurd he (by simp), fun _ => rfl⟩
  · intro h' tk' hn' hs
    refine hq h' tk' hp.objs.size (fun b o hb ho => ?_) (Nat.le_refl _)
      low.symm ?_ hn'
    · have z := hs.2 b (Nat.ne_of_lt (Heap.lt_size ho))
      exact z.trans ((Heap.get?_update_ne _ _ _ _ hb).trans
        (Heap.get?_push_of_some _ ho))
    · exact (hs.2 x low).trans (Heap.get?_update_self _
        (Heap.get?_push_of_some _ hx) rfl)
end
section
variable {X : Cx}
theorem ostF {pins : List (Addr × Obj)} {σ : L2.St} {H : Hp} {s : Shared}
    {a C : Addr} {f : Str} {y : V} {u : Value} {Q : Unit → Shared → Prop}
    {E : Value → Shared → Prop} {A : Around}
    (T : OexF X.K C) (I : Inv X pins σ H s)
    (e : H a = some (exo a C none))
    (hno : PySem.W.findIn X.K (.ref C) f = some none) (ry : RelV y u)
    (h : ∀ dx s', H dx = none → dx ≠ a → Inv X pins σ
      (upd (upd H dx (exd dx [(f, y)])) a (exo a C (some dx))) s' → Q () s') :
    wpAny (model X.prog X.w) A (setAttr (.ref a) f u) Q E s := by
  obtain ⟨B, nw, ini, bm, nm, q, N, bs, sn, sub, ab, col, dd, k0, k1, k2, k3,
    k5, fm, hC⟩ := T.cls
  obtain ⟨t1, ho⟩ := exo_at I.hok e
  rcases s with ⟨hp, g, d, t, os⟩
  refine PySem.W.set_plain I.kIn
    (ox := { cls := .ref C, dict := none,
             data := .fields #[.ref t1, .none, .none, .none, .bool false,
               .none] })
    (od := none) ⟨ho, rfl, rfl, trivial⟩ T.sa ?_
  refine fam_store (cd := ⟨nm, bs, .ref C :: bm, N, q, true, sn, sub, ab, col,
    false⟩) fm I.kIn ho ?_ rfl rfl hno ?_
  · unfold PySem.W.clsIn
    rw [hC] <;> rfl
  intro h' tk' dx stay above dne hx hn
  have nH : H dx = none := I.hok.fresh above
  have old : ∀ {b : Addr} {o : Obj}, hp.get? b = some o → b ≠ dx :=
    fun {b o} z => Nat.ne_of_lt (Nat.lt_of_lt_of_le (Heap.lt_size z) above)
  have notA : ∀ {b : Addr}, H b = none → b ≠ a := fun {b} n z => by
    rw [z, e] at n
    cases n
  have U : Un X.fs [] H (upd (upd H dx (exd dx [(f, y)])) a
      (exo a C (some dx))) hp h' :=
    { keep := fun b o z n _ _ => stay b o (notA n) z
      slot := fun b o z n _ _ => ⟨o.slots, stay b o (notA n) z⟩
      free := fun b o z n _ => by
        rw [upd_ne (notA n), upd_ne (old z)]
        exact n
      there := fun b o z _ => by
        by_cases hb : b = a
        · rw [hb]
          exact ⟨_, hx⟩
        · exact ⟨o, stay b o hb z⟩
      tups := fun b xs z => by
        rw [upd_ne (at_ne e z exo_tup), upd_ne (ne_of_none z nH)]
        exact z
      frzs := fun b o v z => by
        rw [upd_ne (at_ne e z exo_frz), upd_ne (ne_of_none z nH)]
        exact z
      tbls := fun b ps z => by
        refine ⟨#[], ?_⟩
        rw [upd_ne (at_ne e z exo_tbl), upd_ne (ne_of_none z nH), z]
        simp }
  refine h dx _ nH dne (I.un (t' := tk') U fun b o z => ?_)
  by_cases hb : b = a
  · subst hb
    rw [upd_same] at z
    cases z
    exact exo_ok hx
  rw [upd_ne hb] at z
  by_cases hd : b = dx
  · subst hd
    rw [upd_same] at z
    cases z
    exact exd_ok hn (relO_put (fs := []) ry fun _ => True.intro)
  rw [upd_ne hd] at z
  refine (I.hok b o z).stay (fun c v hc y => stay c v ?_ y) (fun c hc => ?_)
    (fun c xs hc => ?_)
  · rcases hc with hc | hc
    · rw [hc]
      exact hb
    · exact at_ne e hc exo_own
  · rw [upd_ne (at_ne e hc exo_own), upd_ne (ne_of_none hc nH)]
    exact hc
  · rw [upd_ne (at_ne e hc exo_tup), upd_ne (ne_of_none hc nH)]
    exact hc
/-- self.f = e, the only field -/
def tOstF (K : PySem.W.Frag) (f : Str) (to te : TE) : TS := fun D σ H =>
  te σ H fun y H1 => to σ H1 fun x H2 => ∃ a C : Addr, x = .ref a ∧
    OexF K C ∧ PySem.W.findIn K (.ref C) f = some none ∧
    H2 a = some (exo a C none) ∧ ∀ dx, H2 dx = none → dx ≠ a →
      D.nx σ (upd (upd H2 dx (exd dx [(f, y)])) a (exo a C (some dx)))
theorem ps_ostF {o e : Expr} {to te : TE} {f : Str} {p' pos : Pos}
    (ho : PE X o to) (he : PE X e te)
    (hs : swapsWith e (some (.Attribute o f p')) pos.line X.env =
      pure false := by rfl) :
    PS X (.Assign [.Attribute o f p'] e pos) (tOstF X.K f to te) := by
  constructor
  intro pins s σ H D I h
  refine plainObj_wpAny_Assign_Attribute (thn (he.run pins s σ H _ I h) ?_) hs
  rintro v s1 ⟨y, H1, I1, r1, q1⟩
  refine thn (ho.run pins s1 σ H1 _ I1 q1) ?_
  rintro u s2 ⟨x, H2, I2, r2, a, C, rfl, T, hno, ea, q⟩
  cases (show u = Value.ref a from r2)
  exact ostF T I2 ea hno r1 fun dx s' n ne J => ⟨σ, _, J, q dx n ne⟩
/-- such a class, in one word -/
structure XClF (K : PySem.W.Frag) (C : Addr) : Prop where
  ox : OexF K C
  xf : XfC K C
  ha : PySem.W.findIn K (.ref C) "__class__" =
    some (some (.builtin "object.__class__"))
  hn : PySem.W.specialIn K (.builtin "object.__class__") "__get__" =
    some (some (.builtin "getset_descriptor.__get__"))
  ht : PySem.W.takesIn K (.builtin "object.__class__") = some true
  hm : PySem.W.mroIn K C (.type "object") = some true
structure XMkF (P : Program) (w : World) (K : PySem.W.Frag)
    (mg : Str → Option Value) (base : Heap) (C : Addr) (k : Nat) (x : Str)
    (ps : List Str) (sp : Sp) : Prop where
  mgC : mg x = some (.ref C)
  cl : XClF K C
  ex : ∃ f fd, FnOk P w K mg base CX0 k f fd ps sp ∧
    PySem.W.findIn K (.ref C) "__init__" = some (some (.ref f)) ∧
    PySem.W.typeIn K (.ref f) = some (.type "function") ∧ Binds K fd ps []
variable {k : Nat} {ps : List Str} {sp : Sp} {x : Str} {C : Addr}
  {p pos pos2 : Pos} {e : Expr} {es : List Expr} {ta : TA}
theorem pmkF (M : XMkF X.prog X.w X.K X.mg X.base C k x ps sp)
    (room : Room (k + 1) X.A) (ha : PA X (e :: es) ta)
    (hg : Gl X x := by rfl)
    (h1 : (x == ("__debug__" : Str)) = false := by decide)
    (h2 : starEach (e :: es) X.env =
      (false, eval e X.env) :: starEach es X.env := by rfl)
    (h3 : (backTo pos (starEach es X.env)).any (·.1) = false := by rfl) :
    L2.PMk X (.Call (.Name x p) (e :: es) [] pos) (tMkO C sp [] ta) := by
  obtain ⟨f, fd, fn, at_, ty, bd⟩ := M.ex
  have ox := M.cl.ox
  obtain ⟨B, nw, ini, bm, _, _, _, _, _, _, _, _, _, _, _, _, _, _, fm,
    known⟩ := ox.cls
  intro pins s σ H Q I h
  refine wpAny_Call_Name_kw (ld_glob I hg M.mgC ?_ h1)
  refine PySem.W.callWith_K (h₀ := X.base) I.ok.mod.kin ox.kC
    (thn (ha.run pos pins s σ H _ I h) ?_) h2 h3
  rintro us ⟨hp, g, dr, tk, os⟩ ⟨vs, H1, I1, r1, few, q1⟩
  refine ⟨I1.kIn, ?_⟩
  show wpAny _ _ (call (.ref C) us) _ _ _
  have above : hp.objs.size ≤ hp.objs.size + 1 := Nat.le_succ _
  have todo := q1 (hp.objs.size + 1) (I1.hok.fresh above)
  rw [List.append_nil] at todo
  have grown : ∀ b o, hp.get? b = some o →
      ((hp.push (PySem.W.kdv_tup us)).push
        (PySem.HandSPX.excO C hp.objs.size)).get? b = some o :=
    fun b o z => Heap.get?_push_of_some _ (Heap.get?_push_of_some _ z)
  have new : ((hp.push (PySem.W.kdv_tup us)).push
      (PySem.HandSPX.excO C hp.objs.size)).get? (hp.objs.size + 1) =
      some (PySem.HandSPX.excO C hp.objs.size) := by heap_get
  have I2 := I1.laid (t' := tk) (o := exo (hp.objs.size + 1) C none) grown above
    (exo_ok new)
  have rr : Vals (V.ref (hp.objs.size + 1) :: vs)
      (Value.ref (hp.objs.size + 1) :: us) := .cons rfl r1
  have many : (Value.ref (hp.objs.size + 1) :: us).length = ps.length :=
    rr.length.symm.trans (fn.len _ _ _ _ todo)
  have args := bd _ (Value.ref (hp.objs.size + 1) :: us) I2.kIn (by
    rw [List.append_nil]; exact many)
  rw [List.append_nil] at args
  have short : us.length ≤ sizeLine := by
    have := Paired.length r1
    rw [sizeLine_eq]
    omega
  have ran := fn.run _ X.stack _ _ ⟨Value.ref (hp.objs.size + 1) :: us, []⟩
    (Value.ref (hp.objs.size + 1) :: us) _ _ (fun _ _ _ => False)
    (room.make C us []) (I2.env0.make C us []) args rr todo
  refine wpAny_call (PySem.HandSPX.call_own fm.base (fun _ => rfl)
    (I1.kIn _ _ known) (PySem.W.looks_findIn I1.kIn at_)
    (fun self => PySem.W.bind_fn I1.kIn self ty) short
    (codeAny_mono ran ?_))
  rintro r ⟨h2', g2, d2, t2, os2⟩ out
  match r, out with
  | .error er, out => exact False.elim out
  | .ok .next, out => exact False.elim out
  | .ok .brk, out => exact False.elim out
  | .ok .cont, out => exact False.elim out
  | .ok (.ret u), out =>
    obtain ⟨v, H2, eo, bare, un, hok, rv, ev, d, fs, ea, ed, nd, q2⟩ := out
    subst ev
    exact ⟨rv, mk_end (raises_own ox.exC ox.tyC) I1 above grown un hok eo bare
      ea ed nd q2⟩
/-- raise C(e1) -/
theorem ps_raise1F {f1 : Str} {W : WX}
    (M : XMkF X.prog X.w X.K X.mg X.base C k x ps (spX1 C f1))
    (room : Room (k + 1) X.A) (hc : X.calm = true) (tk : Takes X W)
    (ha : PA X (e :: es) ta) (hg : Gl X x := by rfl)
    (h1 : (x == ("__debug__" : Str)) = false := by decide)
    (h2 : starEach (e :: es) X.env =
      (false, eval e X.env) :: starEach es X.env := by rfl)
    (h3 : (backTo pos (starEach es X.env)).any (·.1) = false := by rfl) :
    PS X (.Raise (some (.Call (.Name x p) (e :: es) [] pos)) none pos2)
      (tRaise1 C f1 W ta) := by
  refine ps_imp (ps_raise hc tk (pmkF M room (pa_mid ha) hg h1 h2 h3)) ?_
  intro D σ H h
  refine ⟨_, h, ?_⟩
  rintro vs H1 ⟨v1, rfl, q⟩
  refine ⟨by simp, fun a na => ⟨a, v1, rfl, upd_same, fun d nd ne => ?_⟩⟩
  have nd1 : H1 d = none := by rw [upd_ne ne] at nd; exact nd
  refine ⟨rfl, d, [(f1, v1)], upd_same, ?_, nd1, ?_⟩
  · rw [upd_ne ne, upd_same]
  · obtain ⟨e1, e2⟩ := made_same (C := C) (fs := [(f1, v1)]) na nd1
      (H2 := upd (upd (upd H1 a (exo a C none)) d (exd d [(f1, v1)])) a
        (exo a C (some d))) fun b o z => by
        rw [upd_ne (ne_of_none z na), upd_ne (ne_of_none z nd1),
          upd_ne (ne_of_none z na)]
        exact z
    exact q d _ nd1 e1 e2
/-! isinstance of such an error, in the suite that holds it -/
def rIsF (K : PySem.W.Frag) (a : Addr) (cls : Value) (d : Option Addr) :
    List V → Hp → VK → Prop := fun xs H Q =>
  ∃ (C dd : Addr) (fs : List (Str × V)) (c : V) (cv : Value) (b : Bool),
    XClF K C ∧ cls = .ref C ∧ d = some dd ∧ H dd = some (.xd fs) ∧
    xs = [.ref a, c] ∧ ClsV c cv ∧
    PySem.W.kitOne K (.ref C) cv = some b ∧ Q (.bl b) H
theorem call_isF {a : Addr} {cls : Value} {d : Option Addr} {oe : Obj}
    {pn : List (Addr × Obj)} (hz : Zc cls d oe)
    (hf : ∃ vs, oe.data = .fields vs) :
    CallR (X.suite a ((a, oe) :: pn)) (.builtin "isinstance")
      (rIsF X.K a cls d) := by
  intro pins s σ H xs us Q I r h
  obtain ⟨C, dd, fs, c, cv, b, T, rfl, rfl, hd, rfl, k, e, q⟩ := h
  obtain ⟨u1, u2, rfl, r1, r2⟩ := vals2 r
  cases r1
  cases k.eq r2
  obtain ⟨od, J⟩ := suite_inst I hz hf hd
  obtain ⟨cd, hc, _⟩ := PySem.W.any_some T.xf.hdC
  exact PySem.W.kia_one (PySem.W.kitx_exc (by rw [hc]; rfl) T.xf.ga T.xf.gg
    T.xf.exC T.ha T.hn T.ht T.hm) I.kIn J e (fun z => nomatch z) fun tk =>
    ⟨.bl b, H, I.kept (t' := tk) fun _ _ z => z, rfl, q⟩
def rIsFT (K : PySem.W.Frag) (a : Addr) (cls : Value) (d : Option Addr) :
    List V → Hp → VK → Prop := fun xs H Q =>
  ∃ (C dd tp : Addr) (fs : List (Str × V)) (cs : List V) (us : List Value)
    (b : Bool), XClF K C ∧ cls = .ref C ∧ d = some dd ∧
    H dd = some (.xd fs) ∧ xs = [.ref a, .ref tp] ∧ H tp = some (.tup cs) ∧
    Paired ClsV cs us ∧ PySem.W.kitAny K (.ref C) us = some b ∧ Q (.bl b) H
theorem call_isFT {a : Addr} {cls : Value} {d : Option Addr} {oe : Obj}
    {pn : List (Addr × Obj)} (hz : Zc cls d oe)
    (hf : ∃ vs, oe.data = .fields vs) :
    CallR (X.suite a ((a, oe) :: pn)) (.builtin "isinstance")
      (rIsFT X.K a cls d) := by
  intro pins s σ H xs us Q I r h
  obtain ⟨C, dd, tp, fs, cs, vs, b, T, rfl, rfl, hd, rfl, ht, pr, e, q⟩ := h
  obtain ⟨u1, u2, rfl, r1, r2⟩ := vals2 r
  cases r1
  cases r2
  obtain ⟨od, J⟩ := suite_inst I hz hf hd
  obtain ⟨cd, hc, _⟩ := PySem.W.any_some T.xf.hdC
  obtain ⟨z, its, rv, ob, ho, hcl, n, hdt⟩ := I.hok tp _ ht
  cases paired_eq pr rv
  obtain ⟨oc, od', da, sl⟩ := ob
  dsimp only at hcl hdt
  subst hcl hdt
  exact PySem.W.kia_tup (PySem.W.kitx_exc (by rw [hc]; rfl) T.xf.ga T.xf.gg
    T.xf.exC T.ha T.hn T.ht T.hm) I.kIn J ho e (fun z => nomatch z) fun tk =>
    ⟨.bl b, H, I.kept (t' := tk) fun _ _ z => z, rfl, q⟩
end
end OM
/-! Errors as values: made, asked for their class, read. -/
namespace OM
open PySem PySem.Spec PyProof.Rows L2
/-- what the written part says of an own class of errors, whatever it derives from -/
structure XVal (K : PySem.W.Frag) (C : Addr) : Prop where
  cls : ∃ (B newId initId : String) (bmB bm : List Value) (nm q : Str) (N : Addr) (bs : List Value) (sn : List Str) (sub : List Value) (ab : Bool)
    (col : Option Bool) (dd : Option Addr) (k0 k1 k2 k3 k5 : Option Value), ExcBaseFacts B newId initId bmB ∧
    (∀ X : String, bm.contains (.type X) = bmB.contains (.type X)) ∧
    K.lookup C = some (excClassObj nm q C N bs bm true sn sub ab col dd k0 k1 k2 k3 k5 newId) ∧
    PySem.W.findIn K (.ref C) "__init__" = PySem.W.findIn K (.ref C) "__init__"
  kC : PySem.W.keepIn K (.ref C) = true
  ei : ExcC K C
theorem XVal.xf {K : PySem.W.Frag} {C : Addr} (x : XVal K C) : XfC K C := ⟨x.ei.hg, x.ei.hk, x.ei.hs, x.ei.hd⟩
theorem XCl.val {K : PySem.W.Frag} {C : Addr} (x : XCl K C) : XVal K C := by
  obtain ⟨nm, q, N, bs, bm, sn, sub, ab, col, dd, k0, k1, k2, k3, k5, known, isVE⟩ := x.ox.cls
  exact ⟨⟨_, _, _, _, _, _, _, _, _, _, _, _, _, _, _, _, _, _, _, PySem.F.excBase_ValueError, fun Y => PySem.HandSPX.refsVE_contains Y bm isVE, known, rfl⟩,
    x.ox.kC, ⟨x.xf.ga, x.xf.gg, x.xf.exC, x.xf.hdC, x.ha, x.hn, x.ht, x.hm⟩⟩
theorem XClF.val {K : PySem.W.Frag} {C : Addr} (x : XClF K C) : XVal K C := by
  obtain ⟨B, nw, ini, bm, nm, q, N, bs, sn, sub, ab, col, dd, k0, k1, k2, k3, k5, fm, known⟩ := x.ox.cls
  exact ⟨⟨_, _, _, _, _, _, _, _, _, _, _, _, _, _, _, _, _, _, _, fm.base, fun _ => rfl, known, rfl⟩,
    x.ox.kC, ⟨x.xf.ga, x.xf.gg, x.xf.exC, x.xf.hdC, x.ha, x.hn, x.ht, x.hm⟩⟩
/-- an error that lies in the heap, with the attributes that it was given -/
def ExAt (H : Hp) (a C : Addr) (fs : List (Str × V)) : Prop := ∃ d, H a = some (exo a C (some d)) ∧ H d = some (exd d fs)
theorem ExAt.same {H H' : Hp} {a C : Addr} {fs : List (Str × V)} (x : ExAt H a C fs) (s : Same H H') : ExAt H' a C fs := by
  obtain ⟨d, h1, h2⟩ := x
  exact ⟨d, s _ _ h1, s _ _ h2⟩
/-- a class whose errors are made by its own __init__ -/
structure XMkV (P : Program) (w : World) (K : PySem.W.Frag)
    (mg : Str → Option Value) (base : Heap) (C : Addr) (k : Nat) (x : Str)
    (ps : List Str) (sp : Sp) : Prop where
  mgC : mg x = some (.ref C)
  cl : XVal K C
  ex : ∃ f fd, FnOk P w K mg base CX0 k f fd ps sp ∧
    PySem.W.findIn K (.ref C) "__init__" = some (some (.ref f)) ∧
    PySem.W.typeIn K (.ref f) = some (.type "function") ∧ Binds K fd ps []
theorem XMk.val {P : Program} {w : World} {K : PySem.W.Frag} {mg : Str → Option Value} {base : Heap} {C : Addr} {k : Nat} {x : Str} {ps : List Str} {sp : Sp}
    (M : XMk P w K mg base C k x ps sp) : XMkV P w K mg base C k x ps sp := ⟨M.mgC, M.cl.val, M.ex⟩
theorem XMkF.val {P : Program} {w : World} {K : PySem.W.Frag} {mg : Str → Option Value} {base : Heap} {C : Addr} {k : Nat} {x : Str} {ps : List Str} {sp : Sp}
    (M : XMkF P w K mg base C k x ps sp) : XMkV P w K mg base C k x ps sp := ⟨M.mgC, M.cl.val, M.ex⟩
def tMkV (C : Addr) (sp : Sp) (ta : TA) : TE := fun σ H Q => ta σ H fun vs H1 => vs.length ≤ 1000 ∧
  ∀ a, H1 a = none → sp (.ref a :: vs) (upd H1 a (exo a C none)) (fun v H2 => v = .non ∧ Q (.ref a) H2) fun _ _ _ => False
section
variable {X : Cx} {k : Nat} {ps : List Str} {sp : Sp} {x : Str} {C : Addr}
  {p pos : Pos} {e : Expr} {es : List Expr} {ta : TA}
/-- C(e, ..) as a value -/
theorem pe_mkV (M : XMkV X.prog X.w X.K X.mg X.base C k x ps sp)
    (room : Room (k + 1) X.A) (ha : PA X (e :: es) ta)
    (hg : Gl X x := by rfl)
    (h1 : (x == ("__debug__" : Str)) = false := by decide)
    (h2 : starEach (e :: es) X.env =
      (false, eval e X.env) :: starEach es X.env := by rfl)
    (h3 : (backTo pos (starEach es X.env)).any (·.1) = false := by rfl) :
    PE X (.Call (.Name x p) (e :: es) [] pos) (tMkV C sp ta) := by
  obtain ⟨f, fd, fn, at_, ty, bd⟩ := M.ex
  obtain ⟨B, nw, ini, bmB, bm, _, _, _, _, _, _, _, _, _, _, _, _, _, _, fb, ft, known, _⟩ := M.cl.cls
  refine ⟨fun pins s σ H Q I h => ?_⟩
  refine wpAny_Call_Name_kw (ld_glob I hg M.mgC ?_ h1)
  refine PySem.W.callWith_K (h₀ := X.base) I.ok.mod.kin M.cl.kC
    (thn (ha.run pos pins s σ H _ I h) ?_) h2 h3
  rintro us ⟨hp, g, dr, tk, os⟩ ⟨vs, H1, I1, r1, few, q1⟩
  refine ⟨I1.kIn, ?_⟩
  show wpAny _ _ (call (.ref C) us) _ _ _
  have fresh : H1 (hp.objs.size + 1) = none := I1.hok.fresh (Nat.le_succ _)
  have todo := q1 (hp.objs.size + 1) fresh
  have kept : ∀ b o, hp.get? b = some o →
      ((hp.push (PySem.W.kdv_tup us)).push
        (PySem.HandSPX.excO C hp.objs.size)).get? b = some o :=
    fun b o z => Heap.get?_push_of_some _ (Heap.get?_push_of_some _ z)
  have there : ((hp.push (PySem.W.kdv_tup us)).push
      (PySem.HandSPX.excO C hp.objs.size)).get? (hp.objs.size + 1) =
      some (PySem.HandSPX.excO C hp.objs.size) := by heap_get
  have I2 := I1.laid (t' := tk) (o := exo (hp.objs.size + 1) C none) kept (Nat.le_succ _)
    (exo_ok there)
  have rr : Vals (V.ref (hp.objs.size + 1) :: vs)
      (Value.ref (hp.objs.size + 1) :: us) := .cons rfl r1
  have args := bd _ (Value.ref (hp.objs.size + 1) :: us) I2.kIn (by
    rw [List.append_nil]; exact rr.length.symm.trans (fn.len _ _ _ _ todo))
  rw [List.append_nil] at args
  have short : us.length ≤ sizeLine := by
    have := Paired.length r1
    rw [sizeLine_eq]
    omega
  have ran := fn.run _ X.stack _ _ ⟨Value.ref (hp.objs.size + 1) :: us, []⟩
    (Value.ref (hp.objs.size + 1) :: us) _ _ (fun _ _ _ => False)
    (room.make C us []) (I2.env0.make C us []) args rr todo
  refine wpAny_call (PySem.HandSPX.call_own fb ft
    (I1.kIn _ _ known) (PySem.W.looks_findIn I1.kIn at_)
    (fun self => PySem.W.bind_fn I1.kIn self ty) short
    (codeAny_mono ran ?_))
  intro r s2 out
  match r, out with
  | .error er, out => exact False.elim out
  | .ok .next, out => exact False.elim out
  | .ok .brk, out => exact False.elim out
  | .ok .cont, out => exact False.elim out
  | .ok (.ret u), out =>
    obtain ⟨v, H2, J, rv, ev, q2⟩ := I2.after out
    subst ev
    exact ⟨rv, .ref (hp.objs.size + 1), H2, J, rfl, q2⟩
theorem pe_imp {X : Cx} {e : Expr} {t t' : TE} (h : PE X e t) (i : ∀ σ H Q, t' σ H Q → t σ H Q) : PE X e t' :=
  ⟨fun pins s σ H Q I w => h.run pins s σ H Q I (i σ H Q w)⟩
def tErr1 (C : Addr) (f1 : Str) (ta : TA) : TE := fun σ H Q => ta σ H fun vs H1 => ∃ v1, vs = [v1] ∧
  ∀ a H2, H1 a = none → Same H1 H2 → ExAt H2 a C [(f1, v1)] → Q (.ref a) H2
theorem made_ex1 {C a d : Addr} {f1 : Str} {v1 : V} {H1 : Hp} (na : H1 a = none) (nd : upd H1 a (exo a C none) d = none) (ne : d ≠ a) :
    Same H1 (upd (upd (upd H1 a (exo a C none)) d (exd d [(f1, v1)])) a (exo a C (some d))) ∧
    ExAt (upd (upd (upd H1 a (exo a C none)) d (exd d [(f1, v1)])) a (exo a C (some d))) a C [(f1, v1)] := by
  refine ⟨fun b o z => ?_, d, upd_same, by rw [upd_ne ne, upd_same]⟩
  have nb := ne_of_none z na
  have n2 : b ≠ d := fun y => by
    rw [y] at z
    rw [upd_ne ne] at nd
    rw [nd] at z
    cases z
  rw [upd_ne nb, upd_ne n2, upd_ne nb]
  exact z
/-- C(e) as a value, C an error of one attribute -/
theorem pe_err1 {f1 : Str} (M : XMkV X.prog X.w X.K X.mg X.base C k x ps (spX1 C f1))
    (room : Room (k + 1) X.A) (ha : PA X (e :: es) ta)
    (hg : Gl X x := by rfl)
    (h1 : (x == ("__debug__" : Str)) = false := by decide)
    (h2 : starEach (e :: es) X.env =
      (false, eval e X.env) :: starEach es X.env := by rfl)
    (h3 : (backTo pos (starEach es X.env)).any (·.1) = false := by rfl) :
    PE X (.Call (.Name x p) (e :: es) [] pos) (tErr1 C f1 ta) :=
  pe_imp (pe_mkV M room (pa_mid ha) hg h1 h2 h3) fun σ H Q h => ⟨_, h, fun vs H1 ⟨v1, ev, q⟩ => by
    subst ev
    refine ⟨by simp, fun a na => ⟨a, v1, rfl, upd_same, fun d nd ne => ⟨rfl, ?_⟩⟩⟩
    obtain ⟨z1, z2⟩ := made_ex1 (v1 := v1) (f1 := f1) na nd ne
    exact q a _ na z1 z2⟩
def tErr2 (C : Addr) (f1 f2 : Str) (ta : TA) : TE := fun σ H Q => ta σ H fun vs H1 => ∃ v1 v2, vs = [v1, v2] ∧
  ∀ a H2, H1 a = none → Same H1 H2 → ExAt H2 a C [(f2, v2), (f1, v1)] → Q (.ref a) H2
theorem pe_err2 {f1 f2 : Str} (M : XMkV X.prog X.w X.K X.mg X.base C k x ps (spX2 C f1 f2))
    (room : Room (k + 1) X.A) (ha : PA X (e :: es) ta)
    (hg : Gl X x := by rfl)
    (h1 : (x == ("__debug__" : Str)) = false := by decide)
    (h2 : starEach (e :: es) X.env =
      (false, eval e X.env) :: starEach es X.env := by rfl)
    (h3 : (backTo pos (starEach es X.env)).any (·.1) = false := by rfl) :
    PE X (.Call (.Name x p) (e :: es) [] pos) (tErr2 C f1 f2 ta) :=
  pe_imp (pe_mkV M room (pa_mid ha) hg h1 h2 h3) fun σ H Q h => ⟨_, h, fun vs H1 ⟨v1, v2, ev, q⟩ => by
    subst ev
    refine ⟨by simp, fun a na => ⟨a, v1, v2, rfl, upd_same, fun d nd ne => ⟨rfl, ?_⟩⟩⟩
    obtain ⟨z1, _⟩ := made_ex1 (v1 := v1) (f1 := f1) na nd ne
    refine q a _ na (fun b o z => ?_) ⟨d, by rw [upd_ne ne.symm, upd_same], upd_same⟩
    have n2 : b ≠ d := fun y => by
      rw [y] at z
      rw [upd_ne ne] at nd
      rw [nd] at z
      cases z
    rw [upd_ne n2]
    exact z1 b o z⟩
/-- n of an error that lies in the heap -/
def tXat (K : PySem.W.Frag) (n : Str) (te : TE) : TE := fun σ H Q => te σ H fun x H1 => ∃ (a C : Addr) (fs : List (Str × V)) (v : V),
  x = .ref a ∧ ExAt H1 a C fs ∧ XfC K C ∧ PySem.W.findIn K (.ref C) n = some none ∧ fs.lookup n = some v ∧ Q v H1
theorem ex_inst {pins : List (Addr × Obj)} {σ : L2.St} {H : Hp} {s : Shared} {a C : Addr} {fs : List (Str × V)} (I : Inv X pins σ H s) (h : ExAt H a C fs) :
    ∃ (oe od : Obj) (mA : Str → Option Value), PySem.W.InstAt s.heap a oe C (some od) ∧ (∀ n, PySem.W.lookIn n od = some (mA n)) ∧ ∀ n, RelO (fs.lookup n) (mA n) := by
  obtain ⟨d, h1, h2⟩ := h
  obtain ⟨t1, ha⟩ := exo_at I.hok h1
  obtain ⟨mA, hns, hr⟩ := exd_at I.hok h2
  obtain ⟨od, ho, hl⟩ := lookIn_ns hns
  exact ⟨_, od, mA, ⟨ha, rfl, rfl, ho⟩, hl, hr⟩
theorem pe_xat {n : Str} {o : Expr} {te : TE} (he : PE X o te) (hb : attributeBase o n X.env (eval o X.env) = eval o X.env := by rfl) :
    PE X (.Attribute o n pos) (tXat X.K n te) := by
  refine ⟨fun pins s σ H Q I h => ?_⟩
  refine attr_of hb (thn (he.run pins s σ H _ I h) fun u s1 hh => ?_)
  obtain ⟨_, H1, I1, rx, a, C, fs, v, rfl, xa, T, hno, l, q⟩ := hh
  obtain rfl : u = Value.ref a := rx
  obtain ⟨oe, od, mA, J, hl, hr⟩ := ex_inst I1 xa
  obtain ⟨y, hy, ry⟩ := RelO.some_of (v := v) (o := mA n) (by rw [← l]; exact hr n)
  refine HandSPX.exc_get I1.kIn J T.ga T.gg T.exC (PySem.W.findObj_own T.hdC hno rfl ?_) (handed_of ry) ⟨v, H1, I1.tok _, ry, q⟩
  rw [hl n, hy]
/-- isinstance(e, c), e an error that lies in the heap: one that has attributes, or none -/
def rIsV (K : PySem.W.Frag) : List V → Hp → VK → Prop := fun xs H Q =>
  ∃ (a C : Addr) (c : V) (cv : Value) (b : Bool), XVal K C ∧ ((∃ fs, ExAt H a C fs) ∨ H a = some (exo a C none)) ∧ xs = [.ref a, c] ∧ ClsV c cv ∧
    PySem.W.kitOne K (.ref C) cv = some b ∧ Q (.bl b) H
theorem call_isV : CallR X (.builtin "isinstance") (rIsV X.K) := by
  intro pins s σ H xs us Q I r h
  obtain ⟨a, C, c, cv, b, T, xa, rfl, k, e, q⟩ := h
  obtain ⟨u1, u2, rfl, r1, r2⟩ := vals2 r
  cases r1
  cases k.eq r2
  rcases xa with ⟨fs, xa⟩ | xa
  · obtain ⟨oe, od, mA, J, _⟩ := ex_inst I xa
    obtain ⟨cd, hc, _⟩ := PySem.W.any_some T.xf.hdC
    exact PySem.W.kia_one (PySem.W.kitx_exc (by rw [hc]; rfl) T.xf.ga T.xf.gg
      T.xf.exC T.ei.ha T.ei.hn T.ei.ht T.ei.hm) I.kIn J e (fun z => nomatch z) fun tk =>
      ⟨.bl b, H, I.kept (t' := tk) fun _ _ z => z, rfl, q⟩
  · obtain ⟨t1, ha⟩ := exo_at I.hok xa
    have J : PySem.W.InstAt s.heap a _ C none := ⟨ha, rfl, rfl, trivial⟩
    exact PySem.W.kia_one (PySem.W.handS_kitx_exc T.ei.hg T.ei.hk T.ei.hs T.ei.hd T.ei.ha T.ei.hn T.ei.ht T.ei.hm) I.kIn J e
      (fun z => nomatch z) fun tk => ⟨.bl b, H, I.kept (t' := tk) fun _ _ z => z, rfl, q⟩
/-! ### an error without own __init__, made with a text -/
structure XTx (K : PySem.W.Frag) (mg : Str → Option Value) (C : Addr) (x : Str) : Prop where
  mgC : mg x = some (.ref C)
  cls : ∃ (B newId initId : String) (bmB bm : List Value) (nm q : Str) (N : Addr) (bs : List Value) (sn : List Str) (sub : List Value) (ab : Bool)
    (col : Option Bool) (dd : Option Addr) (k0 k1 k2 k3 k5 : Option Value), ExcBaseFacts B newId initId bmB ∧
    (∀ X : String, bm.contains (.type X) = bmB.contains (.type X)) ∧
    K.lookup C = some (excClassObj nm q C N bs bm true sn sub ab col dd k0 k1 k2 k3 k5 newId) ∧
    PySem.W.findIn K (.ref C) "__init__" = some (some (.builtin initId))
  cl : XVal K C
theorem pe_mkT {m : Str} {j : Nat} {p2 : Pos} (M : XTx X.K X.mg C x) (hg : Gl X x := by rfl) (hdb : (x == ("__debug__" : Str)) = false := by decide) :
    PE X (.Call (.Name x p) [.Constant (.str m) j p2] [] pos) (fun _ H Q => ∀ a, H a = none → Q (.ref a) (upd H a (exo a C none))) := by
  obtain ⟨B, nw, ini, bmB, bm, nm, q, N, bs, sn, sub, ab, col, dd, k0, k1, k2, k3, k5, fb, ft, known, at_⟩ := M.cls
  refine ⟨fun pins s σ H Q I h => ?_⟩
  refine wpAny_Call_Name_kw (ld_glob I hg M.mgC ?_ hdb)
  have text : PA X [.Constant (.str m) j p2] (tCons (tC (.str m)) tNil) := pa_cons pe_str pa_nil
  refine PySem.W.callWith_K (h₀ := X.base) I.ok.mod.kin M.cl.kC
    (thn (text.run pos pins s σ H (fun vs H1 => vs = [V.str m] ∧ H = H1) I ⟨rfl, rfl⟩) fun us s1 hh => ?_)
  obtain ⟨vs, _, I1, r1, rfl, rfl⟩ := hh
  refine ⟨I1.kIn, ?_⟩
  cases r1 with
  | cons ru rn =>
    cases rn
    obtain ⟨hp, g, d, t, os⟩ := s1
    refine PySem.W.call_B fb ft (I1.kIn _ _ known)
      (PySem.W.looks_findIn I1.kIn at_) (by show 1 ≤ sizeLine; rw [sizeLine_eq]; omega) fun h' kept e there => ?_
    have n : H (hp.objs.size + 1) = none := I1.hok.fresh (Nat.le_succ _)
    exact ⟨.ref (hp.objs.size + 1), _, I1.laid (o := exo (hp.objs.size + 1) C none) kept (Nat.le_succ _) (exo_ok e), rfl, h _ n⟩
end
end OM
/-! An own error made by keywords alone, as a value. -/
namespace OM
open PySem PySem.Spec PyProof.Rows L2
section
variable {M : Model} {A : Around} {E : Value → Shared → Prop} {h : Heap} {g : Array GenState} {d : Drawn} {t : Nat} {os : OsState}
  {nm q : Str} {C N : Addr} {bs bm bmB : List Value} {hd : Bool} {sn : List Str} {sub : List Value} {ab : Bool} {col : Option Bool} {dd : Option Addr}
  {k0 k1 k2 k3 k5 : Option Value} {B newId initId : String} {kw : List (Str × Value)}
/-- __new__ takes any keywords -/
theorem kw_check (F : ExcBaseFacts B newId initId bmB) (hT : ∀ X : String, bm.contains (.type X) = bmB.contains (.type X)) {Q : Unit → Shared → Prop}
    (hC : h.get? C = some (excClassObj nm q C N bs bm hd sn sub ab col dd k0 k1 k2 k3 k5 newId)) (hq : Q () ⟨h, g, d, t, os⟩) :
    wpAny M A (checkBuiltinCall newId ⟨[.ref C], kw⟩) Q E ⟨h, g, d, t, os⟩ := by
  have below : (Value.ref C :: bm).contains (.type B) = true := by rw [List.contains_cons, hT, F.hasB, Bool.or_true]
  have nost := F.noStar
  unfold checkBuiltinCall
  simp only [F.newKind, F.newSplit, F.newRow]
  repeat (first
    | refine wpAny_loadPart_at hC ?_
    | (refine wpAny_isSubtype_exc hC ?_; rw [below])
    | refine wpAny_staticBase_exc hC ?_
    | refine wpAny_madeBy_exc hC ?_
    | simp only [bne_self_eq_false, Bool.false_eq_true, if_false]
    | wp_step)
  exact hq
/-- type's own __call__ takes any keywords -/
theorem kw_checkT {Q : Unit → Shared → Prop}
    (hC : h.get? C = some (excClassObj nm q C N bs bm hd sn sub ab col dd k0 k1 k2 k3 k5 newId)) (hq : Q () ⟨h, g, d, t, os⟩) :
    wpAny M A (checkBuiltinCall "type.__call__" ⟨[.ref C], kw⟩) Q E ⟨h, g, d, t, os⟩ := by
  have sub_ := tc_sub
  have ty : (⟨h, g, d, t, os⟩ : Shared).TypeIs (.ref C) "type" := ⟨_, hC, rfl⟩
  unfold checkBuiltinCall
  simp only [tc_kind, tc_split]
  repeat (any_goals (first
    | assumption
    | with_reducible refine wpAny_onRaise ?_
    | with_reducible refine wpAny_map ?_
    | with_reducible refine wpAny_loadPart_at hC ?_
    | wp_step))
end
section
variable {prog : Program} {w : World} {A : Around} {E : Value → Shared → Prop} {R : Result → Shared → Prop} {h : Heap} {g : Array GenState} {d : Drawn} {t : Nat} {os : OsState}
  {nm q : Str} {C N : Addr} {bs bm bmB : List Value} {hd : Bool} {sn : List Str} {sub : List Value} {ab : Bool} {col : Option Bool} {dd : Option Addr}
  {k0 k1 k2 k3 k5 : Option Value} {B newId initId : String} {kw : List (Str × Value)}
/-- the new error: its args are empty, for there were keywords alone -/
theorem kw_new (F : ExcBaseFacts B newId initId bmB) (hT : ∀ X : String, bm.contains (.type X) = bmB.contains (.type X))
    (hC : h.get? C = some (excClassObj nm q C N bs bm hd sn sub ab col dd k0 k1 k2 k3 k5 newId))
    (hq : R (.ok (.ret (.ref (h.objs.size + 1)))) ⟨(h.push (PySem.W.kdv_tup [])).push (PySem.HandSPX.excO C h.objs.size), g, d, t, os⟩) :
    codeAny (model prog w) A (.builtin newId ⟨[.ref C], kw⟩) R ⟨h, g, d, t, os⟩ := by
  have is_ : ∀ Y : String, (Value.ref C :: bm).contains (.type Y) = bmB.contains (.type Y) := fun Y => by
    rw [List.contains_cons, hT]
    rfl
  have ends := F.ends
  have yes : (Value.ref C :: bm).contains (.type B) = true := (is_ B).trans F.hasB
  have noA : (Value.ref C :: bm).contains (.type "AttributeError") = false := (is_ _).trans F.noAttr
  have noN : (Value.ref C :: bm).contains (.type "NameError") = false := (is_ _).trans F.noName
  refine codeAny_builtinAt F.entry ?_
  unfold Builtin.«BaseException.__new__»
  refine PySem.wpAt_bind ?_
  show PySem.wpAt _ _ _ (stack >>= _) _ _ _
  refine PySem.wpAt_bind (PySem.wpAt_stack fun _ _ => PySem.wpAt_of_wpAny ?_)
  wp_walk
  refine PySem.wpAt_of_wpAny ?_
  rw [F.owner]
  repeat (first
    | with_reducible refine wpAny_loadPart_at hC ?_
    | with_reducible refine wpAny_madeHere_exc F.canon hC ?_
    | (with_reducible refine wpAny_isSubtype_exc hC ?_; first | rw [yes] | rw [noA] | rw [noN])
    | wp_step)
  show R _ _
  rw [Heap.size_push]
  exact hq
theorem kw_type (F : ExcBaseFacts B newId initId bmB) (hT : ∀ X : String, bm.contains (.type X) = bmB.contains (.type X)) {f : Addr} {Q : Fin → Shared → Prop}
    (hC : h.get? C = some (excClassObj nm q C N bs bm hd sn sub ab col dd k0 k1 k2 k3 k5 newId))
    (at_ : PySem.W.Looks (model prog w) h (typeLookup (.ref C) "__init__") (some (.ref f)))
    (bound : ∀ self, PySem.W.Looks (model prog w) h (bindSpecial (.ref f) self) (.ref f, [self]))
    (ran : codeAny (model prog w) A (.call (.ref f) ⟨[.ref (h.objs.size + 1)], kw⟩)
      (fun r s' => match r with | .ok (.ret v) => v = .none ∧ Q (.done (.ret (.ref (h.objs.size + 1)))) s' | .ok _ => False | .error e => E e s')
      ⟨(h.push (PySem.W.kdv_tup [])).push (PySem.HandSPX.excO C h.objs.size), g, d, t, os⟩) :
    wpAny (model prog w) A (Builtin.«type.__call__» ⟨[.ref C], kw⟩) Q E ⟨h, g, d, t, os⟩ := by
  repeat (first
    | with_reducible refine wpAny_madeBy_exc hC ?_
    | with_reducible refine wpAny_loadPart_at hC ?_
    | wp_step)
  refine codeAny_call_builtin_code (Code.quiet_builtin _ F.quiet) (kw_check F hT hC (kw_new F hT hC ?_))
  show wpAny _ _ _ _ _ _
  have kept : ∀ b o, h.get? b = some o → ((h.push (PySem.W.kdv_tup [])).push (PySem.HandSPX.excO C h.objs.size)).get? b = some o :=
    fun b o e => Heap.get?_push_of_some _ (Heap.get?_push_of_some _ e)
  have hC2 := kept _ _ hC
  have new : ((h.push (PySem.W.kdv_tup [])).push (PySem.HandSPX.excO C h.objs.size)).get? (h.objs.size + 1) = some (PySem.HandSPX.excO C h.objs.size) := by heap_get
  have own : (Value.ref C :: bm).contains (.ref C) = true := by simp
  have a2 := at_.keeps kept
  have b2 := (bound (.ref (h.objs.size + 1))).keeps kept
  unfold isInstance
  repeat (first
    | with_reducible refine wpAny_loadPart_at new ?_
    | (with_reducible refine wpAny_isSubtype_exc hC2 ?_; rw [own])
    | wp_step)
  show wpAny _ _ (typeLookup (.ref C) _) _ _ _
  refine a2.at (wpAny_holding (wpAny_bind (b2.at (wpAny_bind (wpAny_call (codeAny_mono ran fun r s' z => ?_))))))
  match r, z with
  | .error e, z => exact z
  | .ok .next, z => exact z.elim
  | .ok .brk, z => exact z.elim
  | .ok .cont, z => exact z.elim
  | .ok (.ret v), ⟨hv, z⟩ =>
    subst hv
    first
      | exact wpAny_pure (wpAny_pure z)
      | (wp_walk; exact z)
theorem kw_call (F : ExcBaseFacts B newId initId bmB) (hT : ∀ X : String, bm.contains (.type X) = bmB.contains (.type X)) {f : Addr}
    (hC : h.get? C = some (excClassObj nm q C N bs bm hd sn sub ab col dd k0 k1 k2 k3 k5 newId))
    (at_ : PySem.W.Looks (model prog w) h (typeLookup (.ref C) "__init__") (some (.ref f)))
    (bound : ∀ self, PySem.W.Looks (model prog w) h (bindSpecial (.ref f) self) (.ref f, [self]))
    (ran : codeAny (model prog w) (A.under (.builtin "type.__call__" ⟨[.ref C], kw⟩)) (.call (.ref f) ⟨[.ref (h.objs.size + 1)], kw⟩) (PySem.W.InitBack (h.objs.size + 1) R)
      ⟨(h.push (PySem.W.kdv_tup [])).push (PySem.HandSPX.excO C h.objs.size), g, d, t, os⟩) :
    codeAny (model prog w) A (.call (.ref C) ⟨[], kw⟩) R ⟨h, g, d, t, os⟩ := by
  have f1 := tc_lookup
  have f2 := tc_bind (.ref C)
  have ty : (⟨h, g, d, t, os⟩ : Shared).TypeIs (.ref C) "type" := ⟨_, hC, rfl⟩
  refine codeAny_of_tree ?_
  show wpAny _ _ (callAny (.ref C) _) _ _ _
  repeat (any_goals (first
    | assumption
    | with_reducible refine wpAny_loadPart_at hC ?_
    | wp_step))
  refine ⟨rfl, ?_⟩
  refine codeAny_call_builtin_at (Code.quiet_builtin _ (by decide +kernel)) entry_typeCall (kw_checkT hC (kw_type F hT hC at_ bound ?_))
  refine codeAny_mono ran fun r s' z => ?_
  match r, z with
  | .error e, z => exact z
  | .ok .next, z => exact z
  | .ok .brk, z => exact z
  | .ok .cont, z => exact z
  | .ok (.ret v), z => exact z
end
/-- a class whose errors are made by keywords alone -/
structure XMkW (P : Program) (w : World) (K : PySem.W.Frag)
    (mg : Str → Option Value) (base : Heap) (C : Addr) (k : Nat) (x : Str)
    (ps ks : List Str) (gV : List V → List V → List V) (sp : Sp) : Prop where
  mgC : mg x = some (.ref C)
  cl : XVal K C
  ex : ∃ f fd g, FnOk P w K mg base CX0 k f fd ps sp ∧
    PySem.W.findIn K (.ref C) "__init__" = some (some (.ref f)) ∧
    PySem.W.typeIn K (.ref f) = some (.type "function") ∧ KBn K fd ps 1 ks g gV
def tMkW (C : Addr) (m : Nat) (gV : List V → List V → List V) (sp : Sp) (tk : TA) : TE := fun σ H Q => tk σ H fun zs H1 => zs.length = m ∧
  ∀ a, H1 a = none → sp (gV [.ref a] zs) (upd H1 a (exo a C none)) (fun v H2 => v = .non ∧ Q (.ref a) H2) fun _ _ _ => False
section
variable {X : Cx} {k : Nat} {ps ks : List Str} {gV : List V → List V → List V} {sp : Sp} {x : Str} {C : Addr}
  {p pos : Pos} {kws : List Keyword} {tk : TA}
theorem pe_mkW (M : XMkW X.prog X.w X.K X.mg X.base C k x ps ks gV sp)
    (room : Room (k + 1) X.A) (hk : PK X kws tk)
    (hg : Gl X x := by rfl)
    (hall : (backToKw pos (keywordEach kws X.env)).all (·.1.isSome) = true := by rfl)
    (hks : (backToKw pos (keywordEach kws X.env)).filterMap (·.1) = ks := by rfl)
    (hdb : (x == ("__debug__" : Str)) = false := by decide)
    (hpl : ((backTo pos (starEach [] X.env)).any (·.1) || (backToKw pos (keywordEach kws X.env)).any (·.1.isNone)) = false := by rfl) :
    PE X (.Call (.Name x p) [] kws pos) (tMkW C ks.length gV sp tk) := by
  obtain ⟨f, fd, g, fn, at_, ty, kb⟩ := M.ex
  obtain ⟨B, nw, ini, bmB, bm, _, _, _, _, _, _, _, _, _, _, _, _, _, _, fb, ft, known, _⟩ := M.cl.cls
  refine ⟨fun pins s σ H Q I h => ?_⟩
  refine wpAny_Call_Name_kw (ld_glob I hg M.mgC ?_ hdb)
  refine PySem.W.callWith_KW0 (h₀ := X.base) I.ok.mod.kin M.cl.kC hall (thn (hk.run pos pins s σ H _ I h) ?_) hpl
  rintro ws ⟨hp, gn, dr, tok, os⟩ ⟨zs, H1, I1, rz, l2, q1⟩
  refine ⟨I1.kIn, ?_⟩
  rw [hks]
  show wpAny _ _ (call (.ref C) [] (ks.zip ws)) _ _ _
  have fresh : H1 (hp.objs.size + 1) = none := I1.hok.fresh (Nat.le_succ _)
  have todo := q1 (hp.objs.size + 1) fresh
  have kept : ∀ b o, hp.get? b = some o →
      ((hp.push (PySem.W.kdv_tup [])).push
        (PySem.HandSPX.excO C hp.objs.size)).get? b = some o :=
    fun b o z => Heap.get?_push_of_some _ (Heap.get?_push_of_some _ z)
  have there : ((hp.push (PySem.W.kdv_tup [])).push
      (PySem.HandSPX.excO C hp.objs.size)).get? (hp.objs.size + 1) =
      some (PySem.HandSPX.excO C hp.objs.size) := by heap_get
  have I2 := I1.laid (t' := tok) (o := exo (hp.objs.size + 1) C none) kept (Nat.le_succ _)
    (exo_ok there)
  have r1 : Vals [V.ref (hp.objs.size + 1)] [Value.ref (hp.objs.size + 1)] := .cons rfl .nil
  have rr := kb.rel r1 rz
  have args := kb.to _ [Value.ref (hp.objs.size + 1)] ws I2.kIn rfl (rz.length.symm.trans l2)
  have ran := fn.run _ X.stack _ _ ⟨[Value.ref (hp.objs.size + 1)], ks.zip ws⟩
    (g [Value.ref (hp.objs.size + 1)] ws) _ _ (fun _ _ _ => False)
    (room.make C [] (ks.zip ws)) (I2.env0.make C [] (ks.zip ws)) args rr todo
  refine wpAny_call (kw_call fb ft (I1.kIn _ _ known) (PySem.W.looks_findIn I1.kIn at_)
    (fun self => PySem.W.bind_fn I1.kIn self ty) (codeAny_mono ran ?_))
  intro r s2 out
  match r, out with
  | .error er, out => exact False.elim out
  | .ok .next, out => exact False.elim out
  | .ok .brk, out => exact False.elim out
  | .ok .cont, out => exact False.elim out
  | .ok (.ret u), out =>
    obtain ⟨v, H2, J, rv, ev, q2⟩ := I2.after out
    subst ev
    exact ⟨rv, .ref (hp.objs.size + 1), H2, J, rfl, q2⟩
theorem pk_midA (h : PK X kws tk) : PK X kws (tMidA tk) := ⟨fun pos pins s σ H Q I ⟨Q', w, i⟩ =>
  wpAny_mono (h.run pos pins s σ H Q' I w) (fun us s1 hu => by
    obtain ⟨vs, H1, I1, r, q⟩ := hu
    exact ⟨vs, H1, I1, r, i vs H1 q⟩) fun _ _ z => z⟩
def gApp (vs zs : List V) : List V := vs ++ zs
def gRev (vs zs : List V) : List V := vs ++ zs.reverse
theorem pe_err1W {f1 : Str} (M : XMkW X.prog X.w X.K X.mg X.base C k x ps ks gApp (spX1 C f1))
    (room : Room (k + 1) X.A) (hk : PK X kws tk)
    (hg : Gl X x := by rfl)
    (hall : (backToKw pos (keywordEach kws X.env)).all (·.1.isSome) = true := by rfl)
    (hks : (backToKw pos (keywordEach kws X.env)).filterMap (·.1) = ks := by rfl)
    (hdb : (x == ("__debug__" : Str)) = false := by decide)
    (hpl : ((backTo pos (starEach [] X.env)).any (·.1) || (backToKw pos (keywordEach kws X.env)).any (·.1.isNone)) = false := by rfl)
    (l1 : ks.length = 1 := by rfl) :
    PE X (.Call (.Name x p) [] kws pos) (tErr1 C f1 tk) :=
  pe_imp (pe_mkW M room (pk_midA hk) hg hall hks hdb hpl) fun σ H Q h => ⟨_, h, fun vs H1 ⟨v1, ev, q⟩ => by
    subst ev
    refine ⟨l1.symm, fun a na => ⟨a, v1, rfl, upd_same, fun d nd ne => ⟨rfl, ?_⟩⟩⟩
    obtain ⟨z1, z2⟩ := made_ex1 (v1 := v1) (f1 := f1) na nd ne
    exact q a _ na z1 z2⟩
/-- the second attribute is written first -/
def tErr2R (C : Addr) (f1 f2 : Str) (ta : TA) : TE := fun σ H Q => ta σ H fun vs H1 => ∃ v1 v2, vs = [v2, v1] ∧
  ∀ a H2, H1 a = none → Same H1 H2 → ExAt H2 a C [(f2, v2), (f1, v1)] → Q (.ref a) H2
theorem pe_err2W {f1 f2 : Str} (M : XMkW X.prog X.w X.K X.mg X.base C k x ps ks gRev (spX2 C f1 f2))
    (room : Room (k + 1) X.A) (hk : PK X kws tk)
    (hg : Gl X x := by rfl)
    (hall : (backToKw pos (keywordEach kws X.env)).all (·.1.isSome) = true := by rfl)
    (hks : (backToKw pos (keywordEach kws X.env)).filterMap (·.1) = ks := by rfl)
    (hdb : (x == ("__debug__" : Str)) = false := by decide)
    (hpl : ((backTo pos (starEach [] X.env)).any (·.1) || (backToKw pos (keywordEach kws X.env)).any (·.1.isNone)) = false := by rfl)
    (l2 : ks.length = 2 := by rfl) :
    PE X (.Call (.Name x p) [] kws pos) (tErr2R C f1 f2 tk) :=
  pe_imp (pe_mkW M room (pk_midA hk) hg hall hks hdb hpl) fun σ H Q h => ⟨_, h, fun vs H1 ⟨v1, v2, ev, q⟩ => by
    subst ev
    refine ⟨l2.symm, fun a na => ⟨a, v1, v2, rfl, upd_same, fun d nd ne => ⟨rfl, ?_⟩⟩⟩
    obtain ⟨z1, _⟩ := made_ex1 (v1 := v1) (f1 := f1) na nd ne
    refine q a _ na (fun b o z => ?_) ⟨d, by rw [upd_ne ne.symm, upd_same], upd_same⟩
    have n2 : b ≠ d := fun y => by
      rw [y] at z
      rw [upd_ne ne] at nd
      rw [nd] at z
      cases z
    rw [upd_ne n2]
    exact z1 b o z⟩
end
end OM
namespace OM
open PySem PySem.Spec PyProof.Rows L2
def topS (i : Nat) : Stmt :=
  PySem.Challenge.pw_ordermerge_k17_errors_created.main.body.getD i
    (.Pass ⟨0, 0, 0, 0⟩)
abbrev s_InvalidBase_init : Stmt := inClass (topS 2) 0
abbrev N_InvalidBase_init : List Str := ["self", "problem", "position"]
theorem sc_InvalidBase_init : FnScope N_InvalidBase_init
    ["self", "problem", "position"] (defScope s_InvalidBase_init) :=
  ⟨rfl, rfl, rfl, by decide +kernel, rfl,
    by decide +kernel, by decide +kernel⟩
abbrev s_InvalidOrder_init : Stmt := inClass (topS 3) 0
abbrev N_InvalidOrder_init : List Str := ["self", "position"]
theorem sc_InvalidOrder_init : FnScope N_InvalidOrder_init
    ["self", "position"] (defScope s_InvalidOrder_init) :=
  ⟨rfl, rfl, rfl, by decide +kernel, rfl,
    by decide +kernel, by decide +kernel⟩
abbrev s_InvalidIndex_init : Stmt := inClass (topS 4) 0
abbrev N_InvalidIndex_init : List Str := ["self", "value"]
theorem sc_InvalidIndex_init : FnScope N_InvalidIndex_init
    ["self", "value"] (defScope s_InvalidIndex_init) :=
  ⟨rfl, rfl, rfl, by decide +kernel, rfl,
    by decide +kernel, by decide +kernel⟩
abbrev s_InvalidReason_init : Stmt := inClass (topS 5) 0
abbrev N_InvalidReason_init : List Str := ["self", "value"]
theorem sc_InvalidReason_init : FnScope N_InvalidReason_init
    ["self", "value"] (defScope s_InvalidReason_init) :=
  ⟨rfl, rfl, rfl, by decide +kernel, rfl,
    by decide +kernel, by decide +kernel⟩
abbrev s_InvalidPosition_init : Stmt := inClass (topS 6) 0
abbrev N_InvalidPosition_init : List Str := ["self", "value"]
theorem sc_InvalidPosition_init : FnScope N_InvalidPosition_init
    ["self", "value"] (defScope s_InvalidPosition_init) :=
  ⟨rfl, rfl, rfl, by decide +kernel, rfl,
    by decide +kernel, by decide +kernel⟩
abbrev s_InvalidCount_init : Stmt := inClass (topS 7) 0
abbrev N_InvalidCount_init : List Str := ["self", "value"]
theorem sc_InvalidCount_init : FnScope N_InvalidCount_init
    ["self", "value"] (defScope s_InvalidCount_init) :=
  ⟨rfl, rfl, rfl, by decide +kernel, rfl,
    by decide +kernel, by decide +kernel⟩
abbrev s_InvalidPairs_init : Stmt := inClass (topS 8) 0
abbrev N_InvalidPairs_init : List Str := ["self", "position"]
theorem sc_InvalidPairs_init : FnScope N_InvalidPairs_init
    ["self", "position"] (defScope s_InvalidPairs_init) :=
  ⟨rfl, rfl, rfl, by decide +kernel, rfl,
    by decide +kernel, by decide +kernel⟩
abbrev s_InvalidEntries_init : Stmt := inClass (topS 9) 0
abbrev N_InvalidEntries_init : List Str := ["self", "position"]
theorem sc_InvalidEntries_init : FnScope N_InvalidEntries_init
    ["self", "position"] (defScope s_InvalidEntries_init) :=
  ⟨rfl, rfl, rfl, by decide +kernel, rfl,
    by decide +kernel, by decide +kernel⟩
abbrev s_InvalidOrders_init : Stmt := inClass (topS 10) 0
abbrev N_InvalidOrders_init : List Str := ["self", "position"]
theorem sc_InvalidOrders_init : FnScope N_InvalidOrders_init
    ["self", "position"] (defScope s_InvalidOrders_init) :=
  ⟨rfl, rfl, rfl, by decide +kernel, rfl,
    by decide +kernel, by decide +kernel⟩
abbrev s_InvalidArcs_init : Stmt := inClass (topS 11) 0
abbrev N_InvalidArcs_init : List Str := ["self", "position"]
theorem sc_InvalidArcs_init : FnScope N_InvalidArcs_init
    ["self", "position"] (defScope s_InvalidArcs_init) :=
  ⟨rfl, rfl, rfl, by decide +kernel, rfl,
    by decide +kernel, by decide +kernel⟩
abbrev s_InvalidWord_init : Stmt := inClass (topS 12) 0
abbrev N_InvalidWord_init : List Str := ["self", "position"]
theorem sc_InvalidWord_init : FnScope N_InvalidWord_init
    ["self", "position"] (defScope s_InvalidWord_init) :=
  ⟨rfl, rfl, rfl, by decide +kernel, rfl,
    by decide +kernel, by decide +kernel⟩
abbrev s_InvalidMove_init : Stmt := inClass (topS 13) 0
abbrev N_InvalidMove_init : List Str := ["self", "value"]
theorem sc_InvalidMove_init : FnScope N_InvalidMove_init
    ["self", "value"] (defScope s_InvalidMove_init) :=
  ⟨rfl, rfl, rfl, by decide +kernel, rfl,
    by decide +kernel, by decide +kernel⟩
abbrev s_InvalidUsers_init : Stmt := inClass (topS 14) 0
abbrev N_InvalidUsers_init : List Str := ["self", "problem", "position"]
theorem sc_InvalidUsers_init : FnScope N_InvalidUsers_init
    ["self", "problem", "position"] (defScope s_InvalidUsers_init) :=
  ⟨rfl, rfl, rfl, by decide +kernel, rfl,
    by decide +kernel, by decide +kernel⟩
abbrev s_InvalidMessage_init : Stmt := inClass (topS 15) 0
abbrev N_InvalidMessage_init : List Str := ["self", "position"]
theorem sc_InvalidMessage_init : FnScope N_InvalidMessage_init
    ["self", "position"] (defScope s_InvalidMessage_init) :=
  ⟨rfl, rfl, rfl, by decide +kernel, rfl,
    by decide +kernel, by decide +kernel⟩
abbrev s_InvalidText_init : Stmt := inClass (topS 16) 0
abbrev N_InvalidText_init : List Str := ["self", "line"]
theorem sc_InvalidText_init : FnScope N_InvalidText_init
    ["self", "line"] (defScope s_InvalidText_init) :=
  ⟨rfl, rfl, rfl, by decide +kernel, rfl,
    by decide +kernel, by decide +kernel⟩
abbrev s_SameItem_init : Stmt := inClass (topS 17) 0
abbrev N_SameItem_init : List Str := ["self", "value"]
theorem sc_SameItem_init : FnScope N_SameItem_init
    ["self", "value"] (defScope s_SameItem_init) :=
  ⟨rfl, rfl, rfl, by decide +kernel, rfl,
    by decide +kernel, by decide +kernel⟩
abbrev s_UnknownItem_init : Stmt := inClass (topS 20) 0
abbrev N_UnknownItem_init : List Str := ["self", "value"]
theorem sc_UnknownItem_init : FnScope N_UnknownItem_init
    ["self", "value"] (defScope s_UnknownItem_init) :=
  ⟨rfl, rfl, rfl, by decide +kernel, rfl,
    by decide +kernel, by decide +kernel⟩
abbrev s_UnknownUser_init : Stmt := inClass (topS 21) 0
abbrev N_UnknownUser_init : List Str := ["self", "value"]
theorem sc_UnknownUser_init : FnScope N_UnknownUser_init
    ["self", "value"] (defScope s_UnknownUser_init) :=
  ⟨rfl, rfl, rfl, by decide +kernel, rfl,
    by decide +kernel, by decide +kernel⟩
abbrev s_UnknownReplica_init : Stmt := inClass (topS 22) 0
abbrev N_UnknownReplica_init : List Str := ["self", "value"]
theorem sc_UnknownReplica_init : FnScope N_UnknownReplica_init
    ["self", "value"] (defScope s_UnknownReplica_init) :=
  ⟨rfl, rfl, rfl, by decide +kernel, rfl,
    by decide +kernel, by decide +kernel⟩
abbrev s_UnknownMessage_init : Stmt := inClass (topS 23) 0
abbrev N_UnknownMessage_init : List Str := ["self", "value"]
theorem sc_UnknownMessage_init : FnScope N_UnknownMessage_init
    ["self", "value"] (defScope s_UnknownMessage_init) :=
  ⟨rfl, rfl, rfl, by decide +kernel, rfl,
    by decide +kernel, by decide +kernel⟩
abbrev s_NotLocal_init : Stmt := inClass (topS 24) 0
abbrev N_NotLocal_init : List Str := ["self", "user"]
theorem sc_NotLocal_init : FnScope N_NotLocal_init
    ["self", "user"] (defScope s_NotLocal_init) :=
  ⟨rfl, rfl, rfl, by decide +kernel, rfl,
    by decide +kernel, by decide +kernel⟩
abbrev s_Forked_init : Stmt := inClass (topS 25) 0
abbrev N_Forked_init : List Str := ["self", "user"]
theorem sc_Forked_init : FnScope N_Forked_init
    ["self", "user"] (defScope s_Forked_init) :=
  ⟨rfl, rfl, rfl, by decide +kernel, rfl,
    by decide +kernel, by decide +kernel⟩
abbrev s_NothingToUndo_init : Stmt := inClass (topS 26) 0
abbrev N_NothingToUndo_init : List Str := ["self", "user"]
theorem sc_NothingToUndo_init : FnScope N_NothingToUndo_init
    ["self", "user"] (defScope s_NothingToUndo_init) :=
  ⟨rfl, rfl, rfl, by decide +kernel, rfl,
    by decide +kernel, by decide +kernel⟩
abbrev s_NotSettled_init : Stmt := inClass (topS 27) 0
abbrev N_NotSettled_init : List Str := ["self", "replica"]
theorem sc_NotSettled_init : FnScope N_NotSettled_init
    ["self", "replica"] (defScope s_NotSettled_init) :=
  ⟨rfl, rfl, rfl, by decide +kernel, rfl,
    by decide +kernel, by decide +kernel⟩
abbrev s_LastItem_init : Stmt := inClass (topS 28) 0
abbrev N_LastItem_init : List Str := ["self", "value"]
theorem sc_LastItem_init : FnScope N_LastItem_init
    ["self", "value"] (defScope s_LastItem_init) :=
  ⟨rfl, rfl, rfl, by decide +kernel, rfl,
    by decide +kernel, by decide +kernel⟩
abbrev s_Obstructed_init : Stmt := inClass (topS 29) 0
abbrev N_Obstructed_init : List Str := ["self", "obstruction"]
theorem sc_Obstructed_init : FnScope N_Obstructed_init
    ["self", "obstruction"] (defScope s_Obstructed_init) :=
  ⟨rfl, rfl, rfl, by decide +kernel, rfl,
    by decide +kernel, by decide +kernel⟩
abbrev s_BrokenHistory_init : Stmt := inClass (topS 30) 0
abbrev N_BrokenHistory_init : List Str := ["self", "count"]
theorem sc_BrokenHistory_init : FnScope N_BrokenHistory_init
    ["self", "count"] (defScope s_BrokenHistory_init) :=
  ⟨rfl, rfl, rfl, by decide +kernel, rfl,
    by decide +kernel, by decide +kernel⟩
abbrev s_TooManyItems_init : Stmt := inClass (topS 31) 0
abbrev N_TooManyItems_init : List Str := ["self", "limit"]
theorem sc_TooManyItems_init : FnScope N_TooManyItems_init
    ["self", "limit"] (defScope s_TooManyItems_init) :=
  ⟨rfl, rfl, rfl, by decide +kernel, rfl,
    by decide +kernel, by decide +kernel⟩
abbrev s_Lrng : Stmt := topS 34
abbrev N_Lrng : List Str := ["_law_script", "_law_k", "_law_cell"]
theorem sc_Lrng : FnScope N_Lrng
    ["_law_script", "_law_k"] (defScope s_Lrng) :=
  ⟨rfl, rfl, rfl, by decide +kernel, rfl,
    by decide +kernel, by decide +kernel⟩
abbrev s_Ldraw : Stmt := topS 35
abbrev N_Ldraw : List Str := ["_law_rng_here", "_law_many", "_law_digit"]
theorem sc_Ldraw : FnScope N_Ldraw
    ["_law_rng_here", "_law_many"] (defScope s_Ldraw) :=
  ⟨rfl, rfl, rfl, by decide +kernel, rfl,
    by decide +kernel, by decide +kernel⟩
abbrev s_Lchoice : Stmt := topS 36
abbrev N_Lchoice : List Str := ["_law_rng_here", "_law_options"]
theorem sc_Lchoice : FnScope N_Lchoice
    ["_law_rng_here", "_law_options"] (defScope s_Lchoice) :=
  ⟨rfl, rfl, rfl, by decide +kernel, rfl,
    by decide +kernel, by decide +kernel⟩
abbrev s_Lodd : Stmt := topS 37
abbrev N_Lodd : List Str := ["_law_rng_here", "_law_values"]
theorem sc_Lodd : FnScope N_Lodd
    ["_law_rng_here"] (defScope s_Lodd) :=
  ⟨rfl, rfl, rfl, by decide +kernel, rfl,
    by decide +kernel, by decide +kernel⟩
abbrev s_Lclasses : Stmt := topS 38
abbrev N_Lclasses : List Str := ["_law_e", "_law_kinds", "_law_k", "_law_kind"]
theorem sc_Lclasses : FnScope N_Lclasses
    ["_law_e"] (defScope s_Lclasses) :=
  ⟨rfl, rfl, rfl, by decide +kernel, rfl,
    by decide +kernel, by decide +kernel⟩
abbrev s_Lbases : Stmt := topS 39
abbrev N_Lbases : List Str := ["_law_e", "_law_kinds", "_law_k", "_law_kind"]
theorem sc_Lbases : FnScope N_Lbases
    ["_law_e"] (defScope s_Lbases) :=
  ⟨rfl, rfl, rfl, by decide +kernel, rfl,
    by decide +kernel, by decide +kernel⟩
abbrev s_Lhierarchy_right : Stmt := topS 40
abbrev N_Lhierarchy_right : List Str := ["_law_one", "_law_other", "_law_made", "_law_e", "_law_k"]
theorem sc_Lhierarchy_right : FnScope N_Lhierarchy_right
    ["_law_one", "_law_other"] (defScope s_Lhierarchy_right) :=
  ⟨rfl, rfl, rfl, by decide +kernel, rfl,
    by decide +kernel, by decide +kernel⟩
abbrev s_Lattributes : Stmt := topS 41
abbrev N_Lattributes : List Str := ["_law_one", "_law_other", "_law_first", "_law_second", "_law_found"]
theorem sc_Lattributes : FnScope N_Lattributes
    ["_law_one", "_law_other"] (defScope s_Lattributes) :=
  ⟨rfl, rfl, rfl, by decide +kernel, rfl,
    by decide +kernel, by decide +kernel⟩
abbrev s_Lnamed_attributes : Stmt := topS 42
abbrev N_Lnamed_attributes : List Str := ["_law_one", "_law_other", "_law_first", "_law_second", "_law_found"]
theorem sc_Lnamed_attributes : FnScope N_Lnamed_attributes
    ["_law_one", "_law_other"] (defScope s_Lnamed_attributes) :=
  ⟨rfl, rfl, rfl, by decide +kernel, rfl,
    by decide +kernel, by decide +kernel⟩
abbrev s_law : Stmt := topS 43
abbrev N_law : List Str := ["_law_script", "_law_k", "_law_rng_here", "_law_one", "_law_other", "_law_due"]
theorem sc_law : FnScope N_law
    ["_law_script"] (defScope s_law) :=
  ⟨rfl, rfl, rfl, by decide +kernel, rfl,
    by decide +kernel, by decide +kernel⟩
end OM
namespace OM
open PySem PySem.Spec PyProof.Rows L2
section
variable {P : Program} {w : World} {K : PySem.W.Frag}
  {mg : Str → Option Value} {base : Heap}
theorem at0 (x y : V) : atI [x, y] 0 = some x := atI_nat (j := 0) rfl
theorem at1 (x y : V) : atI [x, y] 1 = some y := atI_nat (j := 1) rfl
theorem ok_draw {f : Addr} {fd : FuncData} {k : Nat}
    (F : Fun K "_law_draw" "_law_draw" s_Ldraw f fd) (B : Bl mg) :
    FnOk P w K mg base CX0 (k + 1) f fd ["_law_rng_here", "_law_many"]
      spDraw := by
  refine F.ok sc_Ldraw (fun vs H Q E h => ?_)
    (fun cv A outer s H vs Q E hr h => ?_)
  · obtain ⟨p, m, rfl, _⟩ := h
    rfl
  obtain ⟨p, m, rfl, rg, m0, m1, q⟩ := h
  obtain ⟨a, b, hp, a0, b0, b1⟩ := rg
  have nd := sc_Ldraw.nd
  refine ⟨_, pss_cons (ps_if (pt_cmpR op_gt
      (pe_ix ix_list (pv 0) pe_int (fun _ _ => rfl)) pe_int (nomark _))
      (pss_cons (ps_asg (pe_callB call_divmod (by rfl) B.divmod bt_divmod
          (pa_cons (pe_ix ix_list (pv 0) pe_int (fun _ _ => rfl))
            (pa_cons (pv 1) pa_nil)))
        (pg_tup rfl (pgs_cons (pg_sub (pv 0) pe_int set_list)
          (pgs_cons (pg_name (i := 2) nd rfl (.inl rfl)) pgs_nil))))
        (pss_one (ps_ret (pv 2)))) pss_nil)
    (pss_cons (ps_asg (pe_op op_mod (pe_op op_add (pe_op op_mul
        (pe_ix ix_list (pv 0) pe_int (fun _ _ => rfl)) pe_int) pe_int) pe_int)
        (pg_sub (pv 0) pe_int set_list))
    (pss_one (ps_ret (pe_op op_mod (pe_op op_fdiv (pe_op op_mod (pe_op op_mul
        (pe_ix ix_list (pv 0) pe_int (fun _ _ => rfl))
        (pe_ix ix_list (pv 0) pe_int (fun _ _ => rfl))) pe_int) pe_int)
        (pv 1))))), ?_⟩
  refine ⟨_, rfl, p, _, 0, _, rfl, rfl, SqL.of hp, at0 _ _, _, _, rfl, rfl,
    _, rfl, ite2 (fun c => ?_) (fun c => ?_)⟩
  · have c' : 0 < a := of_decide_eq_true c
    refine ⟨_, rfl, p, _, 0, _, rfl, rfl, SqL.of hp, at0 _ _, _, rfl, a, m,
      rfl, ⟨m0, by omega⟩, fun t nt => ?_⟩
    have nt' : p ≠ t := ne_of_none hp nt
    have hp' : (upd H t (.tup [.int (a / m), .int (a % m)])) p =
        some (.lst [.int a, .int b]) := by rw [upd_ne nt']; exact hp
    refine ⟨t, _, rfl, .inl (.inl upd_same), rfl, _, _, rfl, _, rfl, p, _, 0,
      0, rfl, rfl, hp', rfl, _, _, rfl, rfl, _, rfl, ?_⟩
    refine q _ _ (Int.emod_nonneg _ (by omega)) (Int.emod_lt_of_pos _ m0)
      ⟨a / m, b, upd_same, Int.ediv_nonneg a0 (by omega), b0, b1⟩ ?_
    exact ((But.refl H).new nt).at
  · have b2 : 0 ≤ (b * 48271 + 10007) % 2147483587 :=
      Int.emod_nonneg _ (by decide)
    have b3 : (b * 48271 + 10007) % 2147483587 < 2147483587 :=
      Int.emod_lt_of_pos _ (by decide)
    refine ⟨_, rfl, p, _, 1, _, rfl, rfl, SqL.of hp, at1 _ _, _, _, rfl, rfl,
      .inl ⟨by omega, by omega⟩, _, _, rfl, rfl, _, _, rfl, rfl,
      (by show (0 : Int) < 2147483587; decide), _, rfl, p, _, 1, 1, rfl, rfl,
      hp, rfl, ?_⟩
    have hp' : (upd H p (.lst [.int a,
        .int ((b * 48271 + 10007) % 2147483587)])) p = _ := upd_same
    refine ⟨_, rfl, p, _, 1, _, rfl, rfl, SqL.of hp', at1 _ _, _, rfl, p, _,
      1, _, rfl, rfl, SqL.of hp', at1 _ _, _, _, rfl, rfl,
      .inl ⟨by omega, by omega⟩, _, _, rfl, rfl,
      (by show (0 : Int) < 2147483549; decide), _, _, rfl, rfl,
      ⟨by decide, by decide⟩, _, rfl, _, _, rfl, rfl, m0, ?_⟩
    refine q _ _ (Int.emod_nonneg _ (by omega)) (Int.emod_lt_of_pos _ m0)
      ⟨a, _, upd_same, a0, b2, by omega⟩ (But.refl H).at
end
end OM
namespace OM
open PySem PySem.Spec PyProof.Rows L2
section
variable {P : Program} {w : World} {K : PySem.W.Frag}
  {mg : Str → Option Value} {base : Heap}
theorem ifx_cut {tA : TT} {ta tb : TE} {σ : L2.St} {H : Hp} {R : VK}
    (v : V) (h : ∀ R : VK, R v H → tIf tA ta tb σ H R) (k : R v H) :
    tIf tA ta tb σ H R := h R k
theorem ok_rng {f : Addr} {fd : FuncData} {k : Nat}
    (F : Fun K "_law_rng" "_law_rng" s_Lrng f fd) (B : Bl mg) :
    FnOk P w K mg base CX0 (k + 1) f fd ["_law_script", "_law_k"]
      (spRng K) := by
  refine F.ok sc_Lrng (fun vs H Q E h => ?_)
    (fun cv A outer s H vs Q E hr h => ?_)
  · obtain ⟨a, ns, k, rfl, _⟩ := h
    rfl
  obtain ⟨a, ns, n, rfl, hS, hn, q⟩ := h
  have nd := sc_Lrng.nd
  refine ⟨_, pss_cons (ps_set (i := 2) nd rfl (.inl rfl) (pe_ifExp
      (pt_cmpR op_lt (pv 1) (pe_callB call_len_seq (by rfl) B.len
        PySem.boot_len (pa_cons (pv 0) pa_nil)) (nomark _))
      (pe_callB call_abs (by rfl) B.abs bt_abs
        (pa_cons (pe_ix ix_list (pv 0) (pv 1) (fun _ _ => rfl)) pa_nil))
      pe_int))
    (pss_one (ps_ret (pe_lst (pa_cons
      (pe_callB (call_max2 rfl) (by rfl) B.max bt_max
        (pa_cons pe_int (pa_cons (pe_op op_sub (pv 2)
          (pe_op op_pow pe_int pe_int)) pa_nil)))
      (pa_cons (pe_op op_add (pe_op op_mod (pe_op op_pow
        (pe_op op_add (pe_op op_add (pe_op op_mod (pv 2) pe_int)
          (pe_op op_mul pe_int (pv 1))) pe_int) pe_int) pe_int) pe_int)
        pa_nil))))), ?_⟩
  obtain ⟨c, hc⟩ : ∃ c : Int, (n < ns.length → c =
      if ns.getD n 0 < 0 then - ns.getD n 0 else ns.getD n 0) ∧
      (¬ n < ns.length → c = 0) := by
    by_cases h : n < ns.length
    · exact ⟨_, fun _ => rfl, fun z => absurd h z⟩
    · exact ⟨0, fun z => absurd z h, fun _ => rfl⟩
  refine ifx_cut (.int c) (fun R hR => ?_) ?_
  · refine ⟨_, rfl, _, rfl, a, _, rfl, .inl hS, _, _, rfl, rfl, _, rfl,
      ite2 (fun z => ?_) (fun z => ?_)⟩
    · have z' : (n : Int) < ((ns.map V.int).length : Int) :=
        of_decide_eq_true z
      rw [List.length_map] at z'
      have hn' : n < ns.length := by omega
      have g : (ns.map V.int)[n]? = some (.int (ns.getD n 0)) := by
        rw [List.getElem?_map, List.getElem?_eq_getElem hn',
          List.getD_eq_getElem?_getD, List.getElem?_eq_getElem hn']
        rfl
      refine ⟨_, rfl, _, rfl, a, _, n, _, rfl, rfl, hS, atI_nat g, _, rfl, ?_⟩
      rw [← hc.1 hn']
      exact hR
    · have z' : ¬ n < ns.length := fun y => z (decide_eq_true (by
        rw [List.length_map]; omega))
      rw [hc.2 z'] at hR
      exact hR
  · have c0 : 0 ≤ c % 2147483543 := Int.emod_nonneg _ (by decide)
    have c1 : c % 2147483543 < 2147483543 :=
      Int.emod_lt_of_pos _ (by decide)
    refine ⟨_, rfl, _, _, rfl, rfl, ⟨by decide, by decide, by decide⟩, _, _,
      rfl, rfl, _, _, rfl, _, rfl, _, _, rfl, rfl,
      (by show (0 : Int) < 2147483543; decide), _, rfl, _, _, rfl, rfl,
      .inl ⟨by decide, by decide⟩, _, _, rfl, rfl, _, _, rfl, rfl, _, _, rfl,
      rfl, ⟨by decide, by decide, by omega⟩, _, _, rfl, rfl,
      (by show (0 : Int) < 2147483497; decide), _, _, rfl, rfl,
      (by show 2 ≤ sizeLine; decide), fun p np => ?_⟩
    generalize hb : ((c % 2147483543 + 101 * (n : Int) + 7) ^
      (2 : Int).toNat) % 2147483497 = b
    have b0 : 0 ≤ b := by rw [← hb]; exact Int.emod_nonneg _ (by decide)
    have b1 : b < 2147483497 := by
      rw [← hb]; exact Int.emod_lt_of_pos _ (by decide)
    refine q p _ np ⟨_, b + 1, upd_same, ?_, by omega, by omega⟩
      (sameNew np)
    split <;> omega
end
end OM
namespace OM
open PySem PySem.Spec PyProof.Rows L2
/-- which class is below which: 1 to 18 below 0 -/
def kv (i j : Nat) : Bool := decide (i = j) || (decide (j = 0) && decide (i ≤ 18))
/-- and below which built-in one -/
def bv (i j : Nat) : Bool := (decide (j = 0) && decide (i ≤ 18)) || (decide (j = 1) && decide (19 ≤ i) && decide (i ≤ 22)) ||
  (decide (j = 2) && decide (23 ≤ i) && decide (i ≤ 27)) || (decide (j = 3) && decide (28 ≤ i))
def btn (j : Nat) : String := ["ValueError", "LookupError", "RuntimeError", "ArithmeticError", "KeyError", "IndexError", "OverflowError", "TypeError"].getD j ""
theorem bt17_ValueError : bootBuiltins "ValueError" = some (.type "ValueError") := by decide +kernel
theorem bt17_LookupError : bootBuiltins "LookupError" = some (.type "LookupError") := by decide +kernel
theorem bt17_RuntimeError : bootBuiltins "RuntimeError" = some (.type "RuntimeError") := by decide +kernel
theorem bt17_ArithmeticError : bootBuiltins "ArithmeticError" = some (.type "ArithmeticError") := by decide +kernel
theorem bt17_KeyError : bootBuiltins "KeyError" = some (.type "KeyError") := by decide +kernel
theorem bt17_IndexError : bootBuiltins "IndexError" = some (.type "IndexError") := by decide +kernel
theorem bt17_OverflowError : bootBuiltins "OverflowError" = some (.type "OverflowError") := by decide +kernel
theorem bt17_TypeError : bootBuiltins "TypeError" = some (.type "TypeError") := by decide +kernel
/-- what is known of the classes, c i the i-th of them -/
structure E17 (P : Program) (w : World) (K : PySem.W.Frag) (mg : Str → Option Value) (base : Heap) (c : Nat → Addr) : Prop where
  val : ∀ i, i < 32 → XVal K (c i)
  kit : ∀ i j, i < 32 → j < 32 → PySem.W.kitOne K (.ref (c i)) (.ref (c j)) = some (kv i j)
  bas : ∀ i j, i < 32 → j < 8 → PySem.W.kitOne K (.ref (c i)) (.type (btn j)) = some (bv i j)
  z_ValueError : mg "ValueError" = none
  z_LookupError : mg "LookupError" = none
  z_RuntimeError : mg "RuntimeError" = none
  z_ArithmeticError : mg "ArithmeticError" = none
  z_KeyError : mg "KeyError" = none
  z_IndexError : mg "IndexError" = none
  z_OverflowError : mg "OverflowError" = none
  z_TypeError : mg "TypeError" = none
  m0 : mg "OrderError" = some (.ref (c 0))
  m1 : mg "InvalidBase" = some (.ref (c 1))
  m2 : mg "InvalidOrder" = some (.ref (c 2))
  m3 : mg "InvalidIndex" = some (.ref (c 3))
  m4 : mg "InvalidReason" = some (.ref (c 4))
  m5 : mg "InvalidPosition" = some (.ref (c 5))
  m6 : mg "InvalidCount" = some (.ref (c 6))
  m7 : mg "InvalidPairs" = some (.ref (c 7))
  m8 : mg "InvalidEntries" = some (.ref (c 8))
  m9 : mg "InvalidOrders" = some (.ref (c 9))
  m10 : mg "InvalidArcs" = some (.ref (c 10))
  m11 : mg "InvalidWord" = some (.ref (c 11))
  m12 : mg "InvalidMove" = some (.ref (c 12))
  m13 : mg "InvalidUsers" = some (.ref (c 13))
  m14 : mg "InvalidMessage" = some (.ref (c 14))
  m15 : mg "InvalidText" = some (.ref (c 15))
  m16 : mg "SameItem" = some (.ref (c 16))
  m17 : mg "InvalidOperation" = some (.ref (c 17))
  m18 : mg "InvalidCommand" = some (.ref (c 18))
  m19 : mg "UnknownItem" = some (.ref (c 19))
  m20 : mg "UnknownUser" = some (.ref (c 20))
  m21 : mg "UnknownReplica" = some (.ref (c 21))
  m22 : mg "UnknownMessage" = some (.ref (c 22))
  m23 : mg "NotLocal" = some (.ref (c 23))
  m24 : mg "Forked" = some (.ref (c 24))
  m25 : mg "NothingToUndo" = some (.ref (c 25))
  m26 : mg "NotSettled" = some (.ref (c 26))
  m27 : mg "LastItem" = some (.ref (c 27))
  m28 : mg "Obstructed" = some (.ref (c 28))
  m29 : mg "BrokenHistory" = some (.ref (c 29))
  m30 : mg "TooManyItems" = some (.ref (c 30))
  m31 : mg "DifferentOrders" = some (.ref (c 31))
  t0 : XTx K mg (c 0) "OrderError"
  p1 : XMkV P w K mg base (c 1) 1 "InvalidBase" ["self", "problem", "position"] (spX2 (c 1) "problem" "position")
  w1 : XMkW P w K mg base (c 1) 1 "InvalidBase" ["self", "problem", "position"] ["position", "problem"] gRev (spX2 (c 1) "problem" "position")
  a1 : PySem.W.findIn K (.ref (c 1)) "problem" = some none
  b1 : PySem.W.findIn K (.ref (c 1)) "position" = some none
  p2 : XMkV P w K mg base (c 2) 1 "InvalidOrder" ["self", "position"] (spX1 (c 2) "position")
  w2 : XMkW P w K mg base (c 2) 1 "InvalidOrder" ["self", "position"] ["position"] gApp (spX1 (c 2) "position")
  a2 : PySem.W.findIn K (.ref (c 2)) "position" = some none
  p3 : XMkV P w K mg base (c 3) 1 "InvalidIndex" ["self", "value"] (spX1 (c 3) "value")
  w3 : XMkW P w K mg base (c 3) 1 "InvalidIndex" ["self", "value"] ["value"] gApp (spX1 (c 3) "value")
  a3 : PySem.W.findIn K (.ref (c 3)) "value" = some none
  p4 : XMkV P w K mg base (c 4) 1 "InvalidReason" ["self", "value"] (spX1 (c 4) "value")
  w4 : XMkW P w K mg base (c 4) 1 "InvalidReason" ["self", "value"] ["value"] gApp (spX1 (c 4) "value")
  a4 : PySem.W.findIn K (.ref (c 4)) "value" = some none
  p5 : XMkV P w K mg base (c 5) 1 "InvalidPosition" ["self", "value"] (spX1 (c 5) "value")
  w5 : XMkW P w K mg base (c 5) 1 "InvalidPosition" ["self", "value"] ["value"] gApp (spX1 (c 5) "value")
  a5 : PySem.W.findIn K (.ref (c 5)) "value" = some none
  p6 : XMkV P w K mg base (c 6) 1 "InvalidCount" ["self", "value"] (spX1 (c 6) "value")
  w6 : XMkW P w K mg base (c 6) 1 "InvalidCount" ["self", "value"] ["value"] gApp (spX1 (c 6) "value")
  a6 : PySem.W.findIn K (.ref (c 6)) "value" = some none
  p7 : XMkV P w K mg base (c 7) 1 "InvalidPairs" ["self", "position"] (spX1 (c 7) "position")
  w7 : XMkW P w K mg base (c 7) 1 "InvalidPairs" ["self", "position"] ["position"] gApp (spX1 (c 7) "position")
  a7 : PySem.W.findIn K (.ref (c 7)) "position" = some none
  p8 : XMkV P w K mg base (c 8) 1 "InvalidEntries" ["self", "position"] (spX1 (c 8) "position")
  w8 : XMkW P w K mg base (c 8) 1 "InvalidEntries" ["self", "position"] ["position"] gApp (spX1 (c 8) "position")
  a8 : PySem.W.findIn K (.ref (c 8)) "position" = some none
  p9 : XMkV P w K mg base (c 9) 1 "InvalidOrders" ["self", "position"] (spX1 (c 9) "position")
  w9 : XMkW P w K mg base (c 9) 1 "InvalidOrders" ["self", "position"] ["position"] gApp (spX1 (c 9) "position")
  a9 : PySem.W.findIn K (.ref (c 9)) "position" = some none
  p10 : XMkV P w K mg base (c 10) 1 "InvalidArcs" ["self", "position"] (spX1 (c 10) "position")
  w10 : XMkW P w K mg base (c 10) 1 "InvalidArcs" ["self", "position"] ["position"] gApp (spX1 (c 10) "position")
  a10 : PySem.W.findIn K (.ref (c 10)) "position" = some none
  p11 : XMkV P w K mg base (c 11) 1 "InvalidWord" ["self", "position"] (spX1 (c 11) "position")
  w11 : XMkW P w K mg base (c 11) 1 "InvalidWord" ["self", "position"] ["position"] gApp (spX1 (c 11) "position")
  a11 : PySem.W.findIn K (.ref (c 11)) "position" = some none
  p12 : XMkV P w K mg base (c 12) 1 "InvalidMove" ["self", "value"] (spX1 (c 12) "value")
  w12 : XMkW P w K mg base (c 12) 1 "InvalidMove" ["self", "value"] ["value"] gApp (spX1 (c 12) "value")
  a12 : PySem.W.findIn K (.ref (c 12)) "value" = some none
  p13 : XMkV P w K mg base (c 13) 1 "InvalidUsers" ["self", "problem", "position"] (spX2 (c 13) "problem" "position")
  w13 : XMkW P w K mg base (c 13) 1 "InvalidUsers" ["self", "problem", "position"] ["position", "problem"] gRev (spX2 (c 13) "problem" "position")
  a13 : PySem.W.findIn K (.ref (c 13)) "problem" = some none
  b13 : PySem.W.findIn K (.ref (c 13)) "position" = some none
  p14 : XMkV P w K mg base (c 14) 1 "InvalidMessage" ["self", "position"] (spX1 (c 14) "position")
  w14 : XMkW P w K mg base (c 14) 1 "InvalidMessage" ["self", "position"] ["position"] gApp (spX1 (c 14) "position")
  a14 : PySem.W.findIn K (.ref (c 14)) "position" = some none
  p15 : XMkV P w K mg base (c 15) 1 "InvalidText" ["self", "line"] (spX1 (c 15) "line")
  w15 : XMkW P w K mg base (c 15) 1 "InvalidText" ["self", "line"] ["line"] gApp (spX1 (c 15) "line")
  a15 : PySem.W.findIn K (.ref (c 15)) "line" = some none
  p16 : XMkV P w K mg base (c 16) 1 "SameItem" ["self", "value"] (spX1 (c 16) "value")
  w16 : XMkW P w K mg base (c 16) 1 "SameItem" ["self", "value"] ["value"] gApp (spX1 (c 16) "value")
  a16 : PySem.W.findIn K (.ref (c 16)) "value" = some none
  t17 : XTx K mg (c 17) "InvalidOperation"
  t18 : XTx K mg (c 18) "InvalidCommand"
  p19 : XMkV P w K mg base (c 19) 1 "UnknownItem" ["self", "value"] (spX1 (c 19) "value")
  w19 : XMkW P w K mg base (c 19) 1 "UnknownItem" ["self", "value"] ["value"] gApp (spX1 (c 19) "value")
  a19 : PySem.W.findIn K (.ref (c 19)) "value" = some none
  p20 : XMkV P w K mg base (c 20) 1 "UnknownUser" ["self", "value"] (spX1 (c 20) "value")
  w20 : XMkW P w K mg base (c 20) 1 "UnknownUser" ["self", "value"] ["value"] gApp (spX1 (c 20) "value")
  a20 : PySem.W.findIn K (.ref (c 20)) "value" = some none
  p21 : XMkV P w K mg base (c 21) 1 "UnknownReplica" ["self", "value"] (spX1 (c 21) "value")
  w21 : XMkW P w K mg base (c 21) 1 "UnknownReplica" ["self", "value"] ["value"] gApp (spX1 (c 21) "value")
  a21 : PySem.W.findIn K (.ref (c 21)) "value" = some none
  p22 : XMkV P w K mg base (c 22) 1 "UnknownMessage" ["self", "value"] (spX1 (c 22) "value")
  w22 : XMkW P w K mg base (c 22) 1 "UnknownMessage" ["self", "value"] ["value"] gApp (spX1 (c 22) "value")
  a22 : PySem.W.findIn K (.ref (c 22)) "value" = some none
  p23 : XMkV P w K mg base (c 23) 1 "NotLocal" ["self", "user"] (spX1 (c 23) "user")
  w23 : XMkW P w K mg base (c 23) 1 "NotLocal" ["self", "user"] ["user"] gApp (spX1 (c 23) "user")
  a23 : PySem.W.findIn K (.ref (c 23)) "user" = some none
  p24 : XMkV P w K mg base (c 24) 1 "Forked" ["self", "user"] (spX1 (c 24) "user")
  w24 : XMkW P w K mg base (c 24) 1 "Forked" ["self", "user"] ["user"] gApp (spX1 (c 24) "user")
  a24 : PySem.W.findIn K (.ref (c 24)) "user" = some none
  p25 : XMkV P w K mg base (c 25) 1 "NothingToUndo" ["self", "user"] (spX1 (c 25) "user")
  w25 : XMkW P w K mg base (c 25) 1 "NothingToUndo" ["self", "user"] ["user"] gApp (spX1 (c 25) "user")
  a25 : PySem.W.findIn K (.ref (c 25)) "user" = some none
  p26 : XMkV P w K mg base (c 26) 1 "NotSettled" ["self", "replica"] (spX1 (c 26) "replica")
  w26 : XMkW P w K mg base (c 26) 1 "NotSettled" ["self", "replica"] ["replica"] gApp (spX1 (c 26) "replica")
  a26 : PySem.W.findIn K (.ref (c 26)) "replica" = some none
  p27 : XMkV P w K mg base (c 27) 1 "LastItem" ["self", "value"] (spX1 (c 27) "value")
  w27 : XMkW P w K mg base (c 27) 1 "LastItem" ["self", "value"] ["value"] gApp (spX1 (c 27) "value")
  a27 : PySem.W.findIn K (.ref (c 27)) "value" = some none
  p28 : XMkV P w K mg base (c 28) 1 "Obstructed" ["self", "obstruction"] (spX1 (c 28) "obstruction")
  w28 : XMkW P w K mg base (c 28) 1 "Obstructed" ["self", "obstruction"] ["obstruction"] gApp (spX1 (c 28) "obstruction")
  a28 : PySem.W.findIn K (.ref (c 28)) "obstruction" = some none
  p29 : XMkV P w K mg base (c 29) 1 "BrokenHistory" ["self", "count"] (spX1 (c 29) "count")
  w29 : XMkW P w K mg base (c 29) 1 "BrokenHistory" ["self", "count"] ["count"] gApp (spX1 (c 29) "count")
  a29 : PySem.W.findIn K (.ref (c 29)) "count" = some none
  p30 : XMkV P w K mg base (c 30) 1 "TooManyItems" ["self", "limit"] (spX1 (c 30) "limit")
  w30 : XMkW P w K mg base (c 30) 1 "TooManyItems" ["self", "limit"] ["limit"] gApp (spX1 (c 30) "limit")
  a30 : PySem.W.findIn K (.ref (c 30)) "limit" = some none
  t31 : XTx K mg (c 31) "DifferentOrders"
/-- an error of the i-th class, at a -/
def Er (c : Nat → Addr) (H : Hp) (a : Addr) (i : Nat) : Prop := i < 32 ∧ ((∃ fs, ExAt H a (c i) fs) ∨ H a = some (exo a (c i) none))
theorem Er.same {c : Nat → Addr} {H H' : Hp} {a : Addr} {i : Nat} (x : Er c H a i) (s : Same H H') : Er c H' a i := by
  obtain ⟨h, ⟨fs, x⟩ | x⟩ := x
  · exact ⟨h, .inl ⟨fs, x.same s⟩⟩
  · exact ⟨h, .inr (s _ _ x)⟩
/-- which of ks hold -/
def tix (ks : List Bool) (n : Nat) : List Nat := (List.range n).filter fun k => ks.getD k false
theorem tix_snoc {ks : List Bool} {i : Nat} {b : Bool} (h : ks[i]? = some b) : tix ks (i + 1) = tix ks i ++ if b = true then [i] else [] := by
  unfold tix
  rw [List.range_succ, List.filter_append, List.filter_cons, List.filter_nil]
  have e : ks.getD i false = b := by rw [List.getD_eq_getElem?_getD, h]; rfl
  rw [e]
theorem tix_le (ks : List Bool) (n : Nat) : (tix ks n).length ≤ n := by
  have := List.length_filter_le (fun k => ks.getD k false) (List.range n)
  rw [List.length_range] at this
  exact this
def vI (ns : List Nat) : List V := ns.map fun (n : Nat) => V.int (n : Nat)
def dI (ns : List Nat) : List PyData := ns.map fun (n : Nat) => PyData.int (n : Int)
def clsL (i : Nat) : List Nat := tix ((List.range 32).map (kv i)) 32
def basL (i : Nat) : List Nat := tix ((List.range 8).map (bv i)) 8
def spCls (c : Nat → Addr) : Sp := fun vs H Q _ => ∃ (a : Addr) (i : Nat), vs = [.ref a] ∧ Er c H a i ∧
  ∀ q H', H q = none → H' q = some (.lst (vI (clsL i))) → Same H H' → Q (.ref q) H'
def spBas (c : Nat → Addr) : Sp := fun vs H Q _ => ∃ (a : Addr) (i : Nat), vs = [.ref a] ∧ Er c H a i ∧
  ∀ q H', H q = none → H' q = some (.lst (vI (basL i))) → Same H H' → Q (.ref q) H'
def kbs (f : Nat → Bool) (n : Nat) : List V := (List.range n).map fun j => V.bl (f j)
theorem kbs_3 {f : Nat → Bool} {n : Nat} : kbs f n ++ [V.bl (f n), V.bl (f (n + 1)), V.bl (f (n + 2))] = kbs f (n + 3) := by
  unfold kbs
  rw [List.range_succ, List.range_succ, List.range_succ]
  simp
theorem kbs_2 {f : Nat → Bool} {n : Nat} : kbs f n ++ [V.bl (f n), V.bl (f (n + 1))] = kbs f (n + 2) := by
  unfold kbs
  rw [List.range_succ, List.range_succ]
  simp
theorem kbs_len {f : Nat → Bool} {n : Nat} : (kbs f n).length = n := by
  unfold kbs
  rw [List.length_map, List.length_range]
section
variable {P : Program} {w : World} {K : PySem.W.Frag}
  {mg : Str → Option Value} {base : Heap} {c : Nat → Addr}
theorem kbs_at {f : Nat → Bool} {n m : Nat} {v : V} (h : (kbs f m)[n]? = some v) : ∃ b, ((List.range m).map f)[n]? = some b ∧ v = .bl b := by
  unfold kbs at h
  rw [List.getElem?_map] at h ⊢
  cases e : (List.range m)[n]? with
  | none => rw [e] at h; cases h
  | some j =>
    rw [e] at h
    cases h
    exact ⟨_, rfl, rfl⟩
theorem ok_cls17 {f : Addr} {fd : FuncData} {k : Nat}
    (F : Fun K "_law_classes" "_law_classes" s_Lclasses f fd) (B : Bl mg) (E : E17 P w K mg base c) :
    FnOk P w K mg base CX0 (k + 1) f fd ["_law_e"] (spCls c) := by
  refine F.ok sc_Lclasses (fun vs H Q E h => ?_)
    (fun cv A outer s H vs Q E' hr h => ?_)
  · obtain ⟨a, i, rfl, _⟩ := h
    rfl
  obtain ⟨a, i, rfl, x, q⟩ := h
  have nd := sc_Lclasses.nd
  refine ⟨_, (C8.pss_cut (ps_set (i := 1) nd rfl (.inl rfl) (pe_lst (pa_cons (pe_callB
      call_isV (by rfl) B.isi bt_isi (pa_cons (pv 0) (pa_cons (pe_glob (v :=
      .ref (c 0)) (by rfl) E.m0 rfl) pa_nil))) (pa_cons (pe_callB call_isV
      (by rfl) B.isi bt_isi (pa_cons (pv 0) (pa_cons (pe_glob (v := .ref (c 1))
      (by rfl) E.m1 rfl) pa_nil))) (pa_cons (pe_callB call_isV (by rfl) B.isi
      bt_isi (pa_cons (pv 0) (pa_cons (pe_glob (v := .ref (c 2)) (by rfl) E.m2
      rfl) pa_nil))) pa_nil))))) (C8.pss_cut (ps_set (i := 1) nd rfl (.inl rfl)
      (pe_op op_cat (pv 1) (pe_lst (pa_cons (pe_callB call_isV (by rfl) B.isi
      bt_isi (pa_cons (pv 0) (pa_cons (pe_glob (v := .ref (c 3)) (by rfl) E.m3
      rfl) pa_nil))) (pa_cons (pe_callB call_isV (by rfl) B.isi bt_isi (pa_cons
      (pv 0) (pa_cons (pe_glob (v := .ref (c 4)) (by rfl) E.m4 rfl) pa_nil)))
      (pa_cons (pe_callB call_isV (by rfl) B.isi bt_isi (pa_cons (pv 0) (pa_cons
      (pe_glob (v := .ref (c 5)) (by rfl) E.m5 rfl) pa_nil))) pa_nil))))))
      (C8.pss_cut (ps_set (i := 1) nd rfl (.inl rfl) (pe_op op_cat (pv 1)
      (pe_lst (pa_cons (pe_callB call_isV (by rfl) B.isi bt_isi (pa_cons (pv 0)
      (pa_cons (pe_glob (v := .ref (c 6)) (by rfl) E.m6 rfl) pa_nil))) (pa_cons
      (pe_callB call_isV (by rfl) B.isi bt_isi (pa_cons (pv 0) (pa_cons (pe_glob
      (v := .ref (c 7)) (by rfl) E.m7 rfl) pa_nil))) (pa_cons (pe_callB call_isV
      (by rfl) B.isi bt_isi (pa_cons (pv 0) (pa_cons (pe_glob (v := .ref (c 8))
      (by rfl) E.m8 rfl) pa_nil))) pa_nil)))))) (C8.pss_cut (ps_set (i := 1) nd
      rfl (.inl rfl) (pe_op op_cat (pv 1) (pe_lst (pa_cons (pe_callB call_isV
      (by rfl) B.isi bt_isi (pa_cons (pv 0) (pa_cons (pe_glob (v := .ref (c 9))
      (by rfl) E.m9 rfl) pa_nil))) (pa_cons (pe_callB call_isV (by rfl) B.isi
      bt_isi (pa_cons (pv 0) (pa_cons (pe_glob (v := .ref (c 10)) (by rfl) E.m10
      rfl) pa_nil))) (pa_cons (pe_callB call_isV (by rfl) B.isi bt_isi (pa_cons
      (pv 0) (pa_cons (pe_glob (v := .ref (c 11)) (by rfl) E.m11 rfl) pa_nil)))
      pa_nil)))))) (C8.pss_cut (ps_set (i := 1) nd rfl (.inl rfl) (pe_op op_cat
      (pv 1) (pe_lst (pa_cons (pe_callB call_isV (by rfl) B.isi bt_isi (pa_cons
      (pv 0) (pa_cons (pe_glob (v := .ref (c 12)) (by rfl) E.m12 rfl) pa_nil)))
      (pa_cons (pe_callB call_isV (by rfl) B.isi bt_isi (pa_cons (pv 0) (pa_cons
      (pe_glob (v := .ref (c 13)) (by rfl) E.m13 rfl) pa_nil))) (pa_cons
      (pe_callB call_isV (by rfl) B.isi bt_isi (pa_cons (pv 0) (pa_cons (pe_glob
      (v := .ref (c 14)) (by rfl) E.m14 rfl) pa_nil))) pa_nil)))))) (C8.pss_cut
      (ps_set (i := 1) nd rfl (.inl rfl) (pe_op op_cat (pv 1) (pe_lst (pa_cons
      (pe_callB call_isV (by rfl) B.isi bt_isi (pa_cons (pv 0) (pa_cons (pe_glob
      (v := .ref (c 15)) (by rfl) E.m15 rfl) pa_nil))) (pa_cons (pe_callB
      call_isV (by rfl) B.isi bt_isi (pa_cons (pv 0) (pa_cons (pe_glob (v :=
      .ref (c 16)) (by rfl) E.m16 rfl) pa_nil))) (pa_cons (pe_callB call_isV
      (by rfl) B.isi bt_isi (pa_cons (pv 0) (pa_cons (pe_glob (v := .ref (c 17))
      (by rfl) E.m17 rfl) pa_nil))) pa_nil)))))) (C8.pss_cut (ps_set (i := 1) nd
      rfl (.inl rfl) (pe_op op_cat (pv 1) (pe_lst (pa_cons (pe_callB call_isV
      (by rfl) B.isi bt_isi (pa_cons (pv 0) (pa_cons (pe_glob (v := .ref (c 18))
      (by rfl) E.m18 rfl) pa_nil))) (pa_cons (pe_callB call_isV (by rfl) B.isi
      bt_isi (pa_cons (pv 0) (pa_cons (pe_glob (v := .ref (c 19)) (by rfl) E.m19
      rfl) pa_nil))) (pa_cons (pe_callB call_isV (by rfl) B.isi bt_isi (pa_cons
      (pv 0) (pa_cons (pe_glob (v := .ref (c 20)) (by rfl) E.m20 rfl) pa_nil)))
      pa_nil)))))) (C8.pss_cut (ps_set (i := 1) nd rfl (.inl rfl) (pe_op op_cat
      (pv 1) (pe_lst (pa_cons (pe_callB call_isV (by rfl) B.isi bt_isi (pa_cons
      (pv 0) (pa_cons (pe_glob (v := .ref (c 21)) (by rfl) E.m21 rfl) pa_nil)))
      (pa_cons (pe_callB call_isV (by rfl) B.isi bt_isi (pa_cons (pv 0) (pa_cons
      (pe_glob (v := .ref (c 22)) (by rfl) E.m22 rfl) pa_nil))) (pa_cons
      (pe_callB call_isV (by rfl) B.isi bt_isi (pa_cons (pv 0) (pa_cons (pe_glob
      (v := .ref (c 23)) (by rfl) E.m23 rfl) pa_nil))) pa_nil)))))) (C8.pss_cut
      (ps_set (i := 1) nd rfl (.inl rfl) (pe_op op_cat (pv 1) (pe_lst (pa_cons
      (pe_callB call_isV (by rfl) B.isi bt_isi (pa_cons (pv 0) (pa_cons (pe_glob
      (v := .ref (c 24)) (by rfl) E.m24 rfl) pa_nil))) (pa_cons (pe_callB
      call_isV (by rfl) B.isi bt_isi (pa_cons (pv 0) (pa_cons (pe_glob (v :=
      .ref (c 25)) (by rfl) E.m25 rfl) pa_nil))) (pa_cons (pe_callB call_isV
      (by rfl) B.isi bt_isi (pa_cons (pv 0) (pa_cons (pe_glob (v := .ref (c 26))
      (by rfl) E.m26 rfl) pa_nil))) pa_nil)))))) (C8.pss_cut (ps_set (i := 1) nd
      rfl (.inl rfl) (pe_op op_cat (pv 1) (pe_lst (pa_cons (pe_callB call_isV
      (by rfl) B.isi bt_isi (pa_cons (pv 0) (pa_cons (pe_glob (v := .ref (c 27))
      (by rfl) E.m27 rfl) pa_nil))) (pa_cons (pe_callB call_isV (by rfl) B.isi
      bt_isi (pa_cons (pv 0) (pa_cons (pe_glob (v := .ref (c 28)) (by rfl) E.m28
      rfl) pa_nil))) (pa_cons (pe_callB call_isV (by rfl) B.isi bt_isi (pa_cons
      (pv 0) (pa_cons (pe_glob (v := .ref (c 29)) (by rfl) E.m29 rfl) pa_nil)))
      pa_nil)))))) (C8.pss_cut (ps_set (i := 1) nd rfl (.inl rfl) (pe_op op_cat
      (pv 1) (pe_lst (pa_cons (pe_callB call_isV (by rfl) B.isi bt_isi (pa_cons
      (pv 0) (pa_cons (pe_glob (v := .ref (c 30)) (by rfl) E.m30 rfl) pa_nil)))
      (pa_cons (pe_callB call_isV (by rfl) B.isi bt_isi (pa_cons (pv 0) (pa_cons
      (pe_glob (v := .ref (c 31)) (by rfl) E.m31 rfl) pa_nil))) pa_nil)))))
      (pss_one (ps_ret (pe_lc (own := [("_law_k", 2), ("_law_kind", 3)]) (g :=
      gTup K 2 (gCons (gName 2) (gCons (gName 3) gNil))) rfl nd (pi_enum
      (by rfl) B.enum (pa_cons (pv 1) pa_nil)) (blkOk_by (N := N_Lclasses) (sc
      := defScope s_Lclasses) (by decide +kernel)) (fun _ _ _ _ _ => pg_tup rfl
      (pgs_cons (pg_name (i := 2) nd rfl (Or.inl rfl)) (pgs_cons (pg_name (i :=
      3) nd rfl (Or.inl rfl)) pgs_nil))) (fun _ _ _ _ _ => pts_one (pt_val (pv
      3))) (fun _ _ _ _ _ => (pv 2)))))))))))))))), ?_⟩
  refine ⟨fun σ' H' => ∃ l, H' l = some (.lst (kbs (kv i) 3)) ∧ Same H H' ∧ σ' = [some (.ref a), some (.ref l), none, none], ?_, ?_⟩
  · refine ⟨_, rfl, a, c i, _, _, _, E.val i x.1, x.2, rfl, .own _, E.kit i 0 x.1 (by decide), ?_⟩
    refine ⟨_, rfl, a, c i, _, _, _, E.val i x.1, x.2, rfl, .own _, E.kit i 1 x.1 (by decide), ?_⟩
    refine ⟨_, rfl, a, c i, _, _, _, E.val i x.1, x.2, rfl, .own _, E.kit i 2 x.1 (by decide), ?_⟩
    refine ⟨sz (by simp), fun t nt => ?_⟩
    have z2 := sameNew (o := .lst [V.bl (kv i 0), V.bl (kv i 1), V.bl (kv i 2)]) nt
    have ht : (upd H t (.lst [V.bl (kv i 0), V.bl (kv i 1), V.bl (kv i 2)])) t = some (.lst [V.bl (kv i 0), V.bl (kv i 1), V.bl (kv i 2)]) := upd_same
    generalize upd H t (.lst [V.bl (kv i 0), V.bl (kv i 1), V.bl (kv i 2)]) = H2 at z2 ht ⊢
    exact ⟨t, ht, z2, rfl⟩
  rintro _ H1 ⟨l, hl, s1, rfl⟩
  have x1 := x.same s1
  refine ⟨fun σ' H' => ∃ l, H' l = some (.lst (kbs (kv i) 6)) ∧ Same H H' ∧ σ' = [some (.ref a), some (.ref l), none, none], ?_, ?_⟩
  · refine ⟨_, rfl, ?_⟩
    refine ⟨_, rfl, a, c i, _, _, _, E.val i x1.1, x1.2, rfl, .own _, E.kit i 3 x1.1 (by decide), ?_⟩
    refine ⟨_, rfl, a, c i, _, _, _, E.val i x1.1, x1.2, rfl, .own _, E.kit i (3 + 1) x1.1 (by decide), ?_⟩
    refine ⟨_, rfl, a, c i, _, _, _, E.val i x1.1, x1.2, rfl, .own _, E.kit i (3 + 2) x1.1 (by decide), ?_⟩
    refine ⟨sz (by simp), fun t nt => ?_⟩
    have z2 := sameNew (o := .lst [V.bl (kv i 3), V.bl (kv i (3 + 1)), V.bl (kv i (3 + 2))]) nt
    have ht : (upd H1 t (.lst [V.bl (kv i 3), V.bl (kv i (3 + 1)), V.bl (kv i (3 + 2))])) t = some (.lst [V.bl (kv i 3), V.bl (kv i (3 + 1)), V.bl (kv i (3 + 2))]) := upd_same
    generalize upd H1 t (.lst [V.bl (kv i 3), V.bl (kv i (3 + 1)), V.bl (kv i (3 + 2))]) = H2 at z2 ht ⊢
    refine ⟨l, t, _, _, rfl, rfl, z2 _ _ hl, ht, sz (by rw [kbs_len]; show 3 + 3 ≤ _; omega), fun u nu => ?_⟩
    have z3 := sameNew (o := .lst (kbs (kv i) 3 ++ [V.bl (kv i 3), V.bl (kv i (3 + 1)), V.bl (kv i (3 + 2))])) nu
    have hu : (upd H2 u (.lst (kbs (kv i) 3 ++ [V.bl (kv i 3), V.bl (kv i (3 + 1)), V.bl (kv i (3 + 2))]))) u = some (.lst (kbs (kv i) 3 ++ [V.bl (kv i 3), V.bl (kv i (3 + 1)), V.bl (kv i (3 + 2))])) := upd_same
    generalize upd H2 u (.lst (kbs (kv i) 3 ++ [V.bl (kv i 3), V.bl (kv i (3 + 1)), V.bl (kv i (3 + 2))])) = H3 at z3 hu ⊢
    rw [kbs_3] at hu
    exact ⟨u, hu, s1.trans (z2.trans z3), rfl⟩
  clear hl
  rintro _ H1 ⟨l, hl, s1', rfl⟩
  have s1 := s1'
  clear s1'
  have x1 := x.same s1
  refine ⟨fun σ' H' => ∃ l, H' l = some (.lst (kbs (kv i) 9)) ∧ Same H H' ∧ σ' = [some (.ref a), some (.ref l), none, none], ?_, ?_⟩
  · refine ⟨_, rfl, ?_⟩
    refine ⟨_, rfl, a, c i, _, _, _, E.val i x1.1, x1.2, rfl, .own _, E.kit i 6 x1.1 (by decide), ?_⟩
    refine ⟨_, rfl, a, c i, _, _, _, E.val i x1.1, x1.2, rfl, .own _, E.kit i (6 + 1) x1.1 (by decide), ?_⟩
    refine ⟨_, rfl, a, c i, _, _, _, E.val i x1.1, x1.2, rfl, .own _, E.kit i (6 + 2) x1.1 (by decide), ?_⟩
    refine ⟨sz (by simp), fun t nt => ?_⟩
    have z2 := sameNew (o := .lst [V.bl (kv i 6), V.bl (kv i (6 + 1)), V.bl (kv i (6 + 2))]) nt
    have ht : (upd H1 t (.lst [V.bl (kv i 6), V.bl (kv i (6 + 1)), V.bl (kv i (6 + 2))])) t = some (.lst [V.bl (kv i 6), V.bl (kv i (6 + 1)), V.bl (kv i (6 + 2))]) := upd_same
    generalize upd H1 t (.lst [V.bl (kv i 6), V.bl (kv i (6 + 1)), V.bl (kv i (6 + 2))]) = H2 at z2 ht ⊢
    refine ⟨l, t, _, _, rfl, rfl, z2 _ _ hl, ht, sz (by rw [kbs_len]; show 6 + 3 ≤ _; omega), fun u nu => ?_⟩
    have z3 := sameNew (o := .lst (kbs (kv i) 6 ++ [V.bl (kv i 6), V.bl (kv i (6 + 1)), V.bl (kv i (6 + 2))])) nu
    have hu : (upd H2 u (.lst (kbs (kv i) 6 ++ [V.bl (kv i 6), V.bl (kv i (6 + 1)), V.bl (kv i (6 + 2))]))) u = some (.lst (kbs (kv i) 6 ++ [V.bl (kv i 6), V.bl (kv i (6 + 1)), V.bl (kv i (6 + 2))])) := upd_same
    generalize upd H2 u (.lst (kbs (kv i) 6 ++ [V.bl (kv i 6), V.bl (kv i (6 + 1)), V.bl (kv i (6 + 2))])) = H3 at z3 hu ⊢
    rw [kbs_3] at hu
    exact ⟨u, hu, s1.trans (z2.trans z3), rfl⟩
  clear hl
  rintro _ H1 ⟨l, hl, s1', rfl⟩
  have s1 := s1'
  clear s1'
  have x1 := x.same s1
  refine ⟨fun σ' H' => ∃ l, H' l = some (.lst (kbs (kv i) 12)) ∧ Same H H' ∧ σ' = [some (.ref a), some (.ref l), none, none], ?_, ?_⟩
  · refine ⟨_, rfl, ?_⟩
    refine ⟨_, rfl, a, c i, _, _, _, E.val i x1.1, x1.2, rfl, .own _, E.kit i 9 x1.1 (by decide), ?_⟩
    refine ⟨_, rfl, a, c i, _, _, _, E.val i x1.1, x1.2, rfl, .own _, E.kit i (9 + 1) x1.1 (by decide), ?_⟩
    refine ⟨_, rfl, a, c i, _, _, _, E.val i x1.1, x1.2, rfl, .own _, E.kit i (9 + 2) x1.1 (by decide), ?_⟩
    refine ⟨sz (by simp), fun t nt => ?_⟩
    have z2 := sameNew (o := .lst [V.bl (kv i 9), V.bl (kv i (9 + 1)), V.bl (kv i (9 + 2))]) nt
    have ht : (upd H1 t (.lst [V.bl (kv i 9), V.bl (kv i (9 + 1)), V.bl (kv i (9 + 2))])) t = some (.lst [V.bl (kv i 9), V.bl (kv i (9 + 1)), V.bl (kv i (9 + 2))]) := upd_same
    generalize upd H1 t (.lst [V.bl (kv i 9), V.bl (kv i (9 + 1)), V.bl (kv i (9 + 2))]) = H2 at z2 ht ⊢
    refine ⟨l, t, _, _, rfl, rfl, z2 _ _ hl, ht, sz (by rw [kbs_len]; show 9 + 3 ≤ _; omega), fun u nu => ?_⟩
    have z3 := sameNew (o := .lst (kbs (kv i) 9 ++ [V.bl (kv i 9), V.bl (kv i (9 + 1)), V.bl (kv i (9 + 2))])) nu
    have hu : (upd H2 u (.lst (kbs (kv i) 9 ++ [V.bl (kv i 9), V.bl (kv i (9 + 1)), V.bl (kv i (9 + 2))]))) u = some (.lst (kbs (kv i) 9 ++ [V.bl (kv i 9), V.bl (kv i (9 + 1)), V.bl (kv i (9 + 2))])) := upd_same
    generalize upd H2 u (.lst (kbs (kv i) 9 ++ [V.bl (kv i 9), V.bl (kv i (9 + 1)), V.bl (kv i (9 + 2))])) = H3 at z3 hu ⊢
    rw [kbs_3] at hu
    exact ⟨u, hu, s1.trans (z2.trans z3), rfl⟩
  clear hl
  rintro _ H1 ⟨l, hl, s1', rfl⟩
  have s1 := s1'
  clear s1'
  have x1 := x.same s1
  refine ⟨fun σ' H' => ∃ l, H' l = some (.lst (kbs (kv i) 15)) ∧ Same H H' ∧ σ' = [some (.ref a), some (.ref l), none, none], ?_, ?_⟩
  · refine ⟨_, rfl, ?_⟩
    refine ⟨_, rfl, a, c i, _, _, _, E.val i x1.1, x1.2, rfl, .own _, E.kit i 12 x1.1 (by decide), ?_⟩
    refine ⟨_, rfl, a, c i, _, _, _, E.val i x1.1, x1.2, rfl, .own _, E.kit i (12 + 1) x1.1 (by decide), ?_⟩
    refine ⟨_, rfl, a, c i, _, _, _, E.val i x1.1, x1.2, rfl, .own _, E.kit i (12 + 2) x1.1 (by decide), ?_⟩
    refine ⟨sz (by simp), fun t nt => ?_⟩
    have z2 := sameNew (o := .lst [V.bl (kv i 12), V.bl (kv i (12 + 1)), V.bl (kv i (12 + 2))]) nt
    have ht : (upd H1 t (.lst [V.bl (kv i 12), V.bl (kv i (12 + 1)), V.bl (kv i (12 + 2))])) t = some (.lst [V.bl (kv i 12), V.bl (kv i (12 + 1)), V.bl (kv i (12 + 2))]) := upd_same
    generalize upd H1 t (.lst [V.bl (kv i 12), V.bl (kv i (12 + 1)), V.bl (kv i (12 + 2))]) = H2 at z2 ht ⊢
    refine ⟨l, t, _, _, rfl, rfl, z2 _ _ hl, ht, sz (by rw [kbs_len]; show 12 + 3 ≤ _; omega), fun u nu => ?_⟩
    have z3 := sameNew (o := .lst (kbs (kv i) 12 ++ [V.bl (kv i 12), V.bl (kv i (12 + 1)), V.bl (kv i (12 + 2))])) nu
    have hu : (upd H2 u (.lst (kbs (kv i) 12 ++ [V.bl (kv i 12), V.bl (kv i (12 + 1)), V.bl (kv i (12 + 2))]))) u = some (.lst (kbs (kv i) 12 ++ [V.bl (kv i 12), V.bl (kv i (12 + 1)), V.bl (kv i (12 + 2))])) := upd_same
    generalize upd H2 u (.lst (kbs (kv i) 12 ++ [V.bl (kv i 12), V.bl (kv i (12 + 1)), V.bl (kv i (12 + 2))])) = H3 at z3 hu ⊢
    rw [kbs_3] at hu
    exact ⟨u, hu, s1.trans (z2.trans z3), rfl⟩
  clear hl
  rintro _ H1 ⟨l, hl, s1', rfl⟩
  have s1 := s1'
  clear s1'
  have x1 := x.same s1
  refine ⟨fun σ' H' => ∃ l, H' l = some (.lst (kbs (kv i) 18)) ∧ Same H H' ∧ σ' = [some (.ref a), some (.ref l), none, none], ?_, ?_⟩
  · refine ⟨_, rfl, ?_⟩
    refine ⟨_, rfl, a, c i, _, _, _, E.val i x1.1, x1.2, rfl, .own _, E.kit i 15 x1.1 (by decide), ?_⟩
    refine ⟨_, rfl, a, c i, _, _, _, E.val i x1.1, x1.2, rfl, .own _, E.kit i (15 + 1) x1.1 (by decide), ?_⟩
    refine ⟨_, rfl, a, c i, _, _, _, E.val i x1.1, x1.2, rfl, .own _, E.kit i (15 + 2) x1.1 (by decide), ?_⟩
    refine ⟨sz (by simp), fun t nt => ?_⟩
    have z2 := sameNew (o := .lst [V.bl (kv i 15), V.bl (kv i (15 + 1)), V.bl (kv i (15 + 2))]) nt
    have ht : (upd H1 t (.lst [V.bl (kv i 15), V.bl (kv i (15 + 1)), V.bl (kv i (15 + 2))])) t = some (.lst [V.bl (kv i 15), V.bl (kv i (15 + 1)), V.bl (kv i (15 + 2))]) := upd_same
    generalize upd H1 t (.lst [V.bl (kv i 15), V.bl (kv i (15 + 1)), V.bl (kv i (15 + 2))]) = H2 at z2 ht ⊢
    refine ⟨l, t, _, _, rfl, rfl, z2 _ _ hl, ht, sz (by rw [kbs_len]; show 15 + 3 ≤ _; omega), fun u nu => ?_⟩
    have z3 := sameNew (o := .lst (kbs (kv i) 15 ++ [V.bl (kv i 15), V.bl (kv i (15 + 1)), V.bl (kv i (15 + 2))])) nu
    have hu : (upd H2 u (.lst (kbs (kv i) 15 ++ [V.bl (kv i 15), V.bl (kv i (15 + 1)), V.bl (kv i (15 + 2))]))) u = some (.lst (kbs (kv i) 15 ++ [V.bl (kv i 15), V.bl (kv i (15 + 1)), V.bl (kv i (15 + 2))])) := upd_same
    generalize upd H2 u (.lst (kbs (kv i) 15 ++ [V.bl (kv i 15), V.bl (kv i (15 + 1)), V.bl (kv i (15 + 2))])) = H3 at z3 hu ⊢
    rw [kbs_3] at hu
    exact ⟨u, hu, s1.trans (z2.trans z3), rfl⟩
  clear hl
  rintro _ H1 ⟨l, hl, s1', rfl⟩
  have s1 := s1'
  clear s1'
  have x1 := x.same s1
  refine ⟨fun σ' H' => ∃ l, H' l = some (.lst (kbs (kv i) 21)) ∧ Same H H' ∧ σ' = [some (.ref a), some (.ref l), none, none], ?_, ?_⟩
  · refine ⟨_, rfl, ?_⟩
    refine ⟨_, rfl, a, c i, _, _, _, E.val i x1.1, x1.2, rfl, .own _, E.kit i 18 x1.1 (by decide), ?_⟩
    refine ⟨_, rfl, a, c i, _, _, _, E.val i x1.1, x1.2, rfl, .own _, E.kit i (18 + 1) x1.1 (by decide), ?_⟩
    refine ⟨_, rfl, a, c i, _, _, _, E.val i x1.1, x1.2, rfl, .own _, E.kit i (18 + 2) x1.1 (by decide), ?_⟩
    refine ⟨sz (by simp), fun t nt => ?_⟩
    have z2 := sameNew (o := .lst [V.bl (kv i 18), V.bl (kv i (18 + 1)), V.bl (kv i (18 + 2))]) nt
    have ht : (upd H1 t (.lst [V.bl (kv i 18), V.bl (kv i (18 + 1)), V.bl (kv i (18 + 2))])) t = some (.lst [V.bl (kv i 18), V.bl (kv i (18 + 1)), V.bl (kv i (18 + 2))]) := upd_same
    generalize upd H1 t (.lst [V.bl (kv i 18), V.bl (kv i (18 + 1)), V.bl (kv i (18 + 2))]) = H2 at z2 ht ⊢
    refine ⟨l, t, _, _, rfl, rfl, z2 _ _ hl, ht, sz (by rw [kbs_len]; show 18 + 3 ≤ _; omega), fun u nu => ?_⟩
    have z3 := sameNew (o := .lst (kbs (kv i) 18 ++ [V.bl (kv i 18), V.bl (kv i (18 + 1)), V.bl (kv i (18 + 2))])) nu
    have hu : (upd H2 u (.lst (kbs (kv i) 18 ++ [V.bl (kv i 18), V.bl (kv i (18 + 1)), V.bl (kv i (18 + 2))]))) u = some (.lst (kbs (kv i) 18 ++ [V.bl (kv i 18), V.bl (kv i (18 + 1)), V.bl (kv i (18 + 2))])) := upd_same
    generalize upd H2 u (.lst (kbs (kv i) 18 ++ [V.bl (kv i 18), V.bl (kv i (18 + 1)), V.bl (kv i (18 + 2))])) = H3 at z3 hu ⊢
    rw [kbs_3] at hu
    exact ⟨u, hu, s1.trans (z2.trans z3), rfl⟩
  clear hl
  rintro _ H1 ⟨l, hl, s1', rfl⟩
  have s1 := s1'
  clear s1'
  have x1 := x.same s1
  refine ⟨fun σ' H' => ∃ l, H' l = some (.lst (kbs (kv i) 24)) ∧ Same H H' ∧ σ' = [some (.ref a), some (.ref l), none, none], ?_, ?_⟩
  · refine ⟨_, rfl, ?_⟩
    refine ⟨_, rfl, a, c i, _, _, _, E.val i x1.1, x1.2, rfl, .own _, E.kit i 21 x1.1 (by decide), ?_⟩
    refine ⟨_, rfl, a, c i, _, _, _, E.val i x1.1, x1.2, rfl, .own _, E.kit i (21 + 1) x1.1 (by decide), ?_⟩
    refine ⟨_, rfl, a, c i, _, _, _, E.val i x1.1, x1.2, rfl, .own _, E.kit i (21 + 2) x1.1 (by decide), ?_⟩
    refine ⟨sz (by simp), fun t nt => ?_⟩
    have z2 := sameNew (o := .lst [V.bl (kv i 21), V.bl (kv i (21 + 1)), V.bl (kv i (21 + 2))]) nt
    have ht : (upd H1 t (.lst [V.bl (kv i 21), V.bl (kv i (21 + 1)), V.bl (kv i (21 + 2))])) t = some (.lst [V.bl (kv i 21), V.bl (kv i (21 + 1)), V.bl (kv i (21 + 2))]) := upd_same
    generalize upd H1 t (.lst [V.bl (kv i 21), V.bl (kv i (21 + 1)), V.bl (kv i (21 + 2))]) = H2 at z2 ht ⊢
    refine ⟨l, t, _, _, rfl, rfl, z2 _ _ hl, ht, sz (by rw [kbs_len]; show 21 + 3 ≤ _; omega), fun u nu => ?_⟩
    have z3 := sameNew (o := .lst (kbs (kv i) 21 ++ [V.bl (kv i 21), V.bl (kv i (21 + 1)), V.bl (kv i (21 + 2))])) nu
    have hu : (upd H2 u (.lst (kbs (kv i) 21 ++ [V.bl (kv i 21), V.bl (kv i (21 + 1)), V.bl (kv i (21 + 2))]))) u = some (.lst (kbs (kv i) 21 ++ [V.bl (kv i 21), V.bl (kv i (21 + 1)), V.bl (kv i (21 + 2))])) := upd_same
    generalize upd H2 u (.lst (kbs (kv i) 21 ++ [V.bl (kv i 21), V.bl (kv i (21 + 1)), V.bl (kv i (21 + 2))])) = H3 at z3 hu ⊢
    rw [kbs_3] at hu
    exact ⟨u, hu, s1.trans (z2.trans z3), rfl⟩
  clear hl
  rintro _ H1 ⟨l, hl, s1', rfl⟩
  have s1 := s1'
  clear s1'
  have x1 := x.same s1
  refine ⟨fun σ' H' => ∃ l, H' l = some (.lst (kbs (kv i) 27)) ∧ Same H H' ∧ σ' = [some (.ref a), some (.ref l), none, none], ?_, ?_⟩
  · refine ⟨_, rfl, ?_⟩
    refine ⟨_, rfl, a, c i, _, _, _, E.val i x1.1, x1.2, rfl, .own _, E.kit i 24 x1.1 (by decide), ?_⟩
    refine ⟨_, rfl, a, c i, _, _, _, E.val i x1.1, x1.2, rfl, .own _, E.kit i (24 + 1) x1.1 (by decide), ?_⟩
    refine ⟨_, rfl, a, c i, _, _, _, E.val i x1.1, x1.2, rfl, .own _, E.kit i (24 + 2) x1.1 (by decide), ?_⟩
    refine ⟨sz (by simp), fun t nt => ?_⟩
    have z2 := sameNew (o := .lst [V.bl (kv i 24), V.bl (kv i (24 + 1)), V.bl (kv i (24 + 2))]) nt
    have ht : (upd H1 t (.lst [V.bl (kv i 24), V.bl (kv i (24 + 1)), V.bl (kv i (24 + 2))])) t = some (.lst [V.bl (kv i 24), V.bl (kv i (24 + 1)), V.bl (kv i (24 + 2))]) := upd_same
    generalize upd H1 t (.lst [V.bl (kv i 24), V.bl (kv i (24 + 1)), V.bl (kv i (24 + 2))]) = H2 at z2 ht ⊢
    refine ⟨l, t, _, _, rfl, rfl, z2 _ _ hl, ht, sz (by rw [kbs_len]; show 24 + 3 ≤ _; omega), fun u nu => ?_⟩
    have z3 := sameNew (o := .lst (kbs (kv i) 24 ++ [V.bl (kv i 24), V.bl (kv i (24 + 1)), V.bl (kv i (24 + 2))])) nu
    have hu : (upd H2 u (.lst (kbs (kv i) 24 ++ [V.bl (kv i 24), V.bl (kv i (24 + 1)), V.bl (kv i (24 + 2))]))) u = some (.lst (kbs (kv i) 24 ++ [V.bl (kv i 24), V.bl (kv i (24 + 1)), V.bl (kv i (24 + 2))])) := upd_same
    generalize upd H2 u (.lst (kbs (kv i) 24 ++ [V.bl (kv i 24), V.bl (kv i (24 + 1)), V.bl (kv i (24 + 2))])) = H3 at z3 hu ⊢
    rw [kbs_3] at hu
    exact ⟨u, hu, s1.trans (z2.trans z3), rfl⟩
  clear hl
  rintro _ H1 ⟨l, hl, s1', rfl⟩
  have s1 := s1'
  clear s1'
  have x1 := x.same s1
  refine ⟨fun σ' H' => ∃ l, H' l = some (.lst (kbs (kv i) 30)) ∧ Same H H' ∧ σ' = [some (.ref a), some (.ref l), none, none], ?_, ?_⟩
  · refine ⟨_, rfl, ?_⟩
    refine ⟨_, rfl, a, c i, _, _, _, E.val i x1.1, x1.2, rfl, .own _, E.kit i 27 x1.1 (by decide), ?_⟩
    refine ⟨_, rfl, a, c i, _, _, _, E.val i x1.1, x1.2, rfl, .own _, E.kit i (27 + 1) x1.1 (by decide), ?_⟩
    refine ⟨_, rfl, a, c i, _, _, _, E.val i x1.1, x1.2, rfl, .own _, E.kit i (27 + 2) x1.1 (by decide), ?_⟩
    refine ⟨sz (by simp), fun t nt => ?_⟩
    have z2 := sameNew (o := .lst [V.bl (kv i 27), V.bl (kv i (27 + 1)), V.bl (kv i (27 + 2))]) nt
    have ht : (upd H1 t (.lst [V.bl (kv i 27), V.bl (kv i (27 + 1)), V.bl (kv i (27 + 2))])) t = some (.lst [V.bl (kv i 27), V.bl (kv i (27 + 1)), V.bl (kv i (27 + 2))]) := upd_same
    generalize upd H1 t (.lst [V.bl (kv i 27), V.bl (kv i (27 + 1)), V.bl (kv i (27 + 2))]) = H2 at z2 ht ⊢
    refine ⟨l, t, _, _, rfl, rfl, z2 _ _ hl, ht, sz (by rw [kbs_len]; show 27 + 3 ≤ _; omega), fun u nu => ?_⟩
    have z3 := sameNew (o := .lst (kbs (kv i) 27 ++ [V.bl (kv i 27), V.bl (kv i (27 + 1)), V.bl (kv i (27 + 2))])) nu
    have hu : (upd H2 u (.lst (kbs (kv i) 27 ++ [V.bl (kv i 27), V.bl (kv i (27 + 1)), V.bl (kv i (27 + 2))]))) u = some (.lst (kbs (kv i) 27 ++ [V.bl (kv i 27), V.bl (kv i (27 + 1)), V.bl (kv i (27 + 2))])) := upd_same
    generalize upd H2 u (.lst (kbs (kv i) 27 ++ [V.bl (kv i 27), V.bl (kv i (27 + 1)), V.bl (kv i (27 + 2))])) = H3 at z3 hu ⊢
    rw [kbs_3] at hu
    exact ⟨u, hu, s1.trans (z2.trans z3), rfl⟩
  clear hl
  rintro _ H1 ⟨l, hl, s1', rfl⟩
  have s1 := s1'
  clear s1'
  have x1 := x.same s1
  refine ⟨fun σ' H' => ∃ l, H' l = some (.lst (kbs (kv i) 32)) ∧ Same H H' ∧ σ' = [some (.ref a), some (.ref l), none, none], ?_, ?_⟩
  · refine ⟨_, rfl, ?_⟩
    refine ⟨_, rfl, a, c i, _, _, _, E.val i x1.1, x1.2, rfl, .own _, E.kit i 30 x1.1 (by decide), ?_⟩
    refine ⟨_, rfl, a, c i, _, _, _, E.val i x1.1, x1.2, rfl, .own _, E.kit i 31 x1.1 (by decide), ?_⟩
    refine ⟨sz (by simp), fun t nt => ?_⟩
    have z2 := sameNew (o := .lst [V.bl (kv i 30), V.bl (kv i 31)]) nt
    have ht : (upd H1 t (.lst [V.bl (kv i 30), V.bl (kv i 31)])) t = some (.lst [V.bl (kv i 30), V.bl (kv i 31)]) := upd_same
    generalize upd H1 t (.lst [V.bl (kv i 30), V.bl (kv i 31)]) = H2 at z2 ht ⊢
    refine ⟨l, t, _, _, rfl, rfl, z2 _ _ hl, ht, sz (by rw [kbs_len]; show 30 + 2 ≤ _; omega), fun u nu => ?_⟩
    have z3 := sameNew (o := .lst (kbs (kv i) 30 ++ [V.bl (kv i 30), V.bl (kv i 31)])) nu
    have hu : (upd H2 u (.lst (kbs (kv i) 30 ++ [V.bl (kv i 30), V.bl (kv i 31)]))) u = some (.lst (kbs (kv i) 30 ++ [V.bl (kv i 30), V.bl (kv i 31)])) := upd_same
    generalize upd H2 u (.lst (kbs (kv i) 30 ++ [V.bl (kv i 30), V.bl (kv i 31)])) = H3 at z3 hu ⊢
    rw [kbs_2] at hu
    exact ⟨u, hu, s1.trans (z2.trans z3), rfl⟩
  clear hl
  rintro _ H1 ⟨l, hl, s1, rfl⟩
  refine ⟨_, rfl, l, _, rfl, SqL.of hl, fun D nD => ?_⟩
  refine lc_it (walk_enum (K := K) (a := l) (xs := kbs (kv i) 32))
    (fun n H' => H' D = some (.lst (vI (tix ((List.range 32).map (kv i)) n))) ∧ Same H1 H') ⟨upd_same, sameNew nD⟩
    (fun n H' _ z => SqL.of (z.2 _ _ hl)) ?_ ?_
  · rintro n v H4 H5 hi ⟨hD, s4⟩ ⟨T', x1, x2, rfl, nT, rfl, e1, e2⟩
    cases Option.some.inj e1
    obtain ⟨b, hb, rfl⟩ := kbs_at e2
    have zT := sameNew (o := .tup [.int (n : Nat), .bl b]) nT
    have hD5 := zT _ _ hD
    refine ⟨T', _, rfl, .inl (.inl upd_same), rfl, _, _, rfl, _, _, rfl, rfl, rfl, ?_⟩
    refine ⟨_, rfl, _, rfl, ?_⟩
    have lb := tix_le ((List.range 32).map (kv i)) n
    rw [tix_snoc hb]
    cases b with
    | false =>
      refine iteF ⟨?_, s4.trans zT⟩
      rw [if_neg nofun, List.append_nil]
      exact hD5
    | true =>
      refine iteT ⟨_, rfl, _, hD5, ?_, ?_, OM.Same.put (s4.trans zT) nD⟩
      · unfold vI
        rw [List.length_map]
        rw [kbs_len] at hi
        exact sz' (by omega)
      · rw [upd_same, if_pos rfl]
        unfold vI
        rw [List.map_append]
        rfl
  rintro H4 ⟨hD, s4⟩
  rw [kbs_len] at hD
  exact q D H4 (by
    cases e : H D with
    | none => rfl
    | some o => rw [s1 _ _ e] at nD; cases nD) hD (s1.trans s4)
end
end OM
namespace OM
open PySem PySem.Spec PyProof.Rows L2
section
variable {P : Program} {w : World} {K : PySem.W.Frag}
  {mg : Str → Option Value} {base : Heap} {c : Nat → Addr}
theorem ok_bas17 {f : Addr} {fd : FuncData} {k : Nat}
    (F : Fun K "_law_bases" "_law_bases" s_Lbases f fd) (B : Bl mg) (E : E17 P w K mg base c) :
    FnOk P w K mg base CX0 (k + 1) f fd ["_law_e"] (spBas c) := by
  refine F.ok sc_Lbases (fun vs H Q E h => ?_)
    (fun cv A outer s H vs Q E' hr h => ?_)
  · obtain ⟨a, i, rfl, _⟩ := h
    rfl
  obtain ⟨a, i, rfl, x, q⟩ := h
  have nd := sc_Lbases.nd
  refine ⟨_, (C8.pss_cut (ps_set (i := 1) nd rfl (.inl rfl) (pe_lst (pa_cons (pe_callB
      call_isV (by rfl) B.isi bt_isi (pa_cons (pv 0) (pa_cons (pe_bltn (v := .ty
      "ValueError") (by rfl) E.z_ValueError bt17_ValueError rfl) pa_nil)))
      (pa_cons (pe_callB call_isV (by rfl) B.isi bt_isi (pa_cons (pv 0) (pa_cons
      (pe_bltn (v := .ty "LookupError") (by rfl) E.z_LookupError
      bt17_LookupError rfl) pa_nil))) (pa_cons (pe_callB call_isV (by rfl) B.isi
      bt_isi (pa_cons (pv 0) (pa_cons (pe_bltn (v := .ty "RuntimeError")
      (by rfl) E.z_RuntimeError bt17_RuntimeError rfl) pa_nil))) pa_nil)))))
      (C8.pss_cut (ps_set (i := 1) nd rfl (.inl rfl) (pe_op op_cat (pv 1)
      (pe_lst (pa_cons (pe_callB call_isV (by rfl) B.isi bt_isi (pa_cons (pv 0)
      (pa_cons (pe_bltn (v := .ty "ArithmeticError") (by rfl)
      E.z_ArithmeticError bt17_ArithmeticError rfl) pa_nil))) (pa_cons (pe_callB
      call_isV (by rfl) B.isi bt_isi (pa_cons (pv 0) (pa_cons (pe_bltn (v := .ty
      "KeyError") (by rfl) E.z_KeyError bt17_KeyError rfl) pa_nil))) (pa_cons
      (pe_callB call_isV (by rfl) B.isi bt_isi (pa_cons (pv 0) (pa_cons (pe_bltn
      (v := .ty "IndexError") (by rfl) E.z_IndexError bt17_IndexError rfl)
      pa_nil))) pa_nil)))))) (pss_one (ps_ret (pe_lc (own := [("_law_k", 2),
      ("_law_kind", 3)]) (g := gTup K 2 (gCons (gName 2) (gCons (gName 3)
      gNil))) rfl nd (pi_enum (by rfl) B.enum (pa_cons (pe_op op_cat (pv 1)
      (pe_lst (pa_cons (pe_callB call_isV (by rfl) B.isi bt_isi (pa_cons (pv 0)
      (pa_cons (pe_bltn (v := .ty "OverflowError") (by rfl) E.z_OverflowError
      bt17_OverflowError rfl) pa_nil))) (pa_cons (pe_callB call_isV (by rfl)
      B.isi bt_isi (pa_cons (pv 0) (pa_cons (pe_bltn (v := .ty "TypeError")
      (by rfl) E.z_TypeError bt17_TypeError rfl) pa_nil))) pa_nil)))) pa_nil))
      (blkOk_by (N := N_Lbases) (sc := defScope s_Lbases) (by decide +kernel))
      (fun _ _ _ _ _ => pg_tup rfl (pgs_cons (pg_name (i := 2) nd rfl (Or.inl
      rfl)) (pgs_cons (pg_name (i := 3) nd rfl (Or.inl rfl)) pgs_nil))) (fun _ _
      _ _ _ => pts_one (pt_val (pv 3))) (fun _ _ _ _ _ => (pv 2))))))), ?_⟩
  refine ⟨fun σ' H' => ∃ l, H' l = some (.lst (kbs (bv i) 3)) ∧ Same H H' ∧ σ' = [some (.ref a), some (.ref l), none, none], ?_, ?_⟩
  · refine ⟨_, rfl, a, c i, _, _, _, E.val i x.1, x.2, rfl, .ty _, E.bas i 0 x.1 (by decide), ?_⟩
    refine ⟨_, rfl, a, c i, _, _, _, E.val i x.1, x.2, rfl, .ty _, E.bas i 1 x.1 (by decide), ?_⟩
    refine ⟨_, rfl, a, c i, _, _, _, E.val i x.1, x.2, rfl, .ty _, E.bas i 2 x.1 (by decide), ?_⟩
    refine ⟨sz (by simp), fun t nt => ?_⟩
    have z2 := sameNew (o := .lst [V.bl (bv i 0), V.bl (bv i 1), V.bl (bv i 2)]) nt
    have ht : (upd H t (.lst [V.bl (bv i 0), V.bl (bv i 1), V.bl (bv i 2)])) t = some (.lst [V.bl (bv i 0), V.bl (bv i 1), V.bl (bv i 2)]) := upd_same
    generalize upd H t (.lst [V.bl (bv i 0), V.bl (bv i 1), V.bl (bv i 2)]) = H2 at z2 ht ⊢
    exact ⟨t, ht, z2, rfl⟩
  rintro _ H1 ⟨l, hl, s1, rfl⟩
  have x1 := x.same s1
  refine ⟨fun σ' H' => ∃ l, H' l = some (.lst (kbs (bv i) 6)) ∧ Same H H' ∧ σ' = [some (.ref a), some (.ref l), none, none], ?_, ?_⟩
  · refine ⟨_, rfl, ?_⟩
    refine ⟨_, rfl, a, c i, _, _, _, E.val i x1.1, x1.2, rfl, .ty _, E.bas i 3 x1.1 (by decide), ?_⟩
    refine ⟨_, rfl, a, c i, _, _, _, E.val i x1.1, x1.2, rfl, .ty _, E.bas i 4 x1.1 (by decide), ?_⟩
    refine ⟨_, rfl, a, c i, _, _, _, E.val i x1.1, x1.2, rfl, .ty _, E.bas i 5 x1.1 (by decide), ?_⟩
    refine ⟨sz (by simp), fun t nt => ?_⟩
    have z2 := sameNew (o := .lst [V.bl (bv i 3), V.bl (bv i 4), V.bl (bv i 5)]) nt
    have ht : (upd H1 t (.lst [V.bl (bv i 3), V.bl (bv i 4), V.bl (bv i 5)])) t = some (.lst [V.bl (bv i 3), V.bl (bv i 4), V.bl (bv i 5)]) := upd_same
    generalize upd H1 t (.lst [V.bl (bv i 3), V.bl (bv i 4), V.bl (bv i 5)]) = H2 at z2 ht ⊢
    refine ⟨l, t, _, _, rfl, rfl, z2 _ _ hl, ht, sz (by rw [kbs_len]; show 3 + 3 ≤ _; omega), fun u nu => ?_⟩
    have z3 := sameNew (o := .lst (kbs (bv i) 3 ++ [V.bl (bv i 3), V.bl (bv i 4), V.bl (bv i 5)])) nu
    have hu : (upd H2 u (.lst (kbs (bv i) 3 ++ [V.bl (bv i 3), V.bl (bv i 4), V.bl (bv i 5)]))) u = some (.lst (kbs (bv i) 3 ++ [V.bl (bv i 3), V.bl (bv i 4), V.bl (bv i 5)])) := upd_same
    generalize upd H2 u (.lst (kbs (bv i) 3 ++ [V.bl (bv i 3), V.bl (bv i 4), V.bl (bv i 5)])) = H3 at z3 hu ⊢
    rw [kbs_3] at hu
    exact ⟨u, hu, s1.trans (z2.trans z3), rfl⟩
  clear hl
  rintro _ H1 ⟨l, hl, s1', rfl⟩
  have s1 := s1'
  clear s1'
  have x1 := x.same s1
  refine ⟨_, rfl, ?_⟩
  refine ⟨_, rfl, a, c i, _, _, _, E.val i x1.1, x1.2, rfl, .ty _, E.bas i 6 x1.1 (by decide), ?_⟩
  refine ⟨_, rfl, a, c i, _, _, _, E.val i x1.1, x1.2, rfl, .ty _, E.bas i 7 x1.1 (by decide), ?_⟩
  refine ⟨sz (by simp), fun t nt => ?_⟩
  have z2 := sameNew (o := .lst [V.bl (bv i 6), V.bl (bv i 7)]) nt
  have ht : (upd H1 t (.lst [V.bl (bv i 6), V.bl (bv i 7)])) t = some (.lst [V.bl (bv i 6), V.bl (bv i 7)]) := upd_same
  generalize upd H1 t (.lst [V.bl (bv i 6), V.bl (bv i 7)]) = H2 at z2 ht ⊢
  refine ⟨l, t, _, _, rfl, rfl, z2 _ _ hl, ht, sz (by rw [kbs_len]; show 6 + 2 ≤ _; omega), fun u nu => ?_⟩
  have z3 := sameNew (o := .lst (kbs (bv i) 6 ++ [V.bl (bv i 6), V.bl (bv i 7)])) nu
  have hu : (upd H2 u (.lst (kbs (bv i) 6 ++ [V.bl (bv i 6), V.bl (bv i 7)]))) u = some (.lst (kbs (bv i) 6 ++ [V.bl (bv i 6), V.bl (bv i 7)])) := upd_same
  generalize upd H2 u (.lst (kbs (bv i) 6 ++ [V.bl (bv i 6), V.bl (bv i 7)])) = H3 at z3 hu ⊢
  rw [kbs_2] at hu
  have s3 := s1.trans (z2.trans z3)
  refine ⟨u, _, rfl, SqL.of hu, fun D nD => ?_⟩
  refine lc_it (walk_enum (K := K) (a := u) (xs := kbs (bv i) 8))
    (fun n H' => H' D = some (.lst (vI (tix ((List.range 8).map (bv i)) n))) ∧ Same H3 H') ⟨upd_same, sameNew nD⟩
    (fun n H' _ z => SqL.of (z.2 _ _ hu)) ?_ ?_
  · rintro n v H4 H5 hi ⟨hD, s4⟩ ⟨T', x1, x2, rfl, nT, rfl, e1, e2⟩
    cases Option.some.inj e1
    obtain ⟨b, hb, rfl⟩ := kbs_at e2
    have zT := sameNew (o := .tup [.int (n : Nat), .bl b]) nT
    have hD5 := zT _ _ hD
    refine ⟨T', _, rfl, .inl (.inl upd_same), rfl, _, _, rfl, _, _, rfl, rfl, rfl, ?_⟩
    refine ⟨_, rfl, _, rfl, ?_⟩
    have lb := tix_le ((List.range 8).map (bv i)) n
    rw [tix_snoc hb]
    cases b with
    | false =>
      refine iteF ⟨?_, s4.trans zT⟩
      rw [if_neg nofun, List.append_nil]
      exact hD5
    | true =>
      refine iteT ⟨_, rfl, _, hD5, ?_, ?_, OM.Same.put (s4.trans zT) nD⟩
      · unfold vI
        rw [List.length_map]
        rw [kbs_len] at hi
        exact sz' (by omega)
      · rw [upd_same, if_pos rfl]
        unfold vI
        rw [List.map_append]
        rfl
  rintro H4 ⟨hD, s4⟩
  rw [kbs_len] at hD
  exact q D H4 (by
    cases e : H D with
    | none => rfl
    | some o => rw [s3 _ _ e] at nD; cases nD) hD (s3.trans s4)
end
end OM
namespace OM
open PySem PySem.Spec PyProof.Rows L2
/-- a draw, in one word -/
abbrev CalDr (P : Program) (w : World) (K : PySem.W.Frag)
    (mg : Str → Option Value) (base : Heap) (k : Nat) : Prop :=
  Cal P w K mg base k "_law_draw" ["_law_rng_here", "_law_many"] spDraw
/-- one of the options -/
def spChoice (K : PySem.W.Frag) : Sp := fun vs H Q _ =>
  ∃ (p a : Addr) (xs : List V), vs = [.ref p, .ref a] ∧ Rng H p ∧
  SqL K H a xs ∧ a ≠ p ∧ 0 < xs.length ∧ xs.length ≤ 1000 ∧
  ∀ (x : V) (H' : Hp), x ∈ xs → Rng H' p → But p H H' → Q x H'
section
variable {P : Program} {w : World} {K : PySem.W.Frag}
  {mg : Str → Option Value} {base : Heap}
theorem ok_choice {f : Addr} {fd : FuncData} {k : Nat}
    (F : Fun K "_law_choice" "_law_choice" s_Lchoice f fd) (B : Bl mg)
    (Cd : CalDr P w K mg base k) :
    FnOk P w K mg base CX0 (k + 1) f fd ["_law_rng_here", "_law_options"]
      (spChoice K) := by
  refine F.ok sc_Lchoice (fun vs H Q E h => ?_)
    (fun cv A outer s H vs Q E hr h => ?_)
  · obtain ⟨p, a, xs, rfl, _⟩ := h
    rfl
  obtain ⟨p, a, xs, rfl, rg, hS, nap, h0, h1, q⟩ := h
  refine ⟨_, pss_one (ps_ret (pe_ix ix_list (pv 1) (pe_cal Cd hr
    (pa_cons (pv 0) (pa_cons (pe_callB call_len_seq (by rfl) B.len
      PySem.boot_len (pa_cons (pv 1) pa_nil)) pa_nil))) (fun _ _ => rfl))), ?_⟩
  refine ⟨_, rfl, _, rfl, _, rfl, a, _, rfl, .inl hS, p, xs.length, rfl, rg,
    by omega, by omega, fun d H1 d0 d1 rg1 b1 => ?_⟩
  have hd : d.toNat < xs.length := by omega
  have ed : d = ((d.toNat : Nat) : Int) := by omega
  refine ⟨a, xs, d, xs[d.toNat], rfl, rfl, b1.seq hS nap, ?_,
    q _ H1 (List.getElem_mem hd) rg1 b1⟩
  have := atI_nat (List.getElem?_eq_getElem hd)
  rw [← ed] at this
  exact this
end
end OM
namespace OM
open PySem PySem.Spec PyProof.Rows L2
section
variable {X : Cx} {n : Nat} {f C : Addr} {fd : FuncData} {ps : List Str}
  {sp : Sp}
/-- a def runs at another depth of the same frame -/
theorem runAt {A : Around} {pins : List (Addr × Obj)} {σ : L2.St} {H : Hp}
    {s : Shared} {Q : VK} {us : List Value} {vs : List V}
    (F : FnG X.prog X.w X.K X.mg X.base CX0 n f fd ps sp)
    (room : Room n A) (gd : A.guards = some []) (fr : A.frames = X.A.frames)
    (hb : Binds X.K fd ps []) (I : Inv X pins σ H s) (r : Vals vs us)
    (h : sp vs H Q E0) :
    wpAny (model X.prog X.w) A (call (.ref f) us) (EP X pins σ Q) X.xe s := by
  have hl : us.length = ps.length := r.length.symm.trans (F.len _ _ _ _ h)
  have e0 : Env0 X.prog X.w X.K X.mg X.base A X.stack s H := by
    have e := I.env0
    exact ⟨by rw [fr]; exact e.frames, e.mod, e.bs, e.bsz, e.funs, e.frf,
      e.hok, e.bare⟩
  have bd : BindsTo s fd ⟨us, []⟩ (ps.zip us) := by
    have := hb s us I.kIn (by rw [List.append_nil]; exact hl)
    rw [List.append_nil] at this
    exact this
  refine wpAny_call (codeAny_mono (F.run A X.stack s H ⟨us, []⟩ us vs Q E0
    room gd e0 bd r h) ?_)
  intro r s' hq
  match r, hq with
  | .error e, hq => exact False.elim hq
  | .ok (.ret u), hq => exact I.after hq
  | .ok .next, hq => exact False.elim hq
  | .ok .brk, hq => exact False.elim hq
  | .ok .cont, hq => exact False.elim hq
/-- the same of a def that asks nothing of what is shown -/
theorem runAt0 {A : Around} {pins : List (Addr × Obj)} {σ : L2.St} {H : Hp}
    {s : Shared} {Q : VK} {us : List Value} {vs : List V}
    (F : FnOk X.prog X.w X.K X.mg X.base CX0 n f fd ps sp)
    (room : Room n A) (fr : A.frames = X.A.frames)
    (hb : Binds X.K fd ps []) (I : Inv X pins σ H s) (r : Vals vs us)
    (h : sp vs H Q E0) :
    wpAny (model X.prog X.w) A (call (.ref f) us) (EP X pins σ Q) X.xe s := by
  have hl : us.length = ps.length := r.length.symm.trans (F.len _ _ _ _ h)
  have e0 : Env0 X.prog X.w X.K X.mg X.base A X.stack s H := by
    have e := I.env0
    exact ⟨by rw [fr]; exact e.frames, e.mod, e.bs, e.bsz, e.funs, e.frf,
      e.hok, e.bare⟩
  have bd : BindsTo s fd ⟨us, []⟩ (ps.zip us) := by
    have := hb s us I.kIn (by rw [List.append_nil]; exact hl)
    rw [List.append_nil] at this
    exact this
  refine wpAny_call (codeAny_mono (F.run A X.stack s H ⟨us, []⟩ us vs Q E0
    room e0 bd r h) ?_)
  intro r s' hq
  match r, hq with
  | .error e, hq => exact False.elim hq
  | .ok (.ret u), hq => exact I.after hq
  | .ok .next, hq => exact False.elim hq
  | .ok .brk, hq => exact False.elim hq
  | .ok .cont, hq => exact False.elim hq
/-- an own method that the interpreter calls by itself -/
structure Spec1 (K : PySem.W.Frag) (C : Addr) (m : Str) (f : Addr)
    (fd : FuncData) (ps : List Str) : Prop where
  at_ : PySem.W.findIn K (.ref C) m = some (some (.ref f))
  fn : PySem.W.isFn K (.ref f) = true
  bd : Binds K fd ps []
/-- x == y, both of the class at C -/
def rEqOwn (C : Addr) (sp : Sp) : R2 := fun x y H Q =>
  ∃ a b dx dy fs gs, x = .ref a ∧ y = .ref b ∧
    H a = some (.ins C dx fs) ∧ H b = some (.ins C dy gs) ∧
    sp [.ref a, .ref b] H (fun v H' => ∃ r, v = .bl r ∧ Q (.bl r) H') E0
theorem op_eqOwn (S : Spec1 X.K C "__eq__" f fd ps)
    (F : FnOk X.prog X.w X.K X.mg X.base CX0 n f fd ps sp)
    (room : Room n X.A) : OpR X (compareOp .Eq) (rEqOwn C sp) := by
  intro pins s σ H x y v u Q I rx ry h
  obtain ⟨a, b, dx, dy, fs, gs, rfl, rfl, ha, hb, q⟩ := h
  cases rx
  cases ry
  obtain ⟨mA, J, _⟩ := ins_get I.hok ha
  obtain ⟨mB, J', _⟩ := ins_get I.hok hb
  obtain ⟨od, J, _⟩ := J.look
  obtain ⟨od', J', _⟩ := J'.look
  obtain ⟨m, hF⟩ := I.fr
  show wpAny _ X.A (richCompare .Eq (.ref a) (.ref b)) _ _ s
  refine PySem.W.cmp_K (op := .Eq) (tb := .ref C) room.units0 hF
    I.ok.mod.kin J J'.type (by simp [PySem.W.notFirst]) S.at_ S.fn ?_
  refine wpAny_mono (runAt0 F room rfl S.bd I (us := [.ref a, .ref b])
    (vs := [.ref a, .ref b])
    (.cons rfl (.cons rfl .nil)) q) ?_ (fun _ _ z => z)
  rintro z s' ⟨v, H', I', rv, r, rfl, q'⟩
  cases rv
  exact ⟨.bl r, H', I', rfl, q'⟩
/-- len(x) of the class at C -/
def rLenOwn (C : Addr) (sp : Sp) : List V → Hp → VK → Prop := fun xs H Q =>
  ∃ a dx fs, xs = [.ref a] ∧ H a = some (.ins C dx fs) ∧
    sp [.ref a] H (fun v H' => ∃ n : Nat, v = .int n ∧ n < 2 ^ 60 ∧
      Q (.int n) H') E0
theorem call_lenOwn (S : Spec1 X.K C "__len__" f fd ps)
    (F : FnOk X.prog X.w X.K X.mg X.base CX0 n f fd ps sp)
    (room : Room (n + 1) X.A) :
    CallR X (.builtin "len") (rLenOwn C sp) := by
  intro pins s σ H xs us Q I r h
  obtain ⟨a, dx, fs, rfl, ha, q⟩ := h
  cases r with
  | cons rv rn =>
    cases rn
    cases rv
    obtain ⟨mA, J, _⟩ := ins_get I.hok ha
    obtain ⟨od, J, _⟩ := J.look
    obtain ⟨m, hF⟩ := I.fr
    refine PySem.W.len_K hF I.ok.mod.kin J S.at_ S.fn ?_
    refine wpAny_mono (runAt0 (A := X.A.in1) F room.in1 rfl S.bd I
      (us := [.ref a]) (vs := [.ref a]) (.cons rfl .nil) q) ?_ (fun _ _ z => z)
    rintro z s' ⟨v, H', I', rv, k, rfl, hk, q'⟩
    obtain ⟨t, rfl⟩ := rv
    exact ⟨⟨by omega, by omega⟩, .int k, H', I'.tok _, ⟨_, rfl⟩, q'⟩
/-- repr(x) of the class at C -/
def rReprOwn (C : Addr) (sp : Sp) : List V → Hp → VK → Prop := fun xs H Q =>
  ∃ a dx fs, xs = [.ref a] ∧ H a = some (.ins C dx fs) ∧
    sp [.ref a] H (fun v H' => ∃ x : Str, v = .str x ∧ Q (.str x) H') E0
theorem call_reprOwn (S : Spec1 X.K C "__repr__" f fd ps)
    (F : FnG X.prog X.w X.K X.mg X.base CX0 n f fd ps sp)
    (room : Room (n + 1) X.A) (gd : X.A.guards = some []) :
    CallR X (.builtin "repr") (rReprOwn C sp) := by
  intro pins s σ H xs us Q I r h
  obtain ⟨a, dx, fs, rfl, ha, q⟩ := h
  cases r with
  | cons rv rn =>
    cases rn
    cases rv
    obtain ⟨mA, J, _⟩ := ins_get I.hok ha
    obtain ⟨od, J, _⟩ := J.look
    obtain ⟨m, hF⟩ := I.fr
    refine PySem.W.repr_K (by have := room.units; show X.A.units + 1 < _; omega) hF I.ok.mod.kin J S.at_ S.fn ?_
    refine wpAny_mono (runAt (A := X.A.in1) F room.in1 gd rfl S.bd I
      (us := [.ref a]) (vs := [.ref a]) (.cons rfl .nil) q) ?_ (fun _ _ z => z)
    rintro z s' ⟨v, H', I', rv, x, rfl, q'⟩
    obtain ⟨t, rfl⟩ := rv
    exact ⟨.str x, H', I', ⟨_, rfl⟩, q'⟩
/-- {x!r} of data -/
def tFmtD (K : PySem.W.Frag) (te : TE) : TE := fun σ H Q =>
  te σ H fun v H1 => ∃ a d, v = .ref a ∧ Dp K H1 v d ∧ d.showable = true ∧
    d.depth ≤ 60 ∧ d.shown.length ≤ sizeLine ∧ Q (.str d.shown) H1
theorem pe_fmtD {e : Expr} {te : TE} {pos : Pos} {k : Nat}
    (room : Room k X.A) (gd : X.A.guards = some []) (he : PE X e te) :
    PE X (.FormattedValue e 114 none pos) (tFmtD X.K te) := by
  constructor
  intro pins s σ H Q I h
  refine wpAny_FormattedValue_repr (thn (he.run pins s σ H _ I h) ?_)
  rintro v s1 ⟨x, H1, I1, r1, a, d, rfl, hd, sh, dp, sz, q⟩
  cases r1
  obtain ⟨as, rd⟩ := Dp.reads I1 d _ _ hd rfl
  have un := room.units
  refine pyReprObj_of_reads rd sh (PyData.noDict_hsm (Dp.noDict _ hd)) gd
    (by omega) (fun _ _ e => e) (fun h' u tk hk => ?_) sz
  exact wpAny_formatField_str ⟨.str _, H1, I1.kept hk, ⟨_, rfl⟩, q⟩
    ⟨.str _, H1, (I1.kept (t' := tk) hk).tok _, ⟨_, rfl⟩, q⟩ sz
end
end OM
namespace OM
open PySem PySem.Spec PyProof.Rows L2
/-! ### data with small dicts -/
mutual
inductive DX (H : Hp) : V → PyData → Prop
  | non : DX H .non .none
  | bl (b : Bool) : DX H (.bl b) (.bool b)
  | int (i : Int) : DX H (.int i) (.int i)
  | str (x : Str) : DX H (.str x) (.str x)
  | lst {a : Addr} {xs : List V} {ds : List PyData} :
      H a = some (.lst xs) → DXs H xs ds → DX H (.ref a) (.list ds)
  | tup {a : Addr} {xs : List V} {ds : List PyData} :
      H a = some (.tup xs) → DXs H xs ds → DX H (.ref a) (.tuple ds)
  | d0 {a : Addr} : H a = some (.dK []) → DX H (.ref a) (.dict [])
  | d1 {a : Addr} {x : Str} {v : V} {d : PyData} :
      H a = some (.dK [(Sum.inr x, v)]) → DX H v d →
      DX H (.ref a) (.dict [(.str x, d)])
inductive DXs (H : Hp) : List V → List PyData → Prop
  | nil : DXs H [] []
  | cons {v : V} {vs : List V} {d : PyData} {ds : List PyData} :
      DX H v d → DXs H vs ds → DXs H (v :: vs) (d :: ds)
end
mutual
theorem DX.same {H H' : Hp} (s : Same H H') : ∀ (d : PyData) (v : V),
    DX H v d → DX H' v d
  | .none, _, h => by cases h; exact .non
  | .bool b, _, h => by cases h; exact .bl b
  | .int i, _, h => by cases h; exact .int i
  | .str x, _, h => by cases h; exact .str x
  | .list ds, _, h => by
    cases h with
    | lst e t => exact .lst (s _ _ e) (DXs.same s ds _ t)
  | .tuple ds, _, h => by
    cases h with
    | tup e t => exact .tup (s _ _ e) (DXs.same s ds _ t)
  | .dict [], _, h => by
    cases h with
    | d0 e => exact .d0 (s _ _ e)
  | .dict [(k, d)], _, h => by
    cases h with
    | d1 e t => exact .d1 (s _ _ e) (DX.same s d _ t)
  | .dict (_ :: _ :: _), _, h => by cases h
theorem DXs.same {H H' : Hp} (s : Same H H') : ∀ (ds : List PyData)
    (vs : List V), DXs H vs ds → DXs H' vs ds
  | [], _, h => by cases h; exact .nil
  | d :: ds, _, h => by
    cases h with
    | cons a t => exact .cons (DX.same s d _ a) (DXs.same s ds _ t)
end
section
variable {X : Cx} {pins : List (Addr × Obj)} {σ : L2.St} {H : Hp} {s : Shared}
theorem dict_parts {a : Addr} {kvs : List (Key × V)} (I : Inv X pins σ H s)
    (e : H a = some (.dK kvs)) : ∃ o es n vs, s.heap.get? a = some o ∧
      o.cls = .type "dict" ∧ o.data = .dict es n ∧
      Pairs (mixKind X.prog X.w) es.toList vs ∧ KV kvs vs := by
  obtain ⟨_, _, vs, kv, o, es, ep, h1, h2, h3, _, h5, _⟩ := dk_of I.hok e
  exact ⟨o, es, ep, vs, h1, h2.1, h3, h5, kv⟩
theorem keyIs_inr {x : Str} {v : Value} (h : keyIs (.inr x) v = true) :
    ∃ t, v = .str x t := by
  rcases keyIs_shape h with ⟨i, t, e, _⟩ | ⟨y, t, e, e2⟩
  · cases e
  · cases e; exact ⟨t, e2⟩
mutual
theorem DX.reads (I : Inv X pins σ H s) (hs : H sysModules = none) :
    ∀ (d : PyData) (v : V) (u : Value), DX H v d → RelV v u →
      ∃ as, Reads s.heap u d as ∧ sysModules ∉ as
  | .none, _, _, h, r => by
    cases h; cases r; exact ⟨_, Reads.none, by simp⟩
  | .bool b, _, _, h, r => by
    cases h; cases r; exact ⟨_, Reads.bool b, by simp⟩
  | .int i, _, _, h, r => by
    cases h; obtain ⟨t, rfl⟩ := r; exact ⟨_, Reads.int i t, by simp⟩
  | .str x, _, _, h, r => by
    cases h; obtain ⟨t, rfl⟩ := r; exact ⟨_, Reads.str x t, by simp⟩
  | .list ds, _, _, h, r => by
    cases h with
    | lst e t =>
      cases r
      obtain ⟨_, its, n, rv, ho⟩ := I.hok _ _ e
      obtain ⟨as, q, nm⟩ := DXs.reads I hs ds _ its t rv
      refine ⟨_, Reads.list ho rfl rfl (by simpa using q), ?_⟩
      intro m
      rcases List.mem_cons.mp m with z | z
      · rw [z, e] at hs; cases hs
      · exact nm z
  | .tuple ds, _, _, h, r => by
    cases h with
    | tup e t =>
      cases r
      obtain ⟨_, its, rv, o, ho, hc, n, hd⟩ := I.hok _ _ e
      obtain ⟨as, q, nm⟩ := DXs.reads I hs ds _ its t rv
      exact ⟨_, Reads.tuple ho hc hd (by simpa using q), nm⟩
  | .dict [], _, _, h, r => by
    cases h with
    | d0 e =>
      cases r
      obtain ⟨o, es, n, vs, h1, h2, h3, h4, kv⟩ := dict_parts I e
      cases kv
      have ez : es.toList = [] := by cases hz : es.toList with
        | nil => rfl
        | cons a b => rw [hz] at h4; cases h4
      refine ⟨_, Reads.dict (kvs := []) h1 h2 h3 (by rw [ez]; exact .nil)
        (by rw [ez]; exact .nil), ?_⟩
      intro m
      rcases List.mem_cons.mp m with z | z
      · rw [z, e] at hs; cases hs
      · cases z
  | .dict [(k, d)], _, _, h, r => by
    cases h with
    | d1 e t =>
      cases r
      obtain ⟨o, es, n, vs, h1, h2, h3, h4, kv⟩ := dict_parts I e
      cases kv with
      | cons p q =>
        cases q
        cases ez : es.toList with
        | nil => rw [ez] at h4; cases h4
        | cons en er =>
          rw [ez] at h4
          cases h4 with
          | cons k1 v1 r1 =>
            cases r1
            obtain ⟨p1, p2⟩ := p
            obtain ⟨as, rd, nm⟩ := DX.reads I hs d _ _ t p2
            rw [← p1] at k1
            obtain ⟨tk, ek⟩ := keyIs_inr k1
            refine ⟨_, Reads.dict (kvs := [(_, d)]) h1 h2 h3 (as := [])
              (bs := as ++ []) ?_ ?_, ?_⟩
            · rw [ez]
              show ReadsAll _ [en.key] [_] ([] ++ [])
              rw [ek]
              exact .cons (.str _ _) .nil
            · rw [ez]
              show ReadsAll _ [en.val] [d] _
              rw [v1]
              exact .cons rd .nil
            · intro m
              rcases List.mem_cons.mp m with z | z
              · rw [z, e] at hs; cases hs
              · have z' : sysModules ∈ ([] : List Addr) ++ (as ++ []) := z
                rw [List.nil_append, List.append_nil] at z'
                exact nm z'
  | .dict (_ :: _ :: _), _, _, h, _ => by cases h
theorem DXs.reads (I : Inv X pins σ H s) (hs : H sysModules = none) :
    ∀ (ds : List PyData) (vs : List V) (us : List Value), DXs H vs ds →
      Vals vs us → ∃ as, ReadsAll s.heap us ds as ∧ sysModules ∉ as
  | [], _, _, h, r => by
    cases h; cases r; exact ⟨_, ReadsAll.nil, by simp⟩
  | d :: ds, _, _, h, r => by
    cases h with
    | cons h1 h2 =>
      cases r with
      | cons r1 r2 =>
        obtain ⟨as, q1, n1⟩ := DX.reads I hs d _ _ h1 r1
        obtain ⟨bs, q2, n2⟩ := DXs.reads I hs ds _ _ h2 r2
        exact ⟨_, ReadsAll.cons q1 q2, fun m => (List.mem_append.mp m).elim n1 n2⟩
end
/-- repr(x) of data with small dicts -/
def rReprX : List V → Hp → VK → Prop := fun xs H Q =>
  ∃ v d, xs = [v] ∧ DX H v d ∧ d.showable = true ∧ d.depth ≤ 60 ∧
    d.shown.length ≤ sizeLine ∧ Q (.str d.shown) H
theorem call_reprX {k : Nat} (room : Room k X.A)
    (gd : X.A.guards = some [])
    (sm : ∃ o, X.base.get? sysModules = some o) :
    CallR X (.builtin "repr") rReprX := by
  intro pins s σ H xs us Q I r h
  obtain ⟨v, d, rfl, hd, sh, dp, sz, q⟩ := h
  cases r with
  | cons rv rn =>
    cases rn
    rename_i u
    obtain ⟨o, ho⟩ := sm
    have hs : H sysModules = none := (I.env0.bs _ o ho).2
    obtain ⟨as, rd, nm⟩ := DX.reads I hs d v u hd rv
    have un := room.units
    have key : ∀ a : Addr, u = .ref a → wpAny (model X.prog X.w) X.A
        (call (.builtin "repr") [u]) (EP X pins σ Q) X.xe s := by
      rintro a rfl
      refine repr_of_reads' rd sh (fun _ => nm) gd (by omega) (fun _ _ e => e)
        (fun h' u tk hk => ?_) sz
      exact ⟨.str _, H, I.kept hk, ⟨_, rfl⟩, q⟩
    cases hd with
    | non =>
      cases rv
      exact PySem.P.repr_of_none ⟨.str _, H, I.tok _, ⟨_, rfl⟩, q⟩
    | bl b =>
      cases rv
      exact PySem.P.repr_of_bool ⟨.str _, H, I.tok _, ⟨_, rfl⟩, q⟩
    | int i =>
      obtain ⟨t, rfl⟩ := rv
      refine PySem.P.repr_of_int ?_ ⟨.str _, H, I.tok _, ⟨_, rfl⟩, q⟩
      simpa [PyData.showable] using sh
    | str x =>
      obtain ⟨t, rfl⟩ := rv
      exact PySem.P.repr_of_str ⟨.str _, H, I.tok _, ⟨_, rfl⟩, q⟩ sz
    | lst a b => cases rv; exact key _ rfl
    | tup a b => cases rv; exact key _ rfl
    | d0 a => cases rv; exact key _ rfl
    | d1 a b => cases rv; exact key _ rfl
end
end OM
namespace OM
open PySem PySem.Spec PyProof.Rows L2
/-! ### repr, also of a dict from texts to 1, also in an except suite -/
def ones (ls : List (List Nat)) : List (Key × V) :=
  ls.map fun l => (Sum.inr (SX.S l), V.int 1)
def onesD (ls : List (List Nat)) : List (PyData × PyData) :=
  ls.map fun l => (.str (SX.S l), .int 1)
def DY (H : Hp) (v : V) (d : PyData) : Prop :=
  DX H v d ∨ ∃ (a : Addr) (ls : List (List Nat)), v = .ref a ∧
    H a = some (.dK (ones ls)) ∧ d = .dict (onesD ls)
mutual
theorem DX.ext {H H' : Hp} (s : LamX.ExtN H H') : ∀ (d : PyData) (v : V),
    DX H v d → DX H' v d
  | .none, _, h => by cases h; exact .non
  | .bool b, _, h => by cases h; exact .bl b
  | .int i, _, h => by cases h; exact .int i
  | .str x, _, h => by cases h; exact .str x
  | .list ds, _, h => by
    cases h with
    | lst e t => exact .lst (s _ _ e nofun) (DXs.ext s ds _ t)
  | .tuple ds, _, h => by
    cases h with
    | tup e t => exact .tup (s _ _ e nofun) (DXs.ext s ds _ t)
  | .dict [], _, h => by
    cases h with
    | d0 e => exact .d0 (s _ _ e nofun)
  | .dict [(k, d)], _, h => by
    cases h with
    | d1 e t => exact .d1 (s _ _ e nofun) (DX.ext s d _ t)
  | .dict (_ :: _ :: _), _, h => by cases h
theorem DXs.ext {H H' : Hp} (s : LamX.ExtN H H') : ∀ (ds : List PyData)
    (vs : List V), DXs H vs ds → DXs H' vs ds
  | [], _, h => by cases h; exact .nil
  | d :: ds, _, h => by
    cases h with
    | cons a t => exact .cons (DX.ext s d _ a) (DXs.ext s ds _ t)
end
theorem DY.ext {H H' : Hp} {v : V} {d : PyData} (h : DY H v d)
    (s : LamX.ExtN H H') : DY H' v d := by
  rcases h with h | ⟨a, ls, rfl, e, rfl⟩
  · exact .inl (DX.ext s d v h)
  · exact .inr ⟨a, ls, rfl, s _ _ e nofun, rfl⟩
theorem DY.same {H H' : Hp} {v : V} {d : PyData} (h : DY H v d)
    (s : Same H H') : DY H' v d := h.ext (LamX.ExtN.of s)
section
variable {X : Cx} {pins : List (Addr × Obj)} {σ : L2.St} {H : Hp} {s : Shared}
theorem ones_reads {h : Heap} {P : Program} {w : World} :
    ∀ (ls : List (List Nat)) (es : List DictEntry) (vs : List (Key × Value)),
    Pairs (mixKind P w) es vs → KV (ones ls) vs →
    ReadsAll h (es.map (·.key)) ((onesD ls).map (·.1)) [] ∧
    ReadsAll h (es.map (·.val)) ((onesD ls).map (·.2)) []
  | [], es, vs, p, k => by
    cases k
    cases p
    exact ⟨.nil, .nil⟩
  | l :: ls, es, vs, p, k => by
    cases k with
    | cons k1 k2 =>
      cases p with
      | cons p1 p2 p3 =>
        obtain ⟨a, b⟩ := ones_reads ls _ _ p3 k2
        obtain ⟨q1, q2⟩ := k1
        rw [← q1] at p1
        obtain ⟨tk, ek⟩ := keyIs_inr p1
        obtain ⟨ti, ei⟩ := q2
        refine ⟨?_, ?_⟩
        · rw [List.map_cons, ek]
          exact ReadsAll.cons (as := []) (bs := []) (.str _ _) a
        · rw [List.map_cons, p2, ei]
          exact ReadsAll.cons (as := []) (bs := []) (.int _ _) b
def rReprY : List V → Hp → VK → Prop := fun xs H Q =>
  ∃ v d, xs = [v] ∧ DY H v d ∧ d.showable = true ∧ d.depth ≤ 60 ∧
    d.shown.length ≤ sizeLine ∧ Q (.str d.shown) H
theorem call_reprY (un : X.A.units + 64 < cLine)
    (gd : X.A.guards = some [])
    (sm : ∃ o, X.base.get? sysModules = some o) :
    CallR X (.builtin "repr") rReprY := by
  intro pins s σ H xs us Q I r h
  obtain ⟨v, d, rfl, hd, sh, dp, sz, q⟩ := h
  cases r with
  | cons rv rn =>
    cases rn
    rename_i u
    obtain ⟨o, ho⟩ := sm
    have hs : H sysModules = none := (I.env0.bs _ o ho).2
    have key : ∀ (a : Addr) (as : List Addr), u = .ref a →
        Reads s.heap u d as → sysModules ∉ as →
        wpAny (model X.prog X.w) X.A
        (call (.builtin "repr") [u]) (EP X pins σ Q) X.xe s := by
      rintro a as rfl rd nm
      refine repr_of_reads' rd sh (fun _ => nm) gd (by omega) (fun _ _ e => e)
        (fun h' u tk hk => ?_) sz
      exact ⟨.str _, H, I.kept hk, ⟨_, rfl⟩, q⟩
    rcases hd with hd | ⟨a, ls, rfl, e, rfl⟩
    · obtain ⟨as, rd, nm⟩ := DX.reads I hs d v u hd rv
      cases hd with
      | non =>
        cases rv
        exact PySem.P.repr_of_none ⟨.str _, H, I.tok _, ⟨_, rfl⟩, q⟩
      | bl b =>
        cases rv
        exact PySem.P.repr_of_bool ⟨.str _, H, I.tok _, ⟨_, rfl⟩, q⟩
      | int i =>
        obtain ⟨t, rfl⟩ := rv
        refine PySem.P.repr_of_int ?_ ⟨.str _, H, I.tok _, ⟨_, rfl⟩, q⟩
        simpa [PyData.showable] using sh
      | str x =>
        obtain ⟨t, rfl⟩ := rv
        exact PySem.P.repr_of_str ⟨.str _, H, I.tok _, ⟨_, rfl⟩, q⟩ sz
      | lst a b => cases rv; exact key _ _ rfl rd nm
      | tup a b => cases rv; exact key _ _ rfl rd nm
      | d0 a => cases rv; exact key _ _ rfl rd nm
      | d1 a b => cases rv; exact key _ _ rfl rd nm
    · cases rv
      obtain ⟨o2, es, n, vs, h1, h2, h3, h4, kv⟩ := dict_parts I e
      obtain ⟨r1, r2⟩ := ones_reads (h := s.heap) ls es.toList vs h4 kv
      refine key a _ rfl (Reads.dict h1 h2 h3 r1 r2) fun m => ?_
      rcases List.mem_cons.mp m with z | z
      · rw [z, e] at hs
        cases hs
      · cases z
end
end OM
namespace OM
open PySem PySem.Spec PyProof.Rows L2
abbrev dN (ls : List (List Nat)) : List PyData := ls.map fun l => .str (SX.S l)
theorem dpAll_N {K : PySem.W.Frag} {H : Hp} : ∀ ls : List (List Nat),
    DpAll K H (ls.map vS) (dN ls)
  | [] => .nil
  | l :: r => .cons (.str _) (dpAll_N r)
theorem dp_N {K : PySem.W.Frag} {H : Hp} {a : Addr} {ls : List (List Nat)}
    (h : SqL K H a (ls.map vS)) : Dp K H (.ref a) (.list (dN ls)) :=
  .lst h (dpAll_N ls)
theorem eqv_N : ∀ ls ms : List (List Nat),
    PyData.eqvAll (dN ls) (dN ms) = decide (ls = ms)
  | [], [] => by simp [PyData.eqvAll]
  | [], m :: ms => by simp [PyData.eqvAll]
  | l :: ls, [] => by simp [PyData.eqvAll]
  | l :: ls, m :: ms => by
    have ih := eqv_N ls ms
    show (PyData.eqv (.str (SX.S l)) (.str (SX.S m)) &&
      PyData.eqvAll (dN ls) (dN ms)) = _
    rw [ih]
    unfold PyData.eqv
    rw [SX.S_beq_eq]
    by_cases e : l = m
    · subst e
      simp
    · have : ¬ (l :: ls = m :: ms) := fun z => e (List.cons.inj z).1
      rw [decide_eq_false e, decide_eq_false this]
      rfl
theorem eqv_L (ls ms : List (List Nat)) :
    PyData.eqv (.list (dN ls)) (.list (dN ms)) = decide (ls = ms) := by
  rw [show PyData.eqv (.list (dN ls)) (.list (dN ms)) =
    PyData.eqvAll (dN ls) (dN ms) by simp only [PyData.eqv]]
  exact eqv_N ls ms
/-- texts of Unicode's codes -/
def Uni (ls : List (List Nat)) : Prop := ∀ l ∈ ls, ∀ c ∈ l, c < 1114112
theorem lay_N : ∀ ls : List (List Nat), Uni ls →
    PyData.canLayAll0 (dN ls) = true
  | [], _ => by simp [PyData.canLayAll0]
  | l :: ls, h => by
    have ih := lay_N ls fun x hx => h x (List.mem_cons_of_mem _ hx)
    have ok : PyData.strOk (SX.S l) = true := by
      unfold PyData.strOk
      rw [Array.all_eq_true]
      intro i hi
      have := h l List.mem_cons_self l.toArray[i] (by simp)
      exact decide_eq_true this
    show PyData.canLayAll0 (.str (SX.S l) :: dN ls) = true
    simp only [PyData.canLayAll0, PyData.canLay0, ih, ok, Bool.and_self]
theorem depth_N : ∀ ls : List (List Nat), PyData.depthAll (dN ls) ≤ 1
  | [] => by simp [PyData.depthAll]
  | l :: ls => by
    have ih := depth_N ls
    show PyData.depthAll (.str (SX.S l) :: dN ls) ≤ 1
    simp only [PyData.depthAll, PyData.depth]
    omega
theorem depth_L (ls : List (List Nat)) : (PyData.list (dN ls)).depth ≤ 2 := by
  simp only [PyData.depth]
  have := depth_N ls
  omega
theorem shaped_L {ls : List (List Nat)} (h : Uni ls) :
    SeqAt.shaped (.list (dN ls)) = true := by
  unfold SeqAt.shaped
  rw [show PyData.canLay0 (.list (dN ls)) = PyData.canLayAll0 (dN ls) by
    simp only [PyData.canLay0], lay_N ls h]
  have := depth_L ls
  exact decide_eq_true (by omega)
theorem showable_N : ∀ ls : List (List Nat), PyData.showableAll (dN ls) = true
  | [] => by simp [PyData.showableAll]
  | l :: ls => by
    have ih := showable_N ls
    show PyData.showableAll (.str (SX.S l) :: dN ls) = true
    simp only [PyData.showableAll, PyData.showable, ih, Bool.and_self]
theorem showable_L (ls : List (List Nat)) :
    (PyData.list (dN ls)).showable = true := by
  simp only [PyData.showable]
  exact showable_N ls
/-- short lists of short texts are shown shortly -/
theorem piled_N : ∀ (ls : List (List Nat)) (m : Nat),
    (∀ l ∈ ls, l.length ≤ m ∧ ∀ c ∈ l, c < 1114112) →
    piled (PyData.shownAll (dN ls)) ≤ ls.length * (10 * m + 4)
  | [], _, _ => by
    show piled (PyData.shownAll []) ≤ _
    simp only [PyData.shownAll]
    exact Nat.zero_le _
  | l :: ls, m, h => by
    have ih := piled_N ls m fun x hx => h x (List.mem_cons_of_mem _ hx)
    obtain ⟨h1, h2⟩ := h l List.mem_cons_self
    have h3 := StrLaws.reprText_len (SX.S l) (fun c hc => Nat.lt_of_lt_of_le
      (h2 c hc) (by decide))
    have h4 : (SX.S l).length = l.length := SX.S_len l
    have h5 : (reprText (SX.S l)).length ≤ 10 * m + 2 := by
      refine Nat.le_trans h3 ?_
      rw [h4]
      omega
    show piled (PyData.shownAll (.str (SX.S l) :: dN ls)) ≤ _
    simp only [PyData.shownAll, PyData.shown]
    rw [piled_cons, List.length_cons, Nat.add_mul]
    omega
theorem shown_L {ls : List (List Nat)} {m : Nat} (hn : ls.length ≤ 1000)
    (hm : m ≤ 1000) (h : ∀ l ∈ ls, l.length ≤ m ∧ ∀ c ∈ l, c < 1114112) :
    (PyData.list (dN ls)).shown.length ≤ sizeLine := by
  have p := piled_N ls m h
  have e : (PyData.list (dN ls)).shown =
      listText (PyData.shownAll (dN ls)) := by simp only [PyData.shown]
  rw [e]
  have q := listText_len_le (PyData.shownAll (dN ls))
  have r : ((PyData.shownAll (dN ls)).map (·.length)).sum +
      2 * (PyData.shownAll (dN ls)).length =
      piled (PyData.shownAll (dN ls)) := by
    generalize PyData.shownAll (dN ls) = ts
    induction ts with
    | nil => rfl
    | cons t ts ih =>
      rw [piled_cons, List.map_cons, List.sum_cons, List.length_cons]
      omega
  have s : ls.length * (10 * m + 4) ≤ 1000 * 10004 :=
    Nat.mul_le_mul hn (by omega)
  refine Nat.le_trans (show _ ≤ 10004003 by omega) (by decide)
end OM
namespace OM
open PySem PySem.Spec PyProof.Rows L2
/-- what a comprehension walks, whatever its turn does -/
theorem walkW {J : It} {n : Nat} {G : Hp → Prop}
    {Y : Nat → Hp → V → Hp → Prop} (wk : Walk J n G Y) {H0 : Hp}
    {Qd : Hp → Prop} {body : V → Hp → (Hp → Prop) → Prop}
    (Pv : Nat → Hp → Prop) (h0 : Pv 0 H0) (hG : ∀ i H, i ≤ n → Pv i H → G H)
    (hs : ∀ i x H H', i < n → Pv i H → Y i H x H' → body x H' (Pv (i + 1)))
    (hd : ∀ H, Pv n H → Qd H) :
    ∃ W : Nat → Nat → Hp → Prop, (∃ m, W 0 m H0) ∧
      ∀ i m H, W i m H → (J.stop i H ∧ Qd H) ∨ (J.go i H ∧
        ∃ Nx : Hp → Prop, (∀ H', Nx H' → ∃ m', m' < m ∧ W (i + 1) m' H') ∧
        ∀ x H', J.yld i H x H' → body x H' Nx) := by
  refine ⟨fun i m H => m + i = n ∧ Pv i H, ⟨n, rfl, h0⟩, ?_⟩
  rintro i m H ⟨e, p⟩
  have q := hG i H (by omega) p
  rcases Nat.lt_or_ge i n with lt | ge
  · exact .inr ⟨wk.goes i H lt q, Pv (i + 1),
      fun H' p' => ⟨m - 1, by omega, by omega, p'⟩,
      fun x H' y => hs i x H H' lt p (wk.yields i H x H' lt q y)⟩
  · have e' : i = n := by omega
    subst e'
    exact .inl ⟨wk.stops H q, hd H p⟩
/-! ### pairs of names -/
abbrev Pr := List Nat × List Nat
abbrev vT (p : Pr) : List V := [vS p.1, vS p.2]
def PrsAt (H : Hp) (rs : List Addr) (ps : List Pr) : Prop :=
  Paired (fun r p => H r = some (.tup (vT p))) rs ps
theorem PrsAt.same {H H' : Hp} : ∀ {rs : List Addr} {ps : List Pr},
    PrsAt H rs ps → Same H H' → PrsAt H' rs ps
  | _, _, .nil, _ => .nil
  | _, _, .cons h t, s => .cons (s _ _ h) (PrsAt.same t s)
theorem PrsAt.snoc {H : Hp} {r : Addr} {p : Pr} (h : H r = some (.tup (vT p))) :
    ∀ {rs : List Addr} {ps : List Pr}, PrsAt H rs ps →
      PrsAt H (rs ++ [r]) (ps ++ [p])
  | _, _, .nil => .cons h .nil
  | _, _, .cons a t => .cons a (PrsAt.snoc h t)
theorem PrsAt.app {H : Hp} {qs : List Addr} {us : List Pr}
    (h : PrsAt H qs us) : ∀ {rs : List Addr} {ps : List Pr}, PrsAt H rs ps →
      PrsAt H (rs ++ qs) (ps ++ us)
  | _, _, .nil => h
  | _, _, .cons a t => .cons a (PrsAt.app h t)
theorem PrsAt.len {H : Hp} : ∀ {rs : List Addr} {ps : List Pr},
    PrsAt H rs ps → rs.length = ps.length
  | _, _, .nil => rfl
  | _, _, .cons _ t => congrArg (· + 1) (PrsAt.len t)
abbrev dT (p : Pr) : PyData := .tuple [.str (SX.S p.1), .str (SX.S p.2)]
abbrev dP (ps : List Pr) : List PyData := ps.map dT
theorem dp_T {K : PySem.W.Frag} {H : Hp} {r : Addr} {p : Pr}
    (h : H r = some (.tup (vT p))) : Dp K H (.ref r) (dT p) :=
  .tup (SqT.of h) (.cons (.str _) (.cons (.str _) .nil))
theorem dpAll_P {K : PySem.W.Frag} {H : Hp} : ∀ {rs : List Addr}
    {ps : List Pr}, PrsAt H rs ps → DpAll K H (rs.map V.ref) (dP ps)
  | _, _, .nil => .nil
  | _, _, .cons h t => .cons (dp_T h) (dpAll_P t)
theorem dp_P {K : PySem.W.Frag} {H : Hp} {a : Addr} {rs : List Addr}
    {ps : List Pr} (h : SqL K H a (rs.map V.ref)) (p : PrsAt H rs ps) :
    Dp K H (.ref a) (.list (dP ps)) := .lst h (dpAll_P p)
theorem eqv_T (p q : Pr) : PyData.eqv (dT p) (dT q) = decide (p = q) := by
  obtain ⟨a, b⟩ := p
  obtain ⟨c, d⟩ := q
  show PyData.eqv (.tuple [.str (SX.S a), .str (SX.S b)])
    (.tuple [.str (SX.S c), .str (SX.S d)]) = _
  simp only [PyData.eqv, PyData.eqvAll, SX.S_beq_eq, Bool.and_true]
  by_cases e : a = c
  · by_cases f : b = d
    · subst e; subst f; simp
    · simp [e, f]
  · simp [e]
theorem eqv_PA : ∀ ps qs : List Pr,
    PyData.eqvAll (dP ps) (dP qs) = decide (ps = qs)
  | [], [] => by simp [PyData.eqvAll]
  | [], m :: ms => by simp [PyData.eqvAll]
  | l :: ls, [] => by simp [PyData.eqvAll]
  | l :: ls, m :: ms => by
    have ih := eqv_PA ls ms
    show (PyData.eqv (dT l) (dT m) && PyData.eqvAll (dP ls) (dP ms)) = _
    rw [ih, eqv_T]
    by_cases e : l = m
    · subst e
      simp
    · have : ¬ (l :: ls = m :: ms) := fun z => e (List.cons.inj z).1
      rw [decide_eq_false e, decide_eq_false this]
      rfl
theorem eqv_P (ps qs : List Pr) :
    PyData.eqv (.list (dP ps)) (.list (dP qs)) = decide (ps = qs) := by
  rw [show PyData.eqv (.list (dP ps)) (.list (dP qs)) =
    PyData.eqvAll (dP ps) (dP qs) by simp only [PyData.eqv]]
  exact eqv_PA ps qs
theorem any_P (q : Pr) : ∀ ps : List Pr,
    ((dP ps).any fun z => PyData.eqv z (dT q)) = decide (q ∈ ps)
  | [] => by simp
  | p :: ps => by
    have ih := any_P q ps
    rw [show dP (p :: ps) = dT p :: dP ps from rfl, List.any_cons, ih, eqv_T]
    by_cases e : p = q
    · subst e
      simp
    · have ne : ¬ q = p := fun z => e z.symm
      simp [e, ne]
/-- names in pairs -/
def UniP (ps : List Pr) : Prop := ∀ p ∈ ps,
  (p.1.length ≤ 8 ∧ ∀ c ∈ p.1, c < 1114112) ∧
  (p.2.length ≤ 8 ∧ ∀ c ∈ p.2, c < 1114112)
theorem strOkS {l : List Nat} (h : ∀ c ∈ l, c < 1114112) :
    PyData.strOk (SX.S l) = true := by
  unfold PyData.strOk
  rw [Array.all_eq_true]
  intro i hi
  have := h l.toArray[i] (by simp)
  exact decide_eq_true this
theorem lay_T {p : Pr} (h1 : ∀ c ∈ p.1, c < 1114112)
    (h2 : ∀ c ∈ p.2, c < 1114112) : PyData.canLay0 (dT p) = true := by
  simp only [PyData.canLay0, PyData.canLayAll0, strOkS h1, strOkS h2,
    Bool.and_self]
theorem lay_P : ∀ ps : List Pr, UniP ps → PyData.canLayAll0 (dP ps) = true
  | [], _ => by simp [PyData.canLayAll0]
  | p :: ps, h => by
    have ih := lay_P ps fun x hx => h x (List.mem_cons_of_mem _ hx)
    have hp := h p List.mem_cons_self
    show PyData.canLayAll0 (dT p :: dP ps) = true
    rw [show PyData.canLayAll0 (dT p :: dP ps) =
      (PyData.canLay0 (dT p) && PyData.canLayAll0 (dP ps)) by
        simp only [PyData.canLayAll0], ih, lay_T hp.1.2 hp.2.2]
    rfl
theorem depth_T (p : Pr) : (dT p).depth ≤ 2 := by
  simp only [PyData.depth, PyData.depthAll]
  omega
theorem depth_PA : ∀ ps : List Pr, PyData.depthAll (dP ps) ≤ 2
  | [] => by simp [PyData.depthAll]
  | p :: ps => by
    have ih := depth_PA ps
    have h := depth_T p
    show PyData.depthAll (dT p :: dP ps) ≤ 2
    rw [show PyData.depthAll (dT p :: dP ps) =
      max (dT p).depth (PyData.depthAll (dP ps)) by
        simp only [PyData.depthAll]]
    omega
theorem depth_P (ps : List Pr) : (PyData.list (dP ps)).depth ≤ 3 := by
  rw [show (PyData.list (dP ps)).depth = PyData.depthAll (dP ps) + 1 by
    simp only [PyData.depth]]
  have := depth_PA ps
  omega
theorem shaped_T {p : Pr} (h1 : ∀ c ∈ p.1, c < 1114112)
    (h2 : ∀ c ∈ p.2, c < 1114112) : SeqAt.shaped (dT p) = true := by
  unfold SeqAt.shaped
  rw [lay_T h1 h2]
  have := depth_T p
  exact decide_eq_true (by omega)
theorem shaped_P {ps : List Pr} (h : UniP ps) :
    SeqAt.shaped (.list (dP ps)) = true := by
  unfold SeqAt.shaped
  rw [show PyData.canLay0 (.list (dP ps)) = PyData.canLayAll0 (dP ps) by
    simp only [PyData.canLay0], lay_P ps h]
  have := depth_P ps
  exact decide_eq_true (by omega)
theorem showable_P : ∀ ps : List Pr, PyData.showableAll (dP ps) = true
  | [] => by simp [PyData.showableAll]
  | p :: ps => by
    have ih := showable_P ps
    show PyData.showableAll (dT p :: dP ps) = true
    simp only [PyData.showableAll, PyData.showable, ih, Bool.and_self]
theorem showable_PL (ps : List Pr) : (PyData.list (dP ps)).showable = true := by
  rw [show (PyData.list (dP ps)).showable = PyData.showableAll (dP ps) by
    simp only [PyData.showable]]
  exact showable_P ps
theorem shown_T {p : Pr} (h1 : p.1.length ≤ 8 ∧ ∀ c ∈ p.1, c < 1114112)
    (h2 : p.2.length ≤ 8 ∧ ∀ c ∈ p.2, c < 1114112) :
    (dT p).shown.length ≤ 200 := by
  have e : (dT p).shown = tupleText [reprText (SX.S p.1),
    reprText (SX.S p.2)] := by simp only [PyData.shown, PyData.shownAll]
  rw [e]
  have t := fmt_text [reprText (SX.S p.1), reprText (SX.S p.2)]
  rw [piled_cons, piled_cons, piled_nil] at t
  have a := StrLaws.reprText_len (SX.S p.1) (fun c hc => Nat.lt_of_lt_of_le
    (h1.2 c hc) (by decide))
  have b := StrLaws.reprText_len (SX.S p.2) (fun c hc => Nat.lt_of_lt_of_le
    (h2.2 c hc) (by decide))
  have c : (SX.S p.1).length = p.1.length := SX.S_len _
  have d : (SX.S p.2).length = p.2.length := SX.S_len _
  rw [c] at a
  rw [d] at b
  omega
theorem shown_PA : ∀ (ps : List Pr), UniP ps →
    piled (PyData.shownAll (dP ps)) ≤ ps.length * 202
  | [], _ => by
    show piled (PyData.shownAll []) ≤ _
    simp only [PyData.shownAll]
    exact Nat.zero_le _
  | p :: ps, h => by
    have ih := shown_PA ps fun x hx => h x (List.mem_cons_of_mem _ hx)
    have hp := h p List.mem_cons_self
    have t := shown_T hp.1 hp.2
    show piled (PyData.shownAll (dT p :: dP ps)) ≤ _
    rw [show PyData.shownAll (dT p :: dP ps) =
      (dT p).shown :: PyData.shownAll (dP ps) by simp only [PyData.shownAll],
      piled_cons, List.length_cons, Nat.add_mul]
    omega
theorem shown_P {ps : List Pr} (h : UniP ps) (hn : ps.length ≤ 2000) :
    (PyData.list (dP ps)).shown.length ≤ sizeLine := by
  have p := shown_PA ps h
  have e : (PyData.list (dP ps)).shown =
      listText (PyData.shownAll (dP ps)) := by simp only [PyData.shown]
  rw [e]
  have q := listText_len_le (PyData.shownAll (dP ps))
  have r : ((PyData.shownAll (dP ps)).map (·.length)).sum +
      2 * (PyData.shownAll (dP ps)).length =
      piled (PyData.shownAll (dP ps)) := by
    generalize PyData.shownAll (dP ps) = ts
    induction ts with
    | nil => rfl
    | cons t ts ih =>
      rw [piled_cons, List.map_cons, List.sum_cons, List.length_cons]
      omega
  refine Nat.le_trans (show _ ≤ 404003 by omega) (by decide)
/-! ### the inverted pairs -/
def invF (os : List (List Nat)) (f : List Nat) (r : List (List Nat)) :
    List Pr :=
  (r.filter fun s => decide (os.idxOf s < os.idxOf f)).map fun s => (f, s)
def invTo (ls os : List (List Nat)) : Nat → List Pr
  | 0 => []
  | i + 1 => invTo ls os i ++ match ls[i]? with
    | some f => invF os f (ls.drop (i + 1))
    | none => []
def invAll (ls os : List (List Nat)) : List Pr := invTo ls os ls.length
theorem invF_mem {os : List (List Nat)} {f : List Nat} {r : List (List Nat)}
    {p : Pr} : p ∈ invF os f r ↔ p.1 = f ∧ p.2 ∈ r ∧
      os.idxOf p.2 < os.idxOf f := by
  unfold invF
  obtain ⟨a, b⟩ := p
  simp only [List.mem_map, List.mem_filter, decide_eq_true_eq, Prod.mk.injEq]
  constructor
  · rintro ⟨x, ⟨h1, h2⟩, rfl, rfl⟩
    exact ⟨rfl, h1, h2⟩
  · rintro ⟨rfl, h1, h2⟩
    exact ⟨b, ⟨h1, h2⟩, rfl, rfl⟩
theorem invTo_mem {ls os : List (List Nat)} {p : Pr} : ∀ {i : Nat},
    p ∈ invTo ls os i ↔ ∃ j < i, ls[j]? = some p.1 ∧ p.2 ∈ ls.drop (j + 1) ∧
      os.idxOf p.2 < os.idxOf p.1
  | 0 => by simp [invTo]
  | i + 1 => by
    have ih := invTo_mem (ls := ls) (os := os) (p := p) (i := i)
    show p ∈ invTo ls os i ++ _ ↔ _
    rw [List.mem_append, ih]
    constructor
    · rintro (⟨j, hj, h⟩ | h)
      · exact ⟨j, by omega, h⟩
      · cases e : ls[i]? with
        | none => rw [e] at h; cases h
        | some f =>
          rw [e] at h
          obtain ⟨h1, h2, h3⟩ := invF_mem.mp h
          exact ⟨i, by omega, by rw [h1]; exact e, h2, by rw [h1]; exact h3⟩
    · rintro ⟨j, hj, h1, h2, h3⟩
      by_cases e : j = i
      · subst e
        refine .inr ?_
        rw [h1]
        exact invF_mem.mpr ⟨rfl, h2, h3⟩
      · exact .inl ⟨j, by omega, h1, h2, h3⟩
theorem invF_len (os : List (List Nat)) (f : List Nat) (r : List (List Nat)) :
    (invF os f r).length ≤ r.length := by
  unfold invF
  rw [List.length_map]
  exact List.length_filter_le _ _
theorem invTo_len (ls os : List (List Nat)) : ∀ i, i ≤ ls.length →
    (invTo ls os i).length ≤ i * ls.length
  | 0, _ => Nat.zero_le _
  | i + 1, h => by
    have ih := invTo_len ls os i (by omega)
    show (invTo ls os i ++ _).length ≤ _
    rw [List.length_append, Nat.add_mul]
    have : (match ls[i]? with
      | some f => invF os f (ls.drop (i + 1))
      | none => []).length ≤ ls.length := by
      cases ls[i]? with
      | none => exact Nat.zero_le _
      | some f =>
        refine Nat.le_trans (invF_len _ _ _) ?_
        rw [List.length_drop]
        omega
    omega
end OM
namespace OM
open PySem PySem.Spec PyProof.Rows L2
/-! ### lists of lists of names -/
def OssAt (H : Hp) (rs : List Addr) (oss : List (List (List Nat))) : Prop :=
  Paired (fun r (os : List (List Nat)) => H r = some (.lst (os.map vS))) rs oss
theorem OssAt.same {H H' : Hp} : ∀ {rs : List Addr}
    {oss : List (List (List Nat))}, OssAt H rs oss → Same H H' → OssAt H' rs oss
  | _, _, .nil, _ => .nil
  | _, _, .cons h t, s => .cons (s _ _ h) (OssAt.same t s)
theorem OssAt.snoc {H : Hp} {r : Addr} {o : List (List Nat)}
    (h : H r = some (.lst (o.map vS))) :
    ∀ {rs : List Addr} {os : List (List (List Nat))}, OssAt H rs os →
      OssAt H (rs ++ [r]) (os ++ [o])
  | _, _, .nil => .cons h .nil
  | _, _, .cons a t => .cons a (OssAt.snoc h t)
theorem OssAt.app {H : Hp} {qs : List Addr} {us : List (List (List Nat))}
    (h : OssAt H qs us) : ∀ {rs : List Addr} {ps : List (List (List Nat))},
      OssAt H rs ps → OssAt H (rs ++ qs) (ps ++ us)
  | _, _, .nil => h
  | _, _, .cons a t => .cons a (OssAt.app h t)
theorem OssAt.len {H : Hp} : ∀ {rs : List Addr} {oss : List (List (List Nat))},
    OssAt H rs oss → rs.length = oss.length
  | _, _, .nil => rfl
  | _, _, .cons _ t => congrArg (· + 1) (OssAt.len t)
theorem OssAt.rd {H : Hp} : ∀ {rs : List Addr} {oss : List (List (List Nat))}
    {i : Nat} {r : Addr}, OssAt H rs oss → rs[i]? = some r →
    ∃ os, oss[i]? = some os ∧ H r = some (.lst (os.map vS))
  | _, _, _, _, .nil, h => by simp at h
  | _, _, 0, _, .cons a _, h => by cases h; exact ⟨_, rfl, a⟩
  | _, _, i + 1, _, .cons _ t, h => OssAt.rd (i := i) t h
theorem OssAt.keep {H H' : Hp} : ∀ {rs : List Addr}
    {os : List (List (List Nat))}, OssAt H rs os →
    (∀ r o, r ∈ rs → H r = some o → H' r = some o) → OssAt H' rs os
  | _, _, .nil, _ => .nil
  | _, _, .cons h t, s => .cons (s _ _ List.mem_cons_self h)
    (OssAt.keep t fun r o m => s r o (List.mem_cons_of_mem _ m))
/-- a list of names is no drawing state -/
theorem rng_no {H : Hp} {p r : Addr} {os : List (List Nat)} (g : Rng H p)
    (h : H r = some (.lst (os.map vS))) : r ≠ p := by
  obtain ⟨x, y, e, _⟩ := g
  rintro rfl
  rw [e] at h
  have h := HO.lst.inj (Option.some.inj h)
  cases os with
  | nil => cases h
  | cons o os => cases (List.cons.inj h).1
theorem OssAt.bu {H H' : Hp} {p : Addr} (g : Rng H p) (b : But p H H') :
    ∀ {rs : List Addr} {oss : List (List (List Nat))}, OssAt H rs oss →
      OssAt H' rs oss
  | _, _, .nil => .nil
  | _, _, .cons h t => .cons (b _ _ h (rng_no g h)) (OssAt.bu g b t)
/-! ### .. as data -/
abbrev dO (o : List (List Nat)) : PyData := .list (dN o)
abbrev dOs (os : List (List (List Nat))) : List PyData := os.map dO
theorem dpAll_O {K : PySem.W.Frag} {H : Hp} : ∀ {rs : List Addr}
    {os : List (List (List Nat))}, OssAt H rs os →
      DpAll K H (rs.map V.ref) (dOs os)
  | _, _, .nil => .nil
  | _, _, .cons h t => .cons (dp_N (SqL.of h)) (dpAll_O t)
theorem dp_Os {K : PySem.W.Frag} {H : Hp} {a : Addr} {rs : List Addr}
    {os : List (List (List Nat))} (h : SqL K H a (rs.map V.ref))
    (p : OssAt H rs os) : Dp K H (.ref a) (.list (dOs os)) := .lst h (dpAll_O p)
theorem eqv_OA : ∀ os ps : List (List (List Nat)),
    PyData.eqvAll (dOs os) (dOs ps) = decide (os = ps)
  | [], [] => by simp [PyData.eqvAll]
  | [], m :: ms => by simp [PyData.eqvAll]
  | l :: ls, [] => by simp [PyData.eqvAll]
  | l :: ls, m :: ms => by
    have ih := eqv_OA ls ms
    show (PyData.eqv (dO l) (dO m) && PyData.eqvAll (dOs ls) (dOs ms)) = _
    rw [ih, eqv_L]
    by_cases e : l = m
    · subst e
      simp
    · have : ¬ (l :: ls = m :: ms) := fun z => e (List.cons.inj z).1
      rw [decide_eq_false e, decide_eq_false this]
      rfl
theorem eqv_O (os ps : List (List (List Nat))) :
    PyData.eqv (.list (dOs os)) (.list (dOs ps)) = decide (os = ps) := by
  rw [show PyData.eqv (.list (dOs os)) (.list (dOs ps)) =
    PyData.eqvAll (dOs os) (dOs ps) by simp only [PyData.eqv]]
  exact eqv_OA os ps
theorem lay_Os : ∀ os : List (List (List Nat)), (∀ o ∈ os, Uni o) →
    PyData.canLayAll0 (dOs os) = true
  | [], _ => by simp [PyData.canLayAll0]
  | o :: os, h => by
    have ih := lay_Os os fun x hx => h x (List.mem_cons_of_mem _ hx)
    have hp := lay_N o (h o List.mem_cons_self)
    show PyData.canLayAll0 (dO o :: dOs os) = true
    rw [show PyData.canLayAll0 (dO o :: dOs os) =
      (PyData.canLay0 (dO o) && PyData.canLayAll0 (dOs os)) by
        simp only [PyData.canLayAll0], ih,
      show PyData.canLay0 (dO o) = PyData.canLayAll0 (dN o) by
        simp only [PyData.canLay0], hp]
    rfl
theorem depth_OA : ∀ os : List (List (List Nat)),
    PyData.depthAll (dOs os) ≤ 2
  | [] => by simp [PyData.depthAll]
  | o :: os => by
    have ih := depth_OA os
    have h : (dO o).depth ≤ 2 := depth_L o
    show PyData.depthAll (dO o :: dOs os) ≤ 2
    rw [show PyData.depthAll (dO o :: dOs os) =
      max (dO o).depth (PyData.depthAll (dOs os)) by
        simp only [PyData.depthAll]]
    omega
theorem depth_O (os : List (List (List Nat))) :
    (PyData.list (dOs os)).depth ≤ 3 := by
  rw [show (PyData.list (dOs os)).depth = PyData.depthAll (dOs os) + 1 by
    simp only [PyData.depth]]
  have := depth_OA os
  omega
theorem shaped_O {os : List (List (List Nat))} (h : ∀ o ∈ os, Uni o) :
    SeqAt.shaped (.list (dOs os)) = true := by
  unfold SeqAt.shaped
  rw [show PyData.canLay0 (.list (dOs os)) = PyData.canLayAll0 (dOs os) by
    simp only [PyData.canLay0], lay_Os os h]
  have := depth_O os
  exact decide_eq_true (by omega)
theorem showable_OA : ∀ os : List (List (List Nat)),
    PyData.showableAll (dOs os) = true
  | [] => by simp [PyData.showableAll]
  | o :: os => by
    have ih := showable_OA os
    have h : (dO o).showable = true := showable_L o
    show PyData.showableAll (dO o :: dOs os) = true
    rw [show PyData.showableAll (dO o :: dOs os) =
      ((dO o).showable && PyData.showableAll (dOs os)) by
        simp only [PyData.showableAll], ih, h]
    rfl
theorem showable_O (os : List (List (List Nat))) :
    (PyData.list (dOs os)).showable = true := by
  rw [show (PyData.list (dOs os)).showable = PyData.showableAll (dOs os) by
    simp only [PyData.showable]]
  exact showable_OA os
theorem sum_piled (ts : List Str) : (ts.map (·.length)).sum + 2 * ts.length =
    piled ts := by
  induction ts with
  | nil => rfl
  | cons t ts ih =>
    rw [piled_cons, List.map_cons, List.sum_cons, List.length_cons]
    omega
/-- short names -/
def Short (ls : List (List Nat)) : Prop :=
  ls.length ≤ 40 ∧ ∀ l ∈ ls, l.length ≤ 8 ∧ ∀ c ∈ l, c < 1114112
theorem Short.uni {ls : List (List Nat)} (h : Short ls) : Uni ls :=
  fun l hl => (h.2 l hl).2
theorem shown_O1 {ls : List (List Nat)} (h : Short ls) :
    (dO ls).shown.length ≤ 3400 := by
  have p := piled_N ls 8 h.2
  have e : (PyData.list (dN ls)).shown =
      listText (PyData.shownAll (dN ls)) := by simp only [PyData.shown]
  show (PyData.list (dN ls)).shown.length ≤ _
  rw [e]
  have q := listText_len_le (PyData.shownAll (dN ls))
  have r := sum_piled (PyData.shownAll (dN ls))
  have l := h.1
  omega
theorem shown_OA : ∀ os : List (List (List Nat)), (∀ o ∈ os, Short o) →
    piled (PyData.shownAll (dOs os)) ≤ os.length * 3402
  | [], _ => by
    show piled (PyData.shownAll []) ≤ _
    simp only [PyData.shownAll]
    exact Nat.zero_le _
  | o :: os, h => by
    have ih := shown_OA os fun x hx => h x (List.mem_cons_of_mem _ hx)
    have hp := shown_O1 (h o List.mem_cons_self)
    show piled (PyData.shownAll (dO o :: dOs os)) ≤ _
    rw [show PyData.shownAll (dO o :: dOs os) =
      (dO o).shown :: PyData.shownAll (dOs os) by simp only [PyData.shownAll],
      piled_cons, List.length_cons, Nat.add_mul]
    omega
theorem shown_O {os : List (List (List Nat))} (h : ∀ o ∈ os, Short o)
    (hn : os.length ≤ 1000) :
    (PyData.list (dOs os)).shown.length ≤ sizeLine := by
  have p := shown_OA os h
  have e : (PyData.list (dOs os)).shown =
      listText (PyData.shownAll (dOs os)) := by simp only [PyData.shown]
  rw [e]
  have q := listText_len_le (PyData.shownAll (dOs os))
  have r := sum_piled (PyData.shownAll (dOs os))
  refine Nat.le_trans (show _ ≤ 3402003 by omega) (by decide)
/-! ### == of two orders, as they stand -/
theorem short_perm {ls os : List (List Nat)} (h : Short ls) (p : os.Perm ls) :
    Short os :=
  ⟨by rw [p.length_eq]; exact h.1, fun l hl => h.2 l (p.mem_iff.mp hl)⟩
end OM
namespace OM
open PySem PySem.Spec PyProof.Rows L2
/-! ### what is shown has code points only -/
def Okc (x : Str) : Prop := ∀ c ∈ x.cps.toList, c < 0x110000
theorem okc_app {a b : Str} (ha : Okc a) (hb : Okc b) : Okc (a ++ b) := by
  intro c hc
  have e : (a ++ b).cps = a.cps ++ b.cps := rfl
  rw [e, Array.toList_append] at hc
  rcases List.mem_append.mp hc with h | h
  · exact ha c h
  · exact hb c h
theorem chr_lt (c : Char) : c.toNat < 0x110000 := by
  have h := c.valid
  rcases h with h | h
  · exact Nat.lt_trans h (by decide)
  · exact h.2
theorem okc_lit (s : String) : Okc (Str.ofString s) := by
  intro c hc
  rw [Str.ofString_eq_toList] at hc
  obtain ⟨d, _, rfl⟩ := List.mem_map.mp hc
  exact chr_lt d
theorem okc_char {q c : Nat} (hc : c < 0x110000) :
    ∀ d ∈ PySem.Builtin.Str.reprChar q c, d < 0x110000 := by
  have hx : ∀ (w d : Nat), d ∈ (List.replicate (w - ((Nat.toDigits 16 c).map
      Char.toNat).length) 48 ++ (Nat.toDigits 16 c).map Char.toNat) →
      d < 0x110000 := by
    intro w d hd
    rcases List.mem_append.mp hd with h | h
    · rw [List.eq_of_mem_replicate h]
      decide
    · obtain ⟨e, _, rfl⟩ := List.mem_map.mp h
      exact chr_lt e
  intro d hd
  unfold PySem.Builtin.Str.reprChar at hd
  dsimp only at hd
  have two : ∀ {x y : Nat}, x < 0x110000 → y < 0x110000 → d ∈ [x, y] →
      d < 0x110000 := by
    intro x y h1 h2 m
    rcases List.mem_cons.mp m with rfl | m
    · exact h1
    · rw [List.mem_singleton.mp m]; exact h2
  split at hd
  · exact two (by decide) hc hd
  split at hd
  · exact two (by decide) (by decide) hd
  split at hd
  · exact two (by decide) (by decide) hd
  split at hd
  · exact two (by decide) (by decide) hd
  split at hd
  · rw [List.mem_singleton.mp hd]; exact hc
  split at hd
  · rcases List.mem_append.mp hd with h | h
    · exact two (by decide) (by decide) h
    · exact hx 2 d h
  split at hd
  · rcases List.mem_append.mp hd with h | h
    · exact two (by decide) (by decide) h
    · exact hx 4 d h
  · rcases List.mem_append.mp hd with h | h
    · exact two (by decide) (by decide) h
    · exact hx 8 d h
theorem okc_fold (q : Nat) : ∀ (l : List Nat) (acc : Array Nat),
    (∀ c ∈ l, c < 0x110000) → (∀ c ∈ acc.toList, c < 0x110000) →
    ∀ c ∈ (l.foldl (fun out c => out ++ (PySem.Builtin.Str.reprChar q c).toArray) acc).toList,
      c < 0x110000
  | [], _, _, h => h
  | x :: r, acc, hl, ha => by
    refine okc_fold q r _ (fun c hc => hl c (List.mem_cons_of_mem _ hc)) ?_
    intro c hc
    rw [Array.toList_append] at hc
    rcases List.mem_append.mp hc with h | h
    · exact ha c h
    · exact okc_char (hl x List.mem_cons_self) c h
theorem okc_repr {x : Str} (h : Okc x) : Okc (reprText x) := by
  have hq : reprQuote x < 0x110000 := by
    unfold reprQuote
    split <;> decide
  intro c hc
  unfold reprText at hc
  rw [Array.toList_push, ← Array.foldl_toList] at hc
  rcases List.mem_append.mp hc with m | m
  · refine okc_fold _ _ _ h (fun c hc => ?_) c m
    rw [List.mem_singleton.mp hc]
    exact hq
  · rw [List.mem_singleton.mp m]
    exact hq
theorem okc_from : ∀ (ts : List Str) (k : Nat) (acc : Str), Okc acc →
    (∀ t ∈ ts, Okc t) → Okc (textFrom k acc ts)
  | [], _, _, h, _ => h
  | t :: ts, k, acc, h, hs => by
    refine okc_from ts (k + 1) _ (okc_app (okc_app h (okc_lit _))
      (hs t List.mem_cons_self)) fun u hu => hs u (List.mem_cons_of_mem _ hu)
theorem okc_list {ts : List Str} (h : ∀ t ∈ ts, Okc t) : Okc (listText ts) :=
  okc_app (okc_from ts 0 _ (okc_lit _) h) (okc_lit _)
theorem okc_join {s : Str} (hs : Okc s) : ∀ (ts : List Str), (∀ t ∈ ts, Okc t) →
    Okc (Str.join s ts)
  | [], _ => fun _ h => by simp [Str.join, Str.empty] at h
  | [x], h => h x List.mem_cons_self
  | x :: y :: r, h => okc_app (okc_app (h x List.mem_cons_self) hs)
    (okc_join hs (y :: r) fun t ht => h t (List.mem_cons_of_mem _ ht))
theorem okc_tuple {ts : List Str} (h : ∀ t ∈ ts, Okc t) : Okc (tupleText ts) :=
  okc_app (okc_app (okc_lit _) (okc_join (okc_lit _) ts h)) (okc_lit _)
mutual
theorem okc_shown : ∀ d : PyData, d.canLay0 = true → Okc d.shown
  | .none, _ => by simp only [PyData.shown]; exact okc_lit _
  | .bool b, _ => by
    simp only [PyData.shown]
    cases b <;> exact okc_lit _
  | .int i, _ => by simp only [PyData.shown]; exact okc_lit _
  | .str x, h => by
    simp only [PyData.shown]
    refine okc_repr fun c hc => ?_
    have h1 : PyData.strOk x = true := by
      simpa only [PyData.canLay0] using h
    have h' : (x.cps.all (· < 0x110000)) = true := h1
    rw [Array.all_eq_true'] at h'
    exact of_decide_eq_true (h' c (Array.mem_toList_iff.mp hc))
  | .list xs, h => by
    simp only [PyData.shown]
    exact okc_list (okc_shownA xs (by simpa only [PyData.canLay0] using h))
  | .tuple xs, h => by
    simp only [PyData.shown]
    exact okc_tuple (okc_shownA xs (by simpa only [PyData.canLay0] using h))
  | .dict kvs, h => by simp only [PyData.canLay0] at h; cases h
theorem okc_shownA : ∀ ds : List PyData, PyData.canLayAll0 ds = true →
    ∀ t ∈ PyData.shownAll ds, Okc t
  | [], _ => fun t ht => by simp only [PyData.shownAll] at ht; cases ht
  | d :: ds, h => fun t ht => by
    simp only [PyData.canLayAll0, Bool.and_eq_true] at h
    simp only [PyData.shownAll] at ht
    rcases List.mem_cons.mp ht with rfl | m
    · exact okc_shown d h.1
    · exact okc_shownA ds h.2 t m
end
/-! ### lists of texts as data -/
abbrev dTx (ts : List Str) : List PyData := ts.map .str
theorem lay_Tx : ∀ {ts : List Str}, (∀ t ∈ ts, Okc t) →
    PyData.canLayAll0 (dTx ts) = true
  | [], _ => by simp [PyData.canLayAll0]
  | t :: ts, h => by
    have ih := lay_Tx (ts := ts) fun x hx => h x (List.mem_cons_of_mem _ hx)
    show PyData.canLayAll0 (.str t :: dTx ts) = true
    simp only [PyData.canLayAll0, PyData.canLay0, Bool.and_eq_true]
    refine ⟨?_, ih⟩
    show t.cps.all (· < 0x110000) = true
    rw [Array.all_eq_true']
    exact fun c hc => decide_eq_true (h t List.mem_cons_self c
      (Array.mem_toList_iff.mpr hc))
theorem depth_Tx : ∀ ts : List Str, PyData.depthAll (dTx ts) ≤ 1
  | [] => by simp [PyData.depthAll]
  | t :: ts => by
    have ih := depth_Tx ts
    show PyData.depthAll (.str t :: dTx ts) ≤ 1
    simp only [PyData.depthAll, PyData.depth]
    omega
theorem shaped_Tx {ts : List Str} (h : ∀ t ∈ ts, Okc t) :
    SeqAt.shaped (.list (dTx ts)) = true := by
  unfold SeqAt.shaped
  rw [show PyData.canLay0 (.list (dTx ts)) = PyData.canLayAll0 (dTx ts) by
    simp only [PyData.canLay0], lay_Tx h]
  have e : (PyData.list (dTx ts)).depth = PyData.depthAll (dTx ts) + 1 := by
    simp only [PyData.depth]
  have := depth_Tx ts
  exact decide_eq_true (by omega)
theorem dpAll_Tx {K : PySem.W.Frag} {H : Hp} : ∀ ts : List Str,
    DpAll K H (ts.map V.str) (dTx ts)
  | [] => .nil
  | _ :: ts => .cons (.str _) (dpAll_Tx ts)
theorem dp_Tx {K : PySem.W.Frag} {H : Hp} {a : Addr} {ts : List Str}
    (h : SqL K H a (ts.map V.str)) : Dp K H (.ref a) (.list (dTx ts)) :=
  .lst h (dpAll_Tx ts)
theorem eqv_TAx : ∀ ts us : List Str,
    PyData.eqvAll (dTx ts) (dTx us) = decide (ts = us)
  | [], [] => by simp [PyData.eqvAll]
  | [], u :: us => by simp [PyData.eqvAll]
  | t :: ts, [] => by simp [PyData.eqvAll]
  | t :: ts, u :: us => by
    have ih := eqv_TAx ts us
    show PyData.eqvAll (.str t :: dTx ts) (.str u :: dTx us) = _
    simp only [PyData.eqvAll, PyData.eqv, ih]
    by_cases h1 : t = u <;> by_cases h2 : ts = us <;> simp [h1, h2]
theorem eqv_Tx (ts us : List Str) :
    PyData.eqv (.list (dTx ts)) (.list (dTx us)) = decide (ts = us) := by
  rw [show PyData.eqv (.list (dTx ts)) (.list (dTx us)) =
    PyData.eqvAll (dTx ts) (dTx us) by simp only [PyData.eqv]]
  exact eqv_TAx ts us
end OM
namespace OM
open PySem PySem.Spec PyProof.Rows L2
/-! ### small data: short texts, some numbers, a dozen parts, a few levels -/
def IntS (i : Int) : Prop := (-1 ≤ i ∧ i ≤ 140) ∨ i = 10 ^ 30
inductive Sml : Nat → PyData → Prop
  | non (n : Nat) : Sml n .none
  | bl (n : Nat) (b : Bool) : Sml n (.bool b)
  | int (n : Nat) {i : Int} : IntS i → Sml n (.int i)
  | str (n : Nat) {x : Str} : x.length ≤ 64 → Okc x → Sml n (.str x)
  | l0 (n : Nat) : Sml n (.list [])
  | t0 (n : Nat) : Sml n (.tuple [])
  | d0 (n : Nat) : Sml n (.dict [])
  | lst {n : Nat} {ds : List PyData} : ds.length ≤ 12 →
      (∀ i j, ds ≠ [.int i, .int j]) → (∀ d ∈ ds, Sml n d) → Sml (n + 1) (.list ds)
  | tup {n : Nat} {ds : List PyData} : ds.length ≤ 12 → (∀ d ∈ ds, Sml n d) →
      Sml (n + 1) (.tuple ds)
def smB : Nat → Nat
  | 0 => 700
  | n + 1 => 12 * (smB n + 2) + 3
theorem smB_lo : ∀ n, 700 ≤ smB n
  | 0 => Nat.le_refl _
  | n + 1 => by
    have := smB_lo n
    show 700 ≤ 12 * (smB n + 2) + 3
    omega
theorem int_small : ∀ i : Fin 142, (PyData.int ((i.val : Int) - 1)).showable = true ∧
    (PyData.int ((i.val : Int) - 1)).shown.length ≤ 5 := by decide +kernel
theorem int_big : (PyData.int (10 ^ 30)).showable = true ∧
    (PyData.int (10 ^ 30)).shown.length ≤ 40 := by decide +kernel
theorem intS_ok {i : Int} (h : IntS i) : (PyData.int i).showable = true ∧
    (PyData.int i).shown.length ≤ 40 := by
  rcases h with ⟨h1, h2⟩ | rfl
  · have := int_small ⟨(i + 1).toNat, by omega⟩
    have e : ((⟨(i + 1).toNat, by omega⟩ : Fin 142).val : Int) - 1 = i := by
      show (((i + 1).toNat : Nat) : Int) - 1 = i
      omega
    rw [e] at this
    exact ⟨this.1, by omega⟩
  · exact int_big
theorem showA {ds : List PyData} (h : ∀ d ∈ ds, d.showable = true) :
    PyData.showableAll ds = true := by
  induction ds with
  | nil => simp [PyData.showableAll]
  | cons d ds ih =>
    simp only [PyData.showableAll]
    rw [h d List.mem_cons_self, ih fun x hx => h x (List.mem_cons_of_mem _ hx)]
    rfl
theorem depthA {m : Nat} {ds : List PyData} (h : ∀ d ∈ ds, d.depth ≤ m) :
    PyData.depthAll ds ≤ m := by
  induction ds with
  | nil => simp [PyData.depthAll]
  | cons d ds ih =>
    have a := h d List.mem_cons_self
    have b := ih fun x hx => h x (List.mem_cons_of_mem _ hx)
    simp only [PyData.depthAll]
    omega
theorem piledA {m : Nat} {ds : List PyData} (h : ∀ d ∈ ds, d.shown.length ≤ m) :
    piled (PyData.shownAll ds) ≤ ds.length * (m + 2) := by
  induction ds with
  | nil => simp [PyData.shownAll, piled]
  | cons d ds ih =>
    have a := h d List.mem_cons_self
    have b := ih fun x hx => h x (List.mem_cons_of_mem _ hx)
    simp only [PyData.shownAll]
    rw [piled_cons, List.length_cons, Nat.add_mul]
    omega
theorem lst_le (ds : List PyData) : (PyData.list ds).shown.length ≤
    piled (PyData.shownAll ds) + 3 := by
  have e : (PyData.list ds).shown = listText (PyData.shownAll ds) := by
    simp only [PyData.shown]
  rw [e]
  have := listText_len_le (PyData.shownAll ds)
  rw [sum_piled] at this
  exact this
theorem tup_le (ds : List PyData) : (PyData.tuple ds).shown.length ≤
    piled (PyData.shownAll ds) + 3 := by
  have e : (PyData.tuple ds).shown = tupleText (PyData.shownAll ds) := by
    simp only [PyData.shown]
  rw [e]
  have := tupleText_len_le (PyData.shownAll ds)
  rw [sum_piled] at this
  exact this
theorem sml_ok {n : Nat} {d : PyData} (h : Sml n d) : d.showable = true ∧
    d.depth ≤ n + 1 ∧ d.shown.length ≤ smB n := by
  induction h with
  | non n =>
    have := smB_lo n
    refine ⟨by simp [PyData.showable], by simp [PyData.depth], ?_⟩
    exact Nat.le_trans (show PyData.none.shown.length ≤ 700 by decide +kernel) this
  | bl n b =>
    have := smB_lo n
    refine ⟨by simp [PyData.showable], by simp [PyData.depth], ?_⟩
    refine Nat.le_trans ?_ this
    cases b <;> decide +kernel
  | @int n i hi =>
    have := smB_lo n
    obtain ⟨a, b⟩ := intS_ok hi
    exact ⟨a, by simp [PyData.depth], by omega⟩
  | @str n x hx ho =>
    have := smB_lo n
    refine ⟨by simp [PyData.showable], by simp [PyData.depth], ?_⟩
    have e : (PyData.str x).shown = reprText x := by simp only [PyData.shown]
    rw [e]
    have := StrLaws.reprText_len x fun c hc => Nat.lt_of_lt_of_le (ho c hc) (by decide)
    omega
  | l0 n =>
    have := smB_lo n
    refine ⟨by simp [PyData.showable, PyData.showableAll],
      by simp [PyData.depth, PyData.depthAll], ?_⟩
    exact Nat.le_trans (show (PyData.list []).shown.length ≤ 700 by decide +kernel) this
  | t0 n =>
    have := smB_lo n
    refine ⟨by simp [PyData.showable, PyData.showableAll],
      by simp [PyData.depth, PyData.depthAll], ?_⟩
    exact Nat.le_trans (show (PyData.tuple []).shown.length ≤ 700 by decide +kernel) this
  | d0 n =>
    have := smB_lo n
    refine ⟨by simp [PyData.showable, PyData.showableKv],
      by simp [PyData.depth, PyData.depthKv], ?_⟩
    exact Nat.le_trans (show (PyData.dict []).shown.length ≤ 700 by decide +kernel) this
  | @lst n ds hl _ hs ih =>
    refine ⟨?_, ?_, ?_⟩
    · simp only [PyData.showable]
      exact showA fun d hd => (ih d hd).1
    · have := depthA fun d hd => (ih d hd).2.1
      rw [show (PyData.list ds).depth = PyData.depthAll ds + 1 by
        simp only [PyData.depth]]
      omega
    · have a := piledA fun d hd => (ih d hd).2.2
      have b := lst_le ds
      have c : ds.length * (smB n + 2) ≤ 12 * (smB n + 2) := Nat.mul_le_mul_right _ hl
      show _ ≤ 12 * (smB n + 2) + 3
      omega
  | @tup n ds hl hs ih =>
    refine ⟨?_, ?_, ?_⟩
    · simp only [PyData.showable]
      exact showA fun d hd => (ih d hd).1
    · have := depthA fun d hd => (ih d hd).2.1
      rw [show (PyData.tuple ds).depth = PyData.depthAll ds + 1 by
        simp only [PyData.depth]]
      omega
    · have a := piledA fun d hd => (ih d hd).2.2
      have b := tup_le ds
      have c : ds.length * (smB n + 2) ≤ 12 * (smB n + 2) := Nat.mul_le_mul_right _ hl
      show _ ≤ 12 * (smB n + 2) + 3
      omega
theorem smB_line : ∀ n, n ≤ 4 → smB n ≤ sizeLine := by decide +kernel
theorem Sml.up {n : Nat} {d : PyData} (h : Sml n d) : ∀ m, n ≤ m → Sml m d := by
  induction h with
  | non n => exact fun m _ => .non m
  | bl n b => exact fun m _ => .bl m b
  | int n hi => exact fun m _ => .int m hi
  | str n hx ho => exact fun m _ => .str m hx ho
  | l0 n => exact fun m _ => .l0 m
  | t0 n => exact fun m _ => .t0 m
  | d0 n => exact fun m _ => .d0 m
  | @lst n ds hl hn hs ih =>
    intro m hm
    obtain ⟨k, rfl⟩ : ∃ k, m = k + 1 := ⟨m - 1, by omega⟩
    exact .lst hl hn fun d hd => ih d hd k (by omega)
  | @tup n ds hl hs ih =>
    intro m hm
    obtain ⟨k, rfl⟩ : ∃ k, m = k + 1 := ⟨m - 1, by omega⟩
    exact .tup hl fun d hd => ih d hd k (by omega)
theorem DXs.each {H H' : Hp} : ∀ {ds : List PyData} {vs : List V},
    (∀ d ∈ ds, ∀ v, DX H v d → DX H' v d) → DXs H vs ds → DXs H' vs ds
  | _, _, _, .nil => .nil
  | _, _, k, .cons h t => .cons (k _ List.mem_cons_self _ h)
    (DXs.each (fun d hd => k d (List.mem_cons_of_mem _ hd)) t)
/-- the drawing state is none of it -/
theorem DX.bu {H H' : Hp} {p : Addr} (r : Rng H p) (b : But p H H') {n : Nat}
    {d : PyData} (sm : Sml n d) : ∀ v, DX H v d → DX H' v d := by
  obtain ⟨i0, j0, ep, _⟩ := r
  induction sm with
  | non n => intro v h; cases h; exact .non
  | bl n b => intro v h; cases h; exact .bl _
  | int n hi => intro v h; cases h; exact .int _
  | str n hx ho => intro v h; cases h; exact .str _
  | l0 n =>
    intro v h
    cases h with
    | lst e t =>
      cases t
      exact .lst (b _ _ e (ne_of e ep fun z => by cases HO.lst.inj z)) .nil
  | t0 n =>
    intro v h
    cases h with
    | tup e t =>
      cases t
      exact .tup (b _ _ e (ne_of e ep nofun)) .nil
  | d0 n =>
    intro v h
    cases h with
    | d0 e => exact .d0 (b _ _ e (ne_of e ep nofun))
  | @lst n ds hl hn hs ih =>
    intro v h
    cases h with
    | lst e t =>
      refine .lst (b _ _ e (ne_of e ep fun z => ?_)) (DXs.each ih t)
      have z := HO.lst.inj z
      subst z
      match ds, t with
      | _, .cons h1 (.cons h2 .nil) =>
        cases h1
        cases h2
        exact hn _ _ rfl
  | @tup n ds hl hs ih =>
    intro v h
    cases h with
    | tup e t => exact .tup (b _ _ e (ne_of e ep nofun)) (DXs.each ih t)
/-! ### what kind of value -/
def isTup : PyData → Bool
  | .tuple _ => true
  | _ => false
def isLst : PyData → Bool
  | .list _ => true
  | _ => false
def isStr : PyData → Bool
  | .str _ => true
  | _ => false
def isInB : PyData → Bool
  | .int _ => true
  | .bool _ => true
  | _ => false
def isBoo : PyData → Bool
  | .bool _ => true
  | _ => false
theorem kitS {K : PySem.W.Frag} (T : String) (a b c d e : Bool)
    (h : kitB T "tuple" = some a ∧ kitB T "list" = some b ∧ kitB T "str" = some c ∧
      kitB T "int" = some d ∧ kitB T "bool" = some e) :
    PySem.W.kitOne K (.type T) (.type "tuple") = some a ∧
      PySem.W.kitOne K (.type T) (.type "list") = some b ∧
      PySem.W.kitOne K (.type T) (.type "str") = some c ∧
      PySem.W.kitOne K (.type T) (.type "int") = some d ∧
      PySem.W.kitOne K (.type T) (.type "bool") = some e :=
  ⟨kit_ty h.1, kit_ty h.2.1, kit_ty h.2.2.1, kit_ty h.2.2.2.1, kit_ty h.2.2.2.2⟩
theorem DX.kit {K : PySem.W.Frag} {H : Hp} {v : V} {d : PyData} (h : DX H v d) :
    ∃ t, TyX K H v t ∧ PySem.W.kitOne K t (.type "tuple") = some (isTup d) ∧
      PySem.W.kitOne K t (.type "list") = some (isLst d) ∧
      PySem.W.kitOne K t (.type "str") = some (isStr d) ∧
      PySem.W.kitOne K t (.type "int") = some (isInB d) ∧
      PySem.W.kitOne K t (.type "bool") = some (isBoo d) := by
  cases h with
  | non => exact ⟨_, .base .non, kitS "NoneType" false false false false false (by decide +kernel)⟩
  | bl b => exact ⟨_, .base (.bl b), kitS "bool" false false false true true (by decide +kernel)⟩
  | int i => exact ⟨_, .base (.int i), kitS "int" false false false true false (by decide +kernel)⟩
  | str x => exact ⟨_, .base (.str x), kitS "str" false false true false false (by decide +kernel)⟩
  | lst e _ => exact ⟨_, .base (.lst e), kitS "list" false true false false false (by decide +kernel)⟩
  | tup e _ => exact ⟨_, .base (.tup e), kitS "tuple" true false false false false (by decide +kernel)⟩
  | d0 e => exact ⟨_, .base (.dK e), kitS "dict" false false false false false (by decide +kernel)⟩
  | d1 e _ => exact ⟨_, .base (.dK e), kitS "dict" false false false false false (by decide +kernel)⟩
end OM
namespace OM
open PySem PySem.Spec PyProof.Rows L2
/-! ### data with dicts: its parts; what the drawing state is no part of; what can be shown -/
theorem dx_str {H : Hp} {x : V} {d : PyData} (h : DX H x d) (e : isStr d = true) : ∃ s, x = .str s ∧ d = .str s := by
  cases h <;> first | exact ⟨_, rfl, rfl⟩ | cases e
theorem dx_tup {H : Hp} {v : V} {ds : List PyData} (h : DX H v (.tuple ds)) : ∃ t xs, v = .ref t ∧ H t = some (.tup xs) ∧ DXs H xs ds := by
  cases h with
  | tup e t => exact ⟨_, _, rfl, e, t⟩
theorem dx_lst {H : Hp} {v : V} {ds : List PyData} (h : DX H v (.list ds)) : ∃ t xs, v = .ref t ∧ H t = some (.lst xs) ∧ DXs H xs ds := by
  cases h with
  | lst e t => exact ⟨_, _, rfl, e, t⟩
theorem dxs_len {H : Hp} : ∀ {xs : List V} {ds : List PyData}, DXs H xs ds → xs.length = ds.length
  | _, _, .nil => rfl
  | _, _, .cons _ t => congrArg (· + 1) (dxs_len t)
theorem dxs_get {H : Hp} : ∀ {xs : List V} {ds : List PyData} {i : Nat} {v : V}, DXs H xs ds → xs[i]? = some v →
    ∃ d, ds[i]? = some d ∧ DX H v d
  | _, _, _, _, .nil, h => by simp at h
  | _, _, 0, _, .cons a _, h => by
    cases h
    exact ⟨_, rfl, a⟩
  | _, _, i + 1, _, .cons _ t, h => dxs_get (i := i) t h
def hide (p : Addr) (H : Hp) : Hp := fun a => if a = p then none else H a
theorem hide_of {p a : Addr} {H : Hp} {o : HO} (n : a ≠ p) (e : H a = some o) : hide p H a = some o := by
  unfold hide
  rw [if_neg n]
  exact e
theorem hide_to {p a : Addr} {H : Hp} {o : HO} (e : hide p H a = some o) : a ≠ p ∧ H a = some o := by
  unfold hide at e
  split at e
  · cases e
  · rename_i c
    exact ⟨c, e⟩
theorem hide_le {p : Addr} {H : Hp} : Same (hide p H) H := fun _ _ e => (hide_to e).2
theorem hide_but {p : Addr} {H H' : Hp} (b : But p H H') : Same (hide p H) (hide p H') := fun a o e => by
  obtain ⟨n, e⟩ := hide_to e
  exact hide_of n (b _ _ e n)
theorem hide_same {p : Addr} {H H' : Hp} (b : Same H H') : Same (hide p H) (hide p H') := hide_but (But.of b)
theorem hid {p a : Addr} {H H' : Hp} {o : HO} (r : Rng H p) (n : H a = none) (e : H' a = some o) : hide p H' a = some o :=
  hide_of (r.ne n).symm e
theorem But.hide {p v : Addr} {H H' : Hp} (b : But p H H') : But p (hide v H) (hide v H') := fun a o e n => by
  obtain ⟨n1, e⟩ := hide_to e
  exact hide_of n1 (b _ _ e n)
theorem hide_new {v : Addr} {H H' : Hp} (s : Same H H') (n : H v = none) : Same H (hide v H') := fun a o e =>
  hide_of (ne_of_none e n) (s _ _ e)
theorem hide_put {v : Addr} {H : Hp} {o : HO} : Same (hide v H) (upd H v o) := fun a x e => by
  obtain ⟨n, e⟩ := hide_to e
  rw [upd_ne n]
  exact e
theorem Rng.but_hide {p v : Addr} {H : Hp} (r : Rng H p) (n : v ≠ p) : Rng (OM.hide v H) p := by
  obtain ⟨x, y, e, z⟩ := r
  exact ⟨x, y, hide_of n.symm e, z⟩
def Sh (n m : Nat) (e : PyData) : Prop := e.showable = true ∧ e.depth ≤ n ∧ e.shown.length ≤ m
theorem Sh.up {n m n' m' : Nat} {e : PyData} (s : Sh n m e) (a : n ≤ n') (b : m ≤ m') : Sh n' m' e :=
  ⟨s.1, Nat.le_trans s.2.1 a, Nat.le_trans s.2.2 b⟩
theorem sh_sml {n : Nat} {e : PyData} (h : Sml n e) : Sh (n + 1) (smB n) e := sml_ok h
theorem sh_lst {n m : Nat} {ds : List PyData} (h : ∀ d ∈ ds, Sh n m d) : Sh (n + 1) (ds.length * (m + 2) + 3) (.list ds) := by
  refine ⟨?_, ?_, ?_⟩
  · simp only [PyData.showable]
    exact showA fun d hd => (h d hd).1
  · have := depthA fun d hd => (h d hd).2.1
    rw [show (PyData.list ds).depth = PyData.depthAll ds + 1 by simp only [PyData.depth]]
    omega
  · have a := piledA fun d hd => (h d hd).2.2
    have b := lst_le ds
    omega
theorem sh_tup {n m : Nat} {ds : List PyData} (h : ∀ d ∈ ds, Sh n m d) : Sh (n + 1) (ds.length * (m + 2) + 3) (.tuple ds) := by
  refine ⟨?_, ?_, ?_⟩
  · simp only [PyData.showable]
    exact showA fun d hd => (h d hd).1
  · have := depthA fun d hd => (h d hd).2.1
    rw [show (PyData.tuple ds).depth = PyData.depthAll ds + 1 by simp only [PyData.depth]]
    omega
  · have a := piledA fun d hd => (h d hd).2.2
    have b := tup_le ds
    omega
theorem shb {b : Bool} : (PyData.bool b).showable = true ∧ (PyData.bool b).depth ≤ 60 ∧ (PyData.bool b).shown.length ≤ sizeLine := by
  obtain ⟨a, b', c⟩ := sh_sml (.bl 0 b)
  exact ⟨a, Nat.le_trans b' (by omega), Nat.le_trans c (by decide)⟩
end OM
namespace OM
open PySem PySem.Spec PyProof.Rows L2
/-- a value of the law: what it holds is no part of the drawing state -/
def Vd (p : Addr) (H : Hp) (v : V) : Prop := ∃ e, DX (hide p H) v e ∧ Sh 3 8500 e
theorem Vd.but {p : Addr} {H H' : Hp} {v : V} (o : Vd p H v) (b : But p H H') : Vd p H' v := by
  obtain ⟨e, d, s⟩ := o
  exact ⟨e, DX.same (hide_but b) _ _ d, s⟩
theorem Vd.same {p : Addr} {H H' : Hp} {v : V} (o : Vd p H v) (b : Same H H') : Vd p H' v := o.but (But.of b)
def spOdd17 : Sp := fun vs H Q _ => ∃ p, vs = [.ref p] ∧ Rng H p ∧
  ∀ v H', Vd p H' v → Rng H' p → But p H H' → Q v H'
section
variable {P : Program} {w : World} {K : PySem.W.Frag}
  {mg : Str → Option Value} {base : Heap}
theorem ok_odd17 {f : Addr} {fd : FuncData} {k : Nat}
    (F : Fun K "_law_odd" "_law_odd" s_Lodd f fd)
    (c_Lchoice : Cal P w K mg base k "_law_choice" ["_law_rng_here", "_law_options"] (spChoice K)) :
    FnOk P w K mg base CX0 (k + 1) f fd ["_law_rng_here"] spOdd17 := by
  refine F.ok sc_Lodd (fun vs H Q E h => ?_)
    (fun cv A outer s H vs Q E hr h => ?_)
  · obtain ⟨p, rfl, _⟩ := h
    rfl
  obtain ⟨p, rfl, rg, q⟩ := h
  have nd := sc_Lodd.nd
  refine ⟨_, (C8.pss_cut (ps_set (i := 1) nd rfl (.inl rfl) (pe_lst (pa_cons pe_non
      (pa_cons pe_bl (pa_cons pe_bl (pa_cons pe_int (pa_cons pe_int (pa_cons
      (pe_un un_neg pe_int) (pa_cons pe_int (pa_cons (pe_op op_pow pe_int
      pe_int) (pa_cons pe_str (pa_cons pe_str (pa_cons pe_str (pa_cons pe_str
      (pa_cons (pe_tup pa_nil) (pa_cons (pe_tup (pa_cons pe_str pa_nil))
      (pa_cons (pe_tup (pa_cons pe_str (pa_cons pe_str pa_nil))) (pa_cons
      (pe_lst pa_nil) (pa_cons (pe_lst (pa_cons pe_str pa_nil)) (pa_cons
      pe_dnewK pa_nil)))))))))))))))))))) (pss_one (ps_ret (pe_cal c_Lchoice hr
      (pa_cons (pv 0) (pa_cons (pe_op op_cat (pv 1) (pe_lst (pa_cons (pe_disp (pps_cons pe_str pe_int pps_nil) (by rfl) (by rfl)
        (fun z => by cases z) (by decide)) (pa_cons (pe_lst (pa_cons (pe_lst pa_nil) pa_nil)) (pa_cons (pe_tup
      (pa_cons pe_str (pa_cons pe_str (pa_cons pe_str (pa_cons pe_str
      pa_nil))))) (pa_cons (pe_lst (pa_cons pe_non pa_nil)) (pa_cons (pe_un
      un_neg (pe_op op_pow pe_int pe_int)) (pa_cons pe_str (pa_cons pe_str
      pa_nil))))))))) pa_nil)))))), ?_⟩
  refine ⟨fun σ' H' => ∃ l xs, σ' = [some (.ref p), some (.ref l)] ∧ H' l = some (.lst xs) ∧ xs.length = 18 ∧ (∀ x ∈ xs, Vd p H' x) ∧ Same H H', ?_, ?_⟩
  · refine ⟨1, rfl, _, _, rfl, rfl, ⟨by decide, by decide, by decide⟩, sz (by simp), fun x1 nx1 => ?_⟩
    have z1 := sameNew (o := .tup []) nx1
    have h1 : (upd H x1 (.tup [])) x1 = some (.tup []) := upd_same
    generalize upd H x1 (.tup []) = H1 at z1 h1 ⊢
    refine ⟨sz (by simp), fun x2 nx2 => ?_⟩
    have z2 := sameNew (o := .tup [.str (Str.ofString "a")]) nx2
    have h2 : (upd H1 x2 (.tup [.str (Str.ofString "a")])) x2 = some (.tup [.str (Str.ofString "a")]) := upd_same
    generalize upd H1 x2 (.tup [.str (Str.ofString "a")]) = H2 at z2 h2 ⊢
    refine ⟨sz (by simp), fun x3 nx3 => ?_⟩
    have z3 := sameNew (o := .tup [.str (Str.ofString "a"), .str (Str.ofString "b")]) nx3
    have h3 : (upd H2 x3 (.tup [.str (Str.ofString "a"), .str (Str.ofString "b")])) x3 = some (.tup [.str (Str.ofString "a"), .str (Str.ofString "b")]) := upd_same
    generalize upd H2 x3 (.tup [.str (Str.ofString "a"), .str (Str.ofString "b")]) = H3 at z3 h3 ⊢
    refine ⟨sz (by simp), fun x4 nx4 => ?_⟩
    have z4 := sameNew (o := .lst []) nx4
    have h4 : (upd H3 x4 (.lst [])) x4 = some (.lst []) := upd_same
    generalize upd H3 x4 (.lst []) = H4 at z4 h4 ⊢
    refine ⟨sz (by simp), fun x5 nx5 => ?_⟩
    have z5 := sameNew (o := .lst [.str (Str.ofString "a")]) nx5
    have h5 : (upd H4 x5 (.lst [.str (Str.ofString "a")])) x5 = some (.lst [.str (Str.ofString "a")]) := upd_same
    generalize upd H4 x5 (.lst [.str (Str.ofString "a")]) = H5 at z5 h5 ⊢
    refine fun x6 nx6 => ?_
    have z6 := sameNew (o := .dK []) nx6
    have h6 : (upd H5 x6 (.dK [])) x6 = some (.dK []) := upd_same
    generalize upd H5 x6 (.dK []) = H6 at z6 h6 ⊢
    refine ⟨sz (by simp), fun l nl => ?_⟩
    have z7 := sameNew (o := .lst [.non, .bl true, .bl false, .int 0, .int 1, .int (-1), .int 7, .int (10 ^ Int.toNat 40), .str (Str.ofString ""), .str (Str.ofString "a"), .str (Str.ofString "Aa"), .str (Str.ofString "a\n"), .ref x1, .ref x2, .ref x3, .ref x4, .ref x5, .ref x6]) nl
    have hl : (upd H6 l (.lst [.non, .bl true, .bl false, .int 0, .int 1, .int (-1), .int 7, .int (10 ^ Int.toNat 40), .str (Str.ofString ""), .str (Str.ofString "a"), .str (Str.ofString "Aa"), .str (Str.ofString "a\n"), .ref x1, .ref x2, .ref x3, .ref x4, .ref x5, .ref x6])) l = some (.lst [.non, .bl true, .bl false, .int 0, .int 1, .int (-1), .int 7, .int (10 ^ Int.toNat 40), .str (Str.ofString ""), .str (Str.ofString "a"), .str (Str.ofString "Aa"), .str (Str.ofString "a\n"), .ref x1, .ref x2, .ref x3, .ref x4, .ref x5, .ref x6]) := upd_same
    generalize upd H6 l (.lst [.non, .bl true, .bl false, .int 0, .int 1, .int (-1), .int 7, .int (10 ^ Int.toNat 40), .str (Str.ofString ""), .str (Str.ofString "a"), .str (Str.ofString "Aa"), .str (Str.ofString "a\n"), .ref x1, .ref x2, .ref x3, .ref x4, .ref x5, .ref x6]) = H7 at z7 hl ⊢
    have r1 := rg.same z1
    have r2 := r1.same z2
    have r3 := r2.same z3
    have r4 := r3.same z4
    have r5 := r4.same z5
    have s17 := (((((z2.trans z3).trans z4).trans z5).trans z6).trans z7)
    have k1 : hide p H7 x1 = some (.tup []) := hide_of (rg.ne nx1).symm (s17 _ _ h1)
    have k2 : hide p H7 x2 = some (.tup [.str (Str.ofString "a")]) := hide_of (r1.ne nx2).symm ((((((z3.trans z4).trans z5).trans z6).trans z7)) _ _ h2)
    have k3 : hide p H7 x3 = some (.tup [.str (Str.ofString "a"), .str (Str.ofString "b")]) := hide_of (r2.ne nx3).symm (((((z4.trans z5).trans z6).trans z7)) _ _ h3)
    have k4 : hide p H7 x4 = some (.lst []) := hide_of (r3.ne nx4).symm ((((z5.trans z6).trans z7)) _ _ h4)
    have k5 : hide p H7 x5 = some (.lst [.str (Str.ofString "a")]) := hide_of (r4.ne nx5).symm (((z6.trans z7)) _ _ h5)
    have k6 : hide p H7 x6 = some (.dK []) := hide_of (r5.ne nx6).symm (z7 _ _ h6)
    refine ⟨l, _, rfl, hl, rfl, fun x hx => ?_, ((((((z1.trans z2).trans z3).trans z4).trans z5).trans z6).trans z7)⟩
    simp only [List.mem_cons, List.not_mem_nil, or_false] at hx
    rcases hx with rfl | rfl | rfl | rfl | rfl | rfl | rfl | rfl | rfl | rfl | rfl | rfl | rfl | rfl | rfl | rfl | rfl | rfl
    · exact ⟨_, .non, by decide +kernel, by decide +kernel, by decide +kernel⟩
    · exact ⟨_, .bl _, by decide +kernel, by decide +kernel, by decide +kernel⟩
    · exact ⟨_, .bl _, by decide +kernel, by decide +kernel, by decide +kernel⟩
    · exact ⟨_, .int _, by decide +kernel, by decide +kernel, by decide +kernel⟩
    · exact ⟨_, .int _, by decide +kernel, by decide +kernel, by decide +kernel⟩
    · exact ⟨_, .int _, by decide +kernel, by decide +kernel, by decide +kernel⟩
    · exact ⟨_, .int _, by decide +kernel, by decide +kernel, by decide +kernel⟩
    · exact ⟨_, .int _, by decide +kernel, by decide +kernel, by decide +kernel⟩
    · exact ⟨_, .str _, by decide +kernel, by decide +kernel, by decide +kernel⟩
    · exact ⟨_, .str _, by decide +kernel, by decide +kernel, by decide +kernel⟩
    · exact ⟨_, .str _, by decide +kernel, by decide +kernel, by decide +kernel⟩
    · exact ⟨_, .str _, by decide +kernel, by decide +kernel, by decide +kernel⟩
    · exact ⟨_, .tup k1 .nil, by decide +kernel, by decide +kernel, by decide +kernel⟩
    · exact ⟨_, .tup k2 (.cons (.str _) .nil), by decide +kernel, by decide +kernel, by decide +kernel⟩
    · exact ⟨_, .tup k3 (.cons (.str _) (.cons (.str _) .nil)), by decide +kernel, by decide +kernel, by decide +kernel⟩
    · exact ⟨_, .lst k4 .nil, by decide +kernel, by decide +kernel, by decide +kernel⟩
    · exact ⟨_, .lst k5 (.cons (.str _) .nil), by decide +kernel, by decide +kernel, by decide +kernel⟩
    · exact ⟨_, .d0 k6, by decide +kernel, by decide +kernel, by decide +kernel⟩
  rintro _ H0 ⟨l, xs, rfl, hl, l18, vx, s0⟩
  have r0 := rg.same s0
  refine ⟨_, rfl, _, rfl, fun x1 nx1 => ?_⟩
  refine ⟨upd_same, [(Sum.inr "a", .int 1)], rfl, by decide, ?_⟩
  have z1 : Same H0 (upd (upd H0 x1 (.dK [])) x1 (.dK (mergeK [] [(Sum.inr "a", .int 1)]))) := OM.Same.put (sameNew nx1) nx1
  have h1 : (upd (upd H0 x1 (.dK [])) x1 (.dK (mergeK [] [(Sum.inr "a", .int 1)]))) x1 = some (.dK [(Sum.inr "a", .int 1)]) := upd_same
  generalize upd (upd H0 x1 (.dK [])) x1 (.dK (mergeK [] [(Sum.inr "a", .int 1)])) = H1 at z1 h1 ⊢
  refine ⟨sz (by simp), fun x2 nx2 => ?_⟩
  have z2 := sameNew (o := .lst []) nx2
  have h2 : (upd H1 x2 (.lst [])) x2 = some (.lst []) := upd_same
  generalize upd H1 x2 (.lst []) = H2 at z2 h2 ⊢
  refine ⟨sz (by simp), fun x3 nx3 => ?_⟩
  have z3 := sameNew (o := .lst [.ref x2]) nx3
  have h3 : (upd H2 x3 (.lst [.ref x2])) x3 = some (.lst [.ref x2]) := upd_same
  generalize upd H2 x3 (.lst [.ref x2]) = H3 at z3 h3 ⊢
  refine ⟨sz (by simp), fun x4 nx4 => ?_⟩
  have z4 := sameNew (o := .tup [.str (Str.ofString "split"), .str (Str.ofString "a"), .str (Str.ofString "b"), .str (Str.ofString "c")]) nx4
  have h4 : (upd H3 x4 (.tup [.str (Str.ofString "split"), .str (Str.ofString "a"), .str (Str.ofString "b"), .str (Str.ofString "c")])) x4 = some (.tup [.str (Str.ofString "split"), .str (Str.ofString "a"), .str (Str.ofString "b"), .str (Str.ofString "c")]) := upd_same
  generalize upd H3 x4 (.tup [.str (Str.ofString "split"), .str (Str.ofString "a"), .str (Str.ofString "b"), .str (Str.ofString "c")]) = H4 at z4 h4 ⊢
  refine ⟨sz (by simp), fun x5 nx5 => ?_⟩
  have z5 := sameNew (o := .lst [.non]) nx5
  have h5 : (upd H4 x5 (.lst [.non])) x5 = some (.lst [.non]) := upd_same
  generalize upd H4 x5 (.lst [.non]) = H5 at z5 h5 ⊢
  refine ⟨_, _, rfl, rfl, ⟨by decide, by decide, by decide⟩, _, rfl, sz (by simp), fun m nm => ?_⟩
  have z6 := sameNew (o := .lst [.ref x1, .ref x3, .ref x4, .ref x5, .int (-10 ^ Int.toNat 20), .str (Str.ofString "list"), .str (Str.ofString "name")]) nm
  have hm : (upd H5 m (.lst [.ref x1, .ref x3, .ref x4, .ref x5, .int (-10 ^ Int.toNat 20), .str (Str.ofString "list"), .str (Str.ofString "name")])) m = some (.lst [.ref x1, .ref x3, .ref x4, .ref x5, .int (-10 ^ Int.toNat 20), .str (Str.ofString "list"), .str (Str.ofString "name")]) := upd_same
  generalize upd H5 m (.lst [.ref x1, .ref x3, .ref x4, .ref x5, .int (-10 ^ Int.toNat 20), .str (Str.ofString "list"), .str (Str.ofString "name")]) = H6 at z6 hm ⊢
  have s16 := ((((z2.trans z3).trans z4).trans z5).trans z6)
  have s06 := z1.trans s16
  refine ⟨l, m, _, _, rfl, rfl, s06 _ _ hl, hm, sz (by rw [l18]; show 18 + 7 ≤ _; omega), fun o no => ?_⟩
  have z7 := sameNew (o := .lst (xs ++ [.ref x1, .ref x3, .ref x4, .ref x5, .int (-10 ^ Int.toNat 20), .str (Str.ofString "list"), .str (Str.ofString "name")])) no
  have ho : (upd H6 o (.lst (xs ++ [.ref x1, .ref x3, .ref x4, .ref x5, .int (-10 ^ Int.toNat 20), .str (Str.ofString "list"), .str (Str.ofString "name")]))) o = some (.lst (xs ++ [.ref x1, .ref x3, .ref x4, .ref x5, .int (-10 ^ Int.toNat 20), .str (Str.ofString "list"), .str (Str.ofString "name")])) := upd_same
  generalize upd H6 o (.lst (xs ++ [.ref x1, .ref x3, .ref x4, .ref x5, .int (-10 ^ Int.toNat 20), .str (Str.ofString "list"), .str (Str.ofString "name")])) = H7 at z7 ho ⊢
  have r1 := r0.same z1
  have r2 := r1.same z2
  have r3 := r2.same z3
  have r4 := r3.same z4
  have r6 := r0.same s06
  have k1 : hide p H7 x1 = some (.dK [(Sum.inr "a", .int 1)]) := hide_of (r0.ne nx1).symm ((s16.trans z7) _ _ h1)
  have k2 : hide p H7 x2 = some (.lst []) := hide_of (r1.ne nx2).symm (((((z3.trans z4).trans z5).trans z6).trans z7) _ _ h2)
  have k3 : hide p H7 x3 = some (.lst [.ref x2]) := hide_of (r2.ne nx3).symm ((((z4.trans z5).trans z6).trans z7) _ _ h3)
  have k4 : hide p H7 x4 = some (.tup [.str (Str.ofString "split"), .str (Str.ofString "a"), .str (Str.ofString "b"), .str (Str.ofString "c")]) := hide_of (r3.ne nx4).symm (((z5.trans z6).trans z7) _ _ h4)
  have k5 : hide p H7 x5 = some (.lst [.non]) := hide_of (r4.ne nx5).symm ((z6.trans z7) _ _ h5)
  refine ⟨p, o, _, rfl, r6.same z7, SqL.of ho, (r6.ne no).symm, by rw [List.length_append, l18]; omega, by rw [List.length_append, l18]; show 18 + 7 ≤ _; omega, fun v H8 hv rg8 b8 => ?_⟩
  refine q v H8 (Vd.but ?_ b8) rg8 ((But.of (s0.trans (s06.trans z7))).trans b8)
  rcases List.mem_append.mp hv with hv | hv
  · exact (vx v hv).same (s06.trans z7)
  simp only [List.mem_cons, List.not_mem_nil, or_false] at hv
  rcases hv with rfl | rfl | rfl | rfl | rfl | rfl | rfl
  · exact ⟨_, .d1 k1 (.int _), by decide +kernel, by decide +kernel, by decide +kernel⟩
  · exact ⟨_, .lst k3 (.cons (.lst k2 .nil) .nil), by decide +kernel, by decide +kernel, by decide +kernel⟩
  · exact ⟨_, .tup k4 (.cons (.str _) (.cons (.str _) (.cons (.str _) (.cons (.str _) .nil)))), by decide +kernel, by decide +kernel, by decide +kernel⟩
  · exact ⟨_, .lst k5 (.cons .non .nil), by decide +kernel, by decide +kernel, by decide +kernel⟩
  · exact ⟨_, .int _, by decide +kernel, by decide +kernel, by decide +kernel⟩
  · exact ⟨_, .str _, by decide +kernel, by decide +kernel, by decide +kernel⟩
  · exact ⟨_, .str _, by decide +kernel, by decide +kernel, by decide +kernel⟩
end
end OM
namespace OM
open PySem PySem.Spec PyProof.Rows L2
def spAtt17 : Sp := fun vs H Q _ => ∃ v1 v2 : V, vs = [v1, v2] ∧
  ∀ q H', H q = none → Same H H' → H' q = some (.lst ([v1, v2, v1, v2] ++ List.replicate 26 v1)) → Q (.ref q) H'
section
variable {P : Program} {w : World} {K : PySem.W.Frag}
  {mg : Str → Option Value} {base : Heap} {c : Nat → Addr}
theorem ok_att17 {f : Addr} {fd : FuncData} {k : Nat}
    (F : Fun K "_law_attributes" "_law_attributes" s_Lattributes f fd) (E : E17 P w K mg base c) :
    FnOk P w K mg base CX0 (k + 3) f fd ["_law_one", "_law_other"] spAtt17 := by
  refine F.ok sc_Lattributes (fun vs H Q E h => ?_)
    (fun cv A outer s H vs Q E' hr h => ?_)
  · obtain ⟨v1, v2, rfl, _⟩ := h
    rfl
  obtain ⟨v1, v2, rfl, q⟩ := h
  have nd := sc_Lattributes.nd
  have hr1 := hr.mono (show 2 ≤ k + 2 by omega)
  refine ⟨_, (C8.pss_cut (ps_par (i := 2) (j := 3) (by rfl) nd rfl rfl (by decide) rfl
      rfl (pa_cons (pe_err2 E.p1 hr1 (pa_cons (pv 0) (pa_cons (pv 1) pa_nil)))
      (pa_cons (pe_err2 E.p13 hr1 (pa_cons (pv 0) (pa_cons (pv 1) pa_nil)))
      pa_nil)) (by rfl)) (C8.pss_cut (ps_set (i := 4) nd rfl (.inl rfl) (pe_lst
      (pa_cons (pe_xat (pv 2)) (pa_cons (pe_xat (pv 2)) (pa_cons (pe_xat (pv 3))
      (pa_cons (pe_xat (pv 3)) (pa_cons (pe_xat (pe_err1 E.p2 hr1 (pa_cons (pv
      0) pa_nil))) pa_nil))))))) (C8.pss_cut (ps_set (i := 4) nd rfl (.inl rfl)
      (pe_op op_cat (pv 4) (pe_lst (pa_cons (pe_xat (pe_err1 E.p3 hr1 (pa_cons
      (pv 0) pa_nil))) (pa_cons (pe_xat (pe_err1 E.p4 hr1 (pa_cons (pv 0)
      pa_nil))) (pa_cons (pe_xat (pe_err1 E.p5 hr1 (pa_cons (pv 0) pa_nil)))
      pa_nil)))))) (C8.pss_cut (ps_set (i := 4) nd rfl (.inl rfl) (pe_op op_cat
      (pv 4) (pe_lst (pa_cons (pe_xat (pe_err1 E.p6 hr1 (pa_cons (pv 0)
      pa_nil))) (pa_cons (pe_xat (pe_err1 E.p7 hr1 (pa_cons (pv 0) pa_nil)))
      (pa_cons (pe_xat (pe_err1 E.p8 hr1 (pa_cons (pv 0) pa_nil))) pa_nil))))))
      (C8.pss_cut (ps_set (i := 4) nd rfl (.inl rfl) (pe_op op_cat (pv 4)
      (pe_lst (pa_cons (pe_xat (pe_err1 E.p9 hr1 (pa_cons (pv 0) pa_nil)))
      (pa_cons (pe_xat (pe_err1 E.p10 hr1 (pa_cons (pv 0) pa_nil))) (pa_cons
      (pe_xat (pe_err1 E.p11 hr1 (pa_cons (pv 0) pa_nil))) pa_nil))))))
      (C8.pss_cut (ps_set (i := 4) nd rfl (.inl rfl) (pe_op op_cat (pv 4)
      (pe_lst (pa_cons (pe_xat (pe_err1 E.p12 hr1 (pa_cons (pv 0) pa_nil)))
      (pa_cons (pe_xat (pe_err1 E.p14 hr1 (pa_cons (pv 0) pa_nil))) (pa_cons
      (pe_xat (pe_err1 E.p15 hr1 (pa_cons (pv 0) pa_nil))) (pa_cons (pe_xat
      (pe_err1 E.p16 hr1 (pa_cons (pv 0) pa_nil))) pa_nil))))))) (C8.pss_cut
      (ps_set (i := 4) nd rfl (.inl rfl) (pe_op op_cat (pv 4) (pe_lst (pa_cons
      (pe_xat (pe_err1 E.p19 hr1 (pa_cons (pv 0) pa_nil))) (pa_cons (pe_xat
      (pe_err1 E.p20 hr1 (pa_cons (pv 0) pa_nil))) (pa_cons (pe_xat (pe_err1
      E.p21 hr1 (pa_cons (pv 0) pa_nil))) pa_nil)))))) (C8.pss_cut (ps_set (i :=
      4) nd rfl (.inl rfl) (pe_op op_cat (pv 4) (pe_lst (pa_cons (pe_xat
      (pe_err1 E.p22 hr1 (pa_cons (pv 0) pa_nil))) (pa_cons (pe_xat (pe_err1
      E.p23 hr1 (pa_cons (pv 0) pa_nil))) (pa_cons (pe_xat (pe_err1 E.p24 hr1
      (pa_cons (pv 0) pa_nil))) (pa_cons (pe_xat (pe_err1 E.p25 hr1 (pa_cons (pv
      0) pa_nil))) pa_nil))))))) (C8.pss_cut (ps_set (i := 4) nd rfl (.inl rfl)
      (pe_op op_cat (pv 4) (pe_lst (pa_cons (pe_xat (pe_err1 E.p26 hr1 (pa_cons
      (pv 0) pa_nil))) (pa_cons (pe_xat (pe_err1 E.p27 hr1 (pa_cons (pv 0)
      pa_nil))) (pa_cons (pe_xat (pe_err1 E.p28 hr1 (pa_cons (pv 0) pa_nil)))
      pa_nil)))))) (pss_one (ps_ret (pe_op op_cat (pv 4) (pe_lst (pa_cons
      (pe_xat (pe_err1 E.p29 hr1 (pa_cons (pv 0) pa_nil))) (pa_cons (pe_xat
      (pe_err1 E.p30 hr1 (pa_cons (pv 0) pa_nil))) pa_nil))))))))))))))), ?_⟩
  refine ⟨fun σ' H' => ∃ a1 a2, ExAt H' a1 (c 1) [("position", v2), ("problem", v1)] ∧ ExAt H' a2 (c 13) [("position", v2), ("problem", v1)] ∧ Same H H' ∧ σ' = [some v1, some v2, some (.ref a1), some (.ref a2), none], ?_, ?_⟩
  · exact ⟨_, rfl, _, rfl, _, _, rfl, fun a1 H1 n1 s1 x1 => ⟨_, rfl, _, rfl, _, _, rfl, fun a2 H2 n2 s2 x2 => ⟨_, _, rfl, a1, a2, x1.same s2, x2, s1.trans s2, rfl⟩⟩⟩
  rintro _ H1 ⟨a1, a2, x1, x2, s1, rfl⟩
  refine ⟨fun σ' H' => ∃ l, H' l = some (.lst ([v1, v2, v1, v2] ++ List.replicate 1 v1)) ∧ Same H H' ∧ σ' = [some v1, some v2, some (.ref a1), some (.ref a2), some (.ref l)], ?_, ?_⟩
  · refine ⟨_, rfl, a1, c 1, _, v1, rfl, x1, (E.val 1 (by decide)).xf, E.a1, rfl, ?_⟩
    refine ⟨_, rfl, a1, c 1, _, v2, rfl, x1, (E.val 1 (by decide)).xf, E.b1, rfl, ?_⟩
    refine ⟨_, rfl, a2, c 13, _, v1, rfl, x2, (E.val 13 (by decide)).xf, E.a13, rfl, ?_⟩
    refine ⟨_, rfl, a2, c 13, _, v2, rfl, x2, (E.val 13 (by decide)).xf, E.b13, rfl, ?_⟩
    refine ⟨_, rfl, _, rfl, fun e1 K1 m1 t1 y1 => ⟨e1, c 2, _, _, rfl, y1, (E.val 2 (by decide)).xf, E.a2, rfl, ?_⟩⟩
    refine ⟨sz (by simp), fun t nt => ?_⟩
    have z2 := sameNew (o := .lst [v1, v2, v1, v2, v1]) nt
    exact ⟨t, upd_same, (s1.trans t1).trans z2, rfl⟩
  clear x1 x2 s1
  rintro _ H1 ⟨l, hl, s1, rfl⟩
  refine ⟨fun σ' H' => ∃ l, H' l = some (.lst ([v1, v2, v1, v2] ++ List.replicate 4 v1)) ∧ Same H H' ∧ σ' = [some v1, some v2, some (.ref a1), some (.ref a2), some (.ref l)], ?_, ?_⟩
  · refine ⟨_, rfl, ?_⟩
    refine ⟨_, rfl, _, rfl, fun e2 K2 m2 t2 y2 => ⟨e2, c 3, _, _, rfl, y2, (E.val 3 (by decide)).xf, E.a3, rfl, ?_⟩⟩
    refine ⟨_, rfl, _, rfl, fun e3 K3 m3 t3 y3 => ⟨e3, c 4, _, _, rfl, y3, (E.val 4 (by decide)).xf, E.a4, rfl, ?_⟩⟩
    refine ⟨_, rfl, _, rfl, fun e4 K4 m4 t4 y4 => ⟨e4, c 5, _, _, rfl, y4, (E.val 5 (by decide)).xf, E.a5, rfl, ?_⟩⟩
    refine ⟨sz (by simp), fun t nt => ?_⟩
    have z2 := sameNew (o := .lst [v1, v1, v1]) nt
    have h2 := z2 _ _ (((t2.trans t3).trans t4) _ _ hl)
    refine ⟨l, t, _, _, rfl, rfl, h2, upd_same, sz (by rw [List.length_append, List.length_replicate]; show 4 + 1 + 3 ≤ _; omega), fun u nu => ?_⟩
    have z3 := sameNew (o := .lst ([v1, v2, v1, v2] ++ List.replicate 1 v1 ++ [v1, v1, v1])) nu
    exact ⟨u, upd_same, ((s1.trans ((t2.trans t3).trans t4)).trans z2).trans z3, rfl⟩
  clear hl s1
  rintro _ H1 ⟨l, hl, s1, rfl⟩
  refine ⟨fun σ' H' => ∃ l, H' l = some (.lst ([v1, v2, v1, v2] ++ List.replicate 7 v1)) ∧ Same H H' ∧ σ' = [some v1, some v2, some (.ref a1), some (.ref a2), some (.ref l)], ?_, ?_⟩
  · refine ⟨_, rfl, ?_⟩
    refine ⟨_, rfl, _, rfl, fun e5 K5 m5 t5 y5 => ⟨e5, c 6, _, _, rfl, y5, (E.val 6 (by decide)).xf, E.a6, rfl, ?_⟩⟩
    refine ⟨_, rfl, _, rfl, fun e6 K6 m6 t6 y6 => ⟨e6, c 7, _, _, rfl, y6, (E.val 7 (by decide)).xf, E.a7, rfl, ?_⟩⟩
    refine ⟨_, rfl, _, rfl, fun e7 K7 m7 t7 y7 => ⟨e7, c 8, _, _, rfl, y7, (E.val 8 (by decide)).xf, E.a8, rfl, ?_⟩⟩
    refine ⟨sz (by simp), fun t nt => ?_⟩
    have z2 := sameNew (o := .lst [v1, v1, v1]) nt
    have h2 := z2 _ _ (((t5.trans t6).trans t7) _ _ hl)
    refine ⟨l, t, _, _, rfl, rfl, h2, upd_same, sz (by rw [List.length_append, List.length_replicate]; show 4 + 4 + 3 ≤ _; omega), fun u nu => ?_⟩
    have z3 := sameNew (o := .lst ([v1, v2, v1, v2] ++ List.replicate 4 v1 ++ [v1, v1, v1])) nu
    exact ⟨u, upd_same, ((s1.trans ((t5.trans t6).trans t7)).trans z2).trans z3, rfl⟩
  clear hl s1
  rintro _ H1 ⟨l, hl, s1, rfl⟩
  refine ⟨fun σ' H' => ∃ l, H' l = some (.lst ([v1, v2, v1, v2] ++ List.replicate 10 v1)) ∧ Same H H' ∧ σ' = [some v1, some v2, some (.ref a1), some (.ref a2), some (.ref l)], ?_, ?_⟩
  · refine ⟨_, rfl, ?_⟩
    refine ⟨_, rfl, _, rfl, fun e8 K8 m8 t8 y8 => ⟨e8, c 9, _, _, rfl, y8, (E.val 9 (by decide)).xf, E.a9, rfl, ?_⟩⟩
    refine ⟨_, rfl, _, rfl, fun e9 K9 m9 t9 y9 => ⟨e9, c 10, _, _, rfl, y9, (E.val 10 (by decide)).xf, E.a10, rfl, ?_⟩⟩
    refine ⟨_, rfl, _, rfl, fun e10 K10 m10 t10 y10 => ⟨e10, c 11, _, _, rfl, y10, (E.val 11 (by decide)).xf, E.a11, rfl, ?_⟩⟩
    refine ⟨sz (by simp), fun t nt => ?_⟩
    have z2 := sameNew (o := .lst [v1, v1, v1]) nt
    have h2 := z2 _ _ (((t8.trans t9).trans t10) _ _ hl)
    refine ⟨l, t, _, _, rfl, rfl, h2, upd_same, sz (by rw [List.length_append, List.length_replicate]; show 4 + 7 + 3 ≤ _; omega), fun u nu => ?_⟩
    have z3 := sameNew (o := .lst ([v1, v2, v1, v2] ++ List.replicate 7 v1 ++ [v1, v1, v1])) nu
    exact ⟨u, upd_same, ((s1.trans ((t8.trans t9).trans t10)).trans z2).trans z3, rfl⟩
  clear hl s1
  rintro _ H1 ⟨l, hl, s1, rfl⟩
  refine ⟨fun σ' H' => ∃ l, H' l = some (.lst ([v1, v2, v1, v2] ++ List.replicate 14 v1)) ∧ Same H H' ∧ σ' = [some v1, some v2, some (.ref a1), some (.ref a2), some (.ref l)], ?_, ?_⟩
  · refine ⟨_, rfl, ?_⟩
    refine ⟨_, rfl, _, rfl, fun e11 K11 m11 t11 y11 => ⟨e11, c 12, _, _, rfl, y11, (E.val 12 (by decide)).xf, E.a12, rfl, ?_⟩⟩
    refine ⟨_, rfl, _, rfl, fun e12 K12 m12 t12 y12 => ⟨e12, c 14, _, _, rfl, y12, (E.val 14 (by decide)).xf, E.a14, rfl, ?_⟩⟩
    refine ⟨_, rfl, _, rfl, fun e13 K13 m13 t13 y13 => ⟨e13, c 15, _, _, rfl, y13, (E.val 15 (by decide)).xf, E.a15, rfl, ?_⟩⟩
    refine ⟨_, rfl, _, rfl, fun e14 K14 m14 t14 y14 => ⟨e14, c 16, _, _, rfl, y14, (E.val 16 (by decide)).xf, E.a16, rfl, ?_⟩⟩
    refine ⟨sz (by simp), fun t nt => ?_⟩
    have z2 := sameNew (o := .lst [v1, v1, v1, v1]) nt
    have h2 := z2 _ _ ((((t11.trans t12).trans t13).trans t14) _ _ hl)
    refine ⟨l, t, _, _, rfl, rfl, h2, upd_same, sz (by rw [List.length_append, List.length_replicate]; show 4 + 10 + 4 ≤ _; omega), fun u nu => ?_⟩
    have z3 := sameNew (o := .lst ([v1, v2, v1, v2] ++ List.replicate 10 v1 ++ [v1, v1, v1, v1])) nu
    exact ⟨u, upd_same, ((s1.trans (((t11.trans t12).trans t13).trans t14)).trans z2).trans z3, rfl⟩
  clear hl s1
  rintro _ H1 ⟨l, hl, s1, rfl⟩
  refine ⟨fun σ' H' => ∃ l, H' l = some (.lst ([v1, v2, v1, v2] ++ List.replicate 17 v1)) ∧ Same H H' ∧ σ' = [some v1, some v2, some (.ref a1), some (.ref a2), some (.ref l)], ?_, ?_⟩
  · refine ⟨_, rfl, ?_⟩
    refine ⟨_, rfl, _, rfl, fun e15 K15 m15 t15 y15 => ⟨e15, c 19, _, _, rfl, y15, (E.val 19 (by decide)).xf, E.a19, rfl, ?_⟩⟩
    refine ⟨_, rfl, _, rfl, fun e16 K16 m16 t16 y16 => ⟨e16, c 20, _, _, rfl, y16, (E.val 20 (by decide)).xf, E.a20, rfl, ?_⟩⟩
    refine ⟨_, rfl, _, rfl, fun e17 K17 m17 t17 y17 => ⟨e17, c 21, _, _, rfl, y17, (E.val 21 (by decide)).xf, E.a21, rfl, ?_⟩⟩
    refine ⟨sz (by simp), fun t nt => ?_⟩
    have z2 := sameNew (o := .lst [v1, v1, v1]) nt
    have h2 := z2 _ _ (((t15.trans t16).trans t17) _ _ hl)
    refine ⟨l, t, _, _, rfl, rfl, h2, upd_same, sz (by rw [List.length_append, List.length_replicate]; show 4 + 14 + 3 ≤ _; omega), fun u nu => ?_⟩
    have z3 := sameNew (o := .lst ([v1, v2, v1, v2] ++ List.replicate 14 v1 ++ [v1, v1, v1])) nu
    exact ⟨u, upd_same, ((s1.trans ((t15.trans t16).trans t17)).trans z2).trans z3, rfl⟩
  clear hl s1
  rintro _ H1 ⟨l, hl, s1, rfl⟩
  refine ⟨fun σ' H' => ∃ l, H' l = some (.lst ([v1, v2, v1, v2] ++ List.replicate 21 v1)) ∧ Same H H' ∧ σ' = [some v1, some v2, some (.ref a1), some (.ref a2), some (.ref l)], ?_, ?_⟩
  · refine ⟨_, rfl, ?_⟩
    refine ⟨_, rfl, _, rfl, fun e18 K18 m18 t18 y18 => ⟨e18, c 22, _, _, rfl, y18, (E.val 22 (by decide)).xf, E.a22, rfl, ?_⟩⟩
    refine ⟨_, rfl, _, rfl, fun e19 K19 m19 t19 y19 => ⟨e19, c 23, _, _, rfl, y19, (E.val 23 (by decide)).xf, E.a23, rfl, ?_⟩⟩
    refine ⟨_, rfl, _, rfl, fun e20 K20 m20 t20 y20 => ⟨e20, c 24, _, _, rfl, y20, (E.val 24 (by decide)).xf, E.a24, rfl, ?_⟩⟩
    refine ⟨_, rfl, _, rfl, fun e21 K21 m21 t21 y21 => ⟨e21, c 25, _, _, rfl, y21, (E.val 25 (by decide)).xf, E.a25, rfl, ?_⟩⟩
    refine ⟨sz (by simp), fun t nt => ?_⟩
    have z2 := sameNew (o := .lst [v1, v1, v1, v1]) nt
    have h2 := z2 _ _ ((((t18.trans t19).trans t20).trans t21) _ _ hl)
    refine ⟨l, t, _, _, rfl, rfl, h2, upd_same, sz (by rw [List.length_append, List.length_replicate]; show 4 + 17 + 4 ≤ _; omega), fun u nu => ?_⟩
    have z3 := sameNew (o := .lst ([v1, v2, v1, v2] ++ List.replicate 17 v1 ++ [v1, v1, v1, v1])) nu
    exact ⟨u, upd_same, ((s1.trans (((t18.trans t19).trans t20).trans t21)).trans z2).trans z3, rfl⟩
  clear hl s1
  rintro _ H1 ⟨l, hl, s1, rfl⟩
  refine ⟨fun σ' H' => ∃ l, H' l = some (.lst ([v1, v2, v1, v2] ++ List.replicate 24 v1)) ∧ Same H H' ∧ σ' = [some v1, some v2, some (.ref a1), some (.ref a2), some (.ref l)], ?_, ?_⟩
  · refine ⟨_, rfl, ?_⟩
    refine ⟨_, rfl, _, rfl, fun e22 K22 m22 t22 y22 => ⟨e22, c 26, _, _, rfl, y22, (E.val 26 (by decide)).xf, E.a26, rfl, ?_⟩⟩
    refine ⟨_, rfl, _, rfl, fun e23 K23 m23 t23 y23 => ⟨e23, c 27, _, _, rfl, y23, (E.val 27 (by decide)).xf, E.a27, rfl, ?_⟩⟩
    refine ⟨_, rfl, _, rfl, fun e24 K24 m24 t24 y24 => ⟨e24, c 28, _, _, rfl, y24, (E.val 28 (by decide)).xf, E.a28, rfl, ?_⟩⟩
    refine ⟨sz (by simp), fun t nt => ?_⟩
    have z2 := sameNew (o := .lst [v1, v1, v1]) nt
    have h2 := z2 _ _ (((t22.trans t23).trans t24) _ _ hl)
    refine ⟨l, t, _, _, rfl, rfl, h2, upd_same, sz (by rw [List.length_append, List.length_replicate]; show 4 + 21 + 3 ≤ _; omega), fun u nu => ?_⟩
    have z3 := sameNew (o := .lst ([v1, v2, v1, v2] ++ List.replicate 21 v1 ++ [v1, v1, v1])) nu
    exact ⟨u, upd_same, ((s1.trans ((t22.trans t23).trans t24)).trans z2).trans z3, rfl⟩
  clear hl s1
  rintro _ H1 ⟨l, hl, s1, rfl⟩
  · refine ⟨_, rfl, ?_⟩
    refine ⟨_, rfl, _, rfl, fun e25 K25 m25 t25 y25 => ⟨e25, c 29, _, _, rfl, y25, (E.val 29 (by decide)).xf, E.a29, rfl, ?_⟩⟩
    refine ⟨_, rfl, _, rfl, fun e26 K26 m26 t26 y26 => ⟨e26, c 30, _, _, rfl, y26, (E.val 30 (by decide)).xf, E.a30, rfl, ?_⟩⟩
    refine ⟨sz (by simp), fun t nt => ?_⟩
    have z2 := sameNew (o := .lst [v1, v1]) nt
    have h2 := z2 _ _ ((t25.trans t26) _ _ hl)
    refine ⟨l, t, _, _, rfl, rfl, h2, upd_same, sz (by rw [List.length_append, List.length_replicate]; show 4 + 24 + 2 ≤ _; omega), fun u nu => ?_⟩
    have z3 := sameNew (o := .lst ([v1, v2, v1, v2] ++ List.replicate 24 v1 ++ [v1, v1])) nu
    have s0 := (((s1.trans (t25.trans t26)).trans z2).trans z3)
    refine q u _ ?_ s0 upd_same
    cases e : H u with
    | none => rfl
    | some o =>
      have := ((s1.trans (t25.trans t26)).trans z2) _ _ e
      rw [nu] at this
      cases this
end
end OM
namespace OM
open PySem PySem.Spec PyProof.Rows L2
section
variable {P : Program} {w : World} {K : PySem.W.Frag}
  {mg : Str → Option Value} {base : Heap} {c : Nat → Addr}
theorem ok_nam17 {f : Addr} {fd : FuncData} {k : Nat}
    (F : Fun K "_law_named_attributes" "_law_named_attributes" s_Lnamed_attributes f fd) (E : E17 P w K mg base c) :
    FnOk P w K mg base CX0 (k + 3) f fd ["_law_one", "_law_other"] spAtt17 := by
  refine F.ok sc_Lnamed_attributes (fun vs H Q E h => ?_)
    (fun cv A outer s H vs Q E' hr h => ?_)
  · obtain ⟨v1, v2, rfl, _⟩ := h
    rfl
  obtain ⟨v1, v2, rfl, q⟩ := h
  have nd := sc_Lnamed_attributes.nd
  have hr1 := hr.mono (show 2 ≤ k + 2 by omega)
  refine ⟨_, (C8.pss_cut (ps_par (i := 2) (j := 3) (by rfl) nd rfl rfl (by decide) rfl
      rfl (pa_cons (pe_err2W E.w1 hr1 (pk_cons (pv 1) (pk_cons (pv 0) pk_nil)))
      (pa_cons (pe_err2W E.w13 hr1 (pk_cons (pv 1) (pk_cons (pv 0) pk_nil)))
      pa_nil)) (by rfl)) (C8.pss_cut (ps_set (i := 4) nd rfl (.inl rfl) (pe_lst
      (pa_cons (pe_xat (pv 2)) (pa_cons (pe_xat (pv 2)) (pa_cons (pe_xat (pv 3))
      (pa_cons (pe_xat (pv 3)) (pa_cons (pe_xat (pe_err1W E.w2 hr1 (pk_cons (pv
      0) pk_nil))) pa_nil))))))) (C8.pss_cut (ps_set (i := 4) nd rfl (.inl rfl)
      (pe_op op_cat (pv 4) (pe_lst (pa_cons (pe_xat (pe_err1W E.w3 hr1 (pk_cons
      (pv 0) pk_nil))) (pa_cons (pe_xat (pe_err1W E.w4 hr1 (pk_cons (pv 0)
      pk_nil))) (pa_cons (pe_xat (pe_err1W E.w5 hr1 (pk_cons (pv 0) pk_nil)))
      pa_nil)))))) (C8.pss_cut (ps_set (i := 4) nd rfl (.inl rfl) (pe_op op_cat
      (pv 4) (pe_lst (pa_cons (pe_xat (pe_err1W E.w6 hr1 (pk_cons (pv 0)
      pk_nil))) (pa_cons (pe_xat (pe_err1W E.w7 hr1 (pk_cons (pv 0) pk_nil)))
      pa_nil))))) (C8.pss_cut (ps_set (i := 4) nd rfl (.inl rfl) (pe_op op_cat
      (pv 4) (pe_lst (pa_cons (pe_xat (pe_err1W E.w8 hr1 (pk_cons (pv 0)
      pk_nil))) (pa_cons (pe_xat (pe_err1W E.w9 hr1 (pk_cons (pv 0) pk_nil)))
      pa_nil))))) (C8.pss_cut (ps_set (i := 4) nd rfl (.inl rfl) (pe_op op_cat
      (pv 4) (pe_lst (pa_cons (pe_xat (pe_err1W E.w10 hr1 (pk_cons (pv 0)
      pk_nil))) (pa_cons (pe_xat (pe_err1W E.w11 hr1 (pk_cons (pv 0) pk_nil)))
      pa_nil))))) (C8.pss_cut (ps_set (i := 4) nd rfl (.inl rfl) (pe_op op_cat
      (pv 4) (pe_lst (pa_cons (pe_xat (pe_err1W E.w12 hr1 (pk_cons (pv 0)
      pk_nil))) (pa_cons (pe_xat (pe_err1W E.w14 hr1 (pk_cons (pv 0) pk_nil)))
      pa_nil))))) (C8.pss_cut (ps_set (i := 4) nd rfl (.inl rfl) (pe_op op_cat
      (pv 4) (pe_lst (pa_cons (pe_xat (pe_err1W E.w15 hr1 (pk_cons (pv 0)
      pk_nil))) (pa_cons (pe_xat (pe_err1W E.w16 hr1 (pk_cons (pv 0) pk_nil)))
      pa_nil))))) (C8.pss_cut (ps_set (i := 4) nd rfl (.inl rfl) (pe_op op_cat
      (pv 4) (pe_lst (pa_cons (pe_xat (pe_err1W E.w19 hr1 (pk_cons (pv 0)
      pk_nil))) (pa_cons (pe_xat (pe_err1W E.w20 hr1 (pk_cons (pv 0) pk_nil)))
      (pa_cons (pe_xat (pe_err1W E.w21 hr1 (pk_cons (pv 0) pk_nil)))
      pa_nil)))))) (C8.pss_cut (ps_set (i := 4) nd rfl (.inl rfl) (pe_op op_cat
      (pv 4) (pe_lst (pa_cons (pe_xat (pe_err1W E.w22 hr1 (pk_cons (pv 0)
      pk_nil))) (pa_cons (pe_xat (pe_err1W E.w23 hr1 (pk_cons (pv 0) pk_nil)))
      (pa_cons (pe_xat (pe_err1W E.w24 hr1 (pk_cons (pv 0) pk_nil)))
      pa_nil)))))) (C8.pss_cut (ps_set (i := 4) nd rfl (.inl rfl) (pe_op op_cat
      (pv 4) (pe_lst (pa_cons (pe_xat (pe_err1W E.w25 hr1 (pk_cons (pv 0)
      pk_nil))) (pa_cons (pe_xat (pe_err1W E.w26 hr1 (pk_cons (pv 0) pk_nil)))
      (pa_cons (pe_xat (pe_err1W E.w27 hr1 (pk_cons (pv 0) pk_nil)))
      pa_nil)))))) (C8.pss_cut (ps_set (i := 4) nd rfl (.inl rfl) (pe_op op_cat
      (pv 4) (pe_lst (pa_cons (pe_xat (pe_err1W E.w28 hr1 (pk_cons (pv 0)
      pk_nil))) (pa_cons (pe_xat (pe_err1W E.w29 hr1 (pk_cons (pv 0) pk_nil)))
      pa_nil))))) (pss_one (ps_ret (pe_op op_cat (pv 4) (pe_lst (pa_cons (pe_xat
      (pe_err1W E.w30 hr1 (pk_cons (pv 0) pk_nil))) pa_nil))))))))))))))))), ?_⟩
  refine ⟨fun σ' H' => ∃ a1 a2, ExAt H' a1 (c 1) [("position", v2), ("problem", v1)] ∧ ExAt H' a2 (c 13) [("position", v2), ("problem", v1)] ∧ Same H H' ∧ σ' = [some v1, some v2, some (.ref a1), some (.ref a2), none], ?_, ?_⟩
  · exact ⟨_, rfl, _, rfl, _, _, rfl, fun a1 H1 n1 s1 x1 => ⟨_, rfl, _, rfl, _, _, rfl, fun a2 H2 n2 s2 x2 => ⟨_, _, rfl, a1, a2, x1.same s2, x2, s1.trans s2, rfl⟩⟩⟩
  rintro _ H1 ⟨a1, a2, x1, x2, s1, rfl⟩
  refine ⟨fun σ' H' => ∃ l, H' l = some (.lst ([v1, v2, v1, v2] ++ List.replicate 1 v1)) ∧ Same H H' ∧ σ' = [some v1, some v2, some (.ref a1), some (.ref a2), some (.ref l)], ?_, ?_⟩
  · refine ⟨_, rfl, a1, c 1, _, v1, rfl, x1, (E.val 1 (by decide)).xf, E.a1, rfl, ?_⟩
    refine ⟨_, rfl, a1, c 1, _, v2, rfl, x1, (E.val 1 (by decide)).xf, E.b1, rfl, ?_⟩
    refine ⟨_, rfl, a2, c 13, _, v1, rfl, x2, (E.val 13 (by decide)).xf, E.a13, rfl, ?_⟩
    refine ⟨_, rfl, a2, c 13, _, v2, rfl, x2, (E.val 13 (by decide)).xf, E.b13, rfl, ?_⟩
    refine ⟨_, rfl, _, rfl, fun e1 K1 m1 t1 y1 => ⟨e1, c 2, _, _, rfl, y1, (E.val 2 (by decide)).xf, E.a2, rfl, ?_⟩⟩
    refine ⟨sz (by simp), fun t nt => ?_⟩
    have z2 := sameNew (o := .lst [v1, v2, v1, v2, v1]) nt
    exact ⟨t, upd_same, (s1.trans t1).trans z2, rfl⟩
  clear x1 x2 s1
  rintro _ H1 ⟨l, hl, s1, rfl⟩
  refine ⟨fun σ' H' => ∃ l, H' l = some (.lst ([v1, v2, v1, v2] ++ List.replicate 4 v1)) ∧ Same H H' ∧ σ' = [some v1, some v2, some (.ref a1), some (.ref a2), some (.ref l)], ?_, ?_⟩
  · refine ⟨_, rfl, ?_⟩
    refine ⟨_, rfl, _, rfl, fun e2 K2 m2 t2 y2 => ⟨e2, c 3, _, _, rfl, y2, (E.val 3 (by decide)).xf, E.a3, rfl, ?_⟩⟩
    refine ⟨_, rfl, _, rfl, fun e3 K3 m3 t3 y3 => ⟨e3, c 4, _, _, rfl, y3, (E.val 4 (by decide)).xf, E.a4, rfl, ?_⟩⟩
    refine ⟨_, rfl, _, rfl, fun e4 K4 m4 t4 y4 => ⟨e4, c 5, _, _, rfl, y4, (E.val 5 (by decide)).xf, E.a5, rfl, ?_⟩⟩
    refine ⟨sz (by simp), fun t nt => ?_⟩
    have z2 := sameNew (o := .lst [v1, v1, v1]) nt
    have h2 := z2 _ _ (((t2.trans t3).trans t4) _ _ hl)
    refine ⟨l, t, _, _, rfl, rfl, h2, upd_same, sz (by rw [List.length_append, List.length_replicate]; show 4 + 1 + 3 ≤ _; omega), fun u nu => ?_⟩
    have z3 := sameNew (o := .lst ([v1, v2, v1, v2] ++ List.replicate 1 v1 ++ [v1, v1, v1])) nu
    exact ⟨u, upd_same, ((s1.trans ((t2.trans t3).trans t4)).trans z2).trans z3, rfl⟩
  clear hl s1
  rintro _ H1 ⟨l, hl, s1, rfl⟩
  refine ⟨fun σ' H' => ∃ l, H' l = some (.lst ([v1, v2, v1, v2] ++ List.replicate 6 v1)) ∧ Same H H' ∧ σ' = [some v1, some v2, some (.ref a1), some (.ref a2), some (.ref l)], ?_, ?_⟩
  · refine ⟨_, rfl, ?_⟩
    refine ⟨_, rfl, _, rfl, fun e5 K5 m5 t5 y5 => ⟨e5, c 6, _, _, rfl, y5, (E.val 6 (by decide)).xf, E.a6, rfl, ?_⟩⟩
    refine ⟨_, rfl, _, rfl, fun e6 K6 m6 t6 y6 => ⟨e6, c 7, _, _, rfl, y6, (E.val 7 (by decide)).xf, E.a7, rfl, ?_⟩⟩
    refine ⟨sz (by simp), fun t nt => ?_⟩
    have z2 := sameNew (o := .lst [v1, v1]) nt
    have h2 := z2 _ _ ((t5.trans t6) _ _ hl)
    refine ⟨l, t, _, _, rfl, rfl, h2, upd_same, sz (by rw [List.length_append, List.length_replicate]; show 4 + 4 + 2 ≤ _; omega), fun u nu => ?_⟩
    have z3 := sameNew (o := .lst ([v1, v2, v1, v2] ++ List.replicate 4 v1 ++ [v1, v1])) nu
    exact ⟨u, upd_same, ((s1.trans (t5.trans t6)).trans z2).trans z3, rfl⟩
  clear hl s1
  rintro _ H1 ⟨l, hl, s1, rfl⟩
  refine ⟨fun σ' H' => ∃ l, H' l = some (.lst ([v1, v2, v1, v2] ++ List.replicate 8 v1)) ∧ Same H H' ∧ σ' = [some v1, some v2, some (.ref a1), some (.ref a2), some (.ref l)], ?_, ?_⟩
  · refine ⟨_, rfl, ?_⟩
    refine ⟨_, rfl, _, rfl, fun e7 K7 m7 t7 y7 => ⟨e7, c 8, _, _, rfl, y7, (E.val 8 (by decide)).xf, E.a8, rfl, ?_⟩⟩
    refine ⟨_, rfl, _, rfl, fun e8 K8 m8 t8 y8 => ⟨e8, c 9, _, _, rfl, y8, (E.val 9 (by decide)).xf, E.a9, rfl, ?_⟩⟩
    refine ⟨sz (by simp), fun t nt => ?_⟩
    have z2 := sameNew (o := .lst [v1, v1]) nt
    have h2 := z2 _ _ ((t7.trans t8) _ _ hl)
    refine ⟨l, t, _, _, rfl, rfl, h2, upd_same, sz (by rw [List.length_append, List.length_replicate]; show 4 + 6 + 2 ≤ _; omega), fun u nu => ?_⟩
    have z3 := sameNew (o := .lst ([v1, v2, v1, v2] ++ List.replicate 6 v1 ++ [v1, v1])) nu
    exact ⟨u, upd_same, ((s1.trans (t7.trans t8)).trans z2).trans z3, rfl⟩
  clear hl s1
  rintro _ H1 ⟨l, hl, s1, rfl⟩
  refine ⟨fun σ' H' => ∃ l, H' l = some (.lst ([v1, v2, v1, v2] ++ List.replicate 10 v1)) ∧ Same H H' ∧ σ' = [some v1, some v2, some (.ref a1), some (.ref a2), some (.ref l)], ?_, ?_⟩
  · refine ⟨_, rfl, ?_⟩
    refine ⟨_, rfl, _, rfl, fun e9 K9 m9 t9 y9 => ⟨e9, c 10, _, _, rfl, y9, (E.val 10 (by decide)).xf, E.a10, rfl, ?_⟩⟩
    refine ⟨_, rfl, _, rfl, fun e10 K10 m10 t10 y10 => ⟨e10, c 11, _, _, rfl, y10, (E.val 11 (by decide)).xf, E.a11, rfl, ?_⟩⟩
    refine ⟨sz (by simp), fun t nt => ?_⟩
    have z2 := sameNew (o := .lst [v1, v1]) nt
    have h2 := z2 _ _ ((t9.trans t10) _ _ hl)
    refine ⟨l, t, _, _, rfl, rfl, h2, upd_same, sz (by rw [List.length_append, List.length_replicate]; show 4 + 8 + 2 ≤ _; omega), fun u nu => ?_⟩
    have z3 := sameNew (o := .lst ([v1, v2, v1, v2] ++ List.replicate 8 v1 ++ [v1, v1])) nu
    exact ⟨u, upd_same, ((s1.trans (t9.trans t10)).trans z2).trans z3, rfl⟩
  clear hl s1
  rintro _ H1 ⟨l, hl, s1, rfl⟩
  refine ⟨fun σ' H' => ∃ l, H' l = some (.lst ([v1, v2, v1, v2] ++ List.replicate 12 v1)) ∧ Same H H' ∧ σ' = [some v1, some v2, some (.ref a1), some (.ref a2), some (.ref l)], ?_, ?_⟩
  · refine ⟨_, rfl, ?_⟩
    refine ⟨_, rfl, _, rfl, fun e11 K11 m11 t11 y11 => ⟨e11, c 12, _, _, rfl, y11, (E.val 12 (by decide)).xf, E.a12, rfl, ?_⟩⟩
    refine ⟨_, rfl, _, rfl, fun e12 K12 m12 t12 y12 => ⟨e12, c 14, _, _, rfl, y12, (E.val 14 (by decide)).xf, E.a14, rfl, ?_⟩⟩
    refine ⟨sz (by simp), fun t nt => ?_⟩
    have z2 := sameNew (o := .lst [v1, v1]) nt
    have h2 := z2 _ _ ((t11.trans t12) _ _ hl)
    refine ⟨l, t, _, _, rfl, rfl, h2, upd_same, sz (by rw [List.length_append, List.length_replicate]; show 4 + 10 + 2 ≤ _; omega), fun u nu => ?_⟩
    have z3 := sameNew (o := .lst ([v1, v2, v1, v2] ++ List.replicate 10 v1 ++ [v1, v1])) nu
    exact ⟨u, upd_same, ((s1.trans (t11.trans t12)).trans z2).trans z3, rfl⟩
  clear hl s1
  rintro _ H1 ⟨l, hl, s1, rfl⟩
  refine ⟨fun σ' H' => ∃ l, H' l = some (.lst ([v1, v2, v1, v2] ++ List.replicate 14 v1)) ∧ Same H H' ∧ σ' = [some v1, some v2, some (.ref a1), some (.ref a2), some (.ref l)], ?_, ?_⟩
  · refine ⟨_, rfl, ?_⟩
    refine ⟨_, rfl, _, rfl, fun e13 K13 m13 t13 y13 => ⟨e13, c 15, _, _, rfl, y13, (E.val 15 (by decide)).xf, E.a15, rfl, ?_⟩⟩
    refine ⟨_, rfl, _, rfl, fun e14 K14 m14 t14 y14 => ⟨e14, c 16, _, _, rfl, y14, (E.val 16 (by decide)).xf, E.a16, rfl, ?_⟩⟩
    refine ⟨sz (by simp), fun t nt => ?_⟩
    have z2 := sameNew (o := .lst [v1, v1]) nt
    have h2 := z2 _ _ ((t13.trans t14) _ _ hl)
    refine ⟨l, t, _, _, rfl, rfl, h2, upd_same, sz (by rw [List.length_append, List.length_replicate]; show 4 + 12 + 2 ≤ _; omega), fun u nu => ?_⟩
    have z3 := sameNew (o := .lst ([v1, v2, v1, v2] ++ List.replicate 12 v1 ++ [v1, v1])) nu
    exact ⟨u, upd_same, ((s1.trans (t13.trans t14)).trans z2).trans z3, rfl⟩
  clear hl s1
  rintro _ H1 ⟨l, hl, s1, rfl⟩
  refine ⟨fun σ' H' => ∃ l, H' l = some (.lst ([v1, v2, v1, v2] ++ List.replicate 17 v1)) ∧ Same H H' ∧ σ' = [some v1, some v2, some (.ref a1), some (.ref a2), some (.ref l)], ?_, ?_⟩
  · refine ⟨_, rfl, ?_⟩
    refine ⟨_, rfl, _, rfl, fun e15 K15 m15 t15 y15 => ⟨e15, c 19, _, _, rfl, y15, (E.val 19 (by decide)).xf, E.a19, rfl, ?_⟩⟩
    refine ⟨_, rfl, _, rfl, fun e16 K16 m16 t16 y16 => ⟨e16, c 20, _, _, rfl, y16, (E.val 20 (by decide)).xf, E.a20, rfl, ?_⟩⟩
    refine ⟨_, rfl, _, rfl, fun e17 K17 m17 t17 y17 => ⟨e17, c 21, _, _, rfl, y17, (E.val 21 (by decide)).xf, E.a21, rfl, ?_⟩⟩
    refine ⟨sz (by simp), fun t nt => ?_⟩
    have z2 := sameNew (o := .lst [v1, v1, v1]) nt
    have h2 := z2 _ _ (((t15.trans t16).trans t17) _ _ hl)
    refine ⟨l, t, _, _, rfl, rfl, h2, upd_same, sz (by rw [List.length_append, List.length_replicate]; show 4 + 14 + 3 ≤ _; omega), fun u nu => ?_⟩
    have z3 := sameNew (o := .lst ([v1, v2, v1, v2] ++ List.replicate 14 v1 ++ [v1, v1, v1])) nu
    exact ⟨u, upd_same, ((s1.trans ((t15.trans t16).trans t17)).trans z2).trans z3, rfl⟩
  clear hl s1
  rintro _ H1 ⟨l, hl, s1, rfl⟩
  refine ⟨fun σ' H' => ∃ l, H' l = some (.lst ([v1, v2, v1, v2] ++ List.replicate 20 v1)) ∧ Same H H' ∧ σ' = [some v1, some v2, some (.ref a1), some (.ref a2), some (.ref l)], ?_, ?_⟩
  · refine ⟨_, rfl, ?_⟩
    refine ⟨_, rfl, _, rfl, fun e18 K18 m18 t18 y18 => ⟨e18, c 22, _, _, rfl, y18, (E.val 22 (by decide)).xf, E.a22, rfl, ?_⟩⟩
    refine ⟨_, rfl, _, rfl, fun e19 K19 m19 t19 y19 => ⟨e19, c 23, _, _, rfl, y19, (E.val 23 (by decide)).xf, E.a23, rfl, ?_⟩⟩
    refine ⟨_, rfl, _, rfl, fun e20 K20 m20 t20 y20 => ⟨e20, c 24, _, _, rfl, y20, (E.val 24 (by decide)).xf, E.a24, rfl, ?_⟩⟩
    refine ⟨sz (by simp), fun t nt => ?_⟩
    have z2 := sameNew (o := .lst [v1, v1, v1]) nt
    have h2 := z2 _ _ (((t18.trans t19).trans t20) _ _ hl)
    refine ⟨l, t, _, _, rfl, rfl, h2, upd_same, sz (by rw [List.length_append, List.length_replicate]; show 4 + 17 + 3 ≤ _; omega), fun u nu => ?_⟩
    have z3 := sameNew (o := .lst ([v1, v2, v1, v2] ++ List.replicate 17 v1 ++ [v1, v1, v1])) nu
    exact ⟨u, upd_same, ((s1.trans ((t18.trans t19).trans t20)).trans z2).trans z3, rfl⟩
  clear hl s1
  rintro _ H1 ⟨l, hl, s1, rfl⟩
  refine ⟨fun σ' H' => ∃ l, H' l = some (.lst ([v1, v2, v1, v2] ++ List.replicate 23 v1)) ∧ Same H H' ∧ σ' = [some v1, some v2, some (.ref a1), some (.ref a2), some (.ref l)], ?_, ?_⟩
  · refine ⟨_, rfl, ?_⟩
    refine ⟨_, rfl, _, rfl, fun e21 K21 m21 t21 y21 => ⟨e21, c 25, _, _, rfl, y21, (E.val 25 (by decide)).xf, E.a25, rfl, ?_⟩⟩
    refine ⟨_, rfl, _, rfl, fun e22 K22 m22 t22 y22 => ⟨e22, c 26, _, _, rfl, y22, (E.val 26 (by decide)).xf, E.a26, rfl, ?_⟩⟩
    refine ⟨_, rfl, _, rfl, fun e23 K23 m23 t23 y23 => ⟨e23, c 27, _, _, rfl, y23, (E.val 27 (by decide)).xf, E.a27, rfl, ?_⟩⟩
    refine ⟨sz (by simp), fun t nt => ?_⟩
    have z2 := sameNew (o := .lst [v1, v1, v1]) nt
    have h2 := z2 _ _ (((t21.trans t22).trans t23) _ _ hl)
    refine ⟨l, t, _, _, rfl, rfl, h2, upd_same, sz (by rw [List.length_append, List.length_replicate]; show 4 + 20 + 3 ≤ _; omega), fun u nu => ?_⟩
    have z3 := sameNew (o := .lst ([v1, v2, v1, v2] ++ List.replicate 20 v1 ++ [v1, v1, v1])) nu
    exact ⟨u, upd_same, ((s1.trans ((t21.trans t22).trans t23)).trans z2).trans z3, rfl⟩
  clear hl s1
  rintro _ H1 ⟨l, hl, s1, rfl⟩
  refine ⟨fun σ' H' => ∃ l, H' l = some (.lst ([v1, v2, v1, v2] ++ List.replicate 25 v1)) ∧ Same H H' ∧ σ' = [some v1, some v2, some (.ref a1), some (.ref a2), some (.ref l)], ?_, ?_⟩
  · refine ⟨_, rfl, ?_⟩
    refine ⟨_, rfl, _, rfl, fun e24 K24 m24 t24 y24 => ⟨e24, c 28, _, _, rfl, y24, (E.val 28 (by decide)).xf, E.a28, rfl, ?_⟩⟩
    refine ⟨_, rfl, _, rfl, fun e25 K25 m25 t25 y25 => ⟨e25, c 29, _, _, rfl, y25, (E.val 29 (by decide)).xf, E.a29, rfl, ?_⟩⟩
    refine ⟨sz (by simp), fun t nt => ?_⟩
    have z2 := sameNew (o := .lst [v1, v1]) nt
    have h2 := z2 _ _ ((t24.trans t25) _ _ hl)
    refine ⟨l, t, _, _, rfl, rfl, h2, upd_same, sz (by rw [List.length_append, List.length_replicate]; show 4 + 23 + 2 ≤ _; omega), fun u nu => ?_⟩
    have z3 := sameNew (o := .lst ([v1, v2, v1, v2] ++ List.replicate 23 v1 ++ [v1, v1])) nu
    exact ⟨u, upd_same, ((s1.trans (t24.trans t25)).trans z2).trans z3, rfl⟩
  clear hl s1
  rintro _ H1 ⟨l, hl, s1, rfl⟩
  · refine ⟨_, rfl, ?_⟩
    refine ⟨_, rfl, _, rfl, fun e26 K26 m26 t26 y26 => ⟨e26, c 30, _, _, rfl, y26, (E.val 30 (by decide)).xf, E.a30, rfl, ?_⟩⟩
    refine ⟨sz (by simp), fun t nt => ?_⟩
    have z2 := sameNew (o := .lst [v1]) nt
    have h2 := z2 _ _ (t26 _ _ hl)
    refine ⟨l, t, _, _, rfl, rfl, h2, upd_same, sz (by rw [List.length_append, List.length_replicate]; show 4 + 25 + 1 ≤ _; omega), fun u nu => ?_⟩
    have z3 := sameNew (o := .lst ([v1, v2, v1, v2] ++ List.replicate 25 v1 ++ [v1])) nu
    have s0 := (((s1.trans t26).trans z2).trans z3)
    refine q u _ ?_ s0 upd_same
    cases e : H u with
    | none => rfl
    | some o =>
      have := ((s1.trans t26).trans z2) _ _ e
      rw [nu] at this
      cases this
end
end OM
namespace OM
open PySem PySem.Spec PyProof.Rows L2
/-- a list of errors, of the classes from off on -/
inductive Mad (c : Nat → Addr) (H : Hp) : Nat → List V → Prop
  | nil {off : Nat} : Mad c H off []
  | cons {off : Nat} {a : Addr} {xs : List V} : Er c H a off → Mad c H (off + 1) xs → Mad c H off (.ref a :: xs)
theorem Mad.same {c : Nat → Addr} {H H' : Hp} {off : Nat} {xs : List V} (m : Mad c H off xs) (s : Same H H') : Mad c H' off xs := by
  induction m with
  | nil => exact .nil
  | cons e _ ih => exact .cons (e.same s) ih
theorem Mad.app {c : Nat → Addr} {H : Hp} {off k : Nat} {xs ys : List V} (m : Mad c H off xs) (l : xs.length = k) (n : Mad c H (off + k) ys) : Mad c H off (xs ++ ys) := by
  induction m generalizing k with
  | nil =>
    rw [← l] at n
    exact n
  | cons e _ ih =>
    refine .cons e (ih rfl ?_)
    rw [← l, List.length_cons] at n
    rw [show ∀ o j : Nat, o + 1 + j = o + (j + 1) by omega]
    exact n
theorem Mad.at {c : Nat → Addr} {H : Hp} : ∀ {off n : Nat} {xs : List V} {v : V}, Mad c H off xs → xs[n]? = some v → ∃ a, v = .ref a ∧ Er c H a (off + n)
  | _, _, _, _, .nil, h => by simp at h
  | _, 0, _, _, .cons e _, h => by
    cases h
    exact ⟨_, rfl, e⟩
  | off, n + 1, _, _, .cons _ t, h => by
    obtain ⟨a, e1, e2⟩ := Mad.at (n := n) t h
    rw [show off + 1 + n = off + (n + 1) by omega] at e2
    exact ⟨a, e1, e2⟩
/-- lists of numbers, in a list -/
inductive Ls (H : Hp) : List V → List (List Nat) → Prop
  | nil : Ls H [] []
  | cons {a : Addr} {ns : List Nat} {vs : List V} {nss : List (List Nat)} : H a = some (.lst (vI ns)) → Ls H vs nss → Ls H (.ref a :: vs) (ns :: nss)
theorem Ls.same {H H' : Hp} {vs : List V} {nss : List (List Nat)} (l : Ls H vs nss) (s : Same H H') : Ls H' vs nss := by
  induction l with
  | nil => exact .nil
  | cons e _ ih => exact .cons (s _ _ e) ih
theorem Ls.app {H : Hp} {vs ws : List V} {nss mss : List (List Nat)} (l : Ls H vs nss) (m : Ls H ws mss) : Ls H (vs ++ ws) (nss ++ mss) := by
  induction l with
  | nil => exact m
  | cons e _ ih => exact .cons e ih
theorem Ls.rep {H : Hp} {a : Addr} {ns : List Nat} (h : H a = some (.lst (vI ns))) : ∀ n, Ls H (List.replicate n [V.ref a]).flatten (List.replicate n ns)
  | 0 => .nil
  | n + 1 => .cons h (Ls.rep h n)
theorem dpI {K : PySem.W.Frag} {H : Hp} : ∀ ns : List Nat, DpAll K H (vI ns) (dI ns)
  | [] => .nil
  | _ :: r => .cons (.int _) (dpI r)
def dLs (nss : List (List Nat)) : List PyData := nss.map fun ns => .list (dI ns)
theorem Ls.dp {K : PySem.W.Frag} {H : Hp} {vs : List V} {nss : List (List Nat)} (l : Ls H vs nss) : DpAll K H vs (dLs nss) := by
  induction l with
  | nil => exact .nil
  | cons e _ ih => exact .cons (.lst (SqL.of e) (dpI _)) ih
def spHi17 : Sp := fun vs H Q _ => ∃ v1 v2 : V, vs = [v1, v2] ∧ ∀ H', Same H H' → Q (.bl true) H'
theorem Ls.len {H : Hp} {vs : List V} {nss : List (List Nat)} (l : Ls H vs nss) : vs.length = nss.length := by
  induction l with
  | nil => rfl
  | cons _ _ ih => rw [List.length_cons, List.length_cons, ih]
theorem yes17 {σ : L2.St} {H : Hp} {A B : Hp → Prop} (h : A H) :
    tYes σ H fun b H' => if b = true then A H' else B H' :=
  iteT (B := B H) h
theorem hide_upd {D : Addr} {H : Hp} {o : HO} : Same (hide D H) (hide D (upd H D o)) := fun a u e => by
  obtain ⟨n, e⟩ := hide_to e
  exact hide_of n (by rw [upd_ne n]; exact e)
theorem lc_cls
  {K : PySem.W.Frag} {c : Nat → Addr} {H : Hp} {Q : VK} {v1 v2 : V} {l : Addr} {xs : List V} {off m : Nat}
    (hl : H l = some (.lst xs)) (ma : Mad c H off xs) (lx : xs.length = m) (lm : m ≤ 1000)
    (q : ∀ D vs H', H' D = some (.lst vs) → Ls H' vs ((List.range m).map fun n => clsL (off + n)) → Same H H' → Q (.ref D) H') :
    tLc (iList K (tVar 2)) (gName 3) tYes (tCall (spCls c) [] E0 (tCons (tVar 3) tNil)) (List.map (fun x => x.snd) [((Str.ofString "_law_e"), 3)])
      [some v1, some v2, some (.ref l), none, none] H Q := by
  refine ⟨_, rfl, l, rfl, ⟨_, SqL.of hl⟩, fun D nD => ?_⟩
  refine lc_list (K := K) (a := l) (xs := xs) (fun j H' => ∃ vs, H' D = some (.lst vs) ∧ Ls (hide D H') vs ((List.range j).map fun n => clsL (off + n)) ∧ Same H H')
    ⟨[], upd_same, .nil, sameNew nD⟩ (fun j H' _ z => by
      obtain ⟨_, _, _, s⟩ := z
      exact SqL.of (s _ _ hl)) ?_ ?_
  · rintro j v H1 hv ⟨vs, hD, ls, s1⟩
    obtain ⟨a, rfl, er⟩ := ma.at hv
    have lj : j < xs.length := (List.getElem?_eq_some_iff.mp hv).1
    refine ⟨rfl, yes17 ⟨_, rfl, a, off + j, rfl, er.same s1, fun u H2 nu hu s2 => ⟨vs, s2 _ _ hD, ?_, vs ++ [.ref u], upd_same, ?_, ?_⟩⟩⟩
    · have := ls.len
      rw [List.length_map, List.length_range] at this
      exact Nat.lt_of_le_of_lt (show vs.length ≤ 1000 by omega) (by decide)
    · rw [List.range_succ, List.map_append]
      refine (ls.same ((hide_same s2).trans hide_upd)).app (.cons (hide_upd _ _ (hide_of (fun z => ?_) hu)) .nil)
      rw [z, hD] at nu
      cases nu
    · exact OM.Same.put (s1.trans s2) nD
  · rintro H1 ⟨vs, hD, ls, s1⟩
    rw [lx] at ls
    exact q D vs H1 hD (ls.same hide_le) s1
theorem lc_bas
  {K : PySem.W.Frag} {c : Nat → Addr} {H : Hp} {Q : VK} {v1 v2 : V} {l : Addr} {xs : List V} {off m : Nat}
    (hl : H l = some (.lst xs)) (ma : Mad c H off xs) (lx : xs.length = m) (lm : m ≤ 1000)
    (q : ∀ D vs H', H' D = some (.lst vs) → Ls H' vs ((List.range m).map fun n => basL (off + n)) → Same H H' → Q (.ref D) H') :
    tLc (iList K (tVar 2)) (gName 3) tYes (tCall (spBas c) [] E0 (tCons (tVar 3) tNil)) (List.map (fun x => x.snd) [((Str.ofString "_law_e"), 3)])
      [some v1, some v2, some (.ref l), none, none] H Q := by
  refine ⟨_, rfl, l, rfl, ⟨_, SqL.of hl⟩, fun D nD => ?_⟩
  refine lc_list (K := K) (a := l) (xs := xs) (fun j H' => ∃ vs, H' D = some (.lst vs) ∧ Ls (hide D H') vs ((List.range j).map fun n => basL (off + n)) ∧ Same H H')
    ⟨[], upd_same, .nil, sameNew nD⟩ (fun j H' _ z => by
      obtain ⟨_, _, _, s⟩ := z
      exact SqL.of (s _ _ hl)) ?_ ?_
  · rintro j v H1 hv ⟨vs, hD, ls, s1⟩
    obtain ⟨a, rfl, er⟩ := ma.at hv
    have lj : j < xs.length := (List.getElem?_eq_some_iff.mp hv).1
    refine ⟨rfl, yes17 ⟨_, rfl, a, off + j, rfl, er.same s1, fun u H2 nu hu s2 => ⟨vs, s2 _ _ hD, ?_, vs ++ [.ref u], upd_same, ?_, ?_⟩⟩⟩
    · have := ls.len
      rw [List.length_map, List.length_range] at this
      exact Nat.lt_of_le_of_lt (show vs.length ≤ 1000 by omega) (by decide)
    · rw [List.range_succ, List.map_append]
      refine (ls.same ((hide_same s2).trans hide_upd)).app (.cons (hide_upd _ _ (hide_of (fun z => ?_) hu)) .nil)
      rw [z, hD] at nu
      cases nu
    · exact OM.Same.put (s1.trans s2) nD
  · rintro H1 ⟨vs, hD, ls, s1⟩
    rw [lx] at ls
    exact q D vs H1 hD (ls.same hide_le) s1
def row2 (n : Nat) : List Nat := [0, 1 + n]
def row1 (n : Nat) : List Nat := [19 + n]
theorem lc_rg2
  {H : Hp} {Q : VK} {v1 v2 : V} {l : Addr}
    (q : ∀ D vs H', H' D = some (.lst vs) → Ls H' vs ((List.range 18).map fun n => row2 (n)) → Same H H' → Q (.ref D) H') :
    tLc (iRng2 (tCons (tC (V.int 1)) (tCons (tC (V.int 19)) tNil))) (gName 4) tYes (tLst (tCons (tC (V.int 0)) (tCons (tVar 4) tNil))) (List.map (fun x => x.snd) [((Str.ofString "_law_k"), 4)])
      [some v1, some v2, some (.ref l), none, none] H Q := by
  refine ⟨1, 19, rfl, by decide, fun D nD => ?_⟩
  refine lc_range (lo := 1) (n := 18) (fun j H' => ∃ vs, H' D = some (.lst vs) ∧ Ls (hide D H') vs ((List.range j).map fun n => row2 (n)) ∧ Same H H')
    ⟨[], upd_same, .nil, sameNew nD⟩ ?_ ?_
  · rintro j H1 lj ⟨vs, hD, ls, s1⟩
    refine ⟨rfl, yes17 ?_⟩
    refine ⟨_, rfl, sz (by simp), fun u nu => ?_⟩
    have s2 := sameNew (o := .lst [.int 0, .int (1 + (j : Nat))]) nu
    have hu := upd_same (H := H1) (a := u) (o := .lst [.int 0, .int (1 + (j : Nat))])
    refine ⟨vs, s2 _ _ hD, ?_, vs ++ [.ref u], upd_same, ?_, OM.Same.put (s1.trans s2) nD⟩
    · have := ls.len
      rw [List.length_map, List.length_range] at this
      exact Nat.lt_of_le_of_lt (show vs.length ≤ 1000 by omega) (by decide)
    · rw [List.range_succ, List.map_append]
      refine (ls.same ((hide_same s2).trans hide_upd)).app (.cons (hide_upd _ _ (hide_of (fun z => ?_) ?_)) .nil)
      · rw [z, hD] at nu
        cases nu
      · rw [upd_same]
        show _ = some (HO.lst _)
        congr 2
  
  · rintro H1 ⟨vs, hD, ls, s1⟩
    exact q D vs H1 hD (ls.same hide_le) s1
theorem lc_rg1
  {H : Hp} {Q : VK} {v1 v2 : V} {l : Addr}
    (q : ∀ D vs H', H' D = some (.lst vs) → Ls H' vs ((List.range 13).map fun n => row1 (n)) → Same H H' → Q (.ref D) H') :
    tLc (iRng2 (tCons (tC (V.int 19)) (tCons (tC (V.int 32)) tNil))) (gName 4) tYes (tLst (tCons (tVar 4) tNil)) (List.map (fun x => x.snd) [((Str.ofString "_law_k"), 4)])
      [some v1, some v2, some (.ref l), none, none] H Q := by
  refine ⟨19, 32, rfl, by decide, fun D nD => ?_⟩
  refine lc_range (lo := 19) (n := 13) (fun j H' => ∃ vs, H' D = some (.lst vs) ∧ Ls (hide D H') vs ((List.range j).map fun n => row1 (n)) ∧ Same H H')
    ⟨[], upd_same, .nil, sameNew nD⟩ ?_ ?_
  · rintro j H1 lj ⟨vs, hD, ls, s1⟩
    refine ⟨rfl, yes17 ?_⟩
    refine ⟨_, rfl, sz (by simp), fun u nu => ?_⟩
    have s2 := sameNew (o := .lst [.int (19 + (j : Nat))]) nu
    have hu := upd_same (H := H1) (a := u) (o := .lst [.int (19 + (j : Nat))])
    refine ⟨vs, s2 _ _ hD, ?_, vs ++ [.ref u], upd_same, ?_, OM.Same.put (s1.trans s2) nD⟩
    · have := ls.len
      rw [List.length_map, List.length_range] at this
      exact Nat.lt_of_le_of_lt (show vs.length ≤ 1000 by omega) (by decide)
    · rw [List.range_succ, List.map_append]
      refine (ls.same ((hide_same s2).trans hide_upd)).app (.cons (hide_upd _ _ (hide_of (fun z => ?_) ?_)) .nil)
      · rw [z, hD] at nu
        cases nu
      · rw [upd_same]
        show _ = some (HO.lst _)
        congr 2
  
  · rintro H1 ⟨vs, hD, ls, s1⟩
    exact q D vs H1 hD (ls.same hide_le) s1
end OM
namespace OM
open PySem PySem.Spec PyProof.Rows L2
section
variable {P : Program} {w : World} {K : PySem.W.Frag}
  {mg : Str → Option Value} {base : Heap} {c : Nat → Addr}
theorem ok_hi17 {f : Addr} {fd : FuncData} {k : Nat}
    (F : Fun K "_law_hierarchy_right" "_law_hierarchy_right" s_Lhierarchy_right f fd) (B : Bl mg) (E : E17 P w K mg base c)
    (c_Lclasses : Cal P w K mg base (k + 2) "_law_classes" ["_law_e"] (spCls c))
    (c_Lbases : Cal P w K mg base (k + 2) "_law_bases" ["_law_e"] (spBas c)) :
    FnOk P w K mg base CX0 (k + 3) f fd ["_law_one", "_law_other"] spHi17 := by
  refine F.ok sc_Lhierarchy_right (fun vs H Q E h => ?_)
    (fun cv A outer s H vs Q E' hr h => ?_)
  · obtain ⟨v1, v2, rfl, _⟩ := h
    rfl
  obtain ⟨v1, v2, rfl, q⟩ := h
  have nd := sc_Lhierarchy_right.nd
  have hr1 := hr.mono (show 2 ≤ k + 2 by omega)
  refine ⟨_, (C8.pss_cut (ps_set (i := 2) nd rfl (.inl rfl) (pe_lst (pa_cons (pe_err2
      E.p1 hr1 (pa_cons (pv 0) (pa_cons (pv 1) pa_nil))) (pa_cons (pe_err1 E.p2
      hr1 (pa_cons (pv 0) pa_nil)) (pa_cons (pe_err1 E.p3 hr1 (pa_cons (pv 0)
      pa_nil)) (pa_cons (pe_err1 E.p4 hr1 (pa_cons (pv 1) pa_nil)) (pa_cons
      (pe_err1 E.p5 hr1 (pa_cons (pv 0) pa_nil)) pa_nil))))))) (C8.pss_cut
      (ps_set (i := 2) nd rfl (.inl rfl) (pe_op op_cat (pv 2) (pe_lst (pa_cons
      (pe_err1 E.p6 hr1 (pa_cons (pv 1) pa_nil)) (pa_cons (pe_err1 E.p7 hr1
      (pa_cons (pv 0) pa_nil)) (pa_cons (pe_err1 E.p8 hr1 (pa_cons (pv 0)
      pa_nil)) (pa_cons (pe_err1 E.p9 hr1 (pa_cons (pv 0) pa_nil)) (pa_cons
      (pe_err1 E.p10 hr1 (pa_cons (pv 1) pa_nil)) pa_nil)))))))) (C8.pss_cut
      (ps_set (i := 2) nd rfl (.inl rfl) (pe_op op_cat (pv 2) (pe_lst (pa_cons
      (pe_err1 E.p11 hr1 (pa_cons (pv 0) pa_nil)) (pa_cons (pe_err1 E.p12 hr1
      (pa_cons (pv 0) pa_nil)) (pa_cons (pe_err2 E.p13 hr1 (pa_cons (pv 0)
      (pa_cons (pv 1) pa_nil))) (pa_cons (pe_err1 E.p14 hr1 (pa_cons (pv 0)
      pa_nil)) (pa_cons (pe_err1 E.p15 hr1 (pa_cons (pv 0) pa_nil))
      pa_nil)))))))) (C8.pss_cut (ps_set (i := 2) nd rfl (.inl rfl) (pe_op
      op_cat (pv 2) (pe_lst (pa_cons (pe_err1 E.p16 hr1 (pa_cons (pv 1) pa_nil))
      (pa_cons (pe_mkT E.t17) (pa_cons (pe_mkT E.t18) pa_nil)))))) (C8.pss_cut
      (ps_if (pt_cmpR (op_neD hr.units) (pe_lc (own := [("_law_e", 3)]) (g :=
      gName 3) (tt := tYes) rfl nd (pi_list (pv 2)) (blkOk_by (N :=
      N_Lhierarchy_right) (sc := defScope s_Lhierarchy_right)
      (by decide +kernel)) (fun _ _ _ _ _ => pg_name (i := 3) nd rfl (Or.inl
      rfl)) (fun _ _ _ _ _ => pts_nil) (fun _ _ _ _ _ => (pe_cal c_Lclasses hr
      (pa_cons (pv 3) pa_nil)))) (pe_lc (own := [("_law_k", 4)]) (g := gName 4)
      (tt := tYes) rfl nd (pi_range2 (by rfl) B.range (pa_cons pe_int (pa_cons
      pe_int pa_nil))) (blkOk_by (N := N_Lhierarchy_right) (sc := defScope
      s_Lhierarchy_right) (by decide +kernel)) (fun _ _ _ _ _ => pg_name (i :=
      4) nd rfl (Or.inl rfl)) (fun _ _ _ _ _ => pts_nil) (fun _ _ _ _ _ =>
      (pe_lst (pa_cons pe_int (pa_cons (pv 4) pa_nil))))) (nomark _)) (pss_one
      ps_never) pss_nil) (C8.pss_cut (ps_if (pt_cmpR (op_neD hr.units) (pe_lc
      (own := [("_law_e", 3)]) (g := gName 3) (tt := tYes) rfl nd (pi_list (pv
      2)) (blkOk_by (N := N_Lhierarchy_right) (sc := defScope
      s_Lhierarchy_right) (by decide +kernel)) (fun _ _ _ _ _ => pg_name (i :=
      3) nd rfl (Or.inl rfl)) (fun _ _ _ _ _ => pts_nil) (fun _ _ _ _ _ =>
      (pe_cal c_Lbases hr (pa_cons (pv 3) pa_nil)))) (pe_op op_rep (pe_lst
      (pa_cons (pe_lst (pa_cons pe_int pa_nil)) pa_nil)) pe_int) (nomark _))
      (pss_one ps_never) pss_nil) (C8.pss_cut (ps_set (i := 2) nd rfl (.inl rfl)
      (pe_lst (pa_cons (pe_err1 E.p19 hr1 (pa_cons (pv 0) pa_nil)) (pa_cons
      (pe_err1 E.p20 hr1 (pa_cons (pv 1) pa_nil)) (pa_cons (pe_err1 E.p21 hr1
      (pa_cons (pv 0) pa_nil)) (pa_cons (pe_err1 E.p22 hr1 (pa_cons (pv 0)
      pa_nil)) (pa_cons (pe_err1 E.p23 hr1 (pa_cons (pv 0) pa_nil))
      pa_nil))))))) (C8.pss_cut (ps_set (i := 2) nd rfl (.inl rfl) (pe_op op_cat
      (pv 2) (pe_lst (pa_cons (pe_err1 E.p24 hr1 (pa_cons (pv 1) pa_nil))
      (pa_cons (pe_err1 E.p25 hr1 (pa_cons (pv 0) pa_nil)) (pa_cons (pe_err1
      E.p26 hr1 (pa_cons (pv 0) pa_nil)) (pa_cons (pe_err1 E.p27 hr1 (pa_cons
      (pv 1) pa_nil)) (pa_cons (pe_err1 E.p28 hr1 (pa_cons (pv 0) pa_nil))
      pa_nil)))))))) (C8.pss_cut (ps_set (i := 2) nd rfl (.inl rfl) (pe_op
      op_cat (pv 2) (pe_lst (pa_cons (pe_err1 E.p29 hr1 (pa_cons (pv 0) pa_nil))
      (pa_cons (pe_err1 E.p30 hr1 (pa_cons (pv 1) pa_nil)) (pa_cons (pe_mkT
      E.t31) pa_nil)))))) (C8.pss_cut (ps_if (pt_cmpR (op_neD hr.units) (pe_lc
      (own := [("_law_e", 3)]) (g := gName 3) (tt := tYes) rfl nd (pi_list (pv
      2)) (blkOk_by (N := N_Lhierarchy_right) (sc := defScope
      s_Lhierarchy_right) (by decide +kernel)) (fun _ _ _ _ _ => pg_name (i :=
      3) nd rfl (Or.inl rfl)) (fun _ _ _ _ _ => pts_nil) (fun _ _ _ _ _ =>
      (pe_cal c_Lclasses hr (pa_cons (pv 3) pa_nil)))) (pe_lc (own :=
      [("_law_k", 4)]) (g := gName 4) (tt := tYes) rfl nd (pi_range2 (by rfl)
      B.range (pa_cons pe_int (pa_cons pe_int pa_nil))) (blkOk_by (N :=
      N_Lhierarchy_right) (sc := defScope s_Lhierarchy_right)
      (by decide +kernel)) (fun _ _ _ _ _ => pg_name (i := 4) nd rfl (Or.inl
      rfl)) (fun _ _ _ _ _ => pts_nil) (fun _ _ _ _ _ => (pe_lst (pa_cons (pv 4)
      pa_nil)))) (nomark _)) (pss_one ps_never) pss_nil) (C8.pss_cut (ps_if
      (PW.pt (pw_or (pt_cmpR (op_neD hr.units) (pe_cal c_Lclasses hr (pa_cons
      (pe_mkT E.t0) pa_nil)) (pe_lst (pa_cons pe_int pa_nil)) (nomark _))
      (pw_or1 (pt_cmpR (op_neD hr.units) (pe_cal c_Lbases hr (pa_cons (pe_mkT
      E.t0) pa_nil)) (pe_lst (pa_cons pe_int pa_nil)) (nomark _))))) (pss_one
      ps_never) pss_nil) (pss_one (ps_ret (pe_cmpR (op_eqD hr.units) (pe_lc (own
      := [("_law_e", 3)]) (g := gName 3) (tt := tYes) rfl nd (pi_list (pv 2))
      (blkOk_by (N := N_Lhierarchy_right) (sc := defScope s_Lhierarchy_right)
      (by decide +kernel)) (fun _ _ _ _ _ => pg_name (i := 3) nd rfl (Or.inl
      rfl)) (fun _ _ _ _ _ => pts_nil) (fun _ _ _ _ _ => (pe_cal c_Lbases hr
      (pa_cons (pv 3) pa_nil)))) (pe_op op_cat (pe_op op_cat (pe_op op_rep
      (pe_lst (pa_cons (pe_lst (pa_cons pe_int pa_nil)) pa_nil)) pe_int) (pe_op
      op_rep (pe_lst (pa_cons (pe_lst (pa_cons pe_int pa_nil)) pa_nil)) pe_int))
      (pe_op op_rep (pe_lst (pa_cons (pe_lst (pa_cons pe_int pa_nil)) pa_nil))
      pe_int)) (nomark _))))))))))))))), ?_⟩
  refine ⟨fun σ' H' => ∃ l xs, H' l = some (.lst xs) ∧ xs.length = 5 ∧ Mad c H' 1 xs ∧ Same H H' ∧ σ' = [some v1, some v2, some (.ref l), none, none], ?_, ?_⟩
  · skip
    refine ⟨_, rfl, _, rfl, _, _, rfl, fun e1 K1 m1 t1 y1 => ?_⟩
    refine ⟨_, rfl, _, rfl, fun e2 K2 m2 t2 y2 => ?_⟩
    refine ⟨_, rfl, _, rfl, fun e3 K3 m3 t3 y3 => ?_⟩
    refine ⟨_, rfl, _, rfl, fun e4 K4 m4 t4 y4 => ?_⟩
    refine ⟨_, rfl, _, rfl, fun e5 K5 m5 t5 y5 => ?_⟩
    refine ⟨sz (by simp), fun t nt => ?_⟩
    have z1 := sameNew (o := .lst [.ref e1, .ref e2, .ref e3, .ref e4, .ref e5]) nt
    have ht : (upd K5 t (.lst [.ref e1, .ref e2, .ref e3, .ref e4, .ref e5])) t = some (.lst [.ref e1, .ref e2, .ref e3, .ref e4, .ref e5]) := upd_same
    generalize upd K5 t (.lst [.ref e1, .ref e2, .ref e3, .ref e4, .ref e5]) = M1 at z1 ht ⊢
    have r1 : Er c M1 e1 1 := ⟨by decide, .inl ⟨_, y1.same ((((t2.trans t3).trans t4).trans t5).trans z1)⟩⟩
    have r2 : Er c M1 e2 2 := ⟨by decide, .inl ⟨_, y2.same (((t3.trans t4).trans t5).trans z1)⟩⟩
    have r3 : Er c M1 e3 3 := ⟨by decide, .inl ⟨_, y3.same ((t4.trans t5).trans z1)⟩⟩
    have r4 : Er c M1 e4 4 := ⟨by decide, .inl ⟨_, y4.same (t5.trans z1)⟩⟩
    have r5 : Er c M1 e5 5 := ⟨by decide, .inl ⟨_, y5.same z1⟩⟩
    exact ⟨t, _, ht, rfl, (.cons r1 (.cons r2 (.cons r3 (.cons r4 (.cons r5 .nil))))), (((((t1.trans t2).trans t3).trans t4).trans t5).trans z1), rfl⟩
  rintro _ H1 ⟨l, xs, hl, lx, ma, s1, rfl⟩
  refine ⟨fun σ' H' => ∃ l xs, H' l = some (.lst xs) ∧ xs.length = 10 ∧ Mad c H' 1 xs ∧ Same H H' ∧ σ' = [some v1, some v2, some (.ref l), none, none], ?_, ?_⟩
  · refine ⟨_, rfl, ?_⟩
    refine ⟨_, rfl, _, rfl, fun e6 K6 m6 t6 y6 => ?_⟩
    refine ⟨_, rfl, _, rfl, fun e7 K7 m7 t7 y7 => ?_⟩
    refine ⟨_, rfl, _, rfl, fun e8 K8 m8 t8 y8 => ?_⟩
    refine ⟨_, rfl, _, rfl, fun e9 K9 m9 t9 y9 => ?_⟩
    refine ⟨_, rfl, _, rfl, fun e10 K10 m10 t10 y10 => ?_⟩
    refine ⟨sz (by simp), fun t nt => ?_⟩
    have z1 := sameNew (o := .lst [.ref e6, .ref e7, .ref e8, .ref e9, .ref e10]) nt
    have ht : (upd K10 t (.lst [.ref e6, .ref e7, .ref e8, .ref e9, .ref e10])) t = some (.lst [.ref e6, .ref e7, .ref e8, .ref e9, .ref e10]) := upd_same
    generalize upd K10 t (.lst [.ref e6, .ref e7, .ref e8, .ref e9, .ref e10]) = M1 at z1 ht ⊢
    have r6 : Er c M1 e6 6 := ⟨by decide, .inl ⟨_, y6.same ((((t7.trans t8).trans t9).trans t10).trans z1)⟩⟩
    have r7 : Er c M1 e7 7 := ⟨by decide, .inl ⟨_, y7.same (((t8.trans t9).trans t10).trans z1)⟩⟩
    have r8 : Er c M1 e8 8 := ⟨by decide, .inl ⟨_, y8.same ((t9.trans t10).trans z1)⟩⟩
    have r9 : Er c M1 e9 9 := ⟨by decide, .inl ⟨_, y9.same (t10.trans z1)⟩⟩
    have r10 : Er c M1 e10 10 := ⟨by decide, .inl ⟨_, y10.same z1⟩⟩
    refine ⟨l, t, _, _, rfl, rfl, (((((t6.trans t7).trans t8).trans t9).trans t10).trans z1) _ _ hl, ht, sz (by rw [lx]; show 5 + 5 ≤ _; omega), fun u nu => ?_⟩
    have z2 := sameNew (o := .lst (xs ++ [.ref e6, .ref e7, .ref e8, .ref e9, .ref e10])) nu
    exact ⟨u, _, upd_same, by rw [List.length_append, lx]; rfl, ((ma.same (((((t6.trans t7).trans t8).trans t9).trans t10).trans z1)).app lx (.cons r6 (.cons r7 (.cons r8 (.cons r9 (.cons r10 .nil)))))).same z2, (s1.trans (((((t6.trans t7).trans t8).trans t9).trans t10).trans z1)).trans z2, rfl⟩
  clear hl ma lx s1
  rintro _ H1 ⟨l, xs, hl, lx, ma, s1, rfl⟩
  refine ⟨fun σ' H' => ∃ l xs, H' l = some (.lst xs) ∧ xs.length = 15 ∧ Mad c H' 1 xs ∧ Same H H' ∧ σ' = [some v1, some v2, some (.ref l), none, none], ?_, ?_⟩
  · refine ⟨_, rfl, ?_⟩
    refine ⟨_, rfl, _, rfl, fun e11 K11 m11 t11 y11 => ?_⟩
    refine ⟨_, rfl, _, rfl, fun e12 K12 m12 t12 y12 => ?_⟩
    refine ⟨_, rfl, _, rfl, _, _, rfl, fun e13 K13 m13 t13 y13 => ?_⟩
    refine ⟨_, rfl, _, rfl, fun e14 K14 m14 t14 y14 => ?_⟩
    refine ⟨_, rfl, _, rfl, fun e15 K15 m15 t15 y15 => ?_⟩
    refine ⟨sz (by simp), fun t nt => ?_⟩
    have z1 := sameNew (o := .lst [.ref e11, .ref e12, .ref e13, .ref e14, .ref e15]) nt
    have ht : (upd K15 t (.lst [.ref e11, .ref e12, .ref e13, .ref e14, .ref e15])) t = some (.lst [.ref e11, .ref e12, .ref e13, .ref e14, .ref e15]) := upd_same
    generalize upd K15 t (.lst [.ref e11, .ref e12, .ref e13, .ref e14, .ref e15]) = M1 at z1 ht ⊢
    have r11 : Er c M1 e11 11 := ⟨by decide, .inl ⟨_, y11.same ((((t12.trans t13).trans t14).trans t15).trans z1)⟩⟩
    have r12 : Er c M1 e12 12 := ⟨by decide, .inl ⟨_, y12.same (((t13.trans t14).trans t15).trans z1)⟩⟩
    have r13 : Er c M1 e13 13 := ⟨by decide, .inl ⟨_, y13.same ((t14.trans t15).trans z1)⟩⟩
    have r14 : Er c M1 e14 14 := ⟨by decide, .inl ⟨_, y14.same (t15.trans z1)⟩⟩
    have r15 : Er c M1 e15 15 := ⟨by decide, .inl ⟨_, y15.same z1⟩⟩
    refine ⟨l, t, _, _, rfl, rfl, (((((t11.trans t12).trans t13).trans t14).trans t15).trans z1) _ _ hl, ht, sz (by rw [lx]; show 10 + 5 ≤ _; omega), fun u nu => ?_⟩
    have z2 := sameNew (o := .lst (xs ++ [.ref e11, .ref e12, .ref e13, .ref e14, .ref e15])) nu
    exact ⟨u, _, upd_same, by rw [List.length_append, lx]; rfl, ((ma.same (((((t11.trans t12).trans t13).trans t14).trans t15).trans z1)).app lx (.cons r11 (.cons r12 (.cons r13 (.cons r14 (.cons r15 .nil)))))).same z2, (s1.trans (((((t11.trans t12).trans t13).trans t14).trans t15).trans z1)).trans z2, rfl⟩
  clear hl ma lx s1
  rintro _ H1 ⟨l, xs, hl, lx, ma, s1, rfl⟩
  refine ⟨fun σ' H' => ∃ l xs, H' l = some (.lst xs) ∧ xs.length = 18 ∧ Mad c H' 1 xs ∧ Same H H' ∧ σ' = [some v1, some v2, some (.ref l), none, none], ?_, ?_⟩
  · refine ⟨_, rfl, ?_⟩
    refine ⟨_, rfl, _, rfl, fun e16 K16 m16 t16 y16 => ?_⟩
    refine fun e17 m17 => ?_
    have t17 := sameNew (o := exo e17 (c 17) none) m17
    have y17 : upd K16 e17 (exo e17 (c 17) none) e17 = some (exo e17 (c 17) none) := upd_same
    generalize upd K16 e17 (exo e17 (c 17) none) = K17 at t17 y17 ⊢
    refine fun e18 m18 => ?_
    have t18 := sameNew (o := exo e18 (c 18) none) m18
    have y18 : upd K17 e18 (exo e18 (c 18) none) e18 = some (exo e18 (c 18) none) := upd_same
    generalize upd K17 e18 (exo e18 (c 18) none) = K18 at t18 y18 ⊢
    refine ⟨sz (by simp), fun t nt => ?_⟩
    have z1 := sameNew (o := .lst [.ref e16, .ref e17, .ref e18]) nt
    have ht : (upd K18 t (.lst [.ref e16, .ref e17, .ref e18])) t = some (.lst [.ref e16, .ref e17, .ref e18]) := upd_same
    generalize upd K18 t (.lst [.ref e16, .ref e17, .ref e18]) = M1 at z1 ht ⊢
    have r16 : Er c M1 e16 16 := ⟨by decide, .inl ⟨_, y16.same ((t17.trans t18).trans z1)⟩⟩
    have r17 : Er c M1 e17 17 := ⟨by decide, .inr ((t18.trans z1) _ _ y17)⟩
    have r18 : Er c M1 e18 18 := ⟨by decide, .inr (z1 _ _ y18)⟩
    refine ⟨l, t, _, _, rfl, rfl, (((t16.trans t17).trans t18).trans z1) _ _ hl, ht, sz (by rw [lx]; show 15 + 3 ≤ _; omega), fun u nu => ?_⟩
    have z2 := sameNew (o := .lst (xs ++ [.ref e16, .ref e17, .ref e18])) nu
    exact ⟨u, _, upd_same, by rw [List.length_append, lx]; rfl, ((ma.same (((t16.trans t17).trans t18).trans z1)).app lx (.cons r16 (.cons r17 (.cons r18 .nil)))).same z2, (s1.trans (((t16.trans t17).trans t18).trans z1)).trans z2, rfl⟩
  clear hl ma lx s1
  rintro _ H1 ⟨l, xs, hl, lx, ma, s1, rfl⟩
  refine ⟨fun σ' H' => Same H1 H' ∧ σ' = [some v1, some v2, some (.ref l), none, none], ?_, ?_⟩
  · dsimp only [tIfS, tTest, tOp]
    refine lc_cls (m := 18) hl ma lx (by decide) fun D vs H2 hD ls s2 => ?_
    refine lc_rg2 fun D2 ws H3 hD2 ls2 s3 => ?_
    refine ⟨_, _, .lst (SqL.of (s3 _ _ hD)) (ls.same s3).dp, .lst (SqL.of hD2) ls2.dp, by decide +kernel, by decide +kernel, _, rfl, ?_⟩
    rw [show PyData.eqv (.list (dLs ((List.range 18).map fun n => clsL (1 + n)))) (.list (dLs ((List.range 18).map fun n => row2 n))) = true by decide +kernel]
    exact iteF ⟨s2.trans s3, rfl⟩
  rintro _ H2 ⟨s2, rfl⟩
  refine ⟨fun σ' H' => Same H2 H' ∧ σ' = [some v1, some v2, some (.ref l), none, none], ?_, ?_⟩
  · dsimp only [tIfS, tTest, tOp]
    refine lc_bas (m := 18) (s2 _ _ hl) (ma.same s2) lx (by decide) fun D vs H3 hD ls s3 => ?_
    refine ⟨sz (by simp), fun z nz => ?_⟩
    have z4 := sameNew (o := .lst [.int 0]) nz
    have hz : (upd H3 z (.lst [.int 0])) z = some (.lst [.int 0]) := upd_same
    generalize upd H3 z (.lst [.int 0]) = H4 at z4 hz ⊢
    refine ⟨sz (by simp), fun y ny => ?_⟩
    have z5 := sameNew (o := .lst [.ref z]) ny
    have hy : (upd H4 y (.lst [.ref z])) y = some (.lst [.ref z]) := upd_same
    generalize upd H4 y (.lst [.ref z]) = H5 at z5 hy ⊢
    refine ⟨y, 18, _, rfl, rfl, hy, by decide, by decide, sz (by simp), fun y2 ny2 => ?_⟩
    have z6 := sameNew (o := .lst (List.replicate (18 : Int).toNat [.ref z]).flatten) ny2
    have hy2 : (upd H5 y2 (.lst (List.replicate (18 : Int).toNat [.ref z]).flatten)) y2 = some (.lst (List.replicate (18 : Int).toNat [.ref z]).flatten) := upd_same
    generalize upd H5 y2 (.lst (List.replicate (18 : Int).toNat [.ref z]).flatten) = H6 at z6 hy2 ⊢
    have s36 := (z4.trans z5).trans z6
    have hz6 : H6 z = some (.lst (vI [0])) := (z5.trans z6) _ _ hz
    refine ⟨_, _, .lst (SqL.of (s36 _ _ hD)) (ls.same s36).dp, .lst (SqL.of hy2) (Ls.rep (ns := [0]) hz6 18).dp, by decide +kernel, by decide +kernel, _, rfl, ?_⟩
    rw [show PyData.eqv (.list (dLs ((List.range 18).map fun n => basL (1 + n)))) (.list (dLs (List.replicate 18 [0]))) = true by decide +kernel]
    exact iteF ⟨s3.trans s36, rfl⟩
  rintro _ H3 ⟨s3, rfl⟩
  have s0 := (s1.trans s2).trans s3
  clear hl ma lx s1 s2 s3
  refine ⟨fun σ' H' => ∃ l xs, H' l = some (.lst xs) ∧ xs.length = 5 ∧ Mad c H' 19 xs ∧ Same H H' ∧ σ' = [some v1, some v2, some (.ref l), none, none], ?_, ?_⟩
  · skip
    refine ⟨_, rfl, _, rfl, fun e1 K1 m1 t1 y1 => ?_⟩
    refine ⟨_, rfl, _, rfl, fun e2 K2 m2 t2 y2 => ?_⟩
    refine ⟨_, rfl, _, rfl, fun e3 K3 m3 t3 y3 => ?_⟩
    refine ⟨_, rfl, _, rfl, fun e4 K4 m4 t4 y4 => ?_⟩
    refine ⟨_, rfl, _, rfl, fun e5 K5 m5 t5 y5 => ?_⟩
    refine ⟨sz (by simp), fun t nt => ?_⟩
    have z1 := sameNew (o := .lst [.ref e1, .ref e2, .ref e3, .ref e4, .ref e5]) nt
    have ht : (upd K5 t (.lst [.ref e1, .ref e2, .ref e3, .ref e4, .ref e5])) t = some (.lst [.ref e1, .ref e2, .ref e3, .ref e4, .ref e5]) := upd_same
    generalize upd K5 t (.lst [.ref e1, .ref e2, .ref e3, .ref e4, .ref e5]) = M1 at z1 ht ⊢
    have r1 : Er c M1 e1 19 := ⟨by decide, .inl ⟨_, y1.same ((((t2.trans t3).trans t4).trans t5).trans z1)⟩⟩
    have r2 : Er c M1 e2 20 := ⟨by decide, .inl ⟨_, y2.same (((t3.trans t4).trans t5).trans z1)⟩⟩
    have r3 : Er c M1 e3 21 := ⟨by decide, .inl ⟨_, y3.same ((t4.trans t5).trans z1)⟩⟩
    have r4 : Er c M1 e4 22 := ⟨by decide, .inl ⟨_, y4.same (t5.trans z1)⟩⟩
    have r5 : Er c M1 e5 23 := ⟨by decide, .inl ⟨_, y5.same z1⟩⟩
    exact ⟨t, _, ht, rfl, (.cons r1 (.cons r2 (.cons r3 (.cons r4 (.cons r5 .nil))))), s0.trans (((((t1.trans t2).trans t3).trans t4).trans t5).trans z1), rfl⟩
  rintro _ H1 ⟨l, xs, hl, lx, ma, s1, rfl⟩
  refine ⟨fun σ' H' => ∃ l xs, H' l = some (.lst xs) ∧ xs.length = 10 ∧ Mad c H' 19 xs ∧ Same H H' ∧ σ' = [some v1, some v2, some (.ref l), none, none], ?_, ?_⟩
  · refine ⟨_, rfl, ?_⟩
    refine ⟨_, rfl, _, rfl, fun e6 K6 m6 t6 y6 => ?_⟩
    refine ⟨_, rfl, _, rfl, fun e7 K7 m7 t7 y7 => ?_⟩
    refine ⟨_, rfl, _, rfl, fun e8 K8 m8 t8 y8 => ?_⟩
    refine ⟨_, rfl, _, rfl, fun e9 K9 m9 t9 y9 => ?_⟩
    refine ⟨_, rfl, _, rfl, fun e10 K10 m10 t10 y10 => ?_⟩
    refine ⟨sz (by simp), fun t nt => ?_⟩
    have z1 := sameNew (o := .lst [.ref e6, .ref e7, .ref e8, .ref e9, .ref e10]) nt
    have ht : (upd K10 t (.lst [.ref e6, .ref e7, .ref e8, .ref e9, .ref e10])) t = some (.lst [.ref e6, .ref e7, .ref e8, .ref e9, .ref e10]) := upd_same
    generalize upd K10 t (.lst [.ref e6, .ref e7, .ref e8, .ref e9, .ref e10]) = M1 at z1 ht ⊢
    have r6 : Er c M1 e6 24 := ⟨by decide, .inl ⟨_, y6.same ((((t7.trans t8).trans t9).trans t10).trans z1)⟩⟩
    have r7 : Er c M1 e7 25 := ⟨by decide, .inl ⟨_, y7.same (((t8.trans t9).trans t10).trans z1)⟩⟩
    have r8 : Er c M1 e8 26 := ⟨by decide, .inl ⟨_, y8.same ((t9.trans t10).trans z1)⟩⟩
    have r9 : Er c M1 e9 27 := ⟨by decide, .inl ⟨_, y9.same (t10.trans z1)⟩⟩
    have r10 : Er c M1 e10 28 := ⟨by decide, .inl ⟨_, y10.same z1⟩⟩
    refine ⟨l, t, _, _, rfl, rfl, (((((t6.trans t7).trans t8).trans t9).trans t10).trans z1) _ _ hl, ht, sz (by rw [lx]; show 5 + 5 ≤ _; omega), fun u nu => ?_⟩
    have z2 := sameNew (o := .lst (xs ++ [.ref e6, .ref e7, .ref e8, .ref e9, .ref e10])) nu
    exact ⟨u, _, upd_same, by rw [List.length_append, lx]; rfl, ((ma.same (((((t6.trans t7).trans t8).trans t9).trans t10).trans z1)).app lx (.cons r6 (.cons r7 (.cons r8 (.cons r9 (.cons r10 .nil)))))).same z2, (s1.trans (((((t6.trans t7).trans t8).trans t9).trans t10).trans z1)).trans z2, rfl⟩
  clear hl ma lx s1
  rintro _ H1 ⟨l, xs, hl, lx, ma, s1, rfl⟩
  refine ⟨fun σ' H' => ∃ l xs, H' l = some (.lst xs) ∧ xs.length = 13 ∧ Mad c H' 19 xs ∧ Same H H' ∧ σ' = [some v1, some v2, some (.ref l), none, none], ?_, ?_⟩
  · refine ⟨_, rfl, ?_⟩
    refine ⟨_, rfl, _, rfl, fun e11 K11 m11 t11 y11 => ?_⟩
    refine ⟨_, rfl, _, rfl, fun e12 K12 m12 t12 y12 => ?_⟩
    refine fun e13 m13 => ?_
    have t13 := sameNew (o := exo e13 (c 31) none) m13
    have y13 : upd K12 e13 (exo e13 (c 31) none) e13 = some (exo e13 (c 31) none) := upd_same
    generalize upd K12 e13 (exo e13 (c 31) none) = K13 at t13 y13 ⊢
    refine ⟨sz (by simp), fun t nt => ?_⟩
    have z1 := sameNew (o := .lst [.ref e11, .ref e12, .ref e13]) nt
    have ht : (upd K13 t (.lst [.ref e11, .ref e12, .ref e13])) t = some (.lst [.ref e11, .ref e12, .ref e13]) := upd_same
    generalize upd K13 t (.lst [.ref e11, .ref e12, .ref e13]) = M1 at z1 ht ⊢
    have r11 : Er c M1 e11 29 := ⟨by decide, .inl ⟨_, y11.same ((t12.trans t13).trans z1)⟩⟩
    have r12 : Er c M1 e12 30 := ⟨by decide, .inl ⟨_, y12.same (t13.trans z1)⟩⟩
    have r13 : Er c M1 e13 31 := ⟨by decide, .inr (z1 _ _ y13)⟩
    refine ⟨l, t, _, _, rfl, rfl, (((t11.trans t12).trans t13).trans z1) _ _ hl, ht, sz (by rw [lx]; show 10 + 3 ≤ _; omega), fun u nu => ?_⟩
    have z2 := sameNew (o := .lst (xs ++ [.ref e11, .ref e12, .ref e13])) nu
    exact ⟨u, _, upd_same, by rw [List.length_append, lx]; rfl, ((ma.same (((t11.trans t12).trans t13).trans z1)).app lx (.cons r11 (.cons r12 (.cons r13 .nil)))).same z2, (s1.trans (((t11.trans t12).trans t13).trans z1)).trans z2, rfl⟩
  clear hl ma lx s1
  rintro _ H1 ⟨l, xs, hl, lx, ma, s1, rfl⟩
  refine ⟨fun σ' H' => Same H1 H' ∧ σ' = [some v1, some v2, some (.ref l), none, none], ?_, ?_⟩
  · dsimp only [tIfS, tTest, tOp]
    refine lc_cls (m := 13) hl ma lx (by decide) fun D vs H2 hD ls s2 => ?_
    refine lc_rg1 fun D2 ws H3 hD2 ls2 s3 => ?_
    refine ⟨_, _, .lst (SqL.of (s3 _ _ hD)) (ls.same s3).dp, .lst (SqL.of hD2) ls2.dp, by decide +kernel, by decide +kernel, _, rfl, ?_⟩
    rw [show PyData.eqv (.list (dLs ((List.range 13).map fun n => clsL (19 + n)))) (.list (dLs ((List.range 13).map fun n => row1 n))) = true by decide +kernel]
    exact iteF ⟨s2.trans s3, rfl⟩
  rintro _ H2 ⟨s2, rfl⟩
  refine ⟨fun σ' H' => Same H2 H' ∧ σ' = [some v1, some v2, some (.ref l), none, none], ?_, ?_⟩
  · refine fun a na => ?_
    have t1 := sameNew (o := exo a (c 0) none) na
    refine ⟨a, 0, rfl, ⟨by decide, .inr upd_same⟩, fun u H4 nu hu s4 => ⟨sz (by simp), fun z nz => ?_⟩⟩
    have z5 := sameNew (o := .lst [.int 0]) nz
    have hz : (upd H4 z (.lst [.int 0])) z = some (.lst [.int 0]) := upd_same
    generalize upd H4 z (.lst [.int 0]) = H5 at z5 hz ⊢
    refine ⟨_, _, .lst (SqL.of (z5 _ _ hu)) (dpI (clsL 0)), .lst (SqL.of hz) (dpI [0]), by decide +kernel, by decide +kernel, _, rfl, ?_⟩
    rw [show PyData.eqv (.list (dI (clsL 0))) (.list (dI [0])) = true by decide +kernel]
    refine iteF ?_
    have s5 := (t1.trans s4).trans z5
    refine fun a2 na2 => ?_
    have t2 := sameNew (o := exo a2 (c 0) none) na2
    refine ⟨a2, 0, rfl, ⟨by decide, .inr upd_same⟩, fun u2 H6 nu2 hu2 s6 => ⟨sz (by simp), fun y ny => ?_⟩⟩
    have z7 := sameNew (o := .lst [.int 0]) ny
    have hy : (upd H6 y (.lst [.int 0])) y = some (.lst [.int 0]) := upd_same
    generalize upd H6 y (.lst [.int 0]) = H7 at z7 hy ⊢
    refine ⟨_, _, .lst (SqL.of (z7 _ _ hu2)) (dpI (basL 0)), .lst (SqL.of hy) (dpI [0]), by decide +kernel, by decide +kernel, _, rfl, ?_⟩
    rw [show PyData.eqv (.list (dI (basL 0))) (.list (dI [0])) = true by decide +kernel]
    exact iteF ⟨s5.trans ((t2.trans s6).trans z7), rfl⟩
  rintro _ H3 ⟨s3, rfl⟩
  have s13 := s2.trans s3
  dsimp only [tRet, tTest, tOp]
  refine lc_bas (m := 13) (s13 _ _ hl) (ma.same s13) lx (by decide) fun D vs H4 hD ls s4 => ?_
  refine ⟨sz (by simp), fun z1 nz1 => ?_⟩
  have p1 := sameNew (o := .lst [.int 1]) nz1
  have hz1 : (upd H4 z1 (.lst [.int 1])) z1 = some (.lst [.int 1]) := upd_same
  generalize upd H4 z1 (.lst [.int 1]) = A1 at p1 hz1 ⊢
  refine ⟨sz (by simp), fun y1 ny1 => ?_⟩
  have r1 := sameNew (o := .lst [.ref z1]) ny1
  have hy1 : (upd A1 y1 (.lst [.ref z1])) y1 = some (.lst [.ref z1]) := upd_same
  generalize upd A1 y1 (.lst [.ref z1]) = B1 at r1 hy1 ⊢
  refine ⟨y1, 4, _, rfl, rfl, hy1, by decide, by decide, sz (by simp), fun w1 nw1 => ?_⟩
  have u1 := sameNew (o := .lst (List.replicate (4 : Int).toNat [.ref z1]).flatten) nw1
  have hw1 : (upd B1 w1 (.lst (List.replicate (4 : Int).toNat [.ref z1]).flatten)) w1 = some (.lst (List.replicate (4 : Int).toNat [.ref z1]).flatten) := upd_same
  generalize upd B1 w1 (.lst (List.replicate (4 : Int).toNat [.ref z1]).flatten) = C1 at u1 hw1 ⊢
  refine ⟨sz (by simp), fun z2 nz2 => ?_⟩
  have p2 := sameNew (o := .lst [.int 2]) nz2
  have hz2 : (upd C1 z2 (.lst [.int 2])) z2 = some (.lst [.int 2]) := upd_same
  generalize upd C1 z2 (.lst [.int 2]) = A2 at p2 hz2 ⊢
  refine ⟨sz (by simp), fun y2 ny2 => ?_⟩
  have r2 := sameNew (o := .lst [.ref z2]) ny2
  have hy2 : (upd A2 y2 (.lst [.ref z2])) y2 = some (.lst [.ref z2]) := upd_same
  generalize upd A2 y2 (.lst [.ref z2]) = B2 at r2 hy2 ⊢
  refine ⟨y2, 5, _, rfl, rfl, hy2, by decide, by decide, sz (by simp), fun w2 nw2 => ?_⟩
  have u2 := sameNew (o := .lst (List.replicate (5 : Int).toNat [.ref z2]).flatten) nw2
  have hw2 : (upd B2 w2 (.lst (List.replicate (5 : Int).toNat [.ref z2]).flatten)) w2 = some (.lst (List.replicate (5 : Int).toNat [.ref z2]).flatten) := upd_same
  generalize upd B2 w2 (.lst (List.replicate (5 : Int).toNat [.ref z2]).flatten) = C2 at u2 hw2 ⊢
  have j2 := (p2.trans r2).trans u2
  refine ⟨w1, w2, _, _, rfl, rfl, j2 _ _ hw1, hw2, sz (by show 4 + 5 ≤ _; omega), fun g1 ng1 => ?_⟩
  have o1 := sameNew (o := .lst ((List.replicate (4 : Int).toNat [.ref z1]).flatten ++ (List.replicate (5 : Int).toNat [.ref z2]).flatten)) ng1
  have hg1 : (upd C2 g1 (.lst ((List.replicate (4 : Int).toNat [.ref z1]).flatten ++ (List.replicate (5 : Int).toNat [.ref z2]).flatten))) g1 = some (.lst ((List.replicate (4 : Int).toNat [.ref z1]).flatten ++ (List.replicate (5 : Int).toNat [.ref z2]).flatten)) := upd_same
  generalize upd C2 g1 (.lst ((List.replicate (4 : Int).toNat [.ref z1]).flatten ++ (List.replicate (5 : Int).toNat [.ref z2]).flatten)) = D1 at o1 hg1 ⊢
  refine ⟨sz (by simp), fun z3 nz3 => ?_⟩
  have p3 := sameNew (o := .lst [.int 3]) nz3
  have hz3 : (upd D1 z3 (.lst [.int 3])) z3 = some (.lst [.int 3]) := upd_same
  generalize upd D1 z3 (.lst [.int 3]) = A3 at p3 hz3 ⊢
  refine ⟨sz (by simp), fun y3 ny3 => ?_⟩
  have r3 := sameNew (o := .lst [.ref z3]) ny3
  have hy3 : (upd A3 y3 (.lst [.ref z3])) y3 = some (.lst [.ref z3]) := upd_same
  generalize upd A3 y3 (.lst [.ref z3]) = B3 at r3 hy3 ⊢
  refine ⟨y3, 4, _, rfl, rfl, hy3, by decide, by decide, sz (by simp), fun w3 nw3 => ?_⟩
  have u3 := sameNew (o := .lst (List.replicate (4 : Int).toNat [.ref z3]).flatten) nw3
  have hw3 : (upd B3 w3 (.lst (List.replicate (4 : Int).toNat [.ref z3]).flatten)) w3 = some (.lst (List.replicate (4 : Int).toNat [.ref z3]).flatten) := upd_same
  generalize upd B3 w3 (.lst (List.replicate (4 : Int).toNat [.ref z3]).flatten) = C3 at u3 hw3 ⊢
  have j3 := (p3.trans r3).trans u3
  refine ⟨g1, w3, _, _, rfl, rfl, j3 _ _ hg1, hw3, sz (by show 9 + 4 ≤ _; omega), fun g2 ng2 => ?_⟩
  have o2 := sameNew (o := .lst ((List.replicate (4 : Int).toNat [.ref z1]).flatten ++ (List.replicate (5 : Int).toNat [.ref z2]).flatten ++ (List.replicate (4 : Int).toNat [.ref z3]).flatten)) ng2
  have hg2 : (upd C3 g2 (.lst ((List.replicate (4 : Int).toNat [.ref z1]).flatten ++ (List.replicate (5 : Int).toNat [.ref z2]).flatten ++ (List.replicate (4 : Int).toNat [.ref z3]).flatten))) g2 = some (.lst ((List.replicate (4 : Int).toNat [.ref z1]).flatten ++ (List.replicate (5 : Int).toNat [.ref z2]).flatten ++ (List.replicate (4 : Int).toNat [.ref z3]).flatten)) := upd_same
  generalize upd C3 g2 (.lst ((List.replicate (4 : Int).toNat [.ref z1]).flatten ++ (List.replicate (5 : Int).toNat [.ref z2]).flatten ++ (List.replicate (4 : Int).toNat [.ref z3]).flatten)) = D2 at o2 hg2 ⊢
  have a1 : D2 z1 = some (.lst (vI [1])) := ((((r1.trans u1).trans j2).trans o1).trans (j3.trans o2)) _ _ hz1
  have a2 : D2 z2 = some (.lst (vI [2])) := (((r2.trans u2).trans o1).trans (j3.trans o2)) _ _ hz2
  have a3 : D2 z3 = some (.lst (vI [3])) := ((r3.trans u3).trans o2) _ _ hz3
  have s42 : Same H4 D2 := ((((p1.trans r1).trans u1).trans j2).trans o1).trans (j3.trans o2)
  refine ⟨_, _, .lst (SqL.of (s42 _ _ hD)) (ls.same s42).dp, .lst (SqL.of hg2) (((Ls.rep (ns := [1]) a1 4).app (Ls.rep (ns := [2]) a2 5)).app (Ls.rep (ns := [3]) a3 4)).dp, by decide +kernel, by decide +kernel, ?_⟩
  rw [show PyData.eqv (.list (dLs ((List.range 13).map fun n => basL (19 + n)))) (.list (dLs (List.replicate 4 [1] ++ List.replicate 5 [2] ++ List.replicate 4 [3]))) = true by decide +kernel]
  exact q D2 (s1.trans (s13.trans (s4.trans s42)))
end
end OM
namespace OM
open PySem PySem.Spec PyProof.Rows L2

/-- the law's call, nothing being shown around it -/
theorem lawS {P : Program} {w : World} {K : PySem.W.Frag}
    {mg mb : Str → Option Value} {k : Nat} {fa a : Addr} {fd : FuncData}
    {x : Str} {sp : Sp} {s1 : Shared} {vs : List Value} {ns : List Int}
    (kin : K.In s1.heap) (glob : s1.heap.Ns mainGlobals mg)
    (blt : s1.heap.Ns builtinsNs mb)
    (boot : ∀ x : Str, x ≠ "__name__" → mb x = bootBuiltins x)
    (nol : s1.heap.NoLimit) (gens : s1.gens = #[])
    (ha : s1.heap.get? a =
      some { cls := .type "list", data := .seq vs.toArray })
    (hints : IntsAre vs ns) (hl : ns.length ≤ sizeLine)
    (room : Room k callerA)
    (smod : ∃ mm, s1.heap.Ns sysModules mm)
    (F : ∀ base : Heap, K.In base → base.Ns mainGlobals mg →
      (∃ o, base.get? sysModules = some o) →
      FnG P w K mg base CX0 k fa fd [x] sp)
    (bind : ∀ (s : Shared) (u : Value), BindsTo s fd ⟨[u], []⟩ [(x, u)])
    (hsp : ∀ H : Hp, Only H → SqL K H a (ns.map V.int) →
      sp [.ref a] H (fun v _ => v = .bl true) E0) :
    codeAny (model P w) callerA (.call (.ref fa) ⟨[.ref a], []⟩)
      (fun r s' => r = .ok (.ret (.bool true)) ∧ OldK s1.heap s'.heap ∧
        s'.os = s1.os ∧ AllBare s'.gens) s1 := by
  have rel := vals_ints hints
  have lv := hints.length
  -- H tracks the script alone, or nothing
  suffices core : ∀ H : Hp, Only H → SqL K H a (ns.map V.int) →
      HOk P w H s1.heap → (∀ b, H b ≠ none → b = a) →
      (H a ≠ none → K.lookup a = none) →
      codeAny (model P w) callerA (.call (.ref fa) ⟨[.ref a], []⟩)
        (fun r s' => r = .ok (.ret (.bool true)) ∧ OldK s1.heap s'.heap ∧
          s'.os = s1.os ∧ AllBare s'.gens) s1 by
    by_cases hk : ∃ o, K.lookup a = some o
    · obtain ⟨o, hk⟩ := hk
      have e := kin a o hk
      rw [ha] at e
      cases e
      refine core (fun _ => none) (fun _ => Or.inl rfl) (Or.inr ?_)
        (fun b u z => ?_) (fun b z => absurd rfl z) (fun z => absurd rfl z)
      · exact ⟨_, vs.toArray, _, hk, rfl, rfl, rfl,
          by rw [List.size_toArray, lv]; exact hl, by simpa using rel⟩
      · cases (show (none : Option HO) = some u from z)
    · have hk : K.lookup a = none := by
        cases q : K.lookup a with
        | none => rfl
        | some o => exact absurd ⟨o, q⟩ hk
      let ob : Obj := { cls := .type "list", data := .seq vs.toArray }
      refine core (fun b => if b = a then
          some (.frz ob (.lst (ns.map V.int))) else none)
        (fun b => ?_) (Or.inl (Or.inr ⟨ob, if_pos rfl⟩))
        (fun b u z => ?_) (fun b z => ?_) (fun _ => hk)
      · by_cases hb : b = a
        · exact Or.inr ⟨_, _, if_pos hb⟩
        · exact Or.inl (if_neg hb)
      · by_cases hb : b = a
        · cases (if_pos hb).symm.trans z
          subst hb
          exact ⟨ha, by rw [List.length_map]; exact hl, vs, _, rel, ha⟩
        · cases (if_neg hb).symm.trans z
      · by_cases hb : b = a
        · exact hb
        · exact absurd (if_neg hb) z
  intro H only sq ok alone notK
  have untracked : ∀ {b : Addr} {o : Obj}, s1.heap.get? b = some o →
      (∀ z, o.data ≠ .seq z 0) → H b = none := by
    intro b o e d
    cases q : H b with
    | none => rfl
    | some u =>
      have z : b = a := alone b (by rw [q]; exact nofun)
      subst z
      rw [ha] at e
      cases e
      exact absurd rfl (d _)
  have ns' : ∀ {b : Addr} {m : Str → Option Value}, s1.heap.Ns b m →
      (hidT s1.heap H).Ns b m := by
    rintro b m ⟨o, es, ep, e, d, r⟩
    refine ⟨o, es, ep, hidT_get e (untracked e fun z y => ?_), d, r⟩
    cases d.symm.trans y
  have kin' : K.In (hidT s1.heap H) := by
    intro b o e
    refine hidT_get (kin b o e) ?_
    cases q : H b with
    | none => rfl
    | some u =>
      have z : b = a := alone b (by rw [q]; exact nofun)
      subst z
      rw [notK (by rw [q]; exact nofun)] at e
      cases e
  have md : Mod K mg (hidT s1.heap H) := by
    obtain ⟨mc, h1, h2⟩ := nol
    exact ⟨kin', ns' glob, ⟨mb, ns' blt, boot⟩, ⟨mc, ns' h1, h2⟩⟩
  have env : Env0 P w K mg (hidT s1.heap H) callerA [] s1 H :=
    ⟨rfl, md, fun b o e => of_hidT e, Nat.le_of_eq (hidT_size _ _), trivial,
      fun b hb => (nomatch (show b ∈ ([] : List Addr) from hb)), ok,
      .of_eq gens⟩
  have smd : ∃ o, (hidT s1.heap H).get? sysModules = some o := by
    obtain ⟨mm, hm⟩ := smod
    obtain ⟨o, es, ep, e, _⟩ := ns' hm
    exact ⟨o, e⟩
  refine codeAny_mono ((F _ kin' (ns' glob) smd).run callerA [] s1 H ⟨[.ref a], []⟩
    [.ref a] [.ref a] _ _ room rfl env (bind s1 (.ref a)) (.cons rfl .nil)
    (hsp H only sq)) ?_
  intro r s' h
  match r, h with
  | .error e, h => exact False.elim h
  | .ok .next, h => exact False.elim h
  | .ok .brk, h => exact False.elim h
  | .ok .cont, h => exact False.elim h
  | .ok (.ret u), h =>
    obtain ⟨v, H', os, bare, un, ok', rv, q⟩ := h
    cases (show v = .bl true from q)
    cases (show u = Value.bool true from rv)
    refine ⟨rfl, OldK.of_keep fun b o e => ?_, os, bare⟩
    cases q : H b with
    | none =>
      exact un.keep b o e q
        (fun z => nomatch (show b ∈ ([] : List Addr) from z)) (by simp)
    | some u =>
      cases only b with
      | inl z => rw [q] at z; cases z
      | inr z =>
        obtain ⟨ob, xs, z⟩ := z
        have e1 := (ok b _ z).1
        have e2 := (ok' b _ (un.frzs b ob _ z)).1
        rw [e] at e1
        cases e1
        exact e2

/-- what the head leaves, from the law's promise -/
theorem walkS {l : PySem.W.OpenLaw} {n k : Nat} {q : Program} {ls : List Str}
    {XP : (Str → Option Value) → Heap → Prop} {YP : World → Heap → Prop}
    {d : DefRec} {K : Params → PySem.W.Frag} {sp : PySem.W.Frag → Sp} {x : Str}
    (hn : l.most = some n) (hn2 : n ≤ sizeLine) (hq : importsNone q = true)
    (hdf : d.params.defaults = []) (room : Room k callerA)
    (hY : ∀ (w : World) (h : Heap), YP w h → (K w.params).In h)
    (F : ∀ (w : World) (mg : Str → Option Value) (fa : Addr) (h : Heap),
      (K w.params).In h → h.Ns mainGlobals mg → mg d.name = some (.ref fa) →
      ∃ fd : FuncData,
        (∀ (s : Shared) (u : Value), BindsTo s fd ⟨[u], []⟩ [(x, u)]) ∧
        ∀ base : Heap, (K w.params).In base → base.Ns mainGlobals mg →
          (∃ o, base.get? sysModules = some o) →
          FnG l.prog w (K w.params) mg base CX0 k fa fd [x]
            (sp (K w.params)))
    (hsp : ∀ (K : PySem.W.Frag) (H : Hp) (a : Addr) (ns : List Int),
      ns.length ≤ n → Only H → SqL K H a (ns.map V.int) →
      sp K [.ref a] H (fun v _ => v = .bl true) E0) :
    PySem.W.WalkO q ls XP YP l.row.toRowW d []
      (fun f vs => PySem.call f vs) := by
  refine Att.attach_call hn hdf ?_
  intro w s₀ s1 mg mb fa o pm cd doc a vs ns G Y ho hd hcd hmg hobj hi hlen hg
  have KX := hY w _ Y
  obtain ⟨fd, hb, hF⟩ := F w mg fa _ KX G.T.g hmg
  exact lawS KX G.T.g G.T.b G.T.builtins G.T.nolimit hg hobj hi
    (Nat.le_trans hlen hn2) room
    (by obtain ⟨mm, h, _⟩ := (G.T.seer hq).mods; exact ⟨mm, h⟩) hF hb
    (fun H hO hS => hsp (K w.params) H a ns hlen hO hS)
end OM
namespace OM
open PySem PySem.Spec PyProof.Rows L2
def spLaw (K : PySem.W.Frag) : Sp := fun vs H Q _ => ∃ (a : Addr) (ns : List Int),
  vs = [.ref a] ∧ SqL K H a (ns.map V.int) ∧ ns.length ≤ 63 ∧ ∀ H', Q (.bl true) H'
theorem dxs_app17 {H : Hp} : ∀ {xs ys : List V} {ds es : List PyData}, DXs H xs ds → DXs H ys es → DXs H (xs ++ ys) (ds ++ es)
  | _, _, _, _, .nil, h => h
  | _, _, _, _, .cons a t, h => .cons a (dxs_app17 t h)
theorem dxs_rep17 {H : Hp} {v : V} {e : PyData} (d : DX H v e) : ∀ n, DXs H (List.replicate n v) (List.replicate n e)
  | 0 => .nil
  | n + 1 => .cons d (dxs_rep17 d n)
theorem ne17 {x : V} {A B : Prop} (h : B) :
    if (!decide (x = x)) = true then A else B := iteNS rfl h
def due17 (a b : PyData) : PyData := .list ([a, b, a, b] ++ List.replicate 26 a)
theorem dx_due {H : Hp} {l : Addr} {v1 v2 : V} {a b : PyData} (h : H l = some (.lst ([v1, v2, v1, v2] ++ List.replicate 26 v1))) (d1 : DX H v1 a) (d2 : DX H v2 b) :
    DX H (.ref l) (due17 a b) :=
  .lst h (dxs_app17 (.cons d1 (.cons d2 (.cons d1 (.cons d2 .nil)))) (dxs_rep17 d1 26))
theorem sh_due {a b : PyData} (ha : Sh 3 8500 a) (hb : Sh 3 8500 b) : (due17 a b).showable = true ∧ (due17 a b).depth ≤ 60 ∧ (due17 a b).shown.length ≤ sizeLine := by
  obtain ⟨s1, s2, s3⟩ := sh_lst (n := 3) (m := 8500) (ds := [a, b, a, b] ++ List.replicate 26 a) fun d hd => by
    rcases List.mem_append.mp hd with hd | hd
    · simp only [List.mem_cons, List.not_mem_nil, or_false] at hd
      rcases hd with rfl | rfl | rfl | rfl <;> assumption
    · rw [List.eq_of_mem_replicate hd]
      exact ha
  refine ⟨s1, Nat.le_trans s2 (by omega), Nat.le_trans s3 ?_⟩
  rw [List.length_append, List.length_replicate]
  show (4 + 26) * (8500 + 2) + 3 ≤ sizeLine
  decide
section
variable {P : Program} {w : World} {K : PySem.W.Frag}
  {mg : Str → Option Value} {base : Heap}
theorem ok_law17 {f : Addr} {fd : FuncData} {k : Nat}
    (F : Fun K "law" "law" s_law f fd) (B : Bl mg) (sm : ∃ o, base.get? sysModules = some o)
    (c_Lrng : Cal P w K mg base k "_law_rng" ["_law_script", "_law_k"] (spRng K))
    (c_Lodd : Cal P w K mg base k "_law_odd" ["_law_rng_here"] spOdd17)
    (c_Lattributes : Cal P w K mg base k "_law_attributes" ["_law_one", "_law_other"] spAtt17)
    (c_Lnamed_attributes : Cal P w K mg base k "_law_named_attributes" ["_law_one", "_law_other"] spAtt17)
    (c_Lhierarchy_right : Cal P w K mg base k "_law_hierarchy_right" ["_law_one", "_law_other"] spHi17) :
    FnG P w K mg base CX0 (k + 1) f fd ["_law_script"] (spLaw K) := by
  refine okG F sc_law (fun vs H Q E h => ?_)
    (fun cv A outer s H vs Q E hr gd h => ?_)
  · obtain ⟨a, ns, rfl, _⟩ := h
    rfl
  obtain ⟨a, ns, rfl, hS, hlen, q⟩ := h
  have nd := sc_law.nd
  refine ⟨_, (C8.pss_cut (ps_for PassesOwn.never rfl (pi_range1 (by rfl) B.range (pa_cons
      (pe_callB (call_max2 rfl) (by rfl) B.max bt_max (pa_cons pe_int (pa_cons
      (pe_callB (call_min2 rfl) (by rfl) B.min bt_min (pa_cons (pe_callB
      call_len_seq (by rfl) B.len PySem.boot_len (pa_cons (pv 0) pa_nil))
      (pa_cons pe_int pa_nil))) pa_nil))) pa_nil)) (pg_name (i := 1) nd rfl
      (.inl rfl)) (C8.pss_cut (ps_set (i := 2) nd rfl (.inl rfl) (pe_cal c_Lrng
      hr (pa_cons (pv 0) (pa_cons (pv 1) pa_nil)))) (C8.pss_cut (ps_par (i := 3)
      (j := 4) (by rfl) nd rfl rfl (by decide) rfl rfl (pa_cons (pe_cal c_Lodd
      hr (pa_cons (pv 2) pa_nil)) (pa_cons (pe_cal c_Lodd hr (pa_cons (pv 2)
      pa_nil)) pa_nil)) (by rfl)) (C8.pss_cut (ps_set (i := 5) nd rfl (.inl rfl)
      (pe_callB (call_reprX hr gd sm) (by rfl) B.repr bt_repr (pa_cons (pe_op
      op_cat (pe_op op_rep (pe_lst (pa_cons (pv 3) (pa_cons (pv 4) pa_nil)))
      pe_int) (pe_op op_rep (pe_lst (pa_cons (pv 3) pa_nil)) pe_int)) pa_nil)))
      (C8.pss_cut (ps_if (PW.pt (pw_or (pt_cmpR op_ne (pe_callB (call_reprX hr
      gd sm) (by rfl) B.repr bt_repr (pa_cons (pe_cal c_Lattributes hr (pa_cons
      (pv 3) (pa_cons (pv 4) pa_nil))) pa_nil)) (pv 5) (nomark _)) (pw_or1
      (pt_cmpR op_ne (pe_callB (call_reprX hr gd sm) (by rfl) B.repr bt_repr
      (pa_cons (pe_cal c_Lnamed_attributes hr (pa_cons (pv 3) (pa_cons (pv 4)
      pa_nil))) pa_nil)) (pv 5) (nomark _))))) (pss_one ps_never) pss_nil)
      (pss_one (ps_if (pt_not (pt_val (pe_cal c_Lhierarchy_right hr (pa_cons (pv
      3) (pa_cons (pv 4) pa_nil))))) (pss_one ps_never) pss_nil))))))) (pss_one
      (ps_ret pe_bl))), ?_⟩
  refine ⟨fun σ' H' => True, ?_, fun σ' H' _ => q H'⟩
  refine ⟨_, rfl, a, _, rfl, .inl hS, _, _, rfl, _, _, rfl, _, rfl, ?_, ?_, ?_⟩
  · rw [List.length_map]
    split <;> split <;> omega
  · rw [List.length_map]
    split <;> split <;> omega
  generalize hn : (Int.toNat _) = n
  have n4 : n ≤ 1000 := by
    rw [← hn, List.length_map]
    split <;> split <;> omega
  clear hn
  refine for_range (lo := 0) (n := n) (fun i σ H' =>
      ∃ x1 x2 x3 x4 x5 : Option V, σ = [some (.ref a), x1, x2, x3, x4, x5] ∧ Same H H')
    ⟨none, none, none, none, none, rfl, Same.refl H⟩ ?_
    (fun σ H' _ => trivial)
  rintro i σ H0 hi ⟨x1, x2, x3, x4, x5, rfl, s0⟩
  -- the drawing state
  refine ⟨fun σ' H' => ∃ p, σ' = [some (.ref a), some (.int i), some (.ref p),
    x3, x4, x5] ∧ H0 p = none ∧ Rng H' p ∧ Same H0 H', ?_, ?_⟩
  · refine ⟨_, rfl, _, rfl, a, ns, i, ?_, s0.seq hS, by omega,
      fun p H1 np rg s1 => ⟨p, ?_, np, rg, s1⟩⟩
    · rw [Int.zero_add]
      rfl
    · rw [Int.zero_add]
      rfl
  rintro _ H1 ⟨p, rfl, np, rg1, s1⟩
  -- two values
  refine ⟨fun σ' H' => ∃ v1 v2 e1 e2, σ' = [some (.ref a), some (.int i), some (.ref p),
    some v1, some v2, x5] ∧ DX H' v1 e1 ∧ DX H' v2 e2 ∧ Sh 3 8500 e1 ∧ Sh 3 8500 e2 ∧ But p H1 H', ?_, ?_⟩
  · refine ⟨_, rfl, p, rfl, rg1, fun v1 H2 w1 rg2 b2 => ⟨_, rfl, p, rfl, rg2, fun v2 H3 w2 rg3 b3 => ⟨_, _, rfl, ?_⟩⟩⟩
    obtain ⟨e1, d1, h1⟩ := w1.but b3
    obtain ⟨e2, d2, h2⟩ := w2
    exact ⟨v1, v2, e1, e2, rfl, DX.same hide_le _ _ d1, DX.same hide_le _ _ d2, h1, h2, b2.trans b3⟩
  rintro _ H2 ⟨v1, v2, e1, e2, rfl, d1, d2, h1, h2, b2⟩
  have s2 : Same H0 H2 := ((But.of s1).trans b2).same np
  obtain ⟨u1, u2, u3⟩ := sh_due h1 h2
  -- what is due
  refine ⟨fun σ' H' => σ' = [some (.ref a), some (.int i), some (.ref p),
    some v1, some v2, some (.str (due17 e1 e2).shown)] ∧ Same H2 H', ?_, ?_⟩
  · refine ⟨_, rfl, _, rfl, sz (by simp), fun l1 nl1 => ?_⟩
    have z3 := sameNew (o := .lst [v1, v2]) nl1
    have k1 : (upd H2 l1 (.lst [v1, v2])) l1 = some (.lst [v1, v2]) := upd_same
    generalize upd H2 l1 (.lst [v1, v2]) = H3 at z3 k1 ⊢
    refine ⟨l1, 2, _, rfl, rfl, k1, by decide, by decide, sz (by simp), fun l2 nl2 => ?_⟩
    have z4 := sameNew (o := .lst (List.replicate (2 : Int).toNat [v1, v2]).flatten) nl2
    have k2 : (upd H3 l2 (.lst (List.replicate (2 : Int).toNat [v1, v2]).flatten)) l2 = some (.lst (List.replicate (2 : Int).toNat [v1, v2]).flatten) := upd_same
    generalize upd H3 l2 (.lst (List.replicate (2 : Int).toNat [v1, v2]).flatten) = H4 at z4 k2 ⊢
    refine ⟨_, rfl, sz (by simp), fun l3 nl3 => ?_⟩
    have z5 := sameNew (o := .lst [v1]) nl3
    have k3 : (upd H4 l3 (.lst [v1])) l3 = some (.lst [v1]) := upd_same
    generalize upd H4 l3 (.lst [v1]) = H5 at z5 k3 ⊢
    refine ⟨l3, 26, _, rfl, rfl, k3, by decide, by decide, sz (by simp), fun l4 nl4 => ?_⟩
    have z6 := sameNew (o := .lst (List.replicate (26 : Int).toNat [v1]).flatten) nl4
    have k4 : (upd H5 l4 (.lst (List.replicate (26 : Int).toNat [v1]).flatten)) l4 = some (.lst (List.replicate (26 : Int).toNat [v1]).flatten) := upd_same
    generalize upd H5 l4 (.lst (List.replicate (26 : Int).toNat [v1]).flatten) = H6 at z6 k4 ⊢
    refine ⟨l2, l4, _, _, rfl, rfl, (z5.trans z6) _ _ k2, k4, sz (by show 4 + 26 ≤ _; omega), fun g ng => ?_⟩
    have z7 := sameNew (o := .lst ((List.replicate (2 : Int).toNat [v1, v2]).flatten ++ (List.replicate (26 : Int).toNat [v1]).flatten)) ng
    have hg : (upd H6 g (.lst ((List.replicate (2 : Int).toNat [v1, v2]).flatten ++ (List.replicate (26 : Int).toNat [v1]).flatten))) g = some (.lst ((List.replicate (2 : Int).toNat [v1, v2]).flatten ++ (List.replicate (26 : Int).toNat [v1]).flatten)) := upd_same
    generalize upd H6 g (.lst ((List.replicate (2 : Int).toNat [v1, v2]).flatten ++ (List.replicate (26 : Int).toNat [v1]).flatten)) = H7 at z7 hg ⊢
    have s7 := (((z3.trans z4).trans z5).trans z6).trans z7
    exact ⟨_, due17 e1 e2, rfl, dx_due hg (DX.same s7 _ _ d1) (DX.same s7 _ _ d2), u1, u2, u3, rfl, s7⟩
  rintro _ H3 ⟨rfl, s3⟩
  refine ⟨fun σ' H' => σ' = [some (.ref a), some (.int i), some (.ref p),
    some v1, some v2, some (.str (due17 e1 e2).shown)] ∧ Same H3 H', ?_, ?_⟩
  · refine ⟨_, rfl, _, rfl, v1, v2, rfl, fun l H4 nl s4 hl => ⟨_, due17 e1 e2, rfl, dx_due hl (DX.same (s3.trans s4) _ _ d1) (DX.same (s3.trans s4) _ _ d2), u1, u2, u3, _, rfl, ?_⟩⟩
    refine ⟨rfl, _, rfl, ne17 ?_⟩
    have s34 := s3.trans s4
    refine ⟨_, rfl, _, rfl, v1, v2, rfl, fun m H5 nm s5 hm => ⟨_, due17 e1 e2, rfl, dx_due hm (DX.same (s34.trans s5) _ _ d1) (DX.same (s34.trans s5) _ _ d2), u1, u2, u3, _, rfl, ?_⟩⟩
    exact ⟨rfl, _, rfl, ne17 ⟨rfl, s4.trans s5⟩⟩
  rintro _ H4 ⟨rfl, s4⟩
  refine ⟨_, rfl, _, rfl, v1, v2, rfl, fun H5 s5 => ⟨_, rfl, iteF ?_⟩⟩
  exact ⟨_, _, _, _, _, rfl, s0.trans (s2.trans (s3.trans (s4.trans s5)))⟩
end
end OM
namespace OM
open PySem PySem.Spec PyProof.Rows L2
abbrev aeTail : List Value :=
  [.type "ArithmeticError", .type "Exception", .type "BaseException",
    .type "object"]
theorem fam_AE : Fam "ArithmeticError" "ArithmeticError.__new__"
    "ArithmeticError.__init__" aeTail :=
  ⟨PySem.F.excBase_ArithmeticError, PySem.F.store_ArithmeticError.passes,
    by decide +kernel⟩
end OM
/-! What one written object tells of an own class of errors. -/
namespace OM
open PySem PySem.Spec PyProof.Rows L2
abbrev reTail : List Value :=
  [.type "RuntimeError", .type "Exception", .type "BaseException", .type "object"]
abbrev veTail17 : List Value :=
  [.type "ValueError", .type "Exception", .type "BaseException", .type "object"]
theorem fam_RE : Fam "RuntimeError" "RuntimeError.__new__" "RuntimeError.__init__" reTail :=
  ⟨PySem.F.excBase_RuntimeError, PySem.F.store_RuntimeError.passes, by decide +kernel⟩
/-- the class at C, above it bm; nw makes its errors -/
def Xk (K : PySem.W.Frag) (C : Addr) (bm : List Value) (nw : String) : Prop := ∃ (nm q : Str) (N : Addr) (bs : List Value) (sn : List Str) (sub : List Value) (ab : Bool)
  (col : Option Bool) (dd : Option Addr) (k0 k1 k2 k3 k5 : Option Value), K.lookup C = some (excClassObj nm q C N bs bm true sn sub ab col dd k0 k1 k2 k3 k5 nw)
section
variable {K : PySem.W.Frag} {C : Addr} {bm : List Value} {nw : String}
theorem Xk.cls (x : Xk K C bm nw) : ∃ cd, PySem.W.clsIn K C = some cd ∧ cd.mro = .ref C :: bm ∧ cd.hasDict = true := by
  obtain ⟨nm, q, N, bs, sn, sub, ab, col, dd, k0, k1, k2, k3, k5, h⟩ := x
  unfold PySem.W.clsIn
  rw [h]
  exact ⟨_, rfl, rfl, rfl⟩
theorem Xk.sub (x : Xk K C bm nw) (v : Value) : PySem.W.subIn K (.ref C) v = some ((Value.ref C :: bm).contains v) := by
  obtain ⟨cd, h1, h2, _⟩ := x.cls
  show PySem.W.mroIn K C v = _
  unfold PySem.W.mroIn
  rw [h1, Option.bind_some, h2]
  rfl
theorem Xk.isC (x : Xk K C bm nw) : PySem.W.isClsIn K C = true := by
  obtain ⟨cd, h1, _⟩ := x.cls
  unfold PySem.W.isClsIn
  rw [h1]
  rfl
theorem Xk.ty (x : Xk K C bm nw) : PySem.W.typeIn K (.ref C) = some (.type "type") := by
  obtain ⟨nm, q, N, bs, sn, sub, ab, col, dd, k0, k1, k2, k3, k5, h⟩ := x
  show (K.lookup C).map (·.cls) = _
  rw [h]
  rfl
theorem Xk.hd (x : Xk K C bm nw) : PySem.W.hasDictIn K C = true := by
  obtain ⟨cd, h1, _, h3⟩ := x.cls
  unfold PySem.W.hasDictIn
  rw [h1]
  exact h3
end
end OM
namespace OM
open PySem PySem.Spec PyProof.Rows L2
/-! ### what the top has left -/
structure DefAt (K : PySem.W.Frag) (mg : Str → Option Value) (x : Str)
    (st : Stmt) (ps : List Str) (f : Addr) (fd : FuncData) : Prop where
  fn : Fun K x x st f fd
  mg : mg x = some (.ref f)
  bd : Binds K fd ps []
  bt : ∀ (s : Shared) (us : List Value), us.length = ps.length →
    BindsTo s fd ⟨us, []⟩ (ps.zip us)
theorem defAt {K : PySem.W.Frag} {mg : Str → Option Value} {h : Heap}
    {x : Str} {st : Stmt} {ps : List Str} {f : Addr} {oc : Value}
    {od an : Option Addr} {sl : Array (Option Value)}
    {kV dc pm cv ct : Value} (X : K.In h) (G : h.Ns mainGlobals mg)
    (a : PySem.W.nsIn K mainGlobals x = some (some (.ref f)))
    (l : K.lookup f = some ⟨oc, od, .func (PySem.W.fnOf x x (defArgs st)
      (defBody st) (defScope st) .none kV dc pm an cv ct), sl⟩)
    (c : PySem.W.codeIn K cv x = true)
    (k : PySem.W.keepIn K (.ref f) = true)
    (b : ∀ (kV doc pm : Value) (an : Option Addr) (cdv ct : Value)
      (us : List Value), us.length = ps.length →
      bindArgs (PySem.W.fnOf x x (defArgs st) (defBody st) (defScope st)
        .none kV doc pm an cdv ct) ⟨us, []⟩ = pure (ps.zip us)) :
    ∃ fd, DefAt K mg x st ps f fd :=
  have F := fun_mk (st := st) l c k
  ⟨_, F, PySem.W.mg_of X G a, F.binds b,
    fun _ us hl => .of_eq (b _ _ _ _ _ _ us hl)⟩
section
variable {P : Program} {w : World} {K : PySem.W.Frag}
  {mg : Str → Option Value} {base : Heap} {C : Addr}
theorem DefAt.cal {k j : Nat} {x : Str} {st : Stmt} {ps : List Str} {f : Addr}
    {fd : FuncData} {sp : Sp} (D : DefAt K mg x st ps f fd)
    (G : FnOk P w K mg base CX0 j f fd ps sp) (h : j ≤ k) :
    Cal P w K mg base k x ps sp :=
  ⟨f, fd, G.mono h, D.mg, D.fn.kp, D.bd⟩
theorem FnG.up {j k : Nat} {f : Addr} {fd : FuncData} {ps : List Str} {sp : Sp}
    (F : FnG P w K mg base CX0 j f fd ps sp) (h : j ≤ k) :
    FnG P w K mg base CX0 k f fd ps sp :=
  ⟨F.len, fun A o s H ar us vs Q E r g e b v z =>
    F.run A o s H ar us vs Q E (r.mono h) g e b v z⟩
theorem DefAt.calG {k j : Nat} {x : Str} {st : Stmt} {ps : List Str} {f : Addr}
    {fd : FuncData} {sp : Sp} (D : DefAt K mg x st ps f fd)
    (G : FnG P w K mg base CX0 j f fd ps sp) (h : j ≤ k) :
    CalG P w K mg base k x ps sp :=
  ⟨f, fd, G.up h, D.mg, D.fn.kp, D.bd⟩
end
end OM
namespace OM
open PySem PySem.Spec PyProof.Rows L2
/-- an error's __init__ -/
structure XInit (K : PySem.W.Frag) (C : Addr) (q : Str) (st : Stmt)
    (ps : List Str) (f : Addr) (fd : FuncData) : Prop where
  fn : Fun K "__init__" q st f fd
  at_ : PySem.W.findIn K (.ref C) "__init__" = some (some (.ref f))
  ty : PySem.W.typeIn K (.ref f) = some (.type "function")
  bd : Binds K fd ps []
theorem xInit {K : PySem.W.Frag} {C : Addr}
    {q : Str} {st : Stmt} {ps : List Str} {f : Addr} {oc : Value}
    {od an : Option Addr} {sl : Array (Option Value)}
    {kV dc pm cv ct : Value}
    (a : PySem.W.findIn K (.ref C) "__init__" = some (some (.ref f)))
    (i : PySem.W.typeIn K (.ref f) = some (.type "function"))
    (l : K.lookup f = some ⟨oc, od, .func (PySem.W.fnOf "__init__" q
      (defArgs st) (defBody st) (defScope st) .none kV dc pm an cv ct), sl⟩)
    (c : PySem.W.codeIn K cv q = true)
    (k : PySem.W.keepIn K (.ref f) = true)
    (b : ∀ (kV doc pm : Value) (an : Option Addr) (cdv ct : Value)
      (us : List Value), us.length = ps.length →
      bindArgs (PySem.W.fnOf "__init__" q (defArgs st) (defBody st)
        (defScope st) .none kV doc pm an cdv ct) ⟨us, []⟩ =
        pure (ps.zip us)) :
    ∃ fd, XInit K C q st ps f fd :=
  have F := fun_mk (st := st) l c k
  ⟨_, F, a, i, F.binds b⟩
/-- an error of the class at S is what «except T» names -/
theorem exm2 {K : PySem.W.Frag} {S T : Addr}
    (h1 : PySem.W.subIn K (.ref T) (.type "BaseException") = some true)
    (h2 : PySem.W.isClsIn K T = true)
    (h3 : PySem.W.typeIn K (.ref T) = some (.type "type")) {b : Bool}
    (h4 : PySem.W.subIn K (.ref S) (.ref T) = some b) :
    PySem.W.exmOne K (.ref S) (.ref T) = some b := by
  have e1 : (PySem.W.subIn K (.ref T) (.type "BaseException") == some true) =
    true := by rw [h1] <;> rfl
  have e2 : ((PySem.W.clsIn K T).isSome &&
      PySem.W.typeIn K (.ref T) == some (.type "type")) = true := by
    have h2' : (PySem.W.clsIn K T).isSome = true := h2
    rw [h2', h3] <;> rfl
  show (if (PySem.W.subIn K (.ref T) (.type "BaseException") == some true) =
    true then (if ((PySem.W.clsIn K T).isSome &&
      PySem.W.typeIn K (.ref T) == some (.type "type")) = true then
      PySem.W.subIn K (.ref S) (.ref T) else none) else none) = some b
  rw [if_pos e1, if_pos e2]
  exact h4
/-- the same with isinstance -/
theorem kit2 {K : PySem.W.Frag} {S T : Addr} (ne : (S == T) = false)
    (h2 : PySem.W.isClsIn K T = true)
    (h3 : PySem.W.typeIn K (.ref T) = some (.type "type")) {b : Bool}
    (h4 : PySem.W.subIn K (.ref S) (.ref T) = some b) :
    PySem.W.kitOne K (.ref S) (.ref T) = some b := by
  have e2 : ((PySem.W.clsIn K T).isSome &&
      PySem.W.typeIn K (.ref T) == some (.type "type")) = true := by
    have h2' : (PySem.W.clsIn K T).isSome = true := h2
    rw [h2', h3] <;> rfl
  have n : ¬ ((Value.ref S == Value.ref T) = true) := fun z => by
    have z' := eq_of_beq z
    injection z' with z'
    rw [z'] at ne
    simp at ne
  unfold PySem.W.kitOne
  rw [if_neg n]
  show (if ((PySem.W.clsIn K T).isSome &&
      PySem.W.typeIn K (.ref T) == some (.type "type")) = true then
      PySem.W.subIn K (.ref S) (.ref T) else none) = some b
  rw [if_pos e2]
  exact h4
theorem kitT {K : PySem.W.Frag} {S : Addr} {T : String} {b : Bool}
    (hm : PySem.W.kitMeta T = true)
    (h : PySem.W.subIn K (.ref S) (.type T) = some b) :
    PySem.W.kitOne K (.ref S) (.type T) = some b := by
  have n : ¬ ((Value.ref S == Value.type T) = true) := fun z => by
    cases eq_of_beq z
  unfold PySem.W.kitOne
  rw [if_neg n]
  show (if PySem.W.kitMeta T = true then
    PySem.W.subIn K (.ref S) (.type T) else none) = some b
  rw [if_pos hm]
  exact h
end OM
namespace OM
open PySem PySem.Spec PyProof.Rows L2
/-- what is above the i-th class, and what makes its errors -/
def bmt (c : Nat → Addr) (i : Nat) : List Value := if i = 0 then veTail17 else if i ≤ 18 then .ref (c 0) :: veTail17 else if i ≤ 22 then leTail else if i ≤ 27 then reTail else aeTail
def nwt (i : Nat) : String := if i ≤ 18 then "ValueError.__new__" else if i ≤ 22 then "LookupError.__new__" else if i ≤ 27 then "RuntimeError.__new__" else "ArithmeticError.__new__"
/-- what the text tells of the classes -/
structure F17 (K : PySem.W.Frag) (mg : Str → Option Value) (c : Nat → Addr) : Prop where
  ne : ∀ i j, i < 32 → j < 32 → i ≠ j → (c i == c j) = false
  lk : ∀ i, i < 32 → Xk K (c i) (bmt c i) (nwt i)
  sa : ∀ i, i < 32 → PySem.W.findIn K (.ref (c i)) "__setattr__" = some (some (.builtin "object.__setattr__"))
  ga : ∀ i, i < 32 → PySem.W.findIn K (.ref (c i)) "__getattribute__" = some (some (.builtin "BaseException.__getattribute__"))
  gg : ∀ i, i < 32 → PySem.W.findIn K (.ref (c i)) "__getattr__" = some none
  ha : ∀ i, i < 32 → PySem.W.findIn K (.ref (c i)) "__class__" = some (some (.builtin "object.__class__"))
  kC : ∀ i, i < 32 → PySem.W.keepIn K (.ref (c i)) = true
  hn : PySem.W.specialIn K (.builtin "object.__class__") "__get__" = some (some (.builtin "getset_descriptor.__get__"))
  ht : PySem.W.takesIn K (.builtin "object.__class__") = some true
  z_ValueError : mg "ValueError" = none
  z_LookupError : mg "LookupError" = none
  z_RuntimeError : mg "RuntimeError" = none
  z_ArithmeticError : mg "ArithmeticError" = none
  z_KeyError : mg "KeyError" = none
  z_IndexError : mg "IndexError" = none
  z_OverflowError : mg "OverflowError" = none
  z_TypeError : mg "TypeError" = none
  m0 : mg "OrderError" = some (.ref (c 0))
  m1 : mg "InvalidBase" = some (.ref (c 1))
  m2 : mg "InvalidOrder" = some (.ref (c 2))
  m3 : mg "InvalidIndex" = some (.ref (c 3))
  m4 : mg "InvalidReason" = some (.ref (c 4))
  m5 : mg "InvalidPosition" = some (.ref (c 5))
  m6 : mg "InvalidCount" = some (.ref (c 6))
  m7 : mg "InvalidPairs" = some (.ref (c 7))
  m8 : mg "InvalidEntries" = some (.ref (c 8))
  m9 : mg "InvalidOrders" = some (.ref (c 9))
  m10 : mg "InvalidArcs" = some (.ref (c 10))
  m11 : mg "InvalidWord" = some (.ref (c 11))
  m12 : mg "InvalidMove" = some (.ref (c 12))
  m13 : mg "InvalidUsers" = some (.ref (c 13))
  m14 : mg "InvalidMessage" = some (.ref (c 14))
  m15 : mg "InvalidText" = some (.ref (c 15))
  m16 : mg "SameItem" = some (.ref (c 16))
  m17 : mg "InvalidOperation" = some (.ref (c 17))
  m18 : mg "InvalidCommand" = some (.ref (c 18))
  m19 : mg "UnknownItem" = some (.ref (c 19))
  m20 : mg "UnknownUser" = some (.ref (c 20))
  m21 : mg "UnknownReplica" = some (.ref (c 21))
  m22 : mg "UnknownMessage" = some (.ref (c 22))
  m23 : mg "NotLocal" = some (.ref (c 23))
  m24 : mg "Forked" = some (.ref (c 24))
  m25 : mg "NothingToUndo" = some (.ref (c 25))
  m26 : mg "NotSettled" = some (.ref (c 26))
  m27 : mg "LastItem" = some (.ref (c 27))
  m28 : mg "Obstructed" = some (.ref (c 28))
  m29 : mg "BrokenHistory" = some (.ref (c 29))
  m30 : mg "TooManyItems" = some (.ref (c 30))
  m31 : mg "DifferentOrders" = some (.ref (c 31))
  t0 : PySem.W.findIn K (.ref (c 0)) "__init__" = some (some (.builtin "ValueError.__init__"))
  t17 : PySem.W.findIn K (.ref (c 17)) "__init__" = some (some (.builtin "ValueError.__init__"))
  t18 : PySem.W.findIn K (.ref (c 18)) "__init__" = some (some (.builtin "ValueError.__init__"))
  t31 : PySem.W.findIn K (.ref (c 31)) "__init__" = some (some (.builtin "ArithmeticError.__init__"))
  a1 : PySem.W.findIn K (.ref (c 1)) "problem" = some none
  b1 : PySem.W.findIn K (.ref (c 1)) "position" = some none
  a2 : PySem.W.findIn K (.ref (c 2)) "position" = some none
  a3 : PySem.W.findIn K (.ref (c 3)) "value" = some none
  a4 : PySem.W.findIn K (.ref (c 4)) "value" = some none
  a5 : PySem.W.findIn K (.ref (c 5)) "value" = some none
  a6 : PySem.W.findIn K (.ref (c 6)) "value" = some none
  a7 : PySem.W.findIn K (.ref (c 7)) "position" = some none
  a8 : PySem.W.findIn K (.ref (c 8)) "position" = some none
  a9 : PySem.W.findIn K (.ref (c 9)) "position" = some none
  a10 : PySem.W.findIn K (.ref (c 10)) "position" = some none
  a11 : PySem.W.findIn K (.ref (c 11)) "position" = some none
  a12 : PySem.W.findIn K (.ref (c 12)) "value" = some none
  a13 : PySem.W.findIn K (.ref (c 13)) "problem" = some none
  b13 : PySem.W.findIn K (.ref (c 13)) "position" = some none
  a14 : PySem.W.findIn K (.ref (c 14)) "position" = some none
  a15 : PySem.W.findIn K (.ref (c 15)) "line" = some none
  a16 : PySem.W.findIn K (.ref (c 16)) "value" = some none
  a19 : PySem.W.findIn K (.ref (c 19)) "value" = some none
  a20 : PySem.W.findIn K (.ref (c 20)) "value" = some none
  a21 : PySem.W.findIn K (.ref (c 21)) "value" = some none
  a22 : PySem.W.findIn K (.ref (c 22)) "value" = some none
  a23 : PySem.W.findIn K (.ref (c 23)) "user" = some none
  a24 : PySem.W.findIn K (.ref (c 24)) "user" = some none
  a25 : PySem.W.findIn K (.ref (c 25)) "user" = some none
  a26 : PySem.W.findIn K (.ref (c 26)) "replica" = some none
  a27 : PySem.W.findIn K (.ref (c 27)) "value" = some none
  a28 : PySem.W.findIn K (.ref (c 28)) "obstruction" = some none
  a29 : PySem.W.findIn K (.ref (c 29)) "count" = some none
  a30 : PySem.W.findIn K (.ref (c 30)) "limit" = some none
section
variable {K : PySem.W.Frag} {mg : Str → Option Value} {c : Nat → Addr}
theorem bmt_T (F : F17 K mg c) {i : Nat} (hi : i < 32) (X : String) :
    (Value.ref (c i) :: bmt c i).contains (.type X) = (if i ≤ 18 then veTail17 else if i ≤ 22 then leTail else if i ≤ 27 then reTail else aeTail).contains (.type X) := by
  have e : ∀ (a : Addr) (l : List Value), (Value.ref a :: l).contains (.type X) = l.contains (.type X) := fun a l => by
    rw [List.contains_cons]
    rfl
  rw [e]
  unfold bmt
  by_cases h0 : i = 0
  · rw [if_pos h0, if_pos (by omega)]
  · rw [if_neg h0]
    by_cases h1 : i ≤ 18
    · rw [if_pos h1, if_pos h1, e]
    · rw [if_neg h1, if_neg h1]
theorem F17.sT (F : F17 K mg c) {i : Nat} (hi : i < 32) (X : String) :
    PySem.W.subIn K (.ref (c i)) (.type X) = some ((if i ≤ 18 then veTail17 else if i ≤ 22 then leTail else if i ≤ 27 then reTail else aeTail).contains (.type X)) := by
  rw [(F.lk i hi).sub, bmt_T F hi]
theorem F17.sB (F : F17 K mg c) {i : Nat} (hi : i < 32) (X : String) (hX : veTail17.contains (.type X) = true ∧ leTail.contains (.type X) = true ∧ reTail.contains (.type X) = true ∧ aeTail.contains (.type X) = true) :
    PySem.W.subIn K (.ref (c i)) (.type X) = some true := by
  rw [F.sT hi]
  obtain ⟨h1, h2, h3, h4⟩ := hX
  split
  · rw [h1]
  · split
    · rw [h2]
    · split
      · rw [h3]
      · rw [h4]
theorem F17.ei (F : F17 K mg c) {i : Nat} (hi : i < 32) : ExcC K (c i) :=
  ⟨F.ga i hi, F.gg i hi, F.sB hi "BaseException" (by decide +kernel), (F.lk i hi).hd, F.ha i hi, F.hn, F.ht,
    F.sB hi "object" (by decide +kernel)⟩
theorem F17.xf (F : F17 K mg c) {i : Nat} (hi : i < 32) : XfC K (c i) := ⟨(F.ei hi).hg, (F.ei hi).hk, (F.ei hi).hs, (F.ei hi).hd⟩
/-- the family of the i-th class: which built-in error it is -/
theorem F17.fam (F : F17 K mg c) {i : Nat} (hi : i < 32) : ∃ (B initId : String) (bmB bm : List Value) (nm q : Str) (N : Addr) (bs : List Value) (sn : List Str) (sub : List Value) (ab : Bool)
    (col : Option Bool) (dd : Option Addr) (k0 k1 k2 k3 k5 : Option Value), ExcBaseFacts B (nwt i) initId bmB ∧
    (∀ X : String, bm.contains (.type X) = bmB.contains (.type X)) ∧
    K.lookup (c i) = some (excClassObj nm q (c i) N bs bm true sn sub ab col dd k0 k1 k2 k3 k5 (nwt i)) ∧
    initId = (if i ≤ 18 then "ValueError.__init__" else if i ≤ 22 then "LookupError.__init__" else if i ≤ 27 then "RuntimeError.__init__" else "ArithmeticError.__init__") := by
  obtain ⟨nm, q, N, bs, sn, sub, ab, col, dd, k0, k1, k2, k3, k5, h⟩ := F.lk i hi
  unfold nwt bmt at h
  unfold nwt
  by_cases h1 : i ≤ 18
  · by_cases h0 : i = 0
    · simp only [if_pos h1, if_pos h0] at h ⊢
      exact ⟨_, _, _, _, _, _, _, _, _, _, _, _, _, _, _, _, _, _, PySem.F.excBase_ValueError, fun _ => rfl, h, rfl⟩
    · simp only [if_pos h1, if_neg h0] at h ⊢
      exact ⟨_, _, _, .ref (c 0) :: veTail17, _, _, _, _, _, _, _, _, _, _, _, _, _, _, PySem.F.excBase_ValueError, fun X => by rw [List.contains_cons]; rfl, h, rfl⟩
  · have h0 : ¬ i = 0 := by omega
    by_cases h2 : i ≤ 22
    · simp only [if_neg h1, if_neg h0, if_pos h2] at h ⊢
      exact ⟨_, _, _, _, _, _, _, _, _, _, _, _, _, _, _, _, _, _, PySem.F.excBase_LookupError, fun _ => rfl, h, rfl⟩
    · by_cases h3 : i ≤ 27
      · simp only [if_neg h1, if_neg h0, if_neg h2, if_pos h3] at h ⊢
        exact ⟨_, _, _, _, _, _, _, _, _, _, _, _, _, _, _, _, _, _, PySem.F.excBase_RuntimeError, fun _ => rfl, h, rfl⟩
      · simp only [if_neg h1, if_neg h0, if_neg h2, if_neg h3] at h ⊢
        exact ⟨_, _, _, _, _, _, _, _, _, _, _, _, _, _, _, _, _, _, PySem.F.excBase_ArithmeticError, fun _ => rfl, h, rfl⟩
theorem F17.val (F : F17 K mg c) (i : Nat) (hi : i < 32) : XVal K (c i) := by
  obtain ⟨B, ini, bmB, bm, nm, q, N, bs, sn, sub, ab, col, dd, k0, k1, k2, k3, k5, h1, h2, h3, _⟩ := F.fam hi
  exact ⟨⟨B, _, ini, bmB, bm, nm, q, N, bs, sn, sub, ab, col, dd, k0, k1, k2, k3, k5, h1, h2, h3, rfl⟩, F.kC i hi, F.ei hi⟩
theorem F17.tx (F : F17 K mg c) {i : Nat} (hi : i < 32) {x : Str} (m : mg x = some (.ref (c i)))
    (t : PySem.W.findIn K (.ref (c i)) "__init__" = some (some (.builtin (if i ≤ 18 then "ValueError.__init__" else if i ≤ 22 then "LookupError.__init__" else if i ≤ 27 then "RuntimeError.__init__" else "ArithmeticError.__init__")))) :
    XTx K mg (c i) x := by
  obtain ⟨B, ini, bmB, bm, nm, q, N, bs, sn, sub, ab, col, dd, k0, k1, k2, k3, k5, h1, h2, h3, h4⟩ := F.fam hi
  rw [← h4] at t
  exact ⟨m, ⟨B, _, ini, bmB, bm, nm, q, N, bs, sn, sub, ab, col, dd, k0, k1, k2, k3, k5, h1, h2, h3, t⟩, F.val i hi⟩
theorem F17.kit (F : F17 K mg c) (i j : Nat) (hi : i < 32) (hj : j < 32) : PySem.W.kitOne K (.ref (c i)) (.ref (c j)) = some (kv i j) := by
  by_cases e : i = j
  · subst e
    rw [show kv i i = true by unfold kv; rw [decide_eq_true rfl]; rfl]
    unfold PySem.W.kitOne
    exact if_pos (beq_self_eq_true _)
  refine kit2 (F.ne i j hi hj e) (F.lk j hj).isC (F.lk j hj).ty ?_
  rw [(F.lk i hi).sub]
  congr 1
  have n1 : ∀ {a b : Addr}, (a == b) = false → (Value.ref b == Value.ref a) = false := fun {a b} h => by
    refine Bool.eq_false_iff.mpr fun z => ?_
    have z' := Value.ref.inj (eq_of_beq z)
    rw [z'] at h
    simp at h
  have ts : ∀ (b : Addr) (l : List String), (l.map Value.type).contains (.ref b) = false := fun b l => by
    induction l with
    | nil => rfl
    | cons x r ih =>
      rw [List.map_cons, List.contains_cons, ih]
      rfl
  rw [List.contains_cons, n1 (F.ne i j hi hj e), Bool.false_or]
  unfold bmt kv
  rw [decide_eq_false e, Bool.false_or]
  by_cases h0 : i = 0
  · have j0 : j ≠ 0 := fun z => e (h0.trans z.symm)
    rw [if_pos h0, decide_eq_false j0, Bool.false_and]
    exact ts (c j) ["ValueError", "Exception", "BaseException", "object"]
  rw [if_neg h0]
  by_cases h1 : i ≤ 18
  · rw [if_pos h1, decide_eq_true h1, Bool.and_true, List.contains_cons]
    rw [show veTail17.contains (Value.ref (c j)) = false from ts (c j) ["ValueError", "Exception", "BaseException", "object"], Bool.or_false]
    by_cases j0 : j = 0
    · subst j0
      rw [decide_eq_true rfl]
      exact beq_self_eq_true _
    · rw [decide_eq_false j0]
      exact n1 (F.ne 0 j (by omega) hj (Ne.symm j0))
  · rw [if_neg h1, decide_eq_false h1, Bool.and_false]
    split
    · exact ts (c j) ["LookupError", "Exception", "BaseException", "object"]
    · split
      · exact ts (c j) ["RuntimeError", "Exception", "BaseException", "object"]
      · exact ts (c j) ["ArithmeticError", "Exception", "BaseException", "object"]
theorem F17.bas (F : F17 K mg c) (i j : Nat) (hi : i < 32) (hj : j < 8) : PySem.W.kitOne K (.ref (c i)) (.type (btn j)) = some (bv i j) := by
  refine kitT ?_ ?_
  · have : ∀ j, j < 8 → PySem.W.kitMeta (btn j) = true := by decide +kernel
    exact this j hj
  rw [F.sT hi]
  congr 1
  have : ∀ i, i < 32 → ∀ j, j < 8 → (if i ≤ 18 then veTail17 else if i ≤ 22 then leTail else if i ≤ 27 then reTail else aeTail).contains (.type (btn j)) = bv i j := by decide +kernel
  exact this i hi j hj
theorem F17.oexC (F : F17 K mg c) {i : Nat} (hi : i < 32) (h1 : 1 ≤ i) (h2 : i ≤ 18) : OexC K (c i) := by
  obtain ⟨nm, q, N, bs, sn, sub, ab, col, dd, k0, k1, k2, k3, k5, h⟩ := F.lk i hi
  unfold nwt bmt at h
  simp only [if_neg (show ¬ i = 0 by omega), if_pos h2] at h
  exact ⟨⟨_, _, _, _, _, _, _, _, _, _, _, _, _, _, _, h, by show PySem.HandSPX.refsVE PySem.HandSPX.veTail = true; decide +kernel⟩,
    F.sa i hi, (F.ei hi).hs, (F.lk i hi).ty, F.kC i hi⟩
theorem F17.oexF (F : F17 K mg c) {i : Nat} (hi : i < 32) (h1 : 19 ≤ i) : OexF K (c i) := by
  obtain ⟨nm, q, N, bs, sn, sub, ab, col, dd, k0, k1, k2, k3, k5, h⟩ := F.lk i hi
  unfold nwt bmt at h
  simp only [if_neg (show ¬ i ≤ 18 by omega), if_neg (show ¬ i = 0 by omega)] at h
  refine ⟨?_, F.sa i hi, (F.ei hi).hs, (F.lk i hi).ty, F.kC i hi⟩
  by_cases h2 : i ≤ 22
  · simp only [if_pos h2] at h
    exact ⟨_, _, _, _, _, _, _, _, _, _, _, _, _, _, _, _, _, _, fam_LE, h⟩
  simp only [if_neg h2] at h
  by_cases h3 : i ≤ 27
  · simp only [if_pos h3] at h
    exact ⟨_, _, _, _, _, _, _, _, _, _, _, _, _, _, _, _, _, _, fam_RE, h⟩
  · simp only [if_neg h3] at h
    exact ⟨_, _, _, _, _, _, _, _, _, _, _, _, _, _, _, _, _, _, fam_AE, h⟩
end
end OM
namespace OM
open PySem PySem.Spec PyProof.Rows L2
theorem rev17 : ∀ {xs : List V} {us : List Value}, Vals xs us → Vals xs.reverse us.reverse
  | _, _, .nil => .nil
  | _, _, .cons h t => by
    rw [List.reverse_cons, List.reverse_cons]
    exact Vals.append (rev17 t) (.cons h .nil)
theorem kbn1 {K : PySem.W.Frag} {st : Stmt} {q f1 : Str} {f : Addr} {fd : FuncData} (F : Fun K "__init__" q st f fd)
    (b : ∀ (kV dc pm : Value) (an : Option Addr) (cv ct u v : Value), bindArgs (PySem.W.fnOf "__init__" q (defArgs st) (defBody st) (defScope st) .none kV dc pm an cv ct) ⟨[u], [(f1, v)]⟩ =
      pure [(Str.ofString "self", u), (f1, v)]) : ∃ g, KBn K fd ["self", f1] 1 [f1] g gApp := by
  obtain ⟨oc, od, kV, dc, pm, an, cv, ct, sl, rfl, lk, hcd⟩ := F.ex
  refine ⟨fun us ws => us ++ ws, ⟨fun s us ws X l1 l2 => ?_, fun r1 r2 => Vals.append r1 r2⟩⟩
  obtain ⟨u, rfl⟩ := List.length_eq_one_iff.mp l1
  obtain ⟨v, rfl⟩ := List.length_eq_one_iff.mp l2
  exact .of_eq (b _ _ _ _ _ _ u v)
theorem kbn2 {K : PySem.W.Frag} {st : Stmt} {q f1 f2 : Str} {f : Addr} {fd : FuncData} (F : Fun K "__init__" q st f fd)
    (b : ∀ (kV dc pm : Value) (an : Option Addr) (cv ct u v z : Value), bindArgs (PySem.W.fnOf "__init__" q (defArgs st) (defBody st) (defScope st) .none kV dc pm an cv ct) ⟨[u], [(f2, z), (f1, v)]⟩ =
      pure [(Str.ofString "self", u), (f1, v), (f2, z)]) : ∃ g, KBn K fd ["self", f1, f2] 1 [f2, f1] g gRev := by
  obtain ⟨oc, od, kV, dc, pm, an, cv, ct, sl, rfl, lk, hcd⟩ := F.ex
  refine ⟨fun us ws => us ++ ws.reverse, ⟨fun s us ws X l1 l2 => ?_, fun r1 r2 => Vals.append r1 (rev17 r2)⟩⟩
  obtain ⟨u, rfl⟩ := List.length_eq_one_iff.mp l1
  match ws, l2 with
  | [z, v], _ => exact .of_eq (b _ _ _ _ _ _ u v z)
section
variable {P : Program} {w : World} {K : PySem.W.Frag}
  {mg : Str → Option Value} {base : Heap} {C : Addr}
theorem ok_x1 {f : Addr} {fd : FuncData} {k : Nat} {q : Str}
    (F : Fun K "__init__" q s_InvalidBase_init f fd) (T : OexC K C)
    (n1 : PySem.W.findIn K (.ref C) "problem" = some none)
    (n2 : PySem.W.findIn K (.ref C) "position" = some none) :
    FnOk P w K mg base CX0 (k + 1) f fd ["self", "problem", "position"]
      (spX2 C "problem" "position") := by
  refine F.ok sc_InvalidBase_init (fun vs H Q E h => ?_)
    (fun cv A outer s H vs Q E hr h => ?_)
  · obtain ⟨a, v1, v2, rfl, _⟩ := h
    rfl
  obtain ⟨a, v1, v2, rfl, ha, q⟩ := h
  refine ⟨_, pss_cons (ps_ost (pv 0) (pv 1)) (pss_one (ps_ost (pv 0) (pv 2))), ?_⟩
  refine ⟨_, rfl, _, rfl, a, C, rfl, T, n1, .inl ⟨ha, fun dx nd ne => ?_⟩⟩
  refine ⟨_, rfl, _, rfl, a, C, rfl, T, n2, .inr ⟨dx,
    [("problem", v1)], upd_same, ?_, ?_, ?_⟩⟩
  · rw [upd_ne ne, upd_same]
  · simp
  · exact q dx nd ne
theorem ok_x2 {f : Addr} {fd : FuncData} {k : Nat} {q : Str}
    (F : Fun K "__init__" q s_InvalidOrder_init f fd) (T : OexC K C)
    (n1 : PySem.W.findIn K (.ref C) "position" = some none) :
    FnOk P w K mg base CX0 (k + 1) f fd ["self", "position"] (spX1 C "position") := by
  refine F.ok sc_InvalidOrder_init (fun vs H Q E h => ?_)
    (fun cv A outer s H vs Q E hr h => ?_)
  · obtain ⟨a, v1, rfl, _⟩ := h
    rfl
  obtain ⟨a, v1, rfl, ha, q⟩ := h
  refine ⟨_, pss_one (ps_ost (pv 0) (pv 1)), ?_⟩
  exact ⟨_, rfl, _, rfl, a, C, rfl, T, n1, .inl ⟨ha, fun dx nd ne => q dx nd ne⟩⟩
theorem ok_x3 {f : Addr} {fd : FuncData} {k : Nat} {q : Str}
    (F : Fun K "__init__" q s_InvalidIndex_init f fd) (T : OexC K C)
    (n1 : PySem.W.findIn K (.ref C) "value" = some none) :
    FnOk P w K mg base CX0 (k + 1) f fd ["self", "value"] (spX1 C "value") := by
  refine F.ok sc_InvalidIndex_init (fun vs H Q E h => ?_)
    (fun cv A outer s H vs Q E hr h => ?_)
  · obtain ⟨a, v1, rfl, _⟩ := h
    rfl
  obtain ⟨a, v1, rfl, ha, q⟩ := h
  refine ⟨_, pss_one (ps_ost (pv 0) (pv 1)), ?_⟩
  exact ⟨_, rfl, _, rfl, a, C, rfl, T, n1, .inl ⟨ha, fun dx nd ne => q dx nd ne⟩⟩
theorem ok_x4 {f : Addr} {fd : FuncData} {k : Nat} {q : Str}
    (F : Fun K "__init__" q s_InvalidReason_init f fd) (T : OexC K C)
    (n1 : PySem.W.findIn K (.ref C) "value" = some none) :
    FnOk P w K mg base CX0 (k + 1) f fd ["self", "value"] (spX1 C "value") := by
  refine F.ok sc_InvalidReason_init (fun vs H Q E h => ?_)
    (fun cv A outer s H vs Q E hr h => ?_)
  · obtain ⟨a, v1, rfl, _⟩ := h
    rfl
  obtain ⟨a, v1, rfl, ha, q⟩ := h
  refine ⟨_, pss_one (ps_ost (pv 0) (pv 1)), ?_⟩
  exact ⟨_, rfl, _, rfl, a, C, rfl, T, n1, .inl ⟨ha, fun dx nd ne => q dx nd ne⟩⟩
theorem ok_x5 {f : Addr} {fd : FuncData} {k : Nat} {q : Str}
    (F : Fun K "__init__" q s_InvalidPosition_init f fd) (T : OexC K C)
    (n1 : PySem.W.findIn K (.ref C) "value" = some none) :
    FnOk P w K mg base CX0 (k + 1) f fd ["self", "value"] (spX1 C "value") := by
  refine F.ok sc_InvalidPosition_init (fun vs H Q E h => ?_)
    (fun cv A outer s H vs Q E hr h => ?_)
  · obtain ⟨a, v1, rfl, _⟩ := h
    rfl
  obtain ⟨a, v1, rfl, ha, q⟩ := h
  refine ⟨_, pss_one (ps_ost (pv 0) (pv 1)), ?_⟩
  exact ⟨_, rfl, _, rfl, a, C, rfl, T, n1, .inl ⟨ha, fun dx nd ne => q dx nd ne⟩⟩
theorem ok_x6 {f : Addr} {fd : FuncData} {k : Nat} {q : Str}
    (F : Fun K "__init__" q s_InvalidCount_init f fd) (T : OexC K C)
    (n1 : PySem.W.findIn K (.ref C) "value" = some none) :
    FnOk P w K mg base CX0 (k + 1) f fd ["self", "value"] (spX1 C "value") := by
  refine F.ok sc_InvalidCount_init (fun vs H Q E h => ?_)
    (fun cv A outer s H vs Q E hr h => ?_)
  · obtain ⟨a, v1, rfl, _⟩ := h
    rfl
  obtain ⟨a, v1, rfl, ha, q⟩ := h
  refine ⟨_, pss_one (ps_ost (pv 0) (pv 1)), ?_⟩
  exact ⟨_, rfl, _, rfl, a, C, rfl, T, n1, .inl ⟨ha, fun dx nd ne => q dx nd ne⟩⟩
theorem ok_x7 {f : Addr} {fd : FuncData} {k : Nat} {q : Str}
    (F : Fun K "__init__" q s_InvalidPairs_init f fd) (T : OexC K C)
    (n1 : PySem.W.findIn K (.ref C) "position" = some none) :
    FnOk P w K mg base CX0 (k + 1) f fd ["self", "position"] (spX1 C "position") := by
  refine F.ok sc_InvalidPairs_init (fun vs H Q E h => ?_)
    (fun cv A outer s H vs Q E hr h => ?_)
  · obtain ⟨a, v1, rfl, _⟩ := h
    rfl
  obtain ⟨a, v1, rfl, ha, q⟩ := h
  refine ⟨_, pss_one (ps_ost (pv 0) (pv 1)), ?_⟩
  exact ⟨_, rfl, _, rfl, a, C, rfl, T, n1, .inl ⟨ha, fun dx nd ne => q dx nd ne⟩⟩
theorem ok_x8 {f : Addr} {fd : FuncData} {k : Nat} {q : Str}
    (F : Fun K "__init__" q s_InvalidEntries_init f fd) (T : OexC K C)
    (n1 : PySem.W.findIn K (.ref C) "position" = some none) :
    FnOk P w K mg base CX0 (k + 1) f fd ["self", "position"] (spX1 C "position") := by
  refine F.ok sc_InvalidEntries_init (fun vs H Q E h => ?_)
    (fun cv A outer s H vs Q E hr h => ?_)
  · obtain ⟨a, v1, rfl, _⟩ := h
    rfl
  obtain ⟨a, v1, rfl, ha, q⟩ := h
  refine ⟨_, pss_one (ps_ost (pv 0) (pv 1)), ?_⟩
  exact ⟨_, rfl, _, rfl, a, C, rfl, T, n1, .inl ⟨ha, fun dx nd ne => q dx nd ne⟩⟩
theorem ok_x9 {f : Addr} {fd : FuncData} {k : Nat} {q : Str}
    (F : Fun K "__init__" q s_InvalidOrders_init f fd) (T : OexC K C)
    (n1 : PySem.W.findIn K (.ref C) "position" = some none) :
    FnOk P w K mg base CX0 (k + 1) f fd ["self", "position"] (spX1 C "position") := by
  refine F.ok sc_InvalidOrders_init (fun vs H Q E h => ?_)
    (fun cv A outer s H vs Q E hr h => ?_)
  · obtain ⟨a, v1, rfl, _⟩ := h
    rfl
  obtain ⟨a, v1, rfl, ha, q⟩ := h
  refine ⟨_, pss_one (ps_ost (pv 0) (pv 1)), ?_⟩
  exact ⟨_, rfl, _, rfl, a, C, rfl, T, n1, .inl ⟨ha, fun dx nd ne => q dx nd ne⟩⟩
theorem ok_x10 {f : Addr} {fd : FuncData} {k : Nat} {q : Str}
    (F : Fun K "__init__" q s_InvalidArcs_init f fd) (T : OexC K C)
    (n1 : PySem.W.findIn K (.ref C) "position" = some none) :
    FnOk P w K mg base CX0 (k + 1) f fd ["self", "position"] (spX1 C "position") := by
  refine F.ok sc_InvalidArcs_init (fun vs H Q E h => ?_)
    (fun cv A outer s H vs Q E hr h => ?_)
  · obtain ⟨a, v1, rfl, _⟩ := h
    rfl
  obtain ⟨a, v1, rfl, ha, q⟩ := h
  refine ⟨_, pss_one (ps_ost (pv 0) (pv 1)), ?_⟩
  exact ⟨_, rfl, _, rfl, a, C, rfl, T, n1, .inl ⟨ha, fun dx nd ne => q dx nd ne⟩⟩
theorem ok_x11 {f : Addr} {fd : FuncData} {k : Nat} {q : Str}
    (F : Fun K "__init__" q s_InvalidWord_init f fd) (T : OexC K C)
    (n1 : PySem.W.findIn K (.ref C) "position" = some none) :
    FnOk P w K mg base CX0 (k + 1) f fd ["self", "position"] (spX1 C "position") := by
  refine F.ok sc_InvalidWord_init (fun vs H Q E h => ?_)
    (fun cv A outer s H vs Q E hr h => ?_)
  · obtain ⟨a, v1, rfl, _⟩ := h
    rfl
  obtain ⟨a, v1, rfl, ha, q⟩ := h
  refine ⟨_, pss_one (ps_ost (pv 0) (pv 1)), ?_⟩
  exact ⟨_, rfl, _, rfl, a, C, rfl, T, n1, .inl ⟨ha, fun dx nd ne => q dx nd ne⟩⟩
theorem ok_x12 {f : Addr} {fd : FuncData} {k : Nat} {q : Str}
    (F : Fun K "__init__" q s_InvalidMove_init f fd) (T : OexC K C)
    (n1 : PySem.W.findIn K (.ref C) "value" = some none) :
    FnOk P w K mg base CX0 (k + 1) f fd ["self", "value"] (spX1 C "value") := by
  refine F.ok sc_InvalidMove_init (fun vs H Q E h => ?_)
    (fun cv A outer s H vs Q E hr h => ?_)
  · obtain ⟨a, v1, rfl, _⟩ := h
    rfl
  obtain ⟨a, v1, rfl, ha, q⟩ := h
  refine ⟨_, pss_one (ps_ost (pv 0) (pv 1)), ?_⟩
  exact ⟨_, rfl, _, rfl, a, C, rfl, T, n1, .inl ⟨ha, fun dx nd ne => q dx nd ne⟩⟩
theorem ok_x13 {f : Addr} {fd : FuncData} {k : Nat} {q : Str}
    (F : Fun K "__init__" q s_InvalidUsers_init f fd) (T : OexC K C)
    (n1 : PySem.W.findIn K (.ref C) "problem" = some none)
    (n2 : PySem.W.findIn K (.ref C) "position" = some none) :
    FnOk P w K mg base CX0 (k + 1) f fd ["self", "problem", "position"]
      (spX2 C "problem" "position") := by
  refine F.ok sc_InvalidUsers_init (fun vs H Q E h => ?_)
    (fun cv A outer s H vs Q E hr h => ?_)
  · obtain ⟨a, v1, v2, rfl, _⟩ := h
    rfl
  obtain ⟨a, v1, v2, rfl, ha, q⟩ := h
  refine ⟨_, pss_cons (ps_ost (pv 0) (pv 1)) (pss_one (ps_ost (pv 0) (pv 2))), ?_⟩
  refine ⟨_, rfl, _, rfl, a, C, rfl, T, n1, .inl ⟨ha, fun dx nd ne => ?_⟩⟩
  refine ⟨_, rfl, _, rfl, a, C, rfl, T, n2, .inr ⟨dx,
    [("problem", v1)], upd_same, ?_, ?_, ?_⟩⟩
  · rw [upd_ne ne, upd_same]
  · simp
  · exact q dx nd ne
theorem ok_x14 {f : Addr} {fd : FuncData} {k : Nat} {q : Str}
    (F : Fun K "__init__" q s_InvalidMessage_init f fd) (T : OexC K C)
    (n1 : PySem.W.findIn K (.ref C) "position" = some none) :
    FnOk P w K mg base CX0 (k + 1) f fd ["self", "position"] (spX1 C "position") := by
  refine F.ok sc_InvalidMessage_init (fun vs H Q E h => ?_)
    (fun cv A outer s H vs Q E hr h => ?_)
  · obtain ⟨a, v1, rfl, _⟩ := h
    rfl
  obtain ⟨a, v1, rfl, ha, q⟩ := h
  refine ⟨_, pss_one (ps_ost (pv 0) (pv 1)), ?_⟩
  exact ⟨_, rfl, _, rfl, a, C, rfl, T, n1, .inl ⟨ha, fun dx nd ne => q dx nd ne⟩⟩
theorem ok_x15 {f : Addr} {fd : FuncData} {k : Nat} {q : Str}
    (F : Fun K "__init__" q s_InvalidText_init f fd) (T : OexC K C)
    (n1 : PySem.W.findIn K (.ref C) "line" = some none) :
    FnOk P w K mg base CX0 (k + 1) f fd ["self", "line"] (spX1 C "line") := by
  refine F.ok sc_InvalidText_init (fun vs H Q E h => ?_)
    (fun cv A outer s H vs Q E hr h => ?_)
  · obtain ⟨a, v1, rfl, _⟩ := h
    rfl
  obtain ⟨a, v1, rfl, ha, q⟩ := h
  refine ⟨_, pss_one (ps_ost (pv 0) (pv 1)), ?_⟩
  exact ⟨_, rfl, _, rfl, a, C, rfl, T, n1, .inl ⟨ha, fun dx nd ne => q dx nd ne⟩⟩
theorem ok_x16 {f : Addr} {fd : FuncData} {k : Nat} {q : Str}
    (F : Fun K "__init__" q s_SameItem_init f fd) (T : OexC K C)
    (n1 : PySem.W.findIn K (.ref C) "value" = some none) :
    FnOk P w K mg base CX0 (k + 1) f fd ["self", "value"] (spX1 C "value") := by
  refine F.ok sc_SameItem_init (fun vs H Q E h => ?_)
    (fun cv A outer s H vs Q E hr h => ?_)
  · obtain ⟨a, v1, rfl, _⟩ := h
    rfl
  obtain ⟨a, v1, rfl, ha, q⟩ := h
  refine ⟨_, pss_one (ps_ost (pv 0) (pv 1)), ?_⟩
  exact ⟨_, rfl, _, rfl, a, C, rfl, T, n1, .inl ⟨ha, fun dx nd ne => q dx nd ne⟩⟩
theorem ok_x19 {f : Addr} {fd : FuncData} {k : Nat} {q : Str}
    (F : Fun K "__init__" q s_UnknownItem_init f fd) (T : OexF K C)
    (n1 : PySem.W.findIn K (.ref C) "value" = some none) :
    FnOk P w K mg base CX0 (k + 1) f fd ["self", "value"] (spX1 C "value") := by
  refine F.ok sc_UnknownItem_init (fun vs H Q E h => ?_)
    (fun cv A outer s H vs Q E hr h => ?_)
  · obtain ⟨a, v1, rfl, _⟩ := h
    rfl
  obtain ⟨a, v1, rfl, ha, q⟩ := h
  refine ⟨_, pss_one (ps_ostF (pv 0) (pv 1)), ?_⟩
  exact ⟨_, rfl, _, rfl, a, C, rfl, T, n1, ha, fun dx nd ne => q dx nd ne⟩
theorem ok_x20 {f : Addr} {fd : FuncData} {k : Nat} {q : Str}
    (F : Fun K "__init__" q s_UnknownUser_init f fd) (T : OexF K C)
    (n1 : PySem.W.findIn K (.ref C) "value" = some none) :
    FnOk P w K mg base CX0 (k + 1) f fd ["self", "value"] (spX1 C "value") := by
  refine F.ok sc_UnknownUser_init (fun vs H Q E h => ?_)
    (fun cv A outer s H vs Q E hr h => ?_)
  · obtain ⟨a, v1, rfl, _⟩ := h
    rfl
  obtain ⟨a, v1, rfl, ha, q⟩ := h
  refine ⟨_, pss_one (ps_ostF (pv 0) (pv 1)), ?_⟩
  exact ⟨_, rfl, _, rfl, a, C, rfl, T, n1, ha, fun dx nd ne => q dx nd ne⟩
theorem ok_x21 {f : Addr} {fd : FuncData} {k : Nat} {q : Str}
    (F : Fun K "__init__" q s_UnknownReplica_init f fd) (T : OexF K C)
    (n1 : PySem.W.findIn K (.ref C) "value" = some none) :
    FnOk P w K mg base CX0 (k + 1) f fd ["self", "value"] (spX1 C "value") := by
  refine F.ok sc_UnknownReplica_init (fun vs H Q E h => ?_)
    (fun cv A outer s H vs Q E hr h => ?_)
  · obtain ⟨a, v1, rfl, _⟩ := h
    rfl
  obtain ⟨a, v1, rfl, ha, q⟩ := h
  refine ⟨_, pss_one (ps_ostF (pv 0) (pv 1)), ?_⟩
  exact ⟨_, rfl, _, rfl, a, C, rfl, T, n1, ha, fun dx nd ne => q dx nd ne⟩
theorem ok_x22 {f : Addr} {fd : FuncData} {k : Nat} {q : Str}
    (F : Fun K "__init__" q s_UnknownMessage_init f fd) (T : OexF K C)
    (n1 : PySem.W.findIn K (.ref C) "value" = some none) :
    FnOk P w K mg base CX0 (k + 1) f fd ["self", "value"] (spX1 C "value") := by
  refine F.ok sc_UnknownMessage_init (fun vs H Q E h => ?_)
    (fun cv A outer s H vs Q E hr h => ?_)
  · obtain ⟨a, v1, rfl, _⟩ := h
    rfl
  obtain ⟨a, v1, rfl, ha, q⟩ := h
  refine ⟨_, pss_one (ps_ostF (pv 0) (pv 1)), ?_⟩
  exact ⟨_, rfl, _, rfl, a, C, rfl, T, n1, ha, fun dx nd ne => q dx nd ne⟩
theorem ok_x23 {f : Addr} {fd : FuncData} {k : Nat} {q : Str}
    (F : Fun K "__init__" q s_NotLocal_init f fd) (T : OexF K C)
    (n1 : PySem.W.findIn K (.ref C) "user" = some none) :
    FnOk P w K mg base CX0 (k + 1) f fd ["self", "user"] (spX1 C "user") := by
  refine F.ok sc_NotLocal_init (fun vs H Q E h => ?_)
    (fun cv A outer s H vs Q E hr h => ?_)
  · obtain ⟨a, v1, rfl, _⟩ := h
    rfl
  obtain ⟨a, v1, rfl, ha, q⟩ := h
  refine ⟨_, pss_one (ps_ostF (pv 0) (pv 1)), ?_⟩
  exact ⟨_, rfl, _, rfl, a, C, rfl, T, n1, ha, fun dx nd ne => q dx nd ne⟩
theorem ok_x24 {f : Addr} {fd : FuncData} {k : Nat} {q : Str}
    (F : Fun K "__init__" q s_Forked_init f fd) (T : OexF K C)
    (n1 : PySem.W.findIn K (.ref C) "user" = some none) :
    FnOk P w K mg base CX0 (k + 1) f fd ["self", "user"] (spX1 C "user") := by
  refine F.ok sc_Forked_init (fun vs H Q E h => ?_)
    (fun cv A outer s H vs Q E hr h => ?_)
  · obtain ⟨a, v1, rfl, _⟩ := h
    rfl
  obtain ⟨a, v1, rfl, ha, q⟩ := h
  refine ⟨_, pss_one (ps_ostF (pv 0) (pv 1)), ?_⟩
  exact ⟨_, rfl, _, rfl, a, C, rfl, T, n1, ha, fun dx nd ne => q dx nd ne⟩
theorem ok_x25 {f : Addr} {fd : FuncData} {k : Nat} {q : Str}
    (F : Fun K "__init__" q s_NothingToUndo_init f fd) (T : OexF K C)
    (n1 : PySem.W.findIn K (.ref C) "user" = some none) :
    FnOk P w K mg base CX0 (k + 1) f fd ["self", "user"] (spX1 C "user") := by
  refine F.ok sc_NothingToUndo_init (fun vs H Q E h => ?_)
    (fun cv A outer s H vs Q E hr h => ?_)
  · obtain ⟨a, v1, rfl, _⟩ := h
    rfl
  obtain ⟨a, v1, rfl, ha, q⟩ := h
  refine ⟨_, pss_one (ps_ostF (pv 0) (pv 1)), ?_⟩
  exact ⟨_, rfl, _, rfl, a, C, rfl, T, n1, ha, fun dx nd ne => q dx nd ne⟩
theorem ok_x26 {f : Addr} {fd : FuncData} {k : Nat} {q : Str}
    (F : Fun K "__init__" q s_NotSettled_init f fd) (T : OexF K C)
    (n1 : PySem.W.findIn K (.ref C) "replica" = some none) :
    FnOk P w K mg base CX0 (k + 1) f fd ["self", "replica"] (spX1 C "replica") := by
  refine F.ok sc_NotSettled_init (fun vs H Q E h => ?_)
    (fun cv A outer s H vs Q E hr h => ?_)
  · obtain ⟨a, v1, rfl, _⟩ := h
    rfl
  obtain ⟨a, v1, rfl, ha, q⟩ := h
  refine ⟨_, pss_one (ps_ostF (pv 0) (pv 1)), ?_⟩
  exact ⟨_, rfl, _, rfl, a, C, rfl, T, n1, ha, fun dx nd ne => q dx nd ne⟩
theorem ok_x27 {f : Addr} {fd : FuncData} {k : Nat} {q : Str}
    (F : Fun K "__init__" q s_LastItem_init f fd) (T : OexF K C)
    (n1 : PySem.W.findIn K (.ref C) "value" = some none) :
    FnOk P w K mg base CX0 (k + 1) f fd ["self", "value"] (spX1 C "value") := by
  refine F.ok sc_LastItem_init (fun vs H Q E h => ?_)
    (fun cv A outer s H vs Q E hr h => ?_)
  · obtain ⟨a, v1, rfl, _⟩ := h
    rfl
  obtain ⟨a, v1, rfl, ha, q⟩ := h
  refine ⟨_, pss_one (ps_ostF (pv 0) (pv 1)), ?_⟩
  exact ⟨_, rfl, _, rfl, a, C, rfl, T, n1, ha, fun dx nd ne => q dx nd ne⟩
theorem ok_x28 {f : Addr} {fd : FuncData} {k : Nat} {q : Str}
    (F : Fun K "__init__" q s_Obstructed_init f fd) (T : OexF K C)
    (n1 : PySem.W.findIn K (.ref C) "obstruction" = some none) :
    FnOk P w K mg base CX0 (k + 1) f fd ["self", "obstruction"] (spX1 C "obstruction") := by
  refine F.ok sc_Obstructed_init (fun vs H Q E h => ?_)
    (fun cv A outer s H vs Q E hr h => ?_)
  · obtain ⟨a, v1, rfl, _⟩ := h
    rfl
  obtain ⟨a, v1, rfl, ha, q⟩ := h
  refine ⟨_, pss_one (ps_ostF (pv 0) (pv 1)), ?_⟩
  exact ⟨_, rfl, _, rfl, a, C, rfl, T, n1, ha, fun dx nd ne => q dx nd ne⟩
theorem ok_x29 {f : Addr} {fd : FuncData} {k : Nat} {q : Str}
    (F : Fun K "__init__" q s_BrokenHistory_init f fd) (T : OexF K C)
    (n1 : PySem.W.findIn K (.ref C) "count" = some none) :
    FnOk P w K mg base CX0 (k + 1) f fd ["self", "count"] (spX1 C "count") := by
  refine F.ok sc_BrokenHistory_init (fun vs H Q E h => ?_)
    (fun cv A outer s H vs Q E hr h => ?_)
  · obtain ⟨a, v1, rfl, _⟩ := h
    rfl
  obtain ⟨a, v1, rfl, ha, q⟩ := h
  refine ⟨_, pss_one (ps_ostF (pv 0) (pv 1)), ?_⟩
  exact ⟨_, rfl, _, rfl, a, C, rfl, T, n1, ha, fun dx nd ne => q dx nd ne⟩
theorem ok_x30 {f : Addr} {fd : FuncData} {k : Nat} {q : Str}
    (F : Fun K "__init__" q s_TooManyItems_init f fd) (T : OexF K C)
    (n1 : PySem.W.findIn K (.ref C) "limit" = some none) :
    FnOk P w K mg base CX0 (k + 1) f fd ["self", "limit"] (spX1 C "limit") := by
  refine F.ok sc_TooManyItems_init (fun vs H Q E h => ?_)
    (fun cv A outer s H vs Q E hr h => ?_)
  · obtain ⟨a, v1, rfl, _⟩ := h
    rfl
  obtain ⟨a, v1, rfl, ha, q⟩ := h
  refine ⟨_, pss_one (ps_ostF (pv 0) (pv 1)), ?_⟩
  exact ⟨_, rfl, _, rfl, a, C, rfl, T, n1, ha, fun dx nd ne => q dx nd ne⟩
end
section
variable {P : Program} {w : World} {K : PySem.W.Frag}
  {mg : Str → Option Value} {base : Heap} {c : Nat → Addr}
theorem e17_of {g1 g2 g3 g4 g5 g6 g7 g8 g9 g10 g11 g12 g13 g14 g15 g16 g19 g20 g21 g22 g23 g24 g25 g26 g27 g28 g29 g30 : Addr} {h1 h2 h3 h4 h5 h6 h7 h8 h9 h10 h11 h12 h13 h14 h15 h16 h19 h20 h21 h22 h23 h24 h25 h26 h27 h28 h29 h30 : FuncData} (F : F17 K mg c)
    (I1 : XInit K (c 1) "InvalidBase.__init__" s_InvalidBase_init ["self", "problem", "position"] g1 h1)
    (I2 : XInit K (c 2) "InvalidOrder.__init__" s_InvalidOrder_init ["self", "position"] g2 h2)
    (I3 : XInit K (c 3) "InvalidIndex.__init__" s_InvalidIndex_init ["self", "value"] g3 h3)
    (I4 : XInit K (c 4) "InvalidReason.__init__" s_InvalidReason_init ["self", "value"] g4 h4)
    (I5 : XInit K (c 5) "InvalidPosition.__init__" s_InvalidPosition_init ["self", "value"] g5 h5)
    (I6 : XInit K (c 6) "InvalidCount.__init__" s_InvalidCount_init ["self", "value"] g6 h6)
    (I7 : XInit K (c 7) "InvalidPairs.__init__" s_InvalidPairs_init ["self", "position"] g7 h7)
    (I8 : XInit K (c 8) "InvalidEntries.__init__" s_InvalidEntries_init ["self", "position"] g8 h8)
    (I9 : XInit K (c 9) "InvalidOrders.__init__" s_InvalidOrders_init ["self", "position"] g9 h9)
    (I10 : XInit K (c 10) "InvalidArcs.__init__" s_InvalidArcs_init ["self", "position"] g10 h10)
    (I11 : XInit K (c 11) "InvalidWord.__init__" s_InvalidWord_init ["self", "position"] g11 h11)
    (I12 : XInit K (c 12) "InvalidMove.__init__" s_InvalidMove_init ["self", "value"] g12 h12)
    (I13 : XInit K (c 13) "InvalidUsers.__init__" s_InvalidUsers_init ["self", "problem", "position"] g13 h13)
    (I14 : XInit K (c 14) "InvalidMessage.__init__" s_InvalidMessage_init ["self", "position"] g14 h14)
    (I15 : XInit K (c 15) "InvalidText.__init__" s_InvalidText_init ["self", "line"] g15 h15)
    (I16 : XInit K (c 16) "SameItem.__init__" s_SameItem_init ["self", "value"] g16 h16)
    (I19 : XInit K (c 19) "UnknownItem.__init__" s_UnknownItem_init ["self", "value"] g19 h19)
    (I20 : XInit K (c 20) "UnknownUser.__init__" s_UnknownUser_init ["self", "value"] g20 h20)
    (I21 : XInit K (c 21) "UnknownReplica.__init__" s_UnknownReplica_init ["self", "value"] g21 h21)
    (I22 : XInit K (c 22) "UnknownMessage.__init__" s_UnknownMessage_init ["self", "value"] g22 h22)
    (I23 : XInit K (c 23) "NotLocal.__init__" s_NotLocal_init ["self", "user"] g23 h23)
    (I24 : XInit K (c 24) "Forked.__init__" s_Forked_init ["self", "user"] g24 h24)
    (I25 : XInit K (c 25) "NothingToUndo.__init__" s_NothingToUndo_init ["self", "user"] g25 h25)
    (I26 : XInit K (c 26) "NotSettled.__init__" s_NotSettled_init ["self", "replica"] g26 h26)
    (I27 : XInit K (c 27) "LastItem.__init__" s_LastItem_init ["self", "value"] g27 h27)
    (I28 : XInit K (c 28) "Obstructed.__init__" s_Obstructed_init ["self", "obstruction"] g28 h28)
    (I29 : XInit K (c 29) "BrokenHistory.__init__" s_BrokenHistory_init ["self", "count"] g29 h29)
    (I30 : XInit K (c 30) "TooManyItems.__init__" s_TooManyItems_init ["self", "limit"] g30 h30)
    : E17 P w K mg base c := by
  obtain ⟨k1, j1⟩ := kbn2 (f1 := "problem") (f2 := "position") I1.fn (fun _ _ _ _ _ _ _ _ _ => rfl)
  have o1 := ok_x1 (P := P) (w := w) (base := base) (mg := mg) (k := 0) I1.fn (F.oexC (i := 1) (by decide) (by decide) (by decide)) F.a1 F.b1
  obtain ⟨k2, j2⟩ := kbn1 (f1 := "position") I2.fn (fun _ _ _ _ _ _ _ _ => rfl)
  have o2 := ok_x2 (P := P) (w := w) (base := base) (mg := mg) (k := 0) I2.fn (F.oexC (i := 2) (by decide) (by decide) (by decide)) F.a2
  obtain ⟨k3, j3⟩ := kbn1 (f1 := "value") I3.fn (fun _ _ _ _ _ _ _ _ => rfl)
  have o3 := ok_x3 (P := P) (w := w) (base := base) (mg := mg) (k := 0) I3.fn (F.oexC (i := 3) (by decide) (by decide) (by decide)) F.a3
  obtain ⟨k4, j4⟩ := kbn1 (f1 := "value") I4.fn (fun _ _ _ _ _ _ _ _ => rfl)
  have o4 := ok_x4 (P := P) (w := w) (base := base) (mg := mg) (k := 0) I4.fn (F.oexC (i := 4) (by decide) (by decide) (by decide)) F.a4
  obtain ⟨k5, j5⟩ := kbn1 (f1 := "value") I5.fn (fun _ _ _ _ _ _ _ _ => rfl)
  have o5 := ok_x5 (P := P) (w := w) (base := base) (mg := mg) (k := 0) I5.fn (F.oexC (i := 5) (by decide) (by decide) (by decide)) F.a5
  obtain ⟨k6, j6⟩ := kbn1 (f1 := "value") I6.fn (fun _ _ _ _ _ _ _ _ => rfl)
  have o6 := ok_x6 (P := P) (w := w) (base := base) (mg := mg) (k := 0) I6.fn (F.oexC (i := 6) (by decide) (by decide) (by decide)) F.a6
  obtain ⟨k7, j7⟩ := kbn1 (f1 := "position") I7.fn (fun _ _ _ _ _ _ _ _ => rfl)
  have o7 := ok_x7 (P := P) (w := w) (base := base) (mg := mg) (k := 0) I7.fn (F.oexC (i := 7) (by decide) (by decide) (by decide)) F.a7
  obtain ⟨k8, j8⟩ := kbn1 (f1 := "position") I8.fn (fun _ _ _ _ _ _ _ _ => rfl)
  have o8 := ok_x8 (P := P) (w := w) (base := base) (mg := mg) (k := 0) I8.fn (F.oexC (i := 8) (by decide) (by decide) (by decide)) F.a8
  obtain ⟨k9, j9⟩ := kbn1 (f1 := "position") I9.fn (fun _ _ _ _ _ _ _ _ => rfl)
  have o9 := ok_x9 (P := P) (w := w) (base := base) (mg := mg) (k := 0) I9.fn (F.oexC (i := 9) (by decide) (by decide) (by decide)) F.a9
  obtain ⟨k10, j10⟩ := kbn1 (f1 := "position") I10.fn (fun _ _ _ _ _ _ _ _ => rfl)
  have o10 := ok_x10 (P := P) (w := w) (base := base) (mg := mg) (k := 0) I10.fn (F.oexC (i := 10) (by decide) (by decide) (by decide)) F.a10
  obtain ⟨k11, j11⟩ := kbn1 (f1 := "position") I11.fn (fun _ _ _ _ _ _ _ _ => rfl)
  have o11 := ok_x11 (P := P) (w := w) (base := base) (mg := mg) (k := 0) I11.fn (F.oexC (i := 11) (by decide) (by decide) (by decide)) F.a11
  obtain ⟨k12, j12⟩ := kbn1 (f1 := "value") I12.fn (fun _ _ _ _ _ _ _ _ => rfl)
  have o12 := ok_x12 (P := P) (w := w) (base := base) (mg := mg) (k := 0) I12.fn (F.oexC (i := 12) (by decide) (by decide) (by decide)) F.a12
  obtain ⟨k13, j13⟩ := kbn2 (f1 := "problem") (f2 := "position") I13.fn (fun _ _ _ _ _ _ _ _ _ => rfl)
  have o13 := ok_x13 (P := P) (w := w) (base := base) (mg := mg) (k := 0) I13.fn (F.oexC (i := 13) (by decide) (by decide) (by decide)) F.a13 F.b13
  obtain ⟨k14, j14⟩ := kbn1 (f1 := "position") I14.fn (fun _ _ _ _ _ _ _ _ => rfl)
  have o14 := ok_x14 (P := P) (w := w) (base := base) (mg := mg) (k := 0) I14.fn (F.oexC (i := 14) (by decide) (by decide) (by decide)) F.a14
  obtain ⟨k15, j15⟩ := kbn1 (f1 := "line") I15.fn (fun _ _ _ _ _ _ _ _ => rfl)
  have o15 := ok_x15 (P := P) (w := w) (base := base) (mg := mg) (k := 0) I15.fn (F.oexC (i := 15) (by decide) (by decide) (by decide)) F.a15
  obtain ⟨k16, j16⟩ := kbn1 (f1 := "value") I16.fn (fun _ _ _ _ _ _ _ _ => rfl)
  have o16 := ok_x16 (P := P) (w := w) (base := base) (mg := mg) (k := 0) I16.fn (F.oexC (i := 16) (by decide) (by decide) (by decide)) F.a16
  obtain ⟨k19, j19⟩ := kbn1 (f1 := "value") I19.fn (fun _ _ _ _ _ _ _ _ => rfl)
  have o19 := ok_x19 (P := P) (w := w) (base := base) (mg := mg) (k := 0) I19.fn (F.oexF (i := 19) (by decide) (by decide)) F.a19
  obtain ⟨k20, j20⟩ := kbn1 (f1 := "value") I20.fn (fun _ _ _ _ _ _ _ _ => rfl)
  have o20 := ok_x20 (P := P) (w := w) (base := base) (mg := mg) (k := 0) I20.fn (F.oexF (i := 20) (by decide) (by decide)) F.a20
  obtain ⟨k21, j21⟩ := kbn1 (f1 := "value") I21.fn (fun _ _ _ _ _ _ _ _ => rfl)
  have o21 := ok_x21 (P := P) (w := w) (base := base) (mg := mg) (k := 0) I21.fn (F.oexF (i := 21) (by decide) (by decide)) F.a21
  obtain ⟨k22, j22⟩ := kbn1 (f1 := "value") I22.fn (fun _ _ _ _ _ _ _ _ => rfl)
  have o22 := ok_x22 (P := P) (w := w) (base := base) (mg := mg) (k := 0) I22.fn (F.oexF (i := 22) (by decide) (by decide)) F.a22
  obtain ⟨k23, j23⟩ := kbn1 (f1 := "user") I23.fn (fun _ _ _ _ _ _ _ _ => rfl)
  have o23 := ok_x23 (P := P) (w := w) (base := base) (mg := mg) (k := 0) I23.fn (F.oexF (i := 23) (by decide) (by decide)) F.a23
  obtain ⟨k24, j24⟩ := kbn1 (f1 := "user") I24.fn (fun _ _ _ _ _ _ _ _ => rfl)
  have o24 := ok_x24 (P := P) (w := w) (base := base) (mg := mg) (k := 0) I24.fn (F.oexF (i := 24) (by decide) (by decide)) F.a24
  obtain ⟨k25, j25⟩ := kbn1 (f1 := "user") I25.fn (fun _ _ _ _ _ _ _ _ => rfl)
  have o25 := ok_x25 (P := P) (w := w) (base := base) (mg := mg) (k := 0) I25.fn (F.oexF (i := 25) (by decide) (by decide)) F.a25
  obtain ⟨k26, j26⟩ := kbn1 (f1 := "replica") I26.fn (fun _ _ _ _ _ _ _ _ => rfl)
  have o26 := ok_x26 (P := P) (w := w) (base := base) (mg := mg) (k := 0) I26.fn (F.oexF (i := 26) (by decide) (by decide)) F.a26
  obtain ⟨k27, j27⟩ := kbn1 (f1 := "value") I27.fn (fun _ _ _ _ _ _ _ _ => rfl)
  have o27 := ok_x27 (P := P) (w := w) (base := base) (mg := mg) (k := 0) I27.fn (F.oexF (i := 27) (by decide) (by decide)) F.a27
  obtain ⟨k28, j28⟩ := kbn1 (f1 := "obstruction") I28.fn (fun _ _ _ _ _ _ _ _ => rfl)
  have o28 := ok_x28 (P := P) (w := w) (base := base) (mg := mg) (k := 0) I28.fn (F.oexF (i := 28) (by decide) (by decide)) F.a28
  obtain ⟨k29, j29⟩ := kbn1 (f1 := "count") I29.fn (fun _ _ _ _ _ _ _ _ => rfl)
  have o29 := ok_x29 (P := P) (w := w) (base := base) (mg := mg) (k := 0) I29.fn (F.oexF (i := 29) (by decide) (by decide)) F.a29
  obtain ⟨k30, j30⟩ := kbn1 (f1 := "limit") I30.fn (fun _ _ _ _ _ _ _ _ => rfl)
  have o30 := ok_x30 (P := P) (w := w) (base := base) (mg := mg) (k := 0) I30.fn (F.oexF (i := 30) (by decide) (by decide)) F.a30
  exact {
    val := F.val, kit := F.kit, bas := F.bas
    z_ValueError := F.z_ValueError
    z_LookupError := F.z_LookupError
    z_RuntimeError := F.z_RuntimeError
    z_ArithmeticError := F.z_ArithmeticError
    z_KeyError := F.z_KeyError
    z_IndexError := F.z_IndexError
    z_OverflowError := F.z_OverflowError
    z_TypeError := F.z_TypeError
    m0 := F.m0
    m1 := F.m1
    m2 := F.m2
    m3 := F.m3
    m4 := F.m4
    m5 := F.m5
    m6 := F.m6
    m7 := F.m7
    m8 := F.m8
    m9 := F.m9
    m10 := F.m10
    m11 := F.m11
    m12 := F.m12
    m13 := F.m13
    m14 := F.m14
    m15 := F.m15
    m16 := F.m16
    m17 := F.m17
    m18 := F.m18
    m19 := F.m19
    m20 := F.m20
    m21 := F.m21
    m22 := F.m22
    m23 := F.m23
    m24 := F.m24
    m25 := F.m25
    m26 := F.m26
    m27 := F.m27
    m28 := F.m28
    m29 := F.m29
    m30 := F.m30
    m31 := F.m31
    t0 := F.tx (i := 0) (by decide) F.m0 F.t0
    p1 := ⟨F.m1, F.val 1 (by decide), g1, h1, o1, I1.at_, I1.ty, I1.bd⟩
    w1 := ⟨F.m1, F.val 1 (by decide), g1, h1, k1, o1, I1.at_, I1.ty, j1⟩
    a1 := F.a1
    b1 := F.b1
    p2 := ⟨F.m2, F.val 2 (by decide), g2, h2, o2, I2.at_, I2.ty, I2.bd⟩
    w2 := ⟨F.m2, F.val 2 (by decide), g2, h2, k2, o2, I2.at_, I2.ty, j2⟩
    a2 := F.a2
    p3 := ⟨F.m3, F.val 3 (by decide), g3, h3, o3, I3.at_, I3.ty, I3.bd⟩
    w3 := ⟨F.m3, F.val 3 (by decide), g3, h3, k3, o3, I3.at_, I3.ty, j3⟩
    a3 := F.a3
    p4 := ⟨F.m4, F.val 4 (by decide), g4, h4, o4, I4.at_, I4.ty, I4.bd⟩
    w4 := ⟨F.m4, F.val 4 (by decide), g4, h4, k4, o4, I4.at_, I4.ty, j4⟩
    a4 := F.a4
    p5 := ⟨F.m5, F.val 5 (by decide), g5, h5, o5, I5.at_, I5.ty, I5.bd⟩
    w5 := ⟨F.m5, F.val 5 (by decide), g5, h5, k5, o5, I5.at_, I5.ty, j5⟩
    a5 := F.a5
    p6 := ⟨F.m6, F.val 6 (by decide), g6, h6, o6, I6.at_, I6.ty, I6.bd⟩
    w6 := ⟨F.m6, F.val 6 (by decide), g6, h6, k6, o6, I6.at_, I6.ty, j6⟩
    a6 := F.a6
    p7 := ⟨F.m7, F.val 7 (by decide), g7, h7, o7, I7.at_, I7.ty, I7.bd⟩
    w7 := ⟨F.m7, F.val 7 (by decide), g7, h7, k7, o7, I7.at_, I7.ty, j7⟩
    a7 := F.a7
    p8 := ⟨F.m8, F.val 8 (by decide), g8, h8, o8, I8.at_, I8.ty, I8.bd⟩
    w8 := ⟨F.m8, F.val 8 (by decide), g8, h8, k8, o8, I8.at_, I8.ty, j8⟩
    a8 := F.a8
    p9 := ⟨F.m9, F.val 9 (by decide), g9, h9, o9, I9.at_, I9.ty, I9.bd⟩
    w9 := ⟨F.m9, F.val 9 (by decide), g9, h9, k9, o9, I9.at_, I9.ty, j9⟩
    a9 := F.a9
    p10 := ⟨F.m10, F.val 10 (by decide), g10, h10, o10, I10.at_, I10.ty, I10.bd⟩
    w10 := ⟨F.m10, F.val 10 (by decide), g10, h10, k10, o10, I10.at_, I10.ty, j10⟩
    a10 := F.a10
    p11 := ⟨F.m11, F.val 11 (by decide), g11, h11, o11, I11.at_, I11.ty, I11.bd⟩
    w11 := ⟨F.m11, F.val 11 (by decide), g11, h11, k11, o11, I11.at_, I11.ty, j11⟩
    a11 := F.a11
    p12 := ⟨F.m12, F.val 12 (by decide), g12, h12, o12, I12.at_, I12.ty, I12.bd⟩
    w12 := ⟨F.m12, F.val 12 (by decide), g12, h12, k12, o12, I12.at_, I12.ty, j12⟩
    a12 := F.a12
    p13 := ⟨F.m13, F.val 13 (by decide), g13, h13, o13, I13.at_, I13.ty, I13.bd⟩
    w13 := ⟨F.m13, F.val 13 (by decide), g13, h13, k13, o13, I13.at_, I13.ty, j13⟩
    a13 := F.a13
    b13 := F.b13
    p14 := ⟨F.m14, F.val 14 (by decide), g14, h14, o14, I14.at_, I14.ty, I14.bd⟩
    w14 := ⟨F.m14, F.val 14 (by decide), g14, h14, k14, o14, I14.at_, I14.ty, j14⟩
    a14 := F.a14
    p15 := ⟨F.m15, F.val 15 (by decide), g15, h15, o15, I15.at_, I15.ty, I15.bd⟩
    w15 := ⟨F.m15, F.val 15 (by decide), g15, h15, k15, o15, I15.at_, I15.ty, j15⟩
    a15 := F.a15
    p16 := ⟨F.m16, F.val 16 (by decide), g16, h16, o16, I16.at_, I16.ty, I16.bd⟩
    w16 := ⟨F.m16, F.val 16 (by decide), g16, h16, k16, o16, I16.at_, I16.ty, j16⟩
    a16 := F.a16
    t17 := F.tx (i := 17) (by decide) F.m17 F.t17
    t18 := F.tx (i := 18) (by decide) F.m18 F.t18
    p19 := ⟨F.m19, F.val 19 (by decide), g19, h19, o19, I19.at_, I19.ty, I19.bd⟩
    w19 := ⟨F.m19, F.val 19 (by decide), g19, h19, k19, o19, I19.at_, I19.ty, j19⟩
    a19 := F.a19
    p20 := ⟨F.m20, F.val 20 (by decide), g20, h20, o20, I20.at_, I20.ty, I20.bd⟩
    w20 := ⟨F.m20, F.val 20 (by decide), g20, h20, k20, o20, I20.at_, I20.ty, j20⟩
    a20 := F.a20
    p21 := ⟨F.m21, F.val 21 (by decide), g21, h21, o21, I21.at_, I21.ty, I21.bd⟩
    w21 := ⟨F.m21, F.val 21 (by decide), g21, h21, k21, o21, I21.at_, I21.ty, j21⟩
    a21 := F.a21
    p22 := ⟨F.m22, F.val 22 (by decide), g22, h22, o22, I22.at_, I22.ty, I22.bd⟩
    w22 := ⟨F.m22, F.val 22 (by decide), g22, h22, k22, o22, I22.at_, I22.ty, j22⟩
    a22 := F.a22
    p23 := ⟨F.m23, F.val 23 (by decide), g23, h23, o23, I23.at_, I23.ty, I23.bd⟩
    w23 := ⟨F.m23, F.val 23 (by decide), g23, h23, k23, o23, I23.at_, I23.ty, j23⟩
    a23 := F.a23
    p24 := ⟨F.m24, F.val 24 (by decide), g24, h24, o24, I24.at_, I24.ty, I24.bd⟩
    w24 := ⟨F.m24, F.val 24 (by decide), g24, h24, k24, o24, I24.at_, I24.ty, j24⟩
    a24 := F.a24
    p25 := ⟨F.m25, F.val 25 (by decide), g25, h25, o25, I25.at_, I25.ty, I25.bd⟩
    w25 := ⟨F.m25, F.val 25 (by decide), g25, h25, k25, o25, I25.at_, I25.ty, j25⟩
    a25 := F.a25
    p26 := ⟨F.m26, F.val 26 (by decide), g26, h26, o26, I26.at_, I26.ty, I26.bd⟩
    w26 := ⟨F.m26, F.val 26 (by decide), g26, h26, k26, o26, I26.at_, I26.ty, j26⟩
    a26 := F.a26
    p27 := ⟨F.m27, F.val 27 (by decide), g27, h27, o27, I27.at_, I27.ty, I27.bd⟩
    w27 := ⟨F.m27, F.val 27 (by decide), g27, h27, k27, o27, I27.at_, I27.ty, j27⟩
    a27 := F.a27
    p28 := ⟨F.m28, F.val 28 (by decide), g28, h28, o28, I28.at_, I28.ty, I28.bd⟩
    w28 := ⟨F.m28, F.val 28 (by decide), g28, h28, k28, o28, I28.at_, I28.ty, j28⟩
    a28 := F.a28
    p29 := ⟨F.m29, F.val 29 (by decide), g29, h29, o29, I29.at_, I29.ty, I29.bd⟩
    w29 := ⟨F.m29, F.val 29 (by decide), g29, h29, k29, o29, I29.at_, I29.ty, j29⟩
    a29 := F.a29
    p30 := ⟨F.m30, F.val 30 (by decide), g30, h30, o30, I30.at_, I30.ty, I30.bd⟩
    w30 := ⟨F.m30, F.val 30 (by decide), g30, h30, k30, o30, I30.at_, I30.ty, j30⟩
    a30 := F.a30
    t31 := F.tx (i := 31) (by decide) F.m31 F.t31
  }
end
end OM
namespace OM
open PySem PySem.Spec PyProof.Rows L2
def ndB : List Addr → Bool
  | [] => true
  | a :: r => (r.all fun b => !(a == b)) && ndB r
theorem ndB_ne : ∀ {l : List Addr} {d : Addr} {i j : Nat}, ndB l = true → i < l.length → j < l.length → i ≠ j → (l.getD i d == l.getD j d) = false
  | [], _, _, _, _, hi, _, _ => absurd hi (Nat.not_lt_zero _)
  | a :: r, d, 0, 0, _, _, _, e => absurd rfl e
  | a :: r, d, 0, j + 1, h, _, hj, _ => by
    have h1 := (Bool.and_eq_true_iff.mp h).1
    have hj' : j < r.length := by simpa using hj
    have m : r.getD j d ∈ r := by
      rw [List.getD_eq_getElem?_getD, List.getElem?_eq_getElem hj']
      exact List.getElem_mem hj'
    have := List.all_eq_true.mp h1 _ m
    simpa using this
  | a :: r, d, i + 1, 0, h, hi, _, _ => by
    have h1 := (Bool.and_eq_true_iff.mp h).1
    have hi' : i < r.length := by simpa using hi
    have m : r.getD i d ∈ r := by
      rw [List.getD_eq_getElem?_getD, List.getElem?_eq_getElem hi']
      exact List.getElem_mem hi'
    have := List.all_eq_true.mp h1 _ m
    have n : a ≠ r.getD i d := by simpa using this
    show (r.getD i d == a) = false
    exact beq_eq_false_iff_ne.mpr (Ne.symm n)
  | a :: r, d, i + 1, j + 1, h, hi, hj, e => by
    have h2 := (Bool.and_eq_true_iff.mp h).2
    exact ndB_ne (l := r) h2 (by simpa using hi) (by simpa using hj) fun z => e (congrArg (· + 1) z)
section
variable {P : Program} {w : World} {K : PySem.W.Frag}
  {mg : Str → Option Value} {base : Heap} {c : Nat → Addr}
theorem all17 {f1 f2 f3 f4 f5 f6 f7 f8 f9 f10 : Addr} {d1 d2 d3 d4 d5 d6 d7 d8 d9 d10 : FuncData}
    (B : Bl mg) (sm : ∃ o, base.get? sysModules = some o) (E : E17 P w K mg base c)
    (D1 : DefAt K mg "_law_rng" s_Lrng ["_law_script", "_law_k"] f1 d1)
    (D2 : DefAt K mg "_law_draw" s_Ldraw ["_law_rng_here", "_law_many"] f2 d2)
    (D3 : DefAt K mg "_law_choice" s_Lchoice ["_law_rng_here", "_law_options"] f3 d3)
    (D4 : DefAt K mg "_law_odd" s_Lodd ["_law_rng_here"] f4 d4)
    (D5 : DefAt K mg "_law_classes" s_Lclasses ["_law_e"] f5 d5)
    (D6 : DefAt K mg "_law_bases" s_Lbases ["_law_e"] f6 d6)
    (D7 : DefAt K mg "_law_hierarchy_right" s_Lhierarchy_right ["_law_one", "_law_other"] f7 d7)
    (D8 : DefAt K mg "_law_attributes" s_Lattributes ["_law_one", "_law_other"] f8 d8)
    (D9 : DefAt K mg "_law_named_attributes" s_Lnamed_attributes ["_law_one", "_law_other"] f9 d9)
    (D10 : DefAt K mg "law" s_law ["_law_script"] f10 d10)
    : FnG P w K mg base CX0 4 f10 d10 ["_law_script"] (spLaw K) := by
  have g1 := ok_rng (P := P) (w := w) (base := base) (k := 0) D1.fn B
  have g2 := ok_draw (P := P) (w := w) (base := base) (k := 0) D2.fn B
  have g3 := ok_choice (k := 1) D3.fn B (D2.cal g2 (by decide))
  have g4 := ok_odd17 (k := 2) D4.fn (D3.cal g3 (by decide))
  have g5 := ok_cls17 (k := 0) D5.fn B E
  have g6 := ok_bas17 (k := 0) D6.fn B E
  have g7 := ok_hi17 (k := 0) D7.fn B E (D5.cal g5 (by decide)) (D6.cal g6 (by decide))
  have g8 := ok_att17 (k := 0) D8.fn E
  have g9 := ok_nam17 (k := 0) D9.fn E
  exact ok_law17 (k := 3) D10.fn B sm (D1.cal g1 (by decide)) (D4.cal g4 (by decide)) (D8.cal g8 (by decide)) (D9.cal g9 (by decide)) (D7.cal g7 (by decide))
end
end OM
namespace OM
open PySem PySem.Spec PyProof.Rows L2
theorem fin17 {l : PySem.W.OpenLaw} {w : World} {K : PySem.W.Frag} {h : Heap}
    {mg : Str → Option Value} {fa c0 c1 c2 c3 c4 c5 c6 c7 c8 c9 c10 c11 c12 c13 c14 c15 c16 c17 c18 c19 c20 c21 c22 c23 c24 c25 c26 c27 c28 c29 c30 c31 : Addr} (X : K.In h)
    (G : h.Ns mainGlobals mg) (hfa : mg "law" = some (.ref fa))
    {f1 f2 f3 f4 f5 f6 f7 f8 f9 f10 g1 g2 g3 g4 g5 g6 g7 g8 g9 g10 g11 g12 g13 g14 g15 g16 g19 g20 g21 g22 g23 g24 g25 g26 g27 g28 g29 g30 : Addr}
    {odf1 anf1 odf2 anf2 odf3 anf3 odf4 anf4 odf5 anf5 odf6 anf6 odf7 anf7 odf8 anf8 odf9 anf9 odf10 anf10 odg1 ang1 odg2 ang2 odg3 ang3 odg4 ang4 odg5 ang5 odg6 ang6 odg7 ang7 odg8 ang8 odg9 ang9 odg10 ang10 odg11 ang11 odg12 ang12 odg13 ang13 odg14 ang14 odg15 ang15 odg16 ang16 odg19 ang19 odg20 ang20 odg21 ang21 odg22 ang22 odg23 ang23 odg24 ang24 odg25 ang25 odg26 ang26 odg27 ang27 odg28 ang28 odg29 ang29 odg30 ang30 : Option Addr}
    {slf1 slf2 slf3 slf4 slf5 slf6 slf7 slf8 slf9 slf10 slg1 slg2 slg3 slg4 slg5 slg6 slg7 slg8 slg9 slg10 slg11 slg12 slg13 slg14 slg15 slg16 slg19 slg20 slg21 slg22 slg23 slg24 slg25 slg26 slg27 slg28 slg29 slg30 : Array (Option Value)}
    {ocf1 kVf1 dcf1 pmf1 cdf1 ctf1 : Value}
    {ocf2 kVf2 dcf2 pmf2 cdf2 ctf2 : Value}
    {ocf3 kVf3 dcf3 pmf3 cdf3 ctf3 : Value}
    {ocf4 kVf4 dcf4 pmf4 cdf4 ctf4 : Value}
    {ocf5 kVf5 dcf5 pmf5 cdf5 ctf5 : Value}
    {ocf6 kVf6 dcf6 pmf6 cdf6 ctf6 : Value}
    {ocf7 kVf7 dcf7 pmf7 cdf7 ctf7 : Value}
    {ocf8 kVf8 dcf8 pmf8 cdf8 ctf8 : Value}
    {ocf9 kVf9 dcf9 pmf9 cdf9 ctf9 : Value}
    {ocf10 kVf10 dcf10 pmf10 cdf10 ctf10 : Value}
    {ocg1 kVg1 dcg1 pmg1 cdg1 ctg1 : Value}
    {ocg2 kVg2 dcg2 pmg2 cdg2 ctg2 : Value}
    {ocg3 kVg3 dcg3 pmg3 cdg3 ctg3 : Value}
    {ocg4 kVg4 dcg4 pmg4 cdg4 ctg4 : Value}
    {ocg5 kVg5 dcg5 pmg5 cdg5 ctg5 : Value}
    {ocg6 kVg6 dcg6 pmg6 cdg6 ctg6 : Value}
    {ocg7 kVg7 dcg7 pmg7 cdg7 ctg7 : Value}
    {ocg8 kVg8 dcg8 pmg8 cdg8 ctg8 : Value}
    {ocg9 kVg9 dcg9 pmg9 cdg9 ctg9 : Value}
    {ocg10 kVg10 dcg10 pmg10 cdg10 ctg10 : Value}
    {ocg11 kVg11 dcg11 pmg11 cdg11 ctg11 : Value}
    {ocg12 kVg12 dcg12 pmg12 cdg12 ctg12 : Value}
    {ocg13 kVg13 dcg13 pmg13 cdg13 ctg13 : Value}
    {ocg14 kVg14 dcg14 pmg14 cdg14 ctg14 : Value}
    {ocg15 kVg15 dcg15 pmg15 cdg15 ctg15 : Value}
    {ocg16 kVg16 dcg16 pmg16 cdg16 ctg16 : Value}
    {ocg19 kVg19 dcg19 pmg19 cdg19 ctg19 : Value}
    {ocg20 kVg20 dcg20 pmg20 cdg20 ctg20 : Value}
    {ocg21 kVg21 dcg21 pmg21 cdg21 ctg21 : Value}
    {ocg22 kVg22 dcg22 pmg22 cdg22 ctg22 : Value}
    {ocg23 kVg23 dcg23 pmg23 cdg23 ctg23 : Value}
    {ocg24 kVg24 dcg24 pmg24 cdg24 ctg24 : Value}
    {ocg25 kVg25 dcg25 pmg25 cdg25 ctg25 : Value}
    {ocg26 kVg26 dcg26 pmg26 cdg26 ctg26 : Value}
    {ocg27 kVg27 dcg27 pmg27 cdg27 ctg27 : Value}
    {ocg28 kVg28 dcg28 pmg28 cdg28 ctg28 : Value}
    {ocg29 kVg29 dcg29 pmg29 cdg29 ctg29 : Value}
    {ocg30 kVg30 dcg30 pmg30 cdg30 ctg30 : Value}
    {nmc0 qc0 : Str} {Nc0 : Addr} {bsc0 subc0 : List Value} {snc0 : List Str} {abc0 : Bool} {colc0 : Option Bool} {ddc0 : Option Addr} {k0c0 k1c0 k2c0 k3c0 k5c0 : Option Value}
    {nmc1 qc1 : Str} {Nc1 : Addr} {bsc1 subc1 : List Value} {snc1 : List Str} {abc1 : Bool} {colc1 : Option Bool} {ddc1 : Option Addr} {k0c1 k1c1 k2c1 k3c1 k5c1 : Option Value}
    {nmc2 qc2 : Str} {Nc2 : Addr} {bsc2 subc2 : List Value} {snc2 : List Str} {abc2 : Bool} {colc2 : Option Bool} {ddc2 : Option Addr} {k0c2 k1c2 k2c2 k3c2 k5c2 : Option Value}
    {nmc3 qc3 : Str} {Nc3 : Addr} {bsc3 subc3 : List Value} {snc3 : List Str} {abc3 : Bool} {colc3 : Option Bool} {ddc3 : Option Addr} {k0c3 k1c3 k2c3 k3c3 k5c3 : Option Value}
    {nmc4 qc4 : Str} {Nc4 : Addr} {bsc4 subc4 : List Value} {snc4 : List Str} {abc4 : Bool} {colc4 : Option Bool} {ddc4 : Option Addr} {k0c4 k1c4 k2c4 k3c4 k5c4 : Option Value}
    {nmc5 qc5 : Str} {Nc5 : Addr} {bsc5 subc5 : List Value} {snc5 : List Str} {abc5 : Bool} {colc5 : Option Bool} {ddc5 : Option Addr} {k0c5 k1c5 k2c5 k3c5 k5c5 : Option Value}
    {nmc6 qc6 : Str} {Nc6 : Addr} {bsc6 subc6 : List Value} {snc6 : List Str} {abc6 : Bool} {colc6 : Option Bool} {ddc6 : Option Addr} {k0c6 k1c6 k2c6 k3c6 k5c6 : Option Value}
    {nmc7 qc7 : Str} {Nc7 : Addr} {bsc7 subc7 : List Value} {snc7 : List Str} {abc7 : Bool} {colc7 : Option Bool} {ddc7 : Option Addr} {k0c7 k1c7 k2c7 k3c7 k5c7 : Option Value}
    {nmc8 qc8 : Str} {Nc8 : Addr} {bsc8 subc8 : List Value} {snc8 : List Str} {abc8 : Bool} {colc8 : Option Bool} {ddc8 : Option Addr} {k0c8 k1c8 k2c8 k3c8 k5c8 : Option Value}
    {nmc9 qc9 : Str} {Nc9 : Addr} {bsc9 subc9 : List Value} {snc9 : List Str} {abc9 : Bool} {colc9 : Option Bool} {ddc9 : Option Addr} {k0c9 k1c9 k2c9 k3c9 k5c9 : Option Value}
    {nmc10 qc10 : Str} {Nc10 : Addr} {bsc10 subc10 : List Value} {snc10 : List Str} {abc10 : Bool} {colc10 : Option Bool} {ddc10 : Option Addr} {k0c10 k1c10 k2c10 k3c10 k5c10 : Option Value}
    {nmc11 qc11 : Str} {Nc11 : Addr} {bsc11 subc11 : List Value} {snc11 : List Str} {abc11 : Bool} {colc11 : Option Bool} {ddc11 : Option Addr} {k0c11 k1c11 k2c11 k3c11 k5c11 : Option Value}
    {nmc12 qc12 : Str} {Nc12 : Addr} {bsc12 subc12 : List Value} {snc12 : List Str} {abc12 : Bool} {colc12 : Option Bool} {ddc12 : Option Addr} {k0c12 k1c12 k2c12 k3c12 k5c12 : Option Value}
    {nmc13 qc13 : Str} {Nc13 : Addr} {bsc13 subc13 : List Value} {snc13 : List Str} {abc13 : Bool} {colc13 : Option Bool} {ddc13 : Option Addr} {k0c13 k1c13 k2c13 k3c13 k5c13 : Option Value}
    {nmc14 qc14 : Str} {Nc14 : Addr} {bsc14 subc14 : List Value} {snc14 : List Str} {abc14 : Bool} {colc14 : Option Bool} {ddc14 : Option Addr} {k0c14 k1c14 k2c14 k3c14 k5c14 : Option Value}
    {nmc15 qc15 : Str} {Nc15 : Addr} {bsc15 subc15 : List Value} {snc15 : List Str} {abc15 : Bool} {colc15 : Option Bool} {ddc15 : Option Addr} {k0c15 k1c15 k2c15 k3c15 k5c15 : Option Value}
    {nmc16 qc16 : Str} {Nc16 : Addr} {bsc16 subc16 : List Value} {snc16 : List Str} {abc16 : Bool} {colc16 : Option Bool} {ddc16 : Option Addr} {k0c16 k1c16 k2c16 k3c16 k5c16 : Option Value}
    {nmc17 qc17 : Str} {Nc17 : Addr} {bsc17 subc17 : List Value} {snc17 : List Str} {abc17 : Bool} {colc17 : Option Bool} {ddc17 : Option Addr} {k0c17 k1c17 k2c17 k3c17 k5c17 : Option Value}
    {nmc18 qc18 : Str} {Nc18 : Addr} {bsc18 subc18 : List Value} {snc18 : List Str} {abc18 : Bool} {colc18 : Option Bool} {ddc18 : Option Addr} {k0c18 k1c18 k2c18 k3c18 k5c18 : Option Value}
    {nmc19 qc19 : Str} {Nc19 : Addr} {bsc19 subc19 : List Value} {snc19 : List Str} {abc19 : Bool} {colc19 : Option Bool} {ddc19 : Option Addr} {k0c19 k1c19 k2c19 k3c19 k5c19 : Option Value}
    {nmc20 qc20 : Str} {Nc20 : Addr} {bsc20 subc20 : List Value} {snc20 : List Str} {abc20 : Bool} {colc20 : Option Bool} {ddc20 : Option Addr} {k0c20 k1c20 k2c20 k3c20 k5c20 : Option Value}
    {nmc21 qc21 : Str} {Nc21 : Addr} {bsc21 subc21 : List Value} {snc21 : List Str} {abc21 : Bool} {colc21 : Option Bool} {ddc21 : Option Addr} {k0c21 k1c21 k2c21 k3c21 k5c21 : Option Value}
    {nmc22 qc22 : Str} {Nc22 : Addr} {bsc22 subc22 : List Value} {snc22 : List Str} {abc22 : Bool} {colc22 : Option Bool} {ddc22 : Option Addr} {k0c22 k1c22 k2c22 k3c22 k5c22 : Option Value}
    {nmc23 qc23 : Str} {Nc23 : Addr} {bsc23 subc23 : List Value} {snc23 : List Str} {abc23 : Bool} {colc23 : Option Bool} {ddc23 : Option Addr} {k0c23 k1c23 k2c23 k3c23 k5c23 : Option Value}
    {nmc24 qc24 : Str} {Nc24 : Addr} {bsc24 subc24 : List Value} {snc24 : List Str} {abc24 : Bool} {colc24 : Option Bool} {ddc24 : Option Addr} {k0c24 k1c24 k2c24 k3c24 k5c24 : Option Value}
    {nmc25 qc25 : Str} {Nc25 : Addr} {bsc25 subc25 : List Value} {snc25 : List Str} {abc25 : Bool} {colc25 : Option Bool} {ddc25 : Option Addr} {k0c25 k1c25 k2c25 k3c25 k5c25 : Option Value}
    {nmc26 qc26 : Str} {Nc26 : Addr} {bsc26 subc26 : List Value} {snc26 : List Str} {abc26 : Bool} {colc26 : Option Bool} {ddc26 : Option Addr} {k0c26 k1c26 k2c26 k3c26 k5c26 : Option Value}
    {nmc27 qc27 : Str} {Nc27 : Addr} {bsc27 subc27 : List Value} {snc27 : List Str} {abc27 : Bool} {colc27 : Option Bool} {ddc27 : Option Addr} {k0c27 k1c27 k2c27 k3c27 k5c27 : Option Value}
    {nmc28 qc28 : Str} {Nc28 : Addr} {bsc28 subc28 : List Value} {snc28 : List Str} {abc28 : Bool} {colc28 : Option Bool} {ddc28 : Option Addr} {k0c28 k1c28 k2c28 k3c28 k5c28 : Option Value}
    {nmc29 qc29 : Str} {Nc29 : Addr} {bsc29 subc29 : List Value} {snc29 : List Str} {abc29 : Bool} {colc29 : Option Bool} {ddc29 : Option Addr} {k0c29 k1c29 k2c29 k3c29 k5c29 : Option Value}
    {nmc30 qc30 : Str} {Nc30 : Addr} {bsc30 subc30 : List Value} {snc30 : List Str} {abc30 : Bool} {colc30 : Option Bool} {ddc30 : Option Addr} {k0c30 k1c30 k2c30 k3c30 k5c30 : Option Value}
    {nmc31 qc31 : Str} {Nc31 : Addr} {bsc31 subc31 : List Value} {snc31 : List Str} {abc31 : Bool} {colc31 : Option Bool} {ddc31 : Option Addr} {k0c31 k1c31 k2c31 k3c31 k5c31 : Option Value}
    (af1 : PySem.W.nsIn K mainGlobals "_law_rng" = some (some (.ref f1)))
    (lf1 : K.lookup f1 = some ⟨ocf1, odf1, .func (PySem.W.fnOf "_law_rng" "_law_rng"
      (defArgs s_Lrng) (defBody s_Lrng) (defScope s_Lrng) .none kVf1 dcf1 pmf1 anf1 cdf1
      ctf1), slf1⟩)
    (cf1 : PySem.W.codeIn K cdf1 "_law_rng" = true)
    (kf1 : PySem.W.keepIn K (.ref f1) = true)
    (af2 : PySem.W.nsIn K mainGlobals "_law_draw" = some (some (.ref f2)))
    (lf2 : K.lookup f2 = some ⟨ocf2, odf2, .func (PySem.W.fnOf "_law_draw" "_law_draw"
      (defArgs s_Ldraw) (defBody s_Ldraw) (defScope s_Ldraw) .none kVf2 dcf2 pmf2 anf2 cdf2
      ctf2), slf2⟩)
    (cf2 : PySem.W.codeIn K cdf2 "_law_draw" = true)
    (kf2 : PySem.W.keepIn K (.ref f2) = true)
    (af3 : PySem.W.nsIn K mainGlobals "_law_choice" = some (some (.ref f3)))
    (lf3 : K.lookup f3 = some ⟨ocf3, odf3, .func (PySem.W.fnOf "_law_choice" "_law_choice"
      (defArgs s_Lchoice) (defBody s_Lchoice) (defScope s_Lchoice) .none kVf3 dcf3 pmf3 anf3 cdf3
      ctf3), slf3⟩)
    (cf3 : PySem.W.codeIn K cdf3 "_law_choice" = true)
    (kf3 : PySem.W.keepIn K (.ref f3) = true)
    (af4 : PySem.W.nsIn K mainGlobals "_law_odd" = some (some (.ref f4)))
    (lf4 : K.lookup f4 = some ⟨ocf4, odf4, .func (PySem.W.fnOf "_law_odd" "_law_odd"
      (defArgs s_Lodd) (defBody s_Lodd) (defScope s_Lodd) .none kVf4 dcf4 pmf4 anf4 cdf4
      ctf4), slf4⟩)
    (cf4 : PySem.W.codeIn K cdf4 "_law_odd" = true)
    (kf4 : PySem.W.keepIn K (.ref f4) = true)
    (af5 : PySem.W.nsIn K mainGlobals "_law_classes" = some (some (.ref f5)))
    (lf5 : K.lookup f5 = some ⟨ocf5, odf5, .func (PySem.W.fnOf "_law_classes" "_law_classes"
      (defArgs s_Lclasses) (defBody s_Lclasses) (defScope s_Lclasses) .none kVf5 dcf5 pmf5 anf5 cdf5
      ctf5), slf5⟩)
    (cf5 : PySem.W.codeIn K cdf5 "_law_classes" = true)
    (kf5 : PySem.W.keepIn K (.ref f5) = true)
    (af6 : PySem.W.nsIn K mainGlobals "_law_bases" = some (some (.ref f6)))
    (lf6 : K.lookup f6 = some ⟨ocf6, odf6, .func (PySem.W.fnOf "_law_bases" "_law_bases"
      (defArgs s_Lbases) (defBody s_Lbases) (defScope s_Lbases) .none kVf6 dcf6 pmf6 anf6 cdf6
      ctf6), slf6⟩)
    (cf6 : PySem.W.codeIn K cdf6 "_law_bases" = true)
    (kf6 : PySem.W.keepIn K (.ref f6) = true)
    (af7 : PySem.W.nsIn K mainGlobals "_law_hierarchy_right" = some (some (.ref f7)))
    (lf7 : K.lookup f7 = some ⟨ocf7, odf7, .func (PySem.W.fnOf "_law_hierarchy_right" "_law_hierarchy_right"
      (defArgs s_Lhierarchy_right) (defBody s_Lhierarchy_right) (defScope s_Lhierarchy_right) .none kVf7 dcf7 pmf7 anf7 cdf7
      ctf7), slf7⟩)
    (cf7 : PySem.W.codeIn K cdf7 "_law_hierarchy_right" = true)
    (kf7 : PySem.W.keepIn K (.ref f7) = true)
    (af8 : PySem.W.nsIn K mainGlobals "_law_attributes" = some (some (.ref f8)))
    (lf8 : K.lookup f8 = some ⟨ocf8, odf8, .func (PySem.W.fnOf "_law_attributes" "_law_attributes"
      (defArgs s_Lattributes) (defBody s_Lattributes) (defScope s_Lattributes) .none kVf8 dcf8 pmf8 anf8 cdf8
      ctf8), slf8⟩)
    (cf8 : PySem.W.codeIn K cdf8 "_law_attributes" = true)
    (kf8 : PySem.W.keepIn K (.ref f8) = true)
    (af9 : PySem.W.nsIn K mainGlobals "_law_named_attributes" = some (some (.ref f9)))
    (lf9 : K.lookup f9 = some ⟨ocf9, odf9, .func (PySem.W.fnOf "_law_named_attributes" "_law_named_attributes"
      (defArgs s_Lnamed_attributes) (defBody s_Lnamed_attributes) (defScope s_Lnamed_attributes) .none kVf9 dcf9 pmf9 anf9 cdf9
      ctf9), slf9⟩)
    (cf9 : PySem.W.codeIn K cdf9 "_law_named_attributes" = true)
    (kf9 : PySem.W.keepIn K (.ref f9) = true)
    (af10 : PySem.W.nsIn K mainGlobals "law" = some (some (.ref f10)))
    (lf10 : K.lookup f10 = some ⟨ocf10, odf10, .func (PySem.W.fnOf "law" "law"
      (defArgs s_law) (defBody s_law) (defScope s_law) .none kVf10 dcf10 pmf10 anf10 cdf10
      ctf10), slf10⟩)
    (cf10 : PySem.W.codeIn K cdf10 "law" = true)
    (kf10 : PySem.W.keepIn K (.ref f10) = true)
    (hn : PySem.W.specialIn K (.builtin "object.__class__") "__get__" =
      some (some (.builtin "getset_descriptor.__get__")))
    (htk : PySem.W.takesIn K (.builtin "object.__class__") = some true)
    (zlen : PySem.W.nsIn K mainGlobals "len" = some none)
    (zdivmod : PySem.W.nsIn K mainGlobals "divmod" = some none)
    (zabs : PySem.W.nsIn K mainGlobals "abs" = some none)
    (zmax : PySem.W.nsIn K mainGlobals "max" = some none)
    (zmin : PySem.W.nsIn K mainGlobals "min" = some none)
    (zrange : PySem.W.nsIn K mainGlobals "range" = some none)
    (zenumerate : PySem.W.nsIn K mainGlobals "enumerate" = some none)
    (zisinstance : PySem.W.nsIn K mainGlobals "isinstance" = some none)
    (zstr : PySem.W.nsIn K mainGlobals "str" = some none)
    (zlist : PySem.W.nsIn K mainGlobals "list" = some none)
    (zset : PySem.W.nsIn K mainGlobals "set" = some none)
    (zall : PySem.W.nsIn K mainGlobals "all" = some none)
    (zrepr : PySem.W.nsIn K mainGlobals "repr" = some none)
    (zValueError : PySem.W.nsIn K mainGlobals "ValueError" = some none)
    (zLookupError : PySem.W.nsIn K mainGlobals "LookupError" = some none)
    (zRuntimeError : PySem.W.nsIn K mainGlobals "RuntimeError" = some none)
    (zArithmeticError : PySem.W.nsIn K mainGlobals "ArithmeticError" = some none)
    (zKeyError : PySem.W.nsIn K mainGlobals "KeyError" = some none)
    (zIndexError : PySem.W.nsIn K mainGlobals "IndexError" = some none)
    (zOverflowError : PySem.W.nsIn K mainGlobals "OverflowError" = some none)
    (zTypeError : PySem.W.nsIn K mainGlobals "TypeError" = some none)
    (ac0 : PySem.W.nsIn K mainGlobals "OrderError" = some (some (.ref c0)))
    (xc0 : K.lookup c0 = some (excClassObj nmc0 qc0 c0 Nc0 bsc0 [.type "ValueError", .type "Exception", .type "BaseException",
      .type "object"] true
      snc0 subc0 abc0 colc0 ddc0 k0c0 k1c0 k2c0 k3c0 k5c0 "ValueError.__new__"))
    (sac0 : PySem.W.findIn K (.ref c0) "__setattr__" =
      some (some (.builtin "object.__setattr__")))
    (gac0 : PySem.W.findIn K (.ref c0) "__getattribute__" =
      some (some (.builtin "BaseException.__getattribute__")))
    (ggc0 : PySem.W.findIn K (.ref c0) "__getattr__" = some none)
    (hac0 : PySem.W.findIn K (.ref c0) "__class__" =
      some (some (.builtin "object.__class__")))
    (kCc0 : PySem.W.keepIn K (.ref c0) = true)
    (tc0 : PySem.W.findIn K (.ref c0) "__init__" = some (some (.builtin "ValueError.__init__")))
    (ac1 : PySem.W.nsIn K mainGlobals "InvalidBase" = some (some (.ref c1)))
    (xc1 : K.lookup c1 = some (excClassObj nmc1 qc1 c1 Nc1 bsc1 [.ref c0, .type "ValueError", .type "Exception", .type "BaseException",
      .type "object"] true
      snc1 subc1 abc1 colc1 ddc1 k0c1 k1c1 k2c1 k3c1 k5c1 "ValueError.__new__"))
    (sac1 : PySem.W.findIn K (.ref c1) "__setattr__" =
      some (some (.builtin "object.__setattr__")))
    (gac1 : PySem.W.findIn K (.ref c1) "__getattribute__" =
      some (some (.builtin "BaseException.__getattribute__")))
    (ggc1 : PySem.W.findIn K (.ref c1) "__getattr__" = some none)
    (hac1 : PySem.W.findIn K (.ref c1) "__class__" =
      some (some (.builtin "object.__class__")))
    (kCc1 : PySem.W.keepIn K (.ref c1) = true)
    (nc1 : PySem.W.findIn K (.ref c1) "problem" = some none)
    (mc1 : PySem.W.findIn K (.ref c1) "position" = some none)
    (ag1 : PySem.W.findIn K (.ref c1) "__init__" = some (some (.ref g1)))
    (tg1 : PySem.W.typeIn K (.ref g1) = some (.type "function"))
    (lg1 : K.lookup g1 = some ⟨ocg1, odg1, .func (PySem.W.fnOf "__init__" "InvalidBase.__init__"
      (defArgs s_InvalidBase_init) (defBody s_InvalidBase_init) (defScope s_InvalidBase_init) .none kVg1 dcg1 pmg1 ang1 cdg1
      ctg1), slg1⟩)
    (cg1 : PySem.W.codeIn K cdg1 "InvalidBase.__init__" = true)
    (kg1 : PySem.W.keepIn K (.ref g1) = true)
    (ac2 : PySem.W.nsIn K mainGlobals "InvalidOrder" = some (some (.ref c2)))
    (xc2 : K.lookup c2 = some (excClassObj nmc2 qc2 c2 Nc2 bsc2 [.ref c0, .type "ValueError", .type "Exception", .type "BaseException",
      .type "object"] true
      snc2 subc2 abc2 colc2 ddc2 k0c2 k1c2 k2c2 k3c2 k5c2 "ValueError.__new__"))
    (sac2 : PySem.W.findIn K (.ref c2) "__setattr__" =
      some (some (.builtin "object.__setattr__")))
    (gac2 : PySem.W.findIn K (.ref c2) "__getattribute__" =
      some (some (.builtin "BaseException.__getattribute__")))
    (ggc2 : PySem.W.findIn K (.ref c2) "__getattr__" = some none)
    (hac2 : PySem.W.findIn K (.ref c2) "__class__" =
      some (some (.builtin "object.__class__")))
    (kCc2 : PySem.W.keepIn K (.ref c2) = true)
    (nc2 : PySem.W.findIn K (.ref c2) "position" = some none)
    (ag2 : PySem.W.findIn K (.ref c2) "__init__" = some (some (.ref g2)))
    (tg2 : PySem.W.typeIn K (.ref g2) = some (.type "function"))
    (lg2 : K.lookup g2 = some ⟨ocg2, odg2, .func (PySem.W.fnOf "__init__" "InvalidOrder.__init__"
      (defArgs s_InvalidOrder_init) (defBody s_InvalidOrder_init) (defScope s_InvalidOrder_init) .none kVg2 dcg2 pmg2 ang2 cdg2
      ctg2), slg2⟩)
    (cg2 : PySem.W.codeIn K cdg2 "InvalidOrder.__init__" = true)
    (kg2 : PySem.W.keepIn K (.ref g2) = true)
    (ac3 : PySem.W.nsIn K mainGlobals "InvalidIndex" = some (some (.ref c3)))
    (xc3 : K.lookup c3 = some (excClassObj nmc3 qc3 c3 Nc3 bsc3 [.ref c0, .type "ValueError", .type "Exception", .type "BaseException",
      .type "object"] true
      snc3 subc3 abc3 colc3 ddc3 k0c3 k1c3 k2c3 k3c3 k5c3 "ValueError.__new__"))
    (sac3 : PySem.W.findIn K (.ref c3) "__setattr__" =
      some (some (.builtin "object.__setattr__")))
    (gac3 : PySem.W.findIn K (.ref c3) "__getattribute__" =
      some (some (.builtin "BaseException.__getattribute__")))
    (ggc3 : PySem.W.findIn K (.ref c3) "__getattr__" = some none)
    (hac3 : PySem.W.findIn K (.ref c3) "__class__" =
      some (some (.builtin "object.__class__")))
    (kCc3 : PySem.W.keepIn K (.ref c3) = true)
    (nc3 : PySem.W.findIn K (.ref c3) "value" = some none)
    (ag3 : PySem.W.findIn K (.ref c3) "__init__" = some (some (.ref g3)))
    (tg3 : PySem.W.typeIn K (.ref g3) = some (.type "function"))
    (lg3 : K.lookup g3 = some ⟨ocg3, odg3, .func (PySem.W.fnOf "__init__" "InvalidIndex.__init__"
      (defArgs s_InvalidIndex_init) (defBody s_InvalidIndex_init) (defScope s_InvalidIndex_init) .none kVg3 dcg3 pmg3 ang3 cdg3
      ctg3), slg3⟩)
    (cg3 : PySem.W.codeIn K cdg3 "InvalidIndex.__init__" = true)
    (kg3 : PySem.W.keepIn K (.ref g3) = true)
    (ac4 : PySem.W.nsIn K mainGlobals "InvalidReason" = some (some (.ref c4)))
    (xc4 : K.lookup c4 = some (excClassObj nmc4 qc4 c4 Nc4 bsc4 [.ref c0, .type "ValueError", .type "Exception", .type "BaseException",
      .type "object"] true
      snc4 subc4 abc4 colc4 ddc4 k0c4 k1c4 k2c4 k3c4 k5c4 "ValueError.__new__"))
    (sac4 : PySem.W.findIn K (.ref c4) "__setattr__" =
      some (some (.builtin "object.__setattr__")))
    (gac4 : PySem.W.findIn K (.ref c4) "__getattribute__" =
      some (some (.builtin "BaseException.__getattribute__")))
    (ggc4 : PySem.W.findIn K (.ref c4) "__getattr__" = some none)
    (hac4 : PySem.W.findIn K (.ref c4) "__class__" =
      some (some (.builtin "object.__class__")))
    (kCc4 : PySem.W.keepIn K (.ref c4) = true)
    (nc4 : PySem.W.findIn K (.ref c4) "value" = some none)
    (ag4 : PySem.W.findIn K (.ref c4) "__init__" = some (some (.ref g4)))
    (tg4 : PySem.W.typeIn K (.ref g4) = some (.type "function"))
    (lg4 : K.lookup g4 = some ⟨ocg4, odg4, .func (PySem.W.fnOf "__init__" "InvalidReason.__init__"
      (defArgs s_InvalidReason_init) (defBody s_InvalidReason_init) (defScope s_InvalidReason_init) .none kVg4 dcg4 pmg4 ang4 cdg4
      ctg4), slg4⟩)
    (cg4 : PySem.W.codeIn K cdg4 "InvalidReason.__init__" = true)
    (kg4 : PySem.W.keepIn K (.ref g4) = true)
    (ac5 : PySem.W.nsIn K mainGlobals "InvalidPosition" = some (some (.ref c5)))
    (xc5 : K.lookup c5 = some (excClassObj nmc5 qc5 c5 Nc5 bsc5 [.ref c0, .type "ValueError", .type "Exception", .type "BaseException",
      .type "object"] true
      snc5 subc5 abc5 colc5 ddc5 k0c5 k1c5 k2c5 k3c5 k5c5 "ValueError.__new__"))
    (sac5 : PySem.W.findIn K (.ref c5) "__setattr__" =
      some (some (.builtin "object.__setattr__")))
    (gac5 : PySem.W.findIn K (.ref c5) "__getattribute__" =
      some (some (.builtin "BaseException.__getattribute__")))
    (ggc5 : PySem.W.findIn K (.ref c5) "__getattr__" = some none)
    (hac5 : PySem.W.findIn K (.ref c5) "__class__" =
      some (some (.builtin "object.__class__")))
    (kCc5 : PySem.W.keepIn K (.ref c5) = true)
    (nc5 : PySem.W.findIn K (.ref c5) "value" = some none)
    (ag5 : PySem.W.findIn K (.ref c5) "__init__" = some (some (.ref g5)))
    (tg5 : PySem.W.typeIn K (.ref g5) = some (.type "function"))
    (lg5 : K.lookup g5 = some ⟨ocg5, odg5, .func (PySem.W.fnOf "__init__" "InvalidPosition.__init__"
      (defArgs s_InvalidPosition_init) (defBody s_InvalidPosition_init) (defScope s_InvalidPosition_init) .none kVg5 dcg5 pmg5 ang5 cdg5
      ctg5), slg5⟩)
    (cg5 : PySem.W.codeIn K cdg5 "InvalidPosition.__init__" = true)
    (kg5 : PySem.W.keepIn K (.ref g5) = true)
    (ac6 : PySem.W.nsIn K mainGlobals "InvalidCount" = some (some (.ref c6)))
    (xc6 : K.lookup c6 = some (excClassObj nmc6 qc6 c6 Nc6 bsc6 [.ref c0, .type "ValueError", .type "Exception", .type "BaseException",
      .type "object"] true
      snc6 subc6 abc6 colc6 ddc6 k0c6 k1c6 k2c6 k3c6 k5c6 "ValueError.__new__"))
    (sac6 : PySem.W.findIn K (.ref c6) "__setattr__" =
      some (some (.builtin "object.__setattr__")))
    (gac6 : PySem.W.findIn K (.ref c6) "__getattribute__" =
      some (some (.builtin "BaseException.__getattribute__")))
    (ggc6 : PySem.W.findIn K (.ref c6) "__getattr__" = some none)
    (hac6 : PySem.W.findIn K (.ref c6) "__class__" =
      some (some (.builtin "object.__class__")))
    (kCc6 : PySem.W.keepIn K (.ref c6) = true)
    (nc6 : PySem.W.findIn K (.ref c6) "value" = some none)
    (ag6 : PySem.W.findIn K (.ref c6) "__init__" = some (some (.ref g6)))
    (tg6 : PySem.W.typeIn K (.ref g6) = some (.type "function"))
    (lg6 : K.lookup g6 = some ⟨ocg6, odg6, .func (PySem.W.fnOf "__init__" "InvalidCount.__init__"
      (defArgs s_InvalidCount_init) (defBody s_InvalidCount_init) (defScope s_InvalidCount_init) .none kVg6 dcg6 pmg6 ang6 cdg6
      ctg6), slg6⟩)
    (cg6 : PySem.W.codeIn K cdg6 "InvalidCount.__init__" = true)
    (kg6 : PySem.W.keepIn K (.ref g6) = true)
    (ac7 : PySem.W.nsIn K mainGlobals "InvalidPairs" = some (some (.ref c7)))
    (xc7 : K.lookup c7 = some (excClassObj nmc7 qc7 c7 Nc7 bsc7 [.ref c0, .type "ValueError", .type "Exception", .type "BaseException",
      .type "object"] true
      snc7 subc7 abc7 colc7 ddc7 k0c7 k1c7 k2c7 k3c7 k5c7 "ValueError.__new__"))
    (sac7 : PySem.W.findIn K (.ref c7) "__setattr__" =
      some (some (.builtin "object.__setattr__")))
    (gac7 : PySem.W.findIn K (.ref c7) "__getattribute__" =
      some (some (.builtin "BaseException.__getattribute__")))
    (ggc7 : PySem.W.findIn K (.ref c7) "__getattr__" = some none)
    (hac7 : PySem.W.findIn K (.ref c7) "__class__" =
      some (some (.builtin "object.__class__")))
    (kCc7 : PySem.W.keepIn K (.ref c7) = true)
    (nc7 : PySem.W.findIn K (.ref c7) "position" = some none)
    (ag7 : PySem.W.findIn K (.ref c7) "__init__" = some (some (.ref g7)))
    (tg7 : PySem.W.typeIn K (.ref g7) = some (.type "function"))
    (lg7 : K.lookup g7 = some ⟨ocg7, odg7, .func (PySem.W.fnOf "__init__" "InvalidPairs.__init__"
      (defArgs s_InvalidPairs_init) (defBody s_InvalidPairs_init) (defScope s_InvalidPairs_init) .none kVg7 dcg7 pmg7 ang7 cdg7
      ctg7), slg7⟩)
    (cg7 : PySem.W.codeIn K cdg7 "InvalidPairs.__init__" = true)
    (kg7 : PySem.W.keepIn K (.ref g7) = true)
    (ac8 : PySem.W.nsIn K mainGlobals "InvalidEntries" = some (some (.ref c8)))
    (xc8 : K.lookup c8 = some (excClassObj nmc8 qc8 c8 Nc8 bsc8 [.ref c0, .type "ValueError", .type "Exception", .type "BaseException",
      .type "object"] true
      snc8 subc8 abc8 colc8 ddc8 k0c8 k1c8 k2c8 k3c8 k5c8 "ValueError.__new__"))
    (sac8 : PySem.W.findIn K (.ref c8) "__setattr__" =
      some (some (.builtin "object.__setattr__")))
    (gac8 : PySem.W.findIn K (.ref c8) "__getattribute__" =
      some (some (.builtin "BaseException.__getattribute__")))
    (ggc8 : PySem.W.findIn K (.ref c8) "__getattr__" = some none)
    (hac8 : PySem.W.findIn K (.ref c8) "__class__" =
      some (some (.builtin "object.__class__")))
    (kCc8 : PySem.W.keepIn K (.ref c8) = true)
    (nc8 : PySem.W.findIn K (.ref c8) "position" = some none)
    (ag8 : PySem.W.findIn K (.ref c8) "__init__" = some (some (.ref g8)))
    (tg8 : PySem.W.typeIn K (.ref g8) = some (.type "function"))
    (lg8 : K.lookup g8 = some ⟨ocg8, odg8, .func (PySem.W.fnOf "__init__" "InvalidEntries.__init__"
      (defArgs s_InvalidEntries_init) (defBody s_InvalidEntries_init) (defScope s_InvalidEntries_init) .none kVg8 dcg8 pmg8 ang8 cdg8
      ctg8), slg8⟩)
    (cg8 : PySem.W.codeIn K cdg8 "InvalidEntries.__init__" = true)
    (kg8 : PySem.W.keepIn K (.ref g8) = true)
    (ac9 : PySem.W.nsIn K mainGlobals "InvalidOrders" = some (some (.ref c9)))
    (xc9 : K.lookup c9 = some (excClassObj nmc9 qc9 c9 Nc9 bsc9 [.ref c0, .type "ValueError", .type "Exception", .type "BaseException",
      .type "object"] true
      snc9 subc9 abc9 colc9 ddc9 k0c9 k1c9 k2c9 k3c9 k5c9 "ValueError.__new__"))
    (sac9 : PySem.W.findIn K (.ref c9) "__setattr__" =
      some (some (.builtin "object.__setattr__")))
    (gac9 : PySem.W.findIn K (.ref c9) "__getattribute__" =
      some (some (.builtin "BaseException.__getattribute__")))
    (ggc9 : PySem.W.findIn K (.ref c9) "__getattr__" = some none)
    (hac9 : PySem.W.findIn K (.ref c9) "__class__" =
      some (some (.builtin "object.__class__")))
    (kCc9 : PySem.W.keepIn K (.ref c9) = true)
    (nc9 : PySem.W.findIn K (.ref c9) "position" = some none)
    (ag9 : PySem.W.findIn K (.ref c9) "__init__" = some (some (.ref g9)))
    (tg9 : PySem.W.typeIn K (.ref g9) = some (.type "function"))
    (lg9 : K.lookup g9 = some ⟨ocg9, odg9, .func (PySem.W.fnOf "__init__" "InvalidOrders.__init__"
      (defArgs s_InvalidOrders_init) (defBody s_InvalidOrders_init) (defScope s_InvalidOrders_init) .none kVg9 dcg9 pmg9 ang9 cdg9
      ctg9), slg9⟩)
    (cg9 : PySem.W.codeIn K cdg9 "InvalidOrders.__init__" = true)
    (kg9 : PySem.W.keepIn K (.ref g9) = true)
    (ac10 : PySem.W.nsIn K mainGlobals "InvalidArcs" = some (some (.ref c10)))
    (xc10 : K.lookup c10 = some (excClassObj nmc10 qc10 c10 Nc10 bsc10 [.ref c0, .type "ValueError", .type "Exception", .type "BaseException",
      .type "object"] true
      snc10 subc10 abc10 colc10 ddc10 k0c10 k1c10 k2c10 k3c10 k5c10 "ValueError.__new__"))
    (sac10 : PySem.W.findIn K (.ref c10) "__setattr__" =
      some (some (.builtin "object.__setattr__")))
    (gac10 : PySem.W.findIn K (.ref c10) "__getattribute__" =
      some (some (.builtin "BaseException.__getattribute__")))
    (ggc10 : PySem.W.findIn K (.ref c10) "__getattr__" = some none)
    (hac10 : PySem.W.findIn K (.ref c10) "__class__" =
      some (some (.builtin "object.__class__")))
    (kCc10 : PySem.W.keepIn K (.ref c10) = true)
    (nc10 : PySem.W.findIn K (.ref c10) "position" = some none)
    (ag10 : PySem.W.findIn K (.ref c10) "__init__" = some (some (.ref g10)))
    (tg10 : PySem.W.typeIn K (.ref g10) = some (.type "function"))
    (lg10 : K.lookup g10 = some ⟨ocg10, odg10, .func (PySem.W.fnOf "__init__" "InvalidArcs.__init__"
      (defArgs s_InvalidArcs_init) (defBody s_InvalidArcs_init) (defScope s_InvalidArcs_init) .none kVg10 dcg10 pmg10 ang10 cdg10
      ctg10), slg10⟩)
    (cg10 : PySem.W.codeIn K cdg10 "InvalidArcs.__init__" = true)
    (kg10 : PySem.W.keepIn K (.ref g10) = true)
    (ac11 : PySem.W.nsIn K mainGlobals "InvalidWord" = some (some (.ref c11)))
    (xc11 : K.lookup c11 = some (excClassObj nmc11 qc11 c11 Nc11 bsc11 [.ref c0, .type "ValueError", .type "Exception", .type "BaseException",
      .type "object"] true
      snc11 subc11 abc11 colc11 ddc11 k0c11 k1c11 k2c11 k3c11 k5c11 "ValueError.__new__"))
    (sac11 : PySem.W.findIn K (.ref c11) "__setattr__" =
      some (some (.builtin "object.__setattr__")))
    (gac11 : PySem.W.findIn K (.ref c11) "__getattribute__" =
      some (some (.builtin "BaseException.__getattribute__")))
    (ggc11 : PySem.W.findIn K (.ref c11) "__getattr__" = some none)
    (hac11 : PySem.W.findIn K (.ref c11) "__class__" =
      some (some (.builtin "object.__class__")))
    (kCc11 : PySem.W.keepIn K (.ref c11) = true)
    (nc11 : PySem.W.findIn K (.ref c11) "position" = some none)
    (ag11 : PySem.W.findIn K (.ref c11) "__init__" = some (some (.ref g11)))
    (tg11 : PySem.W.typeIn K (.ref g11) = some (.type "function"))
    (lg11 : K.lookup g11 = some ⟨ocg11, odg11, .func (PySem.W.fnOf "__init__" "InvalidWord.__init__"
      (defArgs s_InvalidWord_init) (defBody s_InvalidWord_init) (defScope s_InvalidWord_init) .none kVg11 dcg11 pmg11 ang11 cdg11
      ctg11), slg11⟩)
    (cg11 : PySem.W.codeIn K cdg11 "InvalidWord.__init__" = true)
    (kg11 : PySem.W.keepIn K (.ref g11) = true)
    (ac12 : PySem.W.nsIn K mainGlobals "InvalidMove" = some (some (.ref c12)))
    (xc12 : K.lookup c12 = some (excClassObj nmc12 qc12 c12 Nc12 bsc12 [.ref c0, .type "ValueError", .type "Exception", .type "BaseException",
      .type "object"] true
      snc12 subc12 abc12 colc12 ddc12 k0c12 k1c12 k2c12 k3c12 k5c12 "ValueError.__new__"))
    (sac12 : PySem.W.findIn K (.ref c12) "__setattr__" =
      some (some (.builtin "object.__setattr__")))
    (gac12 : PySem.W.findIn K (.ref c12) "__getattribute__" =
      some (some (.builtin "BaseException.__getattribute__")))
    (ggc12 : PySem.W.findIn K (.ref c12) "__getattr__" = some none)
    (hac12 : PySem.W.findIn K (.ref c12) "__class__" =
      some (some (.builtin "object.__class__")))
    (kCc12 : PySem.W.keepIn K (.ref c12) = true)
    (nc12 : PySem.W.findIn K (.ref c12) "value" = some none)
    (ag12 : PySem.W.findIn K (.ref c12) "__init__" = some (some (.ref g12)))
    (tg12 : PySem.W.typeIn K (.ref g12) = some (.type "function"))
    (lg12 : K.lookup g12 = some ⟨ocg12, odg12, .func (PySem.W.fnOf "__init__" "InvalidMove.__init__"
      (defArgs s_InvalidMove_init) (defBody s_InvalidMove_init) (defScope s_InvalidMove_init) .none kVg12 dcg12 pmg12 ang12 cdg12
      ctg12), slg12⟩)
    (cg12 : PySem.W.codeIn K cdg12 "InvalidMove.__init__" = true)
    (kg12 : PySem.W.keepIn K (.ref g12) = true)
    (ac13 : PySem.W.nsIn K mainGlobals "InvalidUsers" = some (some (.ref c13)))
    (xc13 : K.lookup c13 = some (excClassObj nmc13 qc13 c13 Nc13 bsc13 [.ref c0, .type "ValueError", .type "Exception", .type "BaseException",
      .type "object"] true
      snc13 subc13 abc13 colc13 ddc13 k0c13 k1c13 k2c13 k3c13 k5c13 "ValueError.__new__"))
    (sac13 : PySem.W.findIn K (.ref c13) "__setattr__" =
      some (some (.builtin "object.__setattr__")))
    (gac13 : PySem.W.findIn K (.ref c13) "__getattribute__" =
      some (some (.builtin "BaseException.__getattribute__")))
    (ggc13 : PySem.W.findIn K (.ref c13) "__getattr__" = some none)
    (hac13 : PySem.W.findIn K (.ref c13) "__class__" =
      some (some (.builtin "object.__class__")))
    (kCc13 : PySem.W.keepIn K (.ref c13) = true)
    (nc13 : PySem.W.findIn K (.ref c13) "problem" = some none)
    (mc13 : PySem.W.findIn K (.ref c13) "position" = some none)
    (ag13 : PySem.W.findIn K (.ref c13) "__init__" = some (some (.ref g13)))
    (tg13 : PySem.W.typeIn K (.ref g13) = some (.type "function"))
    (lg13 : K.lookup g13 = some ⟨ocg13, odg13, .func (PySem.W.fnOf "__init__" "InvalidUsers.__init__"
      (defArgs s_InvalidUsers_init) (defBody s_InvalidUsers_init) (defScope s_InvalidUsers_init) .none kVg13 dcg13 pmg13 ang13 cdg13
      ctg13), slg13⟩)
    (cg13 : PySem.W.codeIn K cdg13 "InvalidUsers.__init__" = true)
    (kg13 : PySem.W.keepIn K (.ref g13) = true)
    (ac14 : PySem.W.nsIn K mainGlobals "InvalidMessage" = some (some (.ref c14)))
    (xc14 : K.lookup c14 = some (excClassObj nmc14 qc14 c14 Nc14 bsc14 [.ref c0, .type "ValueError", .type "Exception", .type "BaseException",
      .type "object"] true
      snc14 subc14 abc14 colc14 ddc14 k0c14 k1c14 k2c14 k3c14 k5c14 "ValueError.__new__"))
    (sac14 : PySem.W.findIn K (.ref c14) "__setattr__" =
      some (some (.builtin "object.__setattr__")))
    (gac14 : PySem.W.findIn K (.ref c14) "__getattribute__" =
      some (some (.builtin "BaseException.__getattribute__")))
    (ggc14 : PySem.W.findIn K (.ref c14) "__getattr__" = some none)
    (hac14 : PySem.W.findIn K (.ref c14) "__class__" =
      some (some (.builtin "object.__class__")))
    (kCc14 : PySem.W.keepIn K (.ref c14) = true)
    (nc14 : PySem.W.findIn K (.ref c14) "position" = some none)
    (ag14 : PySem.W.findIn K (.ref c14) "__init__" = some (some (.ref g14)))
    (tg14 : PySem.W.typeIn K (.ref g14) = some (.type "function"))
    (lg14 : K.lookup g14 = some ⟨ocg14, odg14, .func (PySem.W.fnOf "__init__" "InvalidMessage.__init__"
      (defArgs s_InvalidMessage_init) (defBody s_InvalidMessage_init) (defScope s_InvalidMessage_init) .none kVg14 dcg14 pmg14 ang14 cdg14
      ctg14), slg14⟩)
    (cg14 : PySem.W.codeIn K cdg14 "InvalidMessage.__init__" = true)
    (kg14 : PySem.W.keepIn K (.ref g14) = true)
    (ac15 : PySem.W.nsIn K mainGlobals "InvalidText" = some (some (.ref c15)))
    (xc15 : K.lookup c15 = some (excClassObj nmc15 qc15 c15 Nc15 bsc15 [.ref c0, .type "ValueError", .type "Exception", .type "BaseException",
      .type "object"] true
      snc15 subc15 abc15 colc15 ddc15 k0c15 k1c15 k2c15 k3c15 k5c15 "ValueError.__new__"))
    (sac15 : PySem.W.findIn K (.ref c15) "__setattr__" =
      some (some (.builtin "object.__setattr__")))
    (gac15 : PySem.W.findIn K (.ref c15) "__getattribute__" =
      some (some (.builtin "BaseException.__getattribute__")))
    (ggc15 : PySem.W.findIn K (.ref c15) "__getattr__" = some none)
    (hac15 : PySem.W.findIn K (.ref c15) "__class__" =
      some (some (.builtin "object.__class__")))
    (kCc15 : PySem.W.keepIn K (.ref c15) = true)
    (nc15 : PySem.W.findIn K (.ref c15) "line" = some none)
    (ag15 : PySem.W.findIn K (.ref c15) "__init__" = some (some (.ref g15)))
    (tg15 : PySem.W.typeIn K (.ref g15) = some (.type "function"))
    (lg15 : K.lookup g15 = some ⟨ocg15, odg15, .func (PySem.W.fnOf "__init__" "InvalidText.__init__"
      (defArgs s_InvalidText_init) (defBody s_InvalidText_init) (defScope s_InvalidText_init) .none kVg15 dcg15 pmg15 ang15 cdg15
      ctg15), slg15⟩)
    (cg15 : PySem.W.codeIn K cdg15 "InvalidText.__init__" = true)
    (kg15 : PySem.W.keepIn K (.ref g15) = true)
    (ac16 : PySem.W.nsIn K mainGlobals "SameItem" = some (some (.ref c16)))
    (xc16 : K.lookup c16 = some (excClassObj nmc16 qc16 c16 Nc16 bsc16 [.ref c0, .type "ValueError", .type "Exception", .type "BaseException",
      .type "object"] true
      snc16 subc16 abc16 colc16 ddc16 k0c16 k1c16 k2c16 k3c16 k5c16 "ValueError.__new__"))
    (sac16 : PySem.W.findIn K (.ref c16) "__setattr__" =
      some (some (.builtin "object.__setattr__")))
    (gac16 : PySem.W.findIn K (.ref c16) "__getattribute__" =
      some (some (.builtin "BaseException.__getattribute__")))
    (ggc16 : PySem.W.findIn K (.ref c16) "__getattr__" = some none)
    (hac16 : PySem.W.findIn K (.ref c16) "__class__" =
      some (some (.builtin "object.__class__")))
    (kCc16 : PySem.W.keepIn K (.ref c16) = true)
    (nc16 : PySem.W.findIn K (.ref c16) "value" = some none)
    (ag16 : PySem.W.findIn K (.ref c16) "__init__" = some (some (.ref g16)))
    (tg16 : PySem.W.typeIn K (.ref g16) = some (.type "function"))
    (lg16 : K.lookup g16 = some ⟨ocg16, odg16, .func (PySem.W.fnOf "__init__" "SameItem.__init__"
      (defArgs s_SameItem_init) (defBody s_SameItem_init) (defScope s_SameItem_init) .none kVg16 dcg16 pmg16 ang16 cdg16
      ctg16), slg16⟩)
    (cg16 : PySem.W.codeIn K cdg16 "SameItem.__init__" = true)
    (kg16 : PySem.W.keepIn K (.ref g16) = true)
    (ac17 : PySem.W.nsIn K mainGlobals "InvalidOperation" = some (some (.ref c17)))
    (xc17 : K.lookup c17 = some (excClassObj nmc17 qc17 c17 Nc17 bsc17 [.ref c0, .type "ValueError", .type "Exception", .type "BaseException",
      .type "object"] true
      snc17 subc17 abc17 colc17 ddc17 k0c17 k1c17 k2c17 k3c17 k5c17 "ValueError.__new__"))
    (sac17 : PySem.W.findIn K (.ref c17) "__setattr__" =
      some (some (.builtin "object.__setattr__")))
    (gac17 : PySem.W.findIn K (.ref c17) "__getattribute__" =
      some (some (.builtin "BaseException.__getattribute__")))
    (ggc17 : PySem.W.findIn K (.ref c17) "__getattr__" = some none)
    (hac17 : PySem.W.findIn K (.ref c17) "__class__" =
      some (some (.builtin "object.__class__")))
    (kCc17 : PySem.W.keepIn K (.ref c17) = true)
    (tc17 : PySem.W.findIn K (.ref c17) "__init__" = some (some (.builtin "ValueError.__init__")))
    (ac18 : PySem.W.nsIn K mainGlobals "InvalidCommand" = some (some (.ref c18)))
    (xc18 : K.lookup c18 = some (excClassObj nmc18 qc18 c18 Nc18 bsc18 [.ref c0, .type "ValueError", .type "Exception", .type "BaseException",
      .type "object"] true
      snc18 subc18 abc18 colc18 ddc18 k0c18 k1c18 k2c18 k3c18 k5c18 "ValueError.__new__"))
    (sac18 : PySem.W.findIn K (.ref c18) "__setattr__" =
      some (some (.builtin "object.__setattr__")))
    (gac18 : PySem.W.findIn K (.ref c18) "__getattribute__" =
      some (some (.builtin "BaseException.__getattribute__")))
    (ggc18 : PySem.W.findIn K (.ref c18) "__getattr__" = some none)
    (hac18 : PySem.W.findIn K (.ref c18) "__class__" =
      some (some (.builtin "object.__class__")))
    (kCc18 : PySem.W.keepIn K (.ref c18) = true)
    (tc18 : PySem.W.findIn K (.ref c18) "__init__" = some (some (.builtin "ValueError.__init__")))
    (ac19 : PySem.W.nsIn K mainGlobals "UnknownItem" = some (some (.ref c19)))
    (xc19 : K.lookup c19 = some (excClassObj nmc19 qc19 c19 Nc19 bsc19 [.type "LookupError", .type "Exception", .type "BaseException",
      .type "object"] true
      snc19 subc19 abc19 colc19 ddc19 k0c19 k1c19 k2c19 k3c19 k5c19 "LookupError.__new__"))
    (sac19 : PySem.W.findIn K (.ref c19) "__setattr__" =
      some (some (.builtin "object.__setattr__")))
    (gac19 : PySem.W.findIn K (.ref c19) "__getattribute__" =
      some (some (.builtin "BaseException.__getattribute__")))
    (ggc19 : PySem.W.findIn K (.ref c19) "__getattr__" = some none)
    (hac19 : PySem.W.findIn K (.ref c19) "__class__" =
      some (some (.builtin "object.__class__")))
    (kCc19 : PySem.W.keepIn K (.ref c19) = true)
    (nc19 : PySem.W.findIn K (.ref c19) "value" = some none)
    (ag19 : PySem.W.findIn K (.ref c19) "__init__" = some (some (.ref g19)))
    (tg19 : PySem.W.typeIn K (.ref g19) = some (.type "function"))
    (lg19 : K.lookup g19 = some ⟨ocg19, odg19, .func (PySem.W.fnOf "__init__" "UnknownItem.__init__"
      (defArgs s_UnknownItem_init) (defBody s_UnknownItem_init) (defScope s_UnknownItem_init) .none kVg19 dcg19 pmg19 ang19 cdg19
      ctg19), slg19⟩)
    (cg19 : PySem.W.codeIn K cdg19 "UnknownItem.__init__" = true)
    (kg19 : PySem.W.keepIn K (.ref g19) = true)
    (ac20 : PySem.W.nsIn K mainGlobals "UnknownUser" = some (some (.ref c20)))
    (xc20 : K.lookup c20 = some (excClassObj nmc20 qc20 c20 Nc20 bsc20 [.type "LookupError", .type "Exception", .type "BaseException",
      .type "object"] true
      snc20 subc20 abc20 colc20 ddc20 k0c20 k1c20 k2c20 k3c20 k5c20 "LookupError.__new__"))
    (sac20 : PySem.W.findIn K (.ref c20) "__setattr__" =
      some (some (.builtin "object.__setattr__")))
    (gac20 : PySem.W.findIn K (.ref c20) "__getattribute__" =
      some (some (.builtin "BaseException.__getattribute__")))
    (ggc20 : PySem.W.findIn K (.ref c20) "__getattr__" = some none)
    (hac20 : PySem.W.findIn K (.ref c20) "__class__" =
      some (some (.builtin "object.__class__")))
    (kCc20 : PySem.W.keepIn K (.ref c20) = true)
    (nc20 : PySem.W.findIn K (.ref c20) "value" = some none)
    (ag20 : PySem.W.findIn K (.ref c20) "__init__" = some (some (.ref g20)))
    (tg20 : PySem.W.typeIn K (.ref g20) = some (.type "function"))
    (lg20 : K.lookup g20 = some ⟨ocg20, odg20, .func (PySem.W.fnOf "__init__" "UnknownUser.__init__"
      (defArgs s_UnknownUser_init) (defBody s_UnknownUser_init) (defScope s_UnknownUser_init) .none kVg20 dcg20 pmg20 ang20 cdg20
      ctg20), slg20⟩)
    (cg20 : PySem.W.codeIn K cdg20 "UnknownUser.__init__" = true)
    (kg20 : PySem.W.keepIn K (.ref g20) = true)
    (ac21 : PySem.W.nsIn K mainGlobals "UnknownReplica" = some (some (.ref c21)))
    (xc21 : K.lookup c21 = some (excClassObj nmc21 qc21 c21 Nc21 bsc21 [.type "LookupError", .type "Exception", .type "BaseException",
      .type "object"] true
      snc21 subc21 abc21 colc21 ddc21 k0c21 k1c21 k2c21 k3c21 k5c21 "LookupError.__new__"))
    (sac21 : PySem.W.findIn K (.ref c21) "__setattr__" =
      some (some (.builtin "object.__setattr__")))
    (gac21 : PySem.W.findIn K (.ref c21) "__getattribute__" =
      some (some (.builtin "BaseException.__getattribute__")))
    (ggc21 : PySem.W.findIn K (.ref c21) "__getattr__" = some none)
    (hac21 : PySem.W.findIn K (.ref c21) "__class__" =
      some (some (.builtin "object.__class__")))
    (kCc21 : PySem.W.keepIn K (.ref c21) = true)
    (nc21 : PySem.W.findIn K (.ref c21) "value" = some none)
    (ag21 : PySem.W.findIn K (.ref c21) "__init__" = some (some (.ref g21)))
    (tg21 : PySem.W.typeIn K (.ref g21) = some (.type "function"))
    (lg21 : K.lookup g21 = some ⟨ocg21, odg21, .func (PySem.W.fnOf "__init__" "UnknownReplica.__init__"
      (defArgs s_UnknownReplica_init) (defBody s_UnknownReplica_init) (defScope s_UnknownReplica_init) .none kVg21 dcg21 pmg21 ang21 cdg21
      ctg21), slg21⟩)
    (cg21 : PySem.W.codeIn K cdg21 "UnknownReplica.__init__" = true)
    (kg21 : PySem.W.keepIn K (.ref g21) = true)
    (ac22 : PySem.W.nsIn K mainGlobals "UnknownMessage" = some (some (.ref c22)))
    (xc22 : K.lookup c22 = some (excClassObj nmc22 qc22 c22 Nc22 bsc22 [.type "LookupError", .type "Exception", .type "BaseException",
      .type "object"] true
      snc22 subc22 abc22 colc22 ddc22 k0c22 k1c22 k2c22 k3c22 k5c22 "LookupError.__new__"))
    (sac22 : PySem.W.findIn K (.ref c22) "__setattr__" =
      some (some (.builtin "object.__setattr__")))
    (gac22 : PySem.W.findIn K (.ref c22) "__getattribute__" =
      some (some (.builtin "BaseException.__getattribute__")))
    (ggc22 : PySem.W.findIn K (.ref c22) "__getattr__" = some none)
    (hac22 : PySem.W.findIn K (.ref c22) "__class__" =
      some (some (.builtin "object.__class__")))
    (kCc22 : PySem.W.keepIn K (.ref c22) = true)
    (nc22 : PySem.W.findIn K (.ref c22) "value" = some none)
    (ag22 : PySem.W.findIn K (.ref c22) "__init__" = some (some (.ref g22)))
    (tg22 : PySem.W.typeIn K (.ref g22) = some (.type "function"))
    (lg22 : K.lookup g22 = some ⟨ocg22, odg22, .func (PySem.W.fnOf "__init__" "UnknownMessage.__init__"
      (defArgs s_UnknownMessage_init) (defBody s_UnknownMessage_init) (defScope s_UnknownMessage_init) .none kVg22 dcg22 pmg22 ang22 cdg22
      ctg22), slg22⟩)
    (cg22 : PySem.W.codeIn K cdg22 "UnknownMessage.__init__" = true)
    (kg22 : PySem.W.keepIn K (.ref g22) = true)
    (ac23 : PySem.W.nsIn K mainGlobals "NotLocal" = some (some (.ref c23)))
    (xc23 : K.lookup c23 = some (excClassObj nmc23 qc23 c23 Nc23 bsc23 [.type "RuntimeError", .type "Exception", .type "BaseException",
      .type "object"] true
      snc23 subc23 abc23 colc23 ddc23 k0c23 k1c23 k2c23 k3c23 k5c23 "RuntimeError.__new__"))
    (sac23 : PySem.W.findIn K (.ref c23) "__setattr__" =
      some (some (.builtin "object.__setattr__")))
    (gac23 : PySem.W.findIn K (.ref c23) "__getattribute__" =
      some (some (.builtin "BaseException.__getattribute__")))
    (ggc23 : PySem.W.findIn K (.ref c23) "__getattr__" = some none)
    (hac23 : PySem.W.findIn K (.ref c23) "__class__" =
      some (some (.builtin "object.__class__")))
    (kCc23 : PySem.W.keepIn K (.ref c23) = true)
    (nc23 : PySem.W.findIn K (.ref c23) "user" = some none)
    (ag23 : PySem.W.findIn K (.ref c23) "__init__" = some (some (.ref g23)))
    (tg23 : PySem.W.typeIn K (.ref g23) = some (.type "function"))
    (lg23 : K.lookup g23 = some ⟨ocg23, odg23, .func (PySem.W.fnOf "__init__" "NotLocal.__init__"
      (defArgs s_NotLocal_init) (defBody s_NotLocal_init) (defScope s_NotLocal_init) .none kVg23 dcg23 pmg23 ang23 cdg23
      ctg23), slg23⟩)
    (cg23 : PySem.W.codeIn K cdg23 "NotLocal.__init__" = true)
    (kg23 : PySem.W.keepIn K (.ref g23) = true)
    (ac24 : PySem.W.nsIn K mainGlobals "Forked" = some (some (.ref c24)))
    (xc24 : K.lookup c24 = some (excClassObj nmc24 qc24 c24 Nc24 bsc24 [.type "RuntimeError", .type "Exception", .type "BaseException",
      .type "object"] true
      snc24 subc24 abc24 colc24 ddc24 k0c24 k1c24 k2c24 k3c24 k5c24 "RuntimeError.__new__"))
    (sac24 : PySem.W.findIn K (.ref c24) "__setattr__" =
      some (some (.builtin "object.__setattr__")))
    (gac24 : PySem.W.findIn K (.ref c24) "__getattribute__" =
      some (some (.builtin "BaseException.__getattribute__")))
    (ggc24 : PySem.W.findIn K (.ref c24) "__getattr__" = some none)
    (hac24 : PySem.W.findIn K (.ref c24) "__class__" =
      some (some (.builtin "object.__class__")))
    (kCc24 : PySem.W.keepIn K (.ref c24) = true)
    (nc24 : PySem.W.findIn K (.ref c24) "user" = some none)
    (ag24 : PySem.W.findIn K (.ref c24) "__init__" = some (some (.ref g24)))
    (tg24 : PySem.W.typeIn K (.ref g24) = some (.type "function"))
    (lg24 : K.lookup g24 = some ⟨ocg24, odg24, .func (PySem.W.fnOf "__init__" "Forked.__init__"
      (defArgs s_Forked_init) (defBody s_Forked_init) (defScope s_Forked_init) .none kVg24 dcg24 pmg24 ang24 cdg24
      ctg24), slg24⟩)
    (cg24 : PySem.W.codeIn K cdg24 "Forked.__init__" = true)
    (kg24 : PySem.W.keepIn K (.ref g24) = true)
    (ac25 : PySem.W.nsIn K mainGlobals "NothingToUndo" = some (some (.ref c25)))
    (xc25 : K.lookup c25 = some (excClassObj nmc25 qc25 c25 Nc25 bsc25 [.type "RuntimeError", .type "Exception", .type "BaseException",
      .type "object"] true
      snc25 subc25 abc25 colc25 ddc25 k0c25 k1c25 k2c25 k3c25 k5c25 "RuntimeError.__new__"))
    (sac25 : PySem.W.findIn K (.ref c25) "__setattr__" =
      some (some (.builtin "object.__setattr__")))
    (gac25 : PySem.W.findIn K (.ref c25) "__getattribute__" =
      some (some (.builtin "BaseException.__getattribute__")))
    (ggc25 : PySem.W.findIn K (.ref c25) "__getattr__" = some none)
    (hac25 : PySem.W.findIn K (.ref c25) "__class__" =
      some (some (.builtin "object.__class__")))
    (kCc25 : PySem.W.keepIn K (.ref c25) = true)
    (nc25 : PySem.W.findIn K (.ref c25) "user" = some none)
    (ag25 : PySem.W.findIn K (.ref c25) "__init__" = some (some (.ref g25)))
    (tg25 : PySem.W.typeIn K (.ref g25) = some (.type "function"))
    (lg25 : K.lookup g25 = some ⟨ocg25, odg25, .func (PySem.W.fnOf "__init__" "NothingToUndo.__init__"
      (defArgs s_NothingToUndo_init) (defBody s_NothingToUndo_init) (defScope s_NothingToUndo_init) .none kVg25 dcg25 pmg25 ang25 cdg25
      ctg25), slg25⟩)
    (cg25 : PySem.W.codeIn K cdg25 "NothingToUndo.__init__" = true)
    (kg25 : PySem.W.keepIn K (.ref g25) = true)
    (ac26 : PySem.W.nsIn K mainGlobals "NotSettled" = some (some (.ref c26)))
    (xc26 : K.lookup c26 = some (excClassObj nmc26 qc26 c26 Nc26 bsc26 [.type "RuntimeError", .type "Exception", .type "BaseException",
      .type "object"] true
      snc26 subc26 abc26 colc26 ddc26 k0c26 k1c26 k2c26 k3c26 k5c26 "RuntimeError.__new__"))
    (sac26 : PySem.W.findIn K (.ref c26) "__setattr__" =
      some (some (.builtin "object.__setattr__")))
    (gac26 : PySem.W.findIn K (.ref c26) "__getattribute__" =
      some (some (.builtin "BaseException.__getattribute__")))
    (ggc26 : PySem.W.findIn K (.ref c26) "__getattr__" = some none)
    (hac26 : PySem.W.findIn K (.ref c26) "__class__" =
      some (some (.builtin "object.__class__")))
    (kCc26 : PySem.W.keepIn K (.ref c26) = true)
    (nc26 : PySem.W.findIn K (.ref c26) "replica" = some none)
    (ag26 : PySem.W.findIn K (.ref c26) "__init__" = some (some (.ref g26)))
    (tg26 : PySem.W.typeIn K (.ref g26) = some (.type "function"))
    (lg26 : K.lookup g26 = some ⟨ocg26, odg26, .func (PySem.W.fnOf "__init__" "NotSettled.__init__"
      (defArgs s_NotSettled_init) (defBody s_NotSettled_init) (defScope s_NotSettled_init) .none kVg26 dcg26 pmg26 ang26 cdg26
      ctg26), slg26⟩)
    (cg26 : PySem.W.codeIn K cdg26 "NotSettled.__init__" = true)
    (kg26 : PySem.W.keepIn K (.ref g26) = true)
    (ac27 : PySem.W.nsIn K mainGlobals "LastItem" = some (some (.ref c27)))
    (xc27 : K.lookup c27 = some (excClassObj nmc27 qc27 c27 Nc27 bsc27 [.type "RuntimeError", .type "Exception", .type "BaseException",
      .type "object"] true
      snc27 subc27 abc27 colc27 ddc27 k0c27 k1c27 k2c27 k3c27 k5c27 "RuntimeError.__new__"))
    (sac27 : PySem.W.findIn K (.ref c27) "__setattr__" =
      some (some (.builtin "object.__setattr__")))
    (gac27 : PySem.W.findIn K (.ref c27) "__getattribute__" =
      some (some (.builtin "BaseException.__getattribute__")))
    (ggc27 : PySem.W.findIn K (.ref c27) "__getattr__" = some none)
    (hac27 : PySem.W.findIn K (.ref c27) "__class__" =
      some (some (.builtin "object.__class__")))
    (kCc27 : PySem.W.keepIn K (.ref c27) = true)
    (nc27 : PySem.W.findIn K (.ref c27) "value" = some none)
    (ag27 : PySem.W.findIn K (.ref c27) "__init__" = some (some (.ref g27)))
    (tg27 : PySem.W.typeIn K (.ref g27) = some (.type "function"))
    (lg27 : K.lookup g27 = some ⟨ocg27, odg27, .func (PySem.W.fnOf "__init__" "LastItem.__init__"
      (defArgs s_LastItem_init) (defBody s_LastItem_init) (defScope s_LastItem_init) .none kVg27 dcg27 pmg27 ang27 cdg27
      ctg27), slg27⟩)
    (cg27 : PySem.W.codeIn K cdg27 "LastItem.__init__" = true)
    (kg27 : PySem.W.keepIn K (.ref g27) = true)
    (ac28 : PySem.W.nsIn K mainGlobals "Obstructed" = some (some (.ref c28)))
    (xc28 : K.lookup c28 = some (excClassObj nmc28 qc28 c28 Nc28 bsc28 [.type "ArithmeticError", .type "Exception", .type "BaseException",
      .type "object"] true
      snc28 subc28 abc28 colc28 ddc28 k0c28 k1c28 k2c28 k3c28 k5c28 "ArithmeticError.__new__"))
    (sac28 : PySem.W.findIn K (.ref c28) "__setattr__" =
      some (some (.builtin "object.__setattr__")))
    (gac28 : PySem.W.findIn K (.ref c28) "__getattribute__" =
      some (some (.builtin "BaseException.__getattribute__")))
    (ggc28 : PySem.W.findIn K (.ref c28) "__getattr__" = some none)
    (hac28 : PySem.W.findIn K (.ref c28) "__class__" =
      some (some (.builtin "object.__class__")))
    (kCc28 : PySem.W.keepIn K (.ref c28) = true)
    (nc28 : PySem.W.findIn K (.ref c28) "obstruction" = some none)
    (ag28 : PySem.W.findIn K (.ref c28) "__init__" = some (some (.ref g28)))
    (tg28 : PySem.W.typeIn K (.ref g28) = some (.type "function"))
    (lg28 : K.lookup g28 = some ⟨ocg28, odg28, .func (PySem.W.fnOf "__init__" "Obstructed.__init__"
      (defArgs s_Obstructed_init) (defBody s_Obstructed_init) (defScope s_Obstructed_init) .none kVg28 dcg28 pmg28 ang28 cdg28
      ctg28), slg28⟩)
    (cg28 : PySem.W.codeIn K cdg28 "Obstructed.__init__" = true)
    (kg28 : PySem.W.keepIn K (.ref g28) = true)
    (ac29 : PySem.W.nsIn K mainGlobals "BrokenHistory" = some (some (.ref c29)))
    (xc29 : K.lookup c29 = some (excClassObj nmc29 qc29 c29 Nc29 bsc29 [.type "ArithmeticError", .type "Exception", .type "BaseException",
      .type "object"] true
      snc29 subc29 abc29 colc29 ddc29 k0c29 k1c29 k2c29 k3c29 k5c29 "ArithmeticError.__new__"))
    (sac29 : PySem.W.findIn K (.ref c29) "__setattr__" =
      some (some (.builtin "object.__setattr__")))
    (gac29 : PySem.W.findIn K (.ref c29) "__getattribute__" =
      some (some (.builtin "BaseException.__getattribute__")))
    (ggc29 : PySem.W.findIn K (.ref c29) "__getattr__" = some none)
    (hac29 : PySem.W.findIn K (.ref c29) "__class__" =
      some (some (.builtin "object.__class__")))
    (kCc29 : PySem.W.keepIn K (.ref c29) = true)
    (nc29 : PySem.W.findIn K (.ref c29) "count" = some none)
    (ag29 : PySem.W.findIn K (.ref c29) "__init__" = some (some (.ref g29)))
    (tg29 : PySem.W.typeIn K (.ref g29) = some (.type "function"))
    (lg29 : K.lookup g29 = some ⟨ocg29, odg29, .func (PySem.W.fnOf "__init__" "BrokenHistory.__init__"
      (defArgs s_BrokenHistory_init) (defBody s_BrokenHistory_init) (defScope s_BrokenHistory_init) .none kVg29 dcg29 pmg29 ang29 cdg29
      ctg29), slg29⟩)
    (cg29 : PySem.W.codeIn K cdg29 "BrokenHistory.__init__" = true)
    (kg29 : PySem.W.keepIn K (.ref g29) = true)
    (ac30 : PySem.W.nsIn K mainGlobals "TooManyItems" = some (some (.ref c30)))
    (xc30 : K.lookup c30 = some (excClassObj nmc30 qc30 c30 Nc30 bsc30 [.type "ArithmeticError", .type "Exception", .type "BaseException",
      .type "object"] true
      snc30 subc30 abc30 colc30 ddc30 k0c30 k1c30 k2c30 k3c30 k5c30 "ArithmeticError.__new__"))
    (sac30 : PySem.W.findIn K (.ref c30) "__setattr__" =
      some (some (.builtin "object.__setattr__")))
    (gac30 : PySem.W.findIn K (.ref c30) "__getattribute__" =
      some (some (.builtin "BaseException.__getattribute__")))
    (ggc30 : PySem.W.findIn K (.ref c30) "__getattr__" = some none)
    (hac30 : PySem.W.findIn K (.ref c30) "__class__" =
      some (some (.builtin "object.__class__")))
    (kCc30 : PySem.W.keepIn K (.ref c30) = true)
    (nc30 : PySem.W.findIn K (.ref c30) "limit" = some none)
    (ag30 : PySem.W.findIn K (.ref c30) "__init__" = some (some (.ref g30)))
    (tg30 : PySem.W.typeIn K (.ref g30) = some (.type "function"))
    (lg30 : K.lookup g30 = some ⟨ocg30, odg30, .func (PySem.W.fnOf "__init__" "TooManyItems.__init__"
      (defArgs s_TooManyItems_init) (defBody s_TooManyItems_init) (defScope s_TooManyItems_init) .none kVg30 dcg30 pmg30 ang30 cdg30
      ctg30), slg30⟩)
    (cg30 : PySem.W.codeIn K cdg30 "TooManyItems.__init__" = true)
    (kg30 : PySem.W.keepIn K (.ref g30) = true)
    (ac31 : PySem.W.nsIn K mainGlobals "DifferentOrders" = some (some (.ref c31)))
    (xc31 : K.lookup c31 = some (excClassObj nmc31 qc31 c31 Nc31 bsc31 [.type "ArithmeticError", .type "Exception", .type "BaseException",
      .type "object"] true
      snc31 subc31 abc31 colc31 ddc31 k0c31 k1c31 k2c31 k3c31 k5c31 "ArithmeticError.__new__"))
    (sac31 : PySem.W.findIn K (.ref c31) "__setattr__" =
      some (some (.builtin "object.__setattr__")))
    (gac31 : PySem.W.findIn K (.ref c31) "__getattribute__" =
      some (some (.builtin "BaseException.__getattribute__")))
    (ggc31 : PySem.W.findIn K (.ref c31) "__getattr__" = some none)
    (hac31 : PySem.W.findIn K (.ref c31) "__class__" =
      some (some (.builtin "object.__class__")))
    (kCc31 : PySem.W.keepIn K (.ref c31) = true)
    (tc31 : PySem.W.findIn K (.ref c31) "__init__" = some (some (.builtin "ArithmeticError.__init__")))
    (nd : ndB [c0, c1, c2, c3, c4, c5, c6, c7, c8, c9, c10, c11, c12, c13, c14, c15, c16, c17, c18, c19, c20, c21, c22, c23, c24, c25, c26, c27, c28, c29, c30, c31] = true)
    : ∃ fd : FuncData, (∀ (s : Shared) (v : Value),
        BindsTo s fd ⟨[v], []⟩ [("_law_script", v)]) ∧
      ∀ base : Heap, K.In base → base.Ns mainGlobals mg →
        (∃ o, base.get? sysModules = some o) →
        FnG l.prog w K mg base CX0 4 fa fd ["_law_script"] (spLaw K) := by
  cases hfa.symm.trans (PySem.W.mg_of X G af10)
  have B : Bl mg := ⟨PySem.W.mg_none_of X G zlen, PySem.W.mg_none_of X G zdivmod, PySem.W.mg_none_of X G zabs, PySem.W.mg_none_of X G zmax, PySem.W.mg_none_of X G zmin, PySem.W.mg_none_of X G zrange, PySem.W.mg_none_of X G zenumerate, PySem.W.mg_none_of X G zisinstance, PySem.W.mg_none_of X G zstr, PySem.W.mg_none_of X G zlist, PySem.W.mg_none_of X G zset, PySem.W.mg_none_of X G zall, PySem.W.mg_none_of X G zrepr⟩
  obtain ⟨d1, D1⟩ := defAt (st := s_Lrng) (ps := ["_law_script", "_law_k"]) X G af1 lf1 cf1 kf1
    fun _ _ _ _ _ _ us hl => match us, hl with | [_, _], _ => rfl
  obtain ⟨d2, D2⟩ := defAt (st := s_Ldraw) (ps := ["_law_rng_here", "_law_many"]) X G af2 lf2 cf2 kf2
    fun _ _ _ _ _ _ us hl => match us, hl with | [_, _], _ => rfl
  obtain ⟨d3, D3⟩ := defAt (st := s_Lchoice) (ps := ["_law_rng_here", "_law_options"]) X G af3 lf3 cf3 kf3
    fun _ _ _ _ _ _ us hl => match us, hl with | [_, _], _ => rfl
  obtain ⟨d4, D4⟩ := defAt (st := s_Lodd) (ps := ["_law_rng_here"]) X G af4 lf4 cf4 kf4
    fun _ _ _ _ _ _ us hl => match us, hl with | [_], _ => rfl
  obtain ⟨d5, D5⟩ := defAt (st := s_Lclasses) (ps := ["_law_e"]) X G af5 lf5 cf5 kf5
    fun _ _ _ _ _ _ us hl => match us, hl with | [_], _ => rfl
  obtain ⟨d6, D6⟩ := defAt (st := s_Lbases) (ps := ["_law_e"]) X G af6 lf6 cf6 kf6
    fun _ _ _ _ _ _ us hl => match us, hl with | [_], _ => rfl
  obtain ⟨d7, D7⟩ := defAt (st := s_Lhierarchy_right) (ps := ["_law_one", "_law_other"]) X G af7 lf7 cf7 kf7
    fun _ _ _ _ _ _ us hl => match us, hl with | [_, _], _ => rfl
  obtain ⟨d8, D8⟩ := defAt (st := s_Lattributes) (ps := ["_law_one", "_law_other"]) X G af8 lf8 cf8 kf8
    fun _ _ _ _ _ _ us hl => match us, hl with | [_, _], _ => rfl
  obtain ⟨d9, D9⟩ := defAt (st := s_Lnamed_attributes) (ps := ["_law_one", "_law_other"]) X G af9 lf9 cf9 kf9
    fun _ _ _ _ _ _ us hl => match us, hl with | [_, _], _ => rfl
  obtain ⟨d10, D10⟩ := defAt (st := s_law) (ps := ["_law_script"]) X G af10 lf10 cf10 kf10
    fun _ _ _ _ _ _ us hl => match us, hl with | [_], _ => rfl
  obtain ⟨h1, I1⟩ := xInit (q := "InvalidBase.__init__") (st := s_InvalidBase_init) (ps := ["self", "problem", "position"]) ag1 tg1 lg1 cg1 kg1
    fun _ _ _ _ _ _ us hl => match us, hl with | [_, _, _], _ => rfl
  obtain ⟨h2, I2⟩ := xInit (q := "InvalidOrder.__init__") (st := s_InvalidOrder_init) (ps := ["self", "position"]) ag2 tg2 lg2 cg2 kg2
    fun _ _ _ _ _ _ us hl => match us, hl with | [_, _], _ => rfl
  obtain ⟨h3, I3⟩ := xInit (q := "InvalidIndex.__init__") (st := s_InvalidIndex_init) (ps := ["self", "value"]) ag3 tg3 lg3 cg3 kg3
    fun _ _ _ _ _ _ us hl => match us, hl with | [_, _], _ => rfl
  obtain ⟨h4, I4⟩ := xInit (q := "InvalidReason.__init__") (st := s_InvalidReason_init) (ps := ["self", "value"]) ag4 tg4 lg4 cg4 kg4
    fun _ _ _ _ _ _ us hl => match us, hl with | [_, _], _ => rfl
  obtain ⟨h5, I5⟩ := xInit (q := "InvalidPosition.__init__") (st := s_InvalidPosition_init) (ps := ["self", "value"]) ag5 tg5 lg5 cg5 kg5
    fun _ _ _ _ _ _ us hl => match us, hl with | [_, _], _ => rfl
  obtain ⟨h6, I6⟩ := xInit (q := "InvalidCount.__init__") (st := s_InvalidCount_init) (ps := ["self", "value"]) ag6 tg6 lg6 cg6 kg6
    fun _ _ _ _ _ _ us hl => match us, hl with | [_, _], _ => rfl
  obtain ⟨h7, I7⟩ := xInit (q := "InvalidPairs.__init__") (st := s_InvalidPairs_init) (ps := ["self", "position"]) ag7 tg7 lg7 cg7 kg7
    fun _ _ _ _ _ _ us hl => match us, hl with | [_, _], _ => rfl
  obtain ⟨h8, I8⟩ := xInit (q := "InvalidEntries.__init__") (st := s_InvalidEntries_init) (ps := ["self", "position"]) ag8 tg8 lg8 cg8 kg8
    fun _ _ _ _ _ _ us hl => match us, hl with | [_, _], _ => rfl
  obtain ⟨h9, I9⟩ := xInit (q := "InvalidOrders.__init__") (st := s_InvalidOrders_init) (ps := ["self", "position"]) ag9 tg9 lg9 cg9 kg9
    fun _ _ _ _ _ _ us hl => match us, hl with | [_, _], _ => rfl
  obtain ⟨h10, I10⟩ := xInit (q := "InvalidArcs.__init__") (st := s_InvalidArcs_init) (ps := ["self", "position"]) ag10 tg10 lg10 cg10 kg10
    fun _ _ _ _ _ _ us hl => match us, hl with | [_, _], _ => rfl
  obtain ⟨h11, I11⟩ := xInit (q := "InvalidWord.__init__") (st := s_InvalidWord_init) (ps := ["self", "position"]) ag11 tg11 lg11 cg11 kg11
    fun _ _ _ _ _ _ us hl => match us, hl with | [_, _], _ => rfl
  obtain ⟨h12, I12⟩ := xInit (q := "InvalidMove.__init__") (st := s_InvalidMove_init) (ps := ["self", "value"]) ag12 tg12 lg12 cg12 kg12
    fun _ _ _ _ _ _ us hl => match us, hl with | [_, _], _ => rfl
  obtain ⟨h13, I13⟩ := xInit (q := "InvalidUsers.__init__") (st := s_InvalidUsers_init) (ps := ["self", "problem", "position"]) ag13 tg13 lg13 cg13 kg13
    fun _ _ _ _ _ _ us hl => match us, hl with | [_, _, _], _ => rfl
  obtain ⟨h14, I14⟩ := xInit (q := "InvalidMessage.__init__") (st := s_InvalidMessage_init) (ps := ["self", "position"]) ag14 tg14 lg14 cg14 kg14
    fun _ _ _ _ _ _ us hl => match us, hl with | [_, _], _ => rfl
  obtain ⟨h15, I15⟩ := xInit (q := "InvalidText.__init__") (st := s_InvalidText_init) (ps := ["self", "line"]) ag15 tg15 lg15 cg15 kg15
    fun _ _ _ _ _ _ us hl => match us, hl with | [_, _], _ => rfl
  obtain ⟨h16, I16⟩ := xInit (q := "SameItem.__init__") (st := s_SameItem_init) (ps := ["self", "value"]) ag16 tg16 lg16 cg16 kg16
    fun _ _ _ _ _ _ us hl => match us, hl with | [_, _], _ => rfl
  obtain ⟨h19, I19⟩ := xInit (q := "UnknownItem.__init__") (st := s_UnknownItem_init) (ps := ["self", "value"]) ag19 tg19 lg19 cg19 kg19
    fun _ _ _ _ _ _ us hl => match us, hl with | [_, _], _ => rfl
  obtain ⟨h20, I20⟩ := xInit (q := "UnknownUser.__init__") (st := s_UnknownUser_init) (ps := ["self", "value"]) ag20 tg20 lg20 cg20 kg20
    fun _ _ _ _ _ _ us hl => match us, hl with | [_, _], _ => rfl
  obtain ⟨h21, I21⟩ := xInit (q := "UnknownReplica.__init__") (st := s_UnknownReplica_init) (ps := ["self", "value"]) ag21 tg21 lg21 cg21 kg21
    fun _ _ _ _ _ _ us hl => match us, hl with | [_, _], _ => rfl
  obtain ⟨h22, I22⟩ := xInit (q := "UnknownMessage.__init__") (st := s_UnknownMessage_init) (ps := ["self", "value"]) ag22 tg22 lg22 cg22 kg22
    fun _ _ _ _ _ _ us hl => match us, hl with | [_, _], _ => rfl
  obtain ⟨h23, I23⟩ := xInit (q := "NotLocal.__init__") (st := s_NotLocal_init) (ps := ["self", "user"]) ag23 tg23 lg23 cg23 kg23
    fun _ _ _ _ _ _ us hl => match us, hl with | [_, _], _ => rfl
  obtain ⟨h24, I24⟩ := xInit (q := "Forked.__init__") (st := s_Forked_init) (ps := ["self", "user"]) ag24 tg24 lg24 cg24 kg24
    fun _ _ _ _ _ _ us hl => match us, hl with | [_, _], _ => rfl
  obtain ⟨h25, I25⟩ := xInit (q := "NothingToUndo.__init__") (st := s_NothingToUndo_init) (ps := ["self", "user"]) ag25 tg25 lg25 cg25 kg25
    fun _ _ _ _ _ _ us hl => match us, hl with | [_, _], _ => rfl
  obtain ⟨h26, I26⟩ := xInit (q := "NotSettled.__init__") (st := s_NotSettled_init) (ps := ["self", "replica"]) ag26 tg26 lg26 cg26 kg26
    fun _ _ _ _ _ _ us hl => match us, hl with | [_, _], _ => rfl
  obtain ⟨h27, I27⟩ := xInit (q := "LastItem.__init__") (st := s_LastItem_init) (ps := ["self", "value"]) ag27 tg27 lg27 cg27 kg27
    fun _ _ _ _ _ _ us hl => match us, hl with | [_, _], _ => rfl
  obtain ⟨h28, I28⟩ := xInit (q := "Obstructed.__init__") (st := s_Obstructed_init) (ps := ["self", "obstruction"]) ag28 tg28 lg28 cg28 kg28
    fun _ _ _ _ _ _ us hl => match us, hl with | [_, _], _ => rfl
  obtain ⟨h29, I29⟩ := xInit (q := "BrokenHistory.__init__") (st := s_BrokenHistory_init) (ps := ["self", "count"]) ag29 tg29 lg29 cg29 kg29
    fun _ _ _ _ _ _ us hl => match us, hl with | [_, _], _ => rfl
  obtain ⟨h30, I30⟩ := xInit (q := "TooManyItems.__init__") (st := s_TooManyItems_init) (ps := ["self", "limit"]) ag30 tg30 lg30 cg30 kg30
    fun _ _ _ _ _ _ us hl => match us, hl with | [_, _], _ => rfl
  have FF : F17 K mg (fun i => ([c0, c1, c2, c3, c4, c5, c6, c7, c8, c9, c10, c11, c12, c13, c14, c15, c16, c17, c18, c19, c20, c21, c22, c23, c24, c25, c26, c27, c28, c29, c30, c31] : List Addr).getD i c0) := {
    ne := fun i j hi hj e => ndB_ne (l := [c0, c1, c2, c3, c4, c5, c6, c7, c8, c9, c10, c11, c12, c13, c14, c15, c16, c17, c18, c19, c20, c21, c22, c23, c24, c25, c26, c27, c28, c29, c30, c31]) nd hi hj e
    lk := fun i hi => match i, hi with | 0, _ => ⟨_, _, _, _, _, _, _, _, _, _, _, _, _, _, xc0⟩ | 1, _ => ⟨_, _, _, _, _, _, _, _, _, _, _, _, _, _, xc1⟩ | 2, _ => ⟨_, _, _, _, _, _, _, _, _, _, _, _, _, _, xc2⟩ | 3, _ => ⟨_, _, _, _, _, _, _, _, _, _, _, _, _, _, xc3⟩ | 4, _ => ⟨_, _, _, _, _, _, _, _, _, _, _, _, _, _, xc4⟩ | 5, _ => ⟨_, _, _, _, _, _, _, _, _, _, _, _, _, _, xc5⟩ | 6, _ => ⟨_, _, _, _, _, _, _, _, _, _, _, _, _, _, xc6⟩ | 7, _ => ⟨_, _, _, _, _, _, _, _, _, _, _, _, _, _, xc7⟩ | 8, _ => ⟨_, _, _, _, _, _, _, _, _, _, _, _, _, _, xc8⟩ | 9, _ => ⟨_, _, _, _, _, _, _, _, _, _, _, _, _, _, xc9⟩ | 10, _ => ⟨_, _, _, _, _, _, _, _, _, _, _, _, _, _, xc10⟩ | 11, _ => ⟨_, _, _, _, _, _, _, _, _, _, _, _, _, _, xc11⟩ | 12, _ => ⟨_, _, _, _, _, _, _, _, _, _, _, _, _, _, xc12⟩ | 13, _ => ⟨_, _, _, _, _, _, _, _, _, _, _, _, _, _, xc13⟩ | 14, _ => ⟨_, _, _, _, _, _, _, _, _, _, _, _, _, _, xc14⟩ | 15, _ => ⟨_, _, _, _, _, _, _, _, _, _, _, _, _, _, xc15⟩ | 16, _ => ⟨_, _, _, _, _, _, _, _, _, _, _, _, _, _, xc16⟩ | 17, _ => ⟨_, _, _, _, _, _, _, _, _, _, _, _, _, _, xc17⟩ | 18, _ => ⟨_, _, _, _, _, _, _, _, _, _, _, _, _, _, xc18⟩ | 19, _ => ⟨_, _, _, _, _, _, _, _, _, _, _, _, _, _, xc19⟩ | 20, _ => ⟨_, _, _, _, _, _, _, _, _, _, _, _, _, _, xc20⟩ | 21, _ => ⟨_, _, _, _, _, _, _, _, _, _, _, _, _, _, xc21⟩ | 22, _ => ⟨_, _, _, _, _, _, _, _, _, _, _, _, _, _, xc22⟩ | 23, _ => ⟨_, _, _, _, _, _, _, _, _, _, _, _, _, _, xc23⟩ | 24, _ => ⟨_, _, _, _, _, _, _, _, _, _, _, _, _, _, xc24⟩ | 25, _ => ⟨_, _, _, _, _, _, _, _, _, _, _, _, _, _, xc25⟩ | 26, _ => ⟨_, _, _, _, _, _, _, _, _, _, _, _, _, _, xc26⟩ | 27, _ => ⟨_, _, _, _, _, _, _, _, _, _, _, _, _, _, xc27⟩ | 28, _ => ⟨_, _, _, _, _, _, _, _, _, _, _, _, _, _, xc28⟩ | 29, _ => ⟨_, _, _, _, _, _, _, _, _, _, _, _, _, _, xc29⟩ | 30, _ => ⟨_, _, _, _, _, _, _, _, _, _, _, _, _, _, xc30⟩ | 31, _ => ⟨_, _, _, _, _, _, _, _, _, _, _, _, _, _, xc31⟩ | n + 32, h => absurd h (by omega)
    sa := fun i hi => match i, hi with | 0, _ => sac0 | 1, _ => sac1 | 2, _ => sac2 | 3, _ => sac3 | 4, _ => sac4 | 5, _ => sac5 | 6, _ => sac6 | 7, _ => sac7 | 8, _ => sac8 | 9, _ => sac9 | 10, _ => sac10 | 11, _ => sac11 | 12, _ => sac12 | 13, _ => sac13 | 14, _ => sac14 | 15, _ => sac15 | 16, _ => sac16 | 17, _ => sac17 | 18, _ => sac18 | 19, _ => sac19 | 20, _ => sac20 | 21, _ => sac21 | 22, _ => sac22 | 23, _ => sac23 | 24, _ => sac24 | 25, _ => sac25 | 26, _ => sac26 | 27, _ => sac27 | 28, _ => sac28 | 29, _ => sac29 | 30, _ => sac30 | 31, _ => sac31 | n + 32, h => absurd h (by omega)
    ga := fun i hi => match i, hi with | 0, _ => gac0 | 1, _ => gac1 | 2, _ => gac2 | 3, _ => gac3 | 4, _ => gac4 | 5, _ => gac5 | 6, _ => gac6 | 7, _ => gac7 | 8, _ => gac8 | 9, _ => gac9 | 10, _ => gac10 | 11, _ => gac11 | 12, _ => gac12 | 13, _ => gac13 | 14, _ => gac14 | 15, _ => gac15 | 16, _ => gac16 | 17, _ => gac17 | 18, _ => gac18 | 19, _ => gac19 | 20, _ => gac20 | 21, _ => gac21 | 22, _ => gac22 | 23, _ => gac23 | 24, _ => gac24 | 25, _ => gac25 | 26, _ => gac26 | 27, _ => gac27 | 28, _ => gac28 | 29, _ => gac29 | 30, _ => gac30 | 31, _ => gac31 | n + 32, h => absurd h (by omega)
    gg := fun i hi => match i, hi with | 0, _ => ggc0 | 1, _ => ggc1 | 2, _ => ggc2 | 3, _ => ggc3 | 4, _ => ggc4 | 5, _ => ggc5 | 6, _ => ggc6 | 7, _ => ggc7 | 8, _ => ggc8 | 9, _ => ggc9 | 10, _ => ggc10 | 11, _ => ggc11 | 12, _ => ggc12 | 13, _ => ggc13 | 14, _ => ggc14 | 15, _ => ggc15 | 16, _ => ggc16 | 17, _ => ggc17 | 18, _ => ggc18 | 19, _ => ggc19 | 20, _ => ggc20 | 21, _ => ggc21 | 22, _ => ggc22 | 23, _ => ggc23 | 24, _ => ggc24 | 25, _ => ggc25 | 26, _ => ggc26 | 27, _ => ggc27 | 28, _ => ggc28 | 29, _ => ggc29 | 30, _ => ggc30 | 31, _ => ggc31 | n + 32, h => absurd h (by omega)
    ha := fun i hi => match i, hi with | 0, _ => hac0 | 1, _ => hac1 | 2, _ => hac2 | 3, _ => hac3 | 4, _ => hac4 | 5, _ => hac5 | 6, _ => hac6 | 7, _ => hac7 | 8, _ => hac8 | 9, _ => hac9 | 10, _ => hac10 | 11, _ => hac11 | 12, _ => hac12 | 13, _ => hac13 | 14, _ => hac14 | 15, _ => hac15 | 16, _ => hac16 | 17, _ => hac17 | 18, _ => hac18 | 19, _ => hac19 | 20, _ => hac20 | 21, _ => hac21 | 22, _ => hac22 | 23, _ => hac23 | 24, _ => hac24 | 25, _ => hac25 | 26, _ => hac26 | 27, _ => hac27 | 28, _ => hac28 | 29, _ => hac29 | 30, _ => hac30 | 31, _ => hac31 | n + 32, h => absurd h (by omega)
    kC := fun i hi => match i, hi with | 0, _ => kCc0 | 1, _ => kCc1 | 2, _ => kCc2 | 3, _ => kCc3 | 4, _ => kCc4 | 5, _ => kCc5 | 6, _ => kCc6 | 7, _ => kCc7 | 8, _ => kCc8 | 9, _ => kCc9 | 10, _ => kCc10 | 11, _ => kCc11 | 12, _ => kCc12 | 13, _ => kCc13 | 14, _ => kCc14 | 15, _ => kCc15 | 16, _ => kCc16 | 17, _ => kCc17 | 18, _ => kCc18 | 19, _ => kCc19 | 20, _ => kCc20 | 21, _ => kCc21 | 22, _ => kCc22 | 23, _ => kCc23 | 24, _ => kCc24 | 25, _ => kCc25 | 26, _ => kCc26 | 27, _ => kCc27 | 28, _ => kCc28 | 29, _ => kCc29 | 30, _ => kCc30 | 31, _ => kCc31 | n + 32, h => absurd h (by omega)
    hn := hn, ht := htk
    z_ValueError := PySem.W.mg_none_of X G zValueError
    z_LookupError := PySem.W.mg_none_of X G zLookupError
    z_RuntimeError := PySem.W.mg_none_of X G zRuntimeError
    z_ArithmeticError := PySem.W.mg_none_of X G zArithmeticError
    z_KeyError := PySem.W.mg_none_of X G zKeyError
    z_IndexError := PySem.W.mg_none_of X G zIndexError
    z_OverflowError := PySem.W.mg_none_of X G zOverflowError
    z_TypeError := PySem.W.mg_none_of X G zTypeError
    m0 := PySem.W.mg_of X G ac0
    m1 := PySem.W.mg_of X G ac1
    m2 := PySem.W.mg_of X G ac2
    m3 := PySem.W.mg_of X G ac3
    m4 := PySem.W.mg_of X G ac4
    m5 := PySem.W.mg_of X G ac5
    m6 := PySem.W.mg_of X G ac6
    m7 := PySem.W.mg_of X G ac7
    m8 := PySem.W.mg_of X G ac8
    m9 := PySem.W.mg_of X G ac9
    m10 := PySem.W.mg_of X G ac10
    m11 := PySem.W.mg_of X G ac11
    m12 := PySem.W.mg_of X G ac12
    m13 := PySem.W.mg_of X G ac13
    m14 := PySem.W.mg_of X G ac14
    m15 := PySem.W.mg_of X G ac15
    m16 := PySem.W.mg_of X G ac16
    m17 := PySem.W.mg_of X G ac17
    m18 := PySem.W.mg_of X G ac18
    m19 := PySem.W.mg_of X G ac19
    m20 := PySem.W.mg_of X G ac20
    m21 := PySem.W.mg_of X G ac21
    m22 := PySem.W.mg_of X G ac22
    m23 := PySem.W.mg_of X G ac23
    m24 := PySem.W.mg_of X G ac24
    m25 := PySem.W.mg_of X G ac25
    m26 := PySem.W.mg_of X G ac26
    m27 := PySem.W.mg_of X G ac27
    m28 := PySem.W.mg_of X G ac28
    m29 := PySem.W.mg_of X G ac29
    m30 := PySem.W.mg_of X G ac30
    m31 := PySem.W.mg_of X G ac31
    t0 := tc0
    t17 := tc17
    t18 := tc18
    t31 := tc31
    a1 := nc1
    b1 := mc1
    a2 := nc2
    a3 := nc3
    a4 := nc4
    a5 := nc5
    a6 := nc6
    a7 := nc7
    a8 := nc8
    a9 := nc9
    a10 := nc10
    a11 := nc11
    a12 := nc12
    a13 := nc13
    b13 := mc13
    a14 := nc14
    a15 := nc15
    a16 := nc16
    a19 := nc19
    a20 := nc20
    a21 := nc21
    a22 := nc22
    a23 := nc23
    a24 := nc24
    a25 := nc25
    a26 := nc26
    a27 := nc27
    a28 := nc28
    a29 := nc29
    a30 := nc30
  }
  refine ⟨d10, fun s v => D10.bt s [v] rfl, fun base _ _ sm => ?_⟩
  exact all17 B sm (e17_of FF I1 I2 I3 I4 I5 I6 I7 I8 I9 I10 I11 I12 I13 I14 I15 I16 I19 I20 I21 I22 I23 I24 I25 I26 I27 I28 I29 I30) D1 D2 D3 D4 D5 D6 D7 D8 D9 D10
end OM
open PySem PySem.W PyProof.Rows
set_option maxRecDepth 100000 in
set_option maxHeartbeats 0 in
theorem PySem.Challenge.cw_ordermerge_k17_errors_created_holds : PySem.Challenge.rw_ordermerge_k17_errors_created.Holds := by
  w_on; o_law; k_head; (case hw => w_witness2)
  k_fill
  refine OM.walkS (l := PySem.Challenge.rw_ordermerge_k17_errors_created) (n := 63) (k := 4)
    (x := "_law_script") (sp := OM.spLaw) rfl (by decide) (by decide +kernel) rfl
    ⟨rfl, by decide, by decide⟩ (fun w h Y => PySem.W.kIn_of Y) ?F
    (fun K H a ns hl _ hS => ⟨a, ns, rfl, hS, hl, fun _ => rfl⟩)
  case F =>
    intro w mg fa h KX G hmg
    refine' OM.fin17 KX G hmg ?af1
      ?lf1
      ?cf1
      ?kf1
      ?af2
      ?lf2
      ?cf2
      ?kf2
      ?af3
      ?lf3
      ?cf3
      ?kf3
      ?af4
      ?lf4
      ?cf4
      ?kf4
      ?af5
      ?lf5
      ?cf5
      ?kf5
      ?af6
      ?lf6
      ?cf6
      ?kf6
      ?af7
      ?lf7
      ?cf7
      ?kf7
      ?af8
      ?lf8
      ?cf8
      ?kf8
      ?af9
      ?lf9
      ?cf9
      ?kf9
      ?af10
      ?lf10
      ?cf10
      ?kf10
      ?hn
      ?htk
      ?zlen
      ?zdivmod
      ?zabs
      ?zmax
      ?zmin
      ?zrange
      ?zenumerate
      ?zisinstance
      ?zstr
      ?zlist
      ?zset
      ?zall
      ?zrepr
      ?zValueError
      ?zLookupError
      ?zRuntimeError
      ?zArithmeticError
      ?zKeyError
      ?zIndexError
      ?zOverflowError
      ?zTypeError
      ?ac0
      ?xc0
      ?sac0
      ?gac0
      ?ggc0
      ?hac0
      ?kCc0
      ?tc0
      ?ac1
      ?xc1
      ?sac1
      ?gac1
      ?ggc1
      ?hac1
      ?kCc1
      ?nc1
      ?mc1
      ?ag1
      ?tg1
      ?lg1
      ?cg1
      ?kg1
      ?ac2
      ?xc2
      ?sac2
      ?gac2
      ?ggc2
      ?hac2
      ?kCc2
      ?nc2
      ?ag2
      ?tg2
      ?lg2
      ?cg2
      ?kg2
      ?ac3
      ?xc3
      ?sac3
      ?gac3
      ?ggc3
      ?hac3
      ?kCc3
      ?nc3
      ?ag3
      ?tg3
      ?lg3
      ?cg3
      ?kg3
      ?ac4
      ?xc4
      ?sac4
      ?gac4
      ?ggc4
      ?hac4
      ?kCc4
      ?nc4
      ?ag4
      ?tg4
      ?lg4
      ?cg4
      ?kg4
      ?ac5
      ?xc5
      ?sac5
      ?gac5
      ?ggc5
      ?hac5
      ?kCc5
      ?nc5
      ?ag5
      ?tg5
      ?lg5
      ?cg5
      ?kg5
      ?ac6
      ?xc6
      ?sac6
      ?gac6
      ?ggc6
      ?hac6
      ?kCc6
      ?nc6
      ?ag6
      ?tg6
      ?lg6
      ?cg6
      ?kg6
      ?ac7
      ?xc7
      ?sac7
      ?gac7
      ?ggc7
      ?hac7
      ?kCc7
      ?nc7
      ?ag7
      ?tg7
      ?lg7
      ?cg7
      ?kg7
      ?ac8
      ?xc8
      ?sac8
      ?gac8
      ?ggc8
      ?hac8
      ?kCc8
      ?nc8
      ?ag8
      ?tg8
      ?lg8
      ?cg8
      ?kg8
      ?ac9
      ?xc9
      ?sac9
      ?gac9
      ?ggc9
      ?hac9
      ?kCc9
      ?nc9
      ?ag9
      ?tg9
      ?lg9
      ?cg9
      ?kg9
      ?ac10
      ?xc10
      ?sac10
      ?gac10
      ?ggc10
      ?hac10
      ?kCc10
      ?nc10
      ?ag10
      ?tg10
      ?lg10
      ?cg10
      ?kg10
      ?ac11
      ?xc11
      ?sac11
      ?gac11
      ?ggc11
      ?hac11
      ?kCc11
      ?nc11
      ?ag11
      ?tg11
      ?lg11
      ?cg11
      ?kg11
      ?ac12
      ?xc12
      ?sac12
      ?gac12
      ?ggc12
      ?hac12
      ?kCc12
      ?nc12
      ?ag12
      ?tg12
      ?lg12
      ?cg12
      ?kg12
      ?ac13
      ?xc13
      ?sac13
      ?gac13
      ?ggc13
      ?hac13
      ?kCc13
      ?nc13
      ?mc13
      ?ag13
      ?tg13
      ?lg13
      ?cg13
      ?kg13
      ?ac14
      ?xc14
      ?sac14
      ?gac14
      ?ggc14
      ?hac14
      ?kCc14
      ?nc14
      ?ag14
      ?tg14
      ?lg14
      ?cg14
      ?kg14
      ?ac15
      ?xc15
      ?sac15
      ?gac15
      ?ggc15
      ?hac15
      ?kCc15
      ?nc15
      ?ag15
      ?tg15
      ?lg15
      ?cg15
      ?kg15
      ?ac16
      ?xc16
      ?sac16
      ?gac16
      ?ggc16
      ?hac16
      ?kCc16
      ?nc16
      ?ag16
      ?tg16
      ?lg16
      ?cg16
      ?kg16
      ?ac17
      ?xc17
      ?sac17
      ?gac17
      ?ggc17
      ?hac17
      ?kCc17
      ?tc17
      ?ac18
      ?xc18
      ?sac18
      ?gac18
      ?ggc18
      ?hac18
      ?kCc18
      ?tc18
      ?ac19
      ?xc19
      ?sac19
      ?gac19
      ?ggc19
      ?hac19
      ?kCc19
      ?nc19
      ?ag19
      ?tg19
      ?lg19
      ?cg19
      ?kg19
      ?ac20
      ?xc20
      ?sac20
      ?gac20
      ?ggc20
      ?hac20
      ?kCc20
      ?nc20
      ?ag20
      ?tg20
      ?lg20
      ?cg20
      ?kg20
      ?ac21
      ?xc21
      ?sac21
      ?gac21
      ?ggc21
      ?hac21
      ?kCc21
      ?nc21
      ?ag21
      ?tg21
      ?lg21
      ?cg21
      ?kg21
      ?ac22
      ?xc22
      ?sac22
      ?gac22
      ?ggc22
      ?hac22
      ?kCc22
      ?nc22
      ?ag22
      ?tg22
      ?lg22
      ?cg22
      ?kg22
      ?ac23
      ?xc23
      ?sac23
      ?gac23
      ?ggc23
      ?hac23
      ?kCc23
      ?nc23
      ?ag23
      ?tg23
      ?lg23
      ?cg23
      ?kg23
      ?ac24
      ?xc24
      ?sac24
      ?gac24
      ?ggc24
      ?hac24
      ?kCc24
      ?nc24
      ?ag24
      ?tg24
      ?lg24
      ?cg24
      ?kg24
      ?ac25
      ?xc25
      ?sac25
      ?gac25
      ?ggc25
      ?hac25
      ?kCc25
      ?nc25
      ?ag25
      ?tg25
      ?lg25
      ?cg25
      ?kg25
      ?ac26
      ?xc26
      ?sac26
      ?gac26
      ?ggc26
      ?hac26
      ?kCc26
      ?nc26
      ?ag26
      ?tg26
      ?lg26
      ?cg26
      ?kg26
      ?ac27
      ?xc27
      ?sac27
      ?gac27
      ?ggc27
      ?hac27
      ?kCc27
      ?nc27
      ?ag27
      ?tg27
      ?lg27
      ?cg27
      ?kg27
      ?ac28
      ?xc28
      ?sac28
      ?gac28
      ?ggc28
      ?hac28
      ?kCc28
      ?nc28
      ?ag28
      ?tg28
      ?lg28
      ?cg28
      ?kg28
      ?ac29
      ?xc29
      ?sac29
      ?gac29
      ?ggc29
      ?hac29
      ?kCc29
      ?nc29
      ?ag29
      ?tg29
      ?lg29
      ?cg29
      ?kg29
      ?ac30
      ?xc30
      ?sac30
      ?gac30
      ?ggc30
      ?hac30
      ?kCc30
      ?nc30
      ?ag30
      ?tg30
      ?lg30
      ?cg30
      ?kg30
      ?ac31
      ?xc31
      ?sac31
      ?gac31
      ?ggc31
      ?hac31
      ?kCc31
      ?tc31
      ?nd
    (case af1 => k_is)
    (case lf1 => k_is)
    (case cf1 => k_is)
    (case kf1 => k_is)
    (case af2 => k_is)
    (case lf2 => k_is)
    (case cf2 => k_is)
    (case kf2 => k_is)
    (case af3 => k_is)
    (case lf3 => k_is)
    (case cf3 => k_is)
    (case kf3 => k_is)
    (case af4 => k_is)
    (case lf4 => k_is)
    (case cf4 => k_is)
    (case kf4 => k_is)
    (case af5 => k_is)
    (case lf5 => k_is)
    (case cf5 => k_is)
    (case kf5 => k_is)
    (case af6 => k_is)
    (case lf6 => k_is)
    (case cf6 => k_is)
    (case kf6 => k_is)
    (case af7 => k_is)
    (case lf7 => k_is)
    (case cf7 => k_is)
    (case kf7 => k_is)
    (case af8 => k_is)
    (case lf8 => k_is)
    (case cf8 => k_is)
    (case kf8 => k_is)
    (case af9 => k_is)
    (case lf9 => k_is)
    (case cf9 => k_is)
    (case kf9 => k_is)
    (case af10 => k_is)
    (case lf10 => k_is)
    (case cf10 => k_is)
    (case kf10 => k_is)
    (case hn => k_is)
    (case htk => k_is)
    (case zlen => k_is)
    (case zdivmod => k_is)
    (case zabs => k_is)
    (case zmax => k_is)
    (case zmin => k_is)
    (case zrange => k_is)
    (case zenumerate => k_is)
    (case zisinstance => k_is)
    (case zstr => k_is)
    (case zlist => k_is)
    (case zset => k_is)
    (case zall => k_is)
    (case zrepr => k_is)
    (case zValueError => k_is)
    (case zLookupError => k_is)
    (case zRuntimeError => k_is)
    (case zArithmeticError => k_is)
    (case zKeyError => k_is)
    (case zIndexError => k_is)
    (case zOverflowError => k_is)
    (case zTypeError => k_is)
    (case ac0 => k_is)
    (case xc0 => k_is)
    (case sac0 => k_is)
    (case gac0 => k_is)
    (case ggc0 => k_is)
    (case hac0 => k_is)
    (case kCc0 => k_is)
    (case tc0 => k_is)
    (case ac1 => k_is)
    (case xc1 => k_is)
    (case sac1 => k_is)
    (case gac1 => k_is)
    (case ggc1 => k_is)
    (case hac1 => k_is)
    (case kCc1 => k_is)
    (case nc1 => k_is)
    (case mc1 => k_is)
    (case ag1 => k_is)
    (case tg1 => k_is)
    (case lg1 => k_is)
    (case cg1 => k_is)
    (case kg1 => k_is)
    (case ac2 => k_is)
    (case xc2 => k_is)
    (case sac2 => k_is)
    (case gac2 => k_is)
    (case ggc2 => k_is)
    (case hac2 => k_is)
    (case kCc2 => k_is)
    (case nc2 => k_is)
    (case ag2 => k_is)
    (case tg2 => k_is)
    (case lg2 => k_is)
    (case cg2 => k_is)
    (case kg2 => k_is)
    (case ac3 => k_is)
    (case xc3 => k_is)
    (case sac3 => k_is)
    (case gac3 => k_is)
    (case ggc3 => k_is)
    (case hac3 => k_is)
    (case kCc3 => k_is)
    (case nc3 => k_is)
    (case ag3 => k_is)
    (case tg3 => k_is)
    (case lg3 => k_is)
    (case cg3 => k_is)
    (case kg3 => k_is)
    (case ac4 => k_is)
    (case xc4 => k_is)
    (case sac4 => k_is)
    (case gac4 => k_is)
    (case ggc4 => k_is)
    (case hac4 => k_is)
    (case kCc4 => k_is)
    (case nc4 => k_is)
    (case ag4 => k_is)
    (case tg4 => k_is)
    (case lg4 => k_is)
    (case cg4 => k_is)
    (case kg4 => k_is)
    (case ac5 => k_is)
    (case xc5 => k_is)
    (case sac5 => k_is)
    (case gac5 => k_is)
    (case ggc5 => k_is)
    (case hac5 => k_is)
    (case kCc5 => k_is)
    (case nc5 => k_is)
    (case ag5 => k_is)
    (case tg5 => k_is)
    (case lg5 => k_is)
    (case cg5 => k_is)
    (case kg5 => k_is)
    (case ac6 => k_is)
    (case xc6 => k_is)
    (case sac6 => k_is)
    (case gac6 => k_is)
    (case ggc6 => k_is)
    (case hac6 => k_is)
    (case kCc6 => k_is)
    (case nc6 => k_is)
    (case ag6 => k_is)
    (case tg6 => k_is)
    (case lg6 => k_is)
    (case cg6 => k_is)
    (case kg6 => k_is)
    (case ac7 => k_is)
    (case xc7 => k_is)
    (case sac7 => k_is)
    (case gac7 => k_is)
    (case ggc7 => k_is)
    (case hac7 => k_is)
    (case kCc7 => k_is)
    (case nc7 => k_is)
    (case ag7 => k_is)
    (case tg7 => k_is)
    (case lg7 => k_is)
    (case cg7 => k_is)
    (case kg7 => k_is)
    (case ac8 => k_is)
    (case xc8 => k_is)
    (case sac8 => k_is)
    (case gac8 => k_is)
    (case ggc8 => k_is)
    (case hac8 => k_is)
    (case kCc8 => k_is)
    (case nc8 => k_is)
    (case ag8 => k_is)
    (case tg8 => k_is)
    (case lg8 => k_is)
    (case cg8 => k_is)
    (case kg8 => k_is)
    (case ac9 => k_is)
    (case xc9 => k_is)
    (case sac9 => k_is)
    (case gac9 => k_is)
    (case ggc9 => k_is)
    (case hac9 => k_is)
    (case kCc9 => k_is)
    (case nc9 => k_is)
    (case ag9 => k_is)
    (case tg9 => k_is)
    (case lg9 => k_is)
    (case cg9 => k_is)
    (case kg9 => k_is)
    (case ac10 => k_is)
    (case xc10 => k_is)
    (case sac10 => k_is)
    (case gac10 => k_is)
    (case ggc10 => k_is)
    (case hac10 => k_is)
    (case kCc10 => k_is)
    (case nc10 => k_is)
    (case ag10 => k_is)
    (case tg10 => k_is)
    (case lg10 => k_is)
    (case cg10 => k_is)
    (case kg10 => k_is)
    (case ac11 => k_is)
    (case xc11 => k_is)
    (case sac11 => k_is)
    (case gac11 => k_is)
    (case ggc11 => k_is)
    (case hac11 => k_is)
    (case kCc11 => k_is)
    (case nc11 => k_is)
    (case ag11 => k_is)
    (case tg11 => k_is)
    (case lg11 => k_is)
    (case cg11 => k_is)
    (case kg11 => k_is)
    (case ac12 => k_is)
    (case xc12 => k_is)
    (case sac12 => k_is)
    (case gac12 => k_is)
    (case ggc12 => k_is)
    (case hac12 => k_is)
    (case kCc12 => k_is)
    (case nc12 => k_is)
    (case ag12 => k_is)
    (case tg12 => k_is)
    (case lg12 => k_is)
    (case cg12 => k_is)
    (case kg12 => k_is)
    (case ac13 => k_is)
    (case xc13 => k_is)
    (case sac13 => k_is)
    (case gac13 => k_is)
    (case ggc13 => k_is)
    (case hac13 => k_is)
    (case kCc13 => k_is)
    (case nc13 => k_is)
    (case mc13 => k_is)
    (case ag13 => k_is)
    (case tg13 => k_is)
    (case lg13 => k_is)
    (case cg13 => k_is)
    (case kg13 => k_is)
    (case ac14 => k_is)
    (case xc14 => k_is)
    (case sac14 => k_is)
    (case gac14 => k_is)
    (case ggc14 => k_is)
    (case hac14 => k_is)
    (case kCc14 => k_is)
    (case nc14 => k_is)
    (case ag14 => k_is)
    (case tg14 => k_is)
    (case lg14 => k_is)
    (case cg14 => k_is)
    (case kg14 => k_is)
    (case ac15 => k_is)
    (case xc15 => k_is)
    (case sac15 => k_is)
    (case gac15 => k_is)
    (case ggc15 => k_is)
    (case hac15 => k_is)
    (case kCc15 => k_is)
    (case nc15 => k_is)
    (case ag15 => k_is)
    (case tg15 => k_is)
    (case lg15 => k_is)
    (case cg15 => k_is)
    (case kg15 => k_is)
    (case ac16 => k_is)
    (case xc16 => k_is)
    (case sac16 => k_is)
    (case gac16 => k_is)
    (case ggc16 => k_is)
    (case hac16 => k_is)
    (case kCc16 => k_is)
    (case nc16 => k_is)
    (case ag16 => k_is)
    (case tg16 => k_is)
    (case lg16 => k_is)
    (case cg16 => k_is)
    (case kg16 => k_is)
    (case ac17 => k_is)
    (case xc17 => k_is)
    (case sac17 => k_is)
    (case gac17 => k_is)
    (case ggc17 => k_is)
    (case hac17 => k_is)
    (case kCc17 => k_is)
    (case tc17 => k_is)
    (case ac18 => k_is)
    (case xc18 => k_is)
    (case sac18 => k_is)
    (case gac18 => k_is)
    (case ggc18 => k_is)
    (case hac18 => k_is)
    (case kCc18 => k_is)
    (case tc18 => k_is)
    (case ac19 => k_is)
    (case xc19 => k_is)
    (case sac19 => k_is)
    (case gac19 => k_is)
    (case ggc19 => k_is)
    (case hac19 => k_is)
    (case kCc19 => k_is)
    (case nc19 => k_is)
    (case ag19 => k_is)
    (case tg19 => k_is)
    (case lg19 => k_is)
    (case cg19 => k_is)
    (case kg19 => k_is)
    (case ac20 => k_is)
    (case xc20 => k_is)
    (case sac20 => k_is)
    (case gac20 => k_is)
    (case ggc20 => k_is)
    (case hac20 => k_is)
    (case kCc20 => k_is)
    (case nc20 => k_is)
    (case ag20 => k_is)
    (case tg20 => k_is)
    (case lg20 => k_is)
    (case cg20 => k_is)
    (case kg20 => k_is)
    (case ac21 => k_is)
    (case xc21 => k_is)
    (case sac21 => k_is)
    (case gac21 => k_is)
    (case ggc21 => k_is)
    (case hac21 => k_is)
    (case kCc21 => k_is)
    (case nc21 => k_is)
    (case ag21 => k_is)
    (case tg21 => k_is)
    (case lg21 => k_is)
    (case cg21 => k_is)
    (case kg21 => k_is)
    (case ac22 => k_is)
    (case xc22 => k_is)
    (case sac22 => k_is)
    (case gac22 => k_is)
    (case ggc22 => k_is)
    (case hac22 => k_is)
    (case kCc22 => k_is)
    (case nc22 => k_is)
    (case ag22 => k_is)
    (case tg22 => k_is)
    (case lg22 => k_is)
    (case cg22 => k_is)
    (case kg22 => k_is)
    (case ac23 => k_is)
    (case xc23 => k_is)
    (case sac23 => k_is)
    (case gac23 => k_is)
    (case ggc23 => k_is)
    (case hac23 => k_is)
    (case kCc23 => k_is)
    (case nc23 => k_is)
    (case ag23 => k_is)
    (case tg23 => k_is)
    (case lg23 => k_is)
    (case cg23 => k_is)
    (case kg23 => k_is)
    (case ac24 => k_is)
    (case xc24 => k_is)
    (case sac24 => k_is)
    (case gac24 => k_is)
    (case ggc24 => k_is)
    (case hac24 => k_is)
    (case kCc24 => k_is)
    (case nc24 => k_is)
    (case ag24 => k_is)
    (case tg24 => k_is)
    (case lg24 => k_is)
    (case cg24 => k_is)
    (case kg24 => k_is)
    (case ac25 => k_is)
    (case xc25 => k_is)
    (case sac25 => k_is)
    (case gac25 => k_is)
    (case ggc25 => k_is)
    (case hac25 => k_is)
    (case kCc25 => k_is)
    (case nc25 => k_is)
    (case ag25 => k_is)
    (case tg25 => k_is)
    (case lg25 => k_is)
    (case cg25 => k_is)
    (case kg25 => k_is)
    (case ac26 => k_is)
    (case xc26 => k_is)
    (case sac26 => k_is)
    (case gac26 => k_is)
    (case ggc26 => k_is)
    (case hac26 => k_is)
    (case kCc26 => k_is)
    (case nc26 => k_is)
    (case ag26 => k_is)
    (case tg26 => k_is)
    (case lg26 => k_is)
    (case cg26 => k_is)
    (case kg26 => k_is)
    (case ac27 => k_is)
    (case xc27 => k_is)
    (case sac27 => k_is)
    (case gac27 => k_is)
    (case ggc27 => k_is)
    (case hac27 => k_is)
    (case kCc27 => k_is)
    (case nc27 => k_is)
    (case ag27 => k_is)
    (case tg27 => k_is)
    (case lg27 => k_is)
    (case cg27 => k_is)
    (case kg27 => k_is)
    (case ac28 => k_is)
    (case xc28 => k_is)
    (case sac28 => k_is)
    (case gac28 => k_is)
    (case ggc28 => k_is)
    (case hac28 => k_is)
    (case kCc28 => k_is)
    (case nc28 => k_is)
    (case ag28 => k_is)
    (case tg28 => k_is)
    (case lg28 => k_is)
    (case cg28 => k_is)
    (case kg28 => k_is)
    (case ac29 => k_is)
    (case xc29 => k_is)
    (case sac29 => k_is)
    (case gac29 => k_is)
    (case ggc29 => k_is)
    (case hac29 => k_is)
    (case kCc29 => k_is)
    (case nc29 => k_is)
    (case ag29 => k_is)
    (case tg29 => k_is)
    (case lg29 => k_is)
    (case cg29 => k_is)
    (case kg29 => k_is)
    (case ac30 => k_is)
    (case xc30 => k_is)
    (case sac30 => k_is)
    (case gac30 => k_is)
    (case ggc30 => k_is)
    (case hac30 => k_is)
    (case kCc30 => k_is)
    (case nc30 => k_is)
    (case ag30 => k_is)
    (case tg30 => k_is)
    (case lg30 => k_is)
    (case cg30 => k_is)
    (case kg30 => k_is)
    (case ac31 => k_is)
    (case xc31 => k_is)
    (case sac31 => k_is)
    (case gac31 => k_is)
    (case ggc31 => k_is)
    (case hac31 => k_is)
    (case kCc31 => k_is)
    (case tc31 => k_is)
    (case nd => first | rfl | decide | kernel_rfl)
