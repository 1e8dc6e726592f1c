import PyProof.Rows.All
import Wide.All
import OpenK.AllK
import Wide.FinOn
import HandS.ForMost
import HandS.Codes
import HandS.FStr
import HandS.Exc
import HandS.ExcInit
import HandS.ExcField
import HandS.IsInst
import HandS.TryOnly
import HandS.WordsExc
import KE.KExcIs
import HandS.CallSlots
import HandS.Dict
import HandS.ExcCtx
import HandS.SuiteRaise
import HandS.RaiseFrom
import HandS.ExcInitHot
import PyProof.ListStr
import HandS.EndTab
import HandS.Walk
import HandS.SetKeys
import HandS.DictComp
import HandS.More
import HandS.Lambda
import PySem.Challenge.RW_ordermerge_k16_whole_texts_corrupted
set_option Elab.async false
set_option linter.all false
set_option maxRecDepth 100000
set_option maxHeartbeats 8000000
/-! a def's promise where no repr is under way -/
namespace OM
open PySem PySem.Spec PyProof.Rows L2

/-- FnOk, for callers around whom nothing is being shown -/
structure FnG (P : Program) (w : World) (K : PySem.W.Frag)
    (mg : Str → Option Value) (base : Heap) (CX : CXT)
    (k : Nat) (f : Addr) (fd : FuncData) (ps : List Str) (sp : Sp) : Prop where
  len : ∀ vs H Q E, sp vs H Q E → vs.length = ps.length
  run : ∀ (A : Around) (outer : List Env) (s : Shared) (H : Hp)
      (args : Args) (us : List Value) (vs : List V) (Q : VK) (E : XK),
    Room k A → A.guards = some [] →
    Env0 P w K mg base A outer s H →
    BindsTo s fd args (ps.zip us) → Vals vs us → sp vs H Q E →
    codeAny (model P w) A (.call (.ref f) args)
      (CR CX outer P w H s Q E) s

section
variable {P : Program} {w : World} {K : PySem.W.Frag}
  {mg : Str → Option Value} {base : Heap} {CX : CXT}
theorem FnG.ofOk {k : Nat} {f : Addr} {fd : FuncData} {ps : List Str} {sp : Sp}
    (F : FnOk P w K mg base CX k f fd ps sp) :
    FnG P w K mg base CX k f fd ps sp :=
  ⟨F.len, fun A o s H ar us vs Q E r _ e b v z =>
    F.run A o s H ar us vs Q E r e b v z⟩

theorem FnG.mk' {k : Nat} {f : Addr} {nm qual : Str} {pr : Arguments}
    {bd : List Stmt} {sc : Scope} {dV kV dc pm cv ct oc : Value}
    {an od : Option Addr} {sl : Array (Option Value)} {N ps : List Str} {sp : Sp}
    (lk : K.lookup f = some ⟨oc, od,
      .func (PySem.W.fnOf nm qual pr bd sc dV kV dc pm an cv ct), sl⟩)
    (hc : PySem.W.codeIn K cv qual = true) (S : FnScope N ps sc)
    (len : ∀ vs H Q E, sp vs H Q E → vs.length = ps.length)
    (body : ∀ (A : Around) (outer : List Env) (s : Shared) (H : Hp)
        (vs : List V) (Q : VK) (E : XK),
      Room k (A.deeper (envOfC qual sc s.heap.objs.size f cv)) →
      A.guards = some [] → sp vs H Q E →
      ∃ t, PSs (cxOf CX P w K mg base N qual sc f cv A outer s H E) bd t ∧
        t { nx := fun _ H' => Q .non H', rt := Q } (start N vs) H) :
    FnG P w K mg base CX (k + 1) f
      (PySem.W.fnOf nm qual pr bd sc dV kV dc pm an cv ct) ps sp := by
  refine ⟨len, ?_⟩
  intro A outer s H args us vs Q E room gd env bnd rel hsp
  have kin : K.In s.heap :=
    env.mod.kin.keeps fun b o q => (env.bs b o q).1
  have nol : s.heap.NoLimit :=
    env.mod.nolimit.keeps fun b o q => (env.bs b o q).1
  have kinds : ∀ y ∈ ps.zip us, sc.names.lookup y.1 = some .local ∨
      (sc.names.lookup y.1 = some .cell ∧
        ((cellsFrom (s.heap.objs.size + 1) sc.names []).lookup y.1).isSome
          = true) := by
    rintro ⟨n, v⟩ hy
    cases S.par n (List.of_mem_zip hy).1 with
    | inl q => exact Or.inl q
    | inr q => exact Or.inr ⟨q, PySem.W.cellsFrom_some _ _ _ (.inl q)⟩
  refine codeAny_call_function room.depth (kin _ _ lk) rfl S.co S.gen rfl
    (PySem.W.codeRec_of kin hc) (bnd _ _ _ _ ?_)
  refine wpAny_newFunctionEnv_cells S.kind kinds ?_
  intro env' he s1 x
  subst he
  refine ⟨nol.keeps x.toInCall.keep, codeAny_func ?_⟩
  obtain ⟨t, ht, hq⟩ := body A outer s H vs Q E (room.deeper _) gd hsp
  have I := inv_start (CX := CX) (E := E) S room.hd env
    (len _ _ _ _ hsp) rel x
  refine wpAny_mono (ht.run [] s1 (start N vs) H _ I hq) ?_
    (fun e s' z => z)
  intro fl s' hs
  cases fl with
  | ret u =>
    obtain ⟨v, σ', H', J, rv, q⟩ := hs
    exact ⟨v, H', J.os, J.bare, J.base, J.hok, rv, q⟩
  | next =>
    obtain ⟨σ', H', J, q⟩ := hs
    exact ⟨V.non, H', J.os, J.bare, J.base, J.hok, rfl, q⟩
  | brk => exact (hs.choose_spec.choose_spec.2 : False).elim
  | cont => exact (hs.choose_spec.choose_spec.2 : False).elim

/-- a def of the text, by its body -/
theorem okG {x qual : Str} {st : Stmt} {f : Addr} {fd : FuncData}
    {N ps : List Str} {k : Nat} {sp : Sp} (F : Fun K x qual st f fd)
    (S : FnScope N ps (defScope st))
    (len : ∀ vs H Q E, sp vs H Q E → vs.length = ps.length)
    (body : ∀ (cv : Value) (A : Around) (outer : List Env) (s : Shared)
        (H : Hp) (vs : List V) (Q : VK) (E : XK),
      Room k (A.deeper (envOfC qual (defScope st) s.heap.objs.size f cv)) →
      A.guards = some [] → sp vs H Q E →
      ∃ t, PSs (cxOf CX0 P w K mg base N qual (defScope st) f cv A
          outer s H E).nox (defBody st) t ∧
        t { nx := fun _ H' => Q .non H', rt := Q } (start N vs) H) :
    FnG P w K mg base CX0 (k + 1) f fd ps sp := by
  obtain ⟨oc, od, kV, dc, pm, an, cv, ct, sl, rfl, lk, hc⟩ := F.ex
  refine FnG.mk' lk hc S len ?_
  intro A outer s H vs Q E room gd hsp
  obtain ⟨t, h, q⟩ := body cv A outer s H vs Q E room gd hsp
  exact ⟨t, h.nox, q⟩
end

section
variable {X : Cx} {CX : CXT} {k : Nat} {f : Addr} {fd : FuncData}
  {ps : List Str} {sp : Sp} {dvs : List V} {ds : List Value} {E : XK}
theorem runG {pins : List (Addr × Obj)} {σ : L2.St} {H : Hp} {s : Shared}
    {Q : VK} {us : List Value} {vs : List V}
    (F : FnG X.prog X.w X.K X.mg X.base CX k f fd ps sp)
    (room : Room k X.A) (gd : X.A.guards = some [])
    (hb : Binds X.K fd ps ds) (hd : Vals dvs ds) (hx : Passes CX X E)
    (I : Inv X pins σ H s) (r : Vals vs us) (h : sp (vs ++ dvs) H Q E) :
    wpAny (model X.prog X.w) X.A (call (.ref f) us) (EP X pins σ Q) X.xe s := by
  have rr := r.append hd
  have hl : (us ++ ds).length = ps.length :=
    rr.length.symm.trans (F.len _ _ _ _ h)
  refine wpAny_call (codeAny_mono (F.run X.A X.stack s H ⟨us, []⟩ (us ++ ds)
    (vs ++ dvs) Q E room gd I.env0 (hb s us I.kIn hl) rr h) ?_)
  intro r s' hq
  match r, hq with
  | .error e, hq => exact hx pins σ H s e s' I hq
  | .ok (.ret u), hq => exact I.after hq
  | .ok .next, hq => exact False.elim hq
  | .ok .brk, hq => exact False.elim hq
  | .ok .cont, hq => exact False.elim hq

theorem pe_callG {x : Str} {p pos : Pos} {e : Expr} {es : List Expr} {t : TA}
    (F : FnG X.prog X.w X.K X.mg X.base CX k f fd ps sp)
    (room : Room k X.A) (gd : X.A.guards = some []) (hg : Gl X x)
    (hm : X.mg x = some (.ref f)) (hk : PySem.W.keepIn X.K (.ref f) = true)
    (hb : Binds X.K fd ps ds) (hd : Vals dvs ds) (hx : Passes CX X E)
    (ha : PA X (e :: es) t)
    (h1 : (x == ("__debug__" : Str)) = false := by decide)
    (h2 : starEach (e :: es) X.env =
      (false, eval e X.env) :: starEach es X.env := by rfl)
    (h3 : (backTo pos (starEach es X.env)).any (·.1) = false := by rfl) :
    PE X (.Call (.Name x p) (e :: es) [] pos) (tCall sp dvs E t) := by
  constructor
  intro pins s σ H Q I h
  refine wpAny_Call_Name_kw (ld_glob I hg hm ?_ h1)
  refine PySem.W.callWith_K (h₀ := X.base) I.ok.mod.kin hk
    (thn (ha.run pos pins s σ H _ I h) ?_) h2 h3
  rintro us s1 ⟨vs, H1, I1, r, q⟩
  exact ⟨I1.kIn, runG F room gd hb hd hx I1 r q⟩
end

/-! ### repr of data -/
section
variable {X : Cx}
theorem DpAll.noDict : ∀ {K : PySem.W.Frag} {H : Hp} (ds : List PyData)
    {vs : List V}, (∀ d ∈ ds, ∀ v, Dp K H v d → d.hasDict = false) →
    DpAll K H vs ds → PyData.hasDictAll ds = false
  | _, _, [], _, _, _ => by simp only [PyData.hasDictAll]
  | _, _, d :: ds, _, f, h => by
    cases h with
    | cons h1 h2 =>
      simp only [PyData.hasDictAll]
      rw [f d List.mem_cons_self _ h1,
        DpAll.noDict ds (fun e he => f e (List.mem_cons_of_mem _ he)) h2]
      rfl
mutual
theorem Dp.noDict {K : PySem.W.Frag} {H : Hp} :
    ∀ (d : PyData) {v : V}, Dp K H v d → d.hasDict = false
  | .none, _, _ => by simp only [PyData.hasDict]
  | .bool _, _, _ => by simp only [PyData.hasDict]
  | .int _, _, _ => by simp only [PyData.hasDict]
  | .str _, _, _ => by simp only [PyData.hasDict]
  | .list ds, _, h => by
    cases h with
    | lst _ h => simp only [PyData.hasDict]; exact Dp.noDicts ds h
  | .tuple ds, _, h => by
    cases h with
    | tup _ h => simp only [PyData.hasDict]; exact Dp.noDicts ds h
  | .dict _, _, h => by cases h
theorem Dp.noDicts {K : PySem.W.Frag} {H : Hp} :
    ∀ (ds : List PyData) {vs : List V}, DpAll K H vs ds →
      PyData.hasDictAll ds = false
  | [], _, _ => by simp only [PyData.hasDictAll]
  | d :: ds, _, h => by
    cases h with
    | cons h1 h2 =>
      simp only [PyData.hasDictAll]
      rw [Dp.noDict d h1, Dp.noDicts ds h2]
      rfl
end
/-- repr(x) of data without dicts -/
def rRepr (K : PySem.W.Frag) : List V → Hp → VK → Prop := fun xs H Q =>
  ∃ v d, xs = [v] ∧ Dp K H v d ∧ d.showable = true ∧ d.depth ≤ 60 ∧
    d.shown.length ≤ sizeLine ∧ Q (.str d.shown) H
theorem call_reprD {k : Nat} (room : Room k X.A)
    (gd : X.A.guards = some []) :
    CallR X (.builtin "repr") (rRepr X.K) := by
  intro pins s σ H xs us Q I r h
  obtain ⟨v, d, rfl, hd, sh, dp, sz, q⟩ := h
  cases r with
  | cons rv rn =>
    cases rn
    rename_i u
    obtain ⟨as, rd⟩ := Dp.reads I d v u hd rv
    have un := room.units
    cases hd with
    | non =>
      cases rv
      exact PySem.P.repr_of_none ⟨.str _, H, I.tok _, ⟨_, rfl⟩, q⟩
    | bl b =>
      cases rv
      exact PySem.P.repr_of_bool ⟨.str _, H, I.tok _, ⟨_, rfl⟩, q⟩
    | int i =>
      obtain ⟨t, rfl⟩ := rv
      refine PySem.P.repr_of_int ?_ ⟨.str _, H, I.tok _, ⟨_, rfl⟩, q⟩
      simpa [PyData.showable] using sh
    | str x =>
      obtain ⟨t, rfl⟩ := rv
      exact PySem.P.repr_of_str ⟨.str _, H, I.tok _, ⟨_, rfl⟩, q⟩ sz
    | lst a b =>
      cases rv
      refine repr_of_reads' rd sh (PyData.noDict_hsm
        (Dp.noDict _ (Dp.lst a b))) gd (by omega) (fun _ _ e => e)
        (fun h' u tk hk => ?_) sz
      exact ⟨.str _, H, I.kept hk, ⟨_, rfl⟩, q⟩
    | tup a b =>
      cases rv
      refine repr_of_reads' rd sh (PyData.noDict_hsm
        (Dp.noDict _ (Dp.tup a b))) gd (by omega) (fun _ _ e => e)
        (fun h' u tk hk => ?_) sz
      exact ⟨.str _, H, I.kept hk, ⟨_, rfl⟩, q⟩
end
end OM
namespace OM
open PySem PySem.Spec PyProof.Rows L2

/-- the law's call, nothing being shown around it -/
theorem lawG {P : Program} {w : World} {K : PySem.W.Frag}
    {mg mb : Str → Option Value} {k : Nat} {fa a : Addr} {fd : FuncData}
    {x : Str} {sp : Sp} {s1 : Shared} {vs : List Value} {ns : List Int}
    (kin : K.In s1.heap) (glob : s1.heap.Ns mainGlobals mg)
    (blt : s1.heap.Ns builtinsNs mb)
    (boot : ∀ x : Str, x ≠ "__name__" → mb x = bootBuiltins x)
    (nol : s1.heap.NoLimit) (gens : s1.gens = #[])
    (ha : s1.heap.get? a =
      some { cls := .type "list", data := .seq vs.toArray })
    (hints : IntsAre vs ns) (hl : ns.length ≤ sizeLine)
    (room : Room k callerA)
    (F : ∀ base : Heap, K.In base → base.Ns mainGlobals mg →
      FnG P w K mg base CX0 k fa fd [x] sp)
    (bind : ∀ (s : Shared) (u : Value), BindsTo s fd ⟨[u], []⟩ [(x, u)])
    (hsp : ∀ H : Hp, Only H → SqL K H a (ns.map V.int) →
      sp [.ref a] H (fun v _ => v = .bl true) E0) :
    codeAny (model P w) callerA (.call (.ref fa) ⟨[.ref a], []⟩)
      (fun r s' => r = .ok (.ret (.bool true)) ∧ OldK s1.heap s'.heap ∧
        s'.os = s1.os ∧ AllBare s'.gens) s1 := by
  have rel := vals_ints hints
  have lv := hints.length
  -- H tracks the script alone, or nothing
  suffices core : ∀ H : Hp, Only H → SqL K H a (ns.map V.int) →
      HOk P w H s1.heap → (∀ b, H b ≠ none → b = a) →
      (H a ≠ none → K.lookup a = none) →
      codeAny (model P w) callerA (.call (.ref fa) ⟨[.ref a], []⟩)
        (fun r s' => r = .ok (.ret (.bool true)) ∧ OldK s1.heap s'.heap ∧
          s'.os = s1.os ∧ AllBare s'.gens) s1 by
    by_cases hk : ∃ o, K.lookup a = some o
    · obtain ⟨o, hk⟩ := hk
      have e := kin a o hk
      rw [ha] at e
      cases e
      refine core (fun _ => none) (fun _ => Or.inl rfl) (Or.inr ?_)
        (fun b u z => ?_) (fun b z => absurd rfl z) (fun z => absurd rfl z)
      · exact ⟨_, vs.toArray, _, hk, rfl, rfl, rfl,
          by rw [List.size_toArray, lv]; exact hl, by simpa using rel⟩
      · cases (show (none : Option HO) = some u from z)
    · have hk : K.lookup a = none := by
        cases q : K.lookup a with
        | none => rfl
        | some o => exact absurd ⟨o, q⟩ hk
      let ob : Obj := { cls := .type "list", data := .seq vs.toArray }
      refine core (fun b => if b = a then
          some (.frz ob (.lst (ns.map V.int))) else none)
        (fun b => ?_) (Or.inl (Or.inr ⟨ob, if_pos rfl⟩))
        (fun b u z => ?_) (fun b z => ?_) (fun _ => hk)
      · by_cases hb : b = a
        · exact Or.inr ⟨_, _, if_pos hb⟩
        · exact Or.inl (if_neg hb)
      · by_cases hb : b = a
        · cases (if_pos hb).symm.trans z
          subst hb
          exact ⟨ha, by rw [List.length_map]; exact hl, vs, _, rel, ha⟩
        · cases (if_neg hb).symm.trans z
      · by_cases hb : b = a
        · exact hb
        · exact absurd (if_neg hb) z
  intro H only sq ok alone notK
  have untracked : ∀ {b : Addr} {o : Obj}, s1.heap.get? b = some o →
      (∀ z, o.data ≠ .seq z 0) → H b = none := by
    intro b o e d
    cases q : H b with
    | none => rfl
    | some u =>
      have z : b = a := alone b (by rw [q]; exact nofun)
      subst z
      rw [ha] at e
      cases e
      exact absurd rfl (d _)
  have ns' : ∀ {b : Addr} {m : Str → Option Value}, s1.heap.Ns b m →
      (hidT s1.heap H).Ns b m := by
    rintro b m ⟨o, es, ep, e, d, r⟩
    refine ⟨o, es, ep, hidT_get e (untracked e fun z y => ?_), d, r⟩
    cases d.symm.trans y
  have kin' : K.In (hidT s1.heap H) := by
    intro b o e
    refine hidT_get (kin b o e) ?_
    cases q : H b with
    | none => rfl
    | some u =>
      have z : b = a := alone b (by rw [q]; exact nofun)
      subst z
      rw [notK (by rw [q]; exact nofun)] at e
      cases e
  have md : Mod K mg (hidT s1.heap H) := by
    obtain ⟨mc, h1, h2⟩ := nol
    exact ⟨kin', ns' glob, ⟨mb, ns' blt, boot⟩, ⟨mc, ns' h1, h2⟩⟩
  have env : Env0 P w K mg (hidT s1.heap H) callerA [] s1 H :=
    ⟨rfl, md, fun b o e => of_hidT e, Nat.le_of_eq (hidT_size _ _), trivial,
      fun b hb => (nomatch (show b ∈ ([] : List Addr) from hb)), ok,
      .of_eq gens⟩
  refine codeAny_mono ((F _ kin' (ns' glob)).run callerA [] s1 H ⟨[.ref a], []⟩
    [.ref a] [.ref a] _ _ room rfl env (bind s1 (.ref a)) (.cons rfl .nil)
    (hsp H only sq)) ?_
  intro r s' h
  match r, h with
  | .error e, h => exact False.elim h
  | .ok .next, h => exact False.elim h
  | .ok .brk, h => exact False.elim h
  | .ok .cont, h => exact False.elim h
  | .ok (.ret u), h =>
    obtain ⟨v, H', os, bare, un, ok', rv, q⟩ := h
    cases (show v = .bl true from q)
    cases (show u = Value.bool true from rv)
    refine ⟨rfl, OldK.of_keep fun b o e => ?_, os, bare⟩
    cases q : H b with
    | none =>
      exact un.keep b o e q
        (fun z => nomatch (show b ∈ ([] : List Addr) from z)) (by simp)
    | some u =>
      cases only b with
      | inl z => rw [q] at z; cases z
      | inr z =>
        obtain ⟨ob, xs, z⟩ := z
        have e1 := (ok b _ z).1
        have e2 := (ok' b _ (un.frzs b ob _ z)).1
        rw [e] at e1
        cases e1
        exact e2

/-- what the head leaves, from the law's promise -/
theorem walkG {l : PySem.W.OpenLaw} {n k : Nat} {q : Program} {ls : List Str}
    {XP : (Str → Option Value) → Heap → Prop} {YP : World → Heap → Prop}
    {d : DefRec} {K : Params → PySem.W.Frag} {sp : PySem.W.Frag → Sp} {x : Str}
    (hn : l.most = some n) (hn2 : n ≤ sizeLine)
    (hdf : d.params.defaults = []) (room : Room k callerA)
    (hY : ∀ (w : World) (h : Heap), YP w h → (K w.params).In h)
    (F : ∀ (w : World) (mg : Str → Option Value) (fa : Addr) (h : Heap),
      (K w.params).In h → h.Ns mainGlobals mg → mg d.name = some (.ref fa) →
      ∃ fd : FuncData,
        (∀ (s : Shared) (u : Value), BindsTo s fd ⟨[u], []⟩ [(x, u)]) ∧
        ∀ base : Heap, (K w.params).In base → base.Ns mainGlobals mg →
          FnG l.prog w (K w.params) mg base CX0 k fa fd [x]
            (sp (K w.params)))
    (hsp : ∀ (K : PySem.W.Frag) (H : Hp) (a : Addr) (ns : List Int),
      ns.length ≤ n → Only H → SqL K H a (ns.map V.int) →
      sp K [.ref a] H (fun v _ => v = .bl true) E0) :
    PySem.W.WalkO q ls XP YP l.row.toRowW d []
      (fun f vs => PySem.call f vs) := by
  refine Att.attach_call hn hdf ?_
  intro w s₀ s1 mg mb fa o pm cd doc a vs ns G Y ho hd hcd hmg hobj hi hlen hg
  have KX := hY w _ Y
  obtain ⟨fd, hb, hF⟩ := F w mg fa _ KX G.T.g hmg
  exact lawG KX G.T.g G.T.b G.T.builtins G.T.nolimit hg hobj hi
    (Nat.le_trans hlen hn2) room hF hb
    (fun H hO hS => hsp (K w.params) H a ns hlen hO hS)
end OM
namespace OM
open PySem PySem.Spec PyProof.Rows L2

/-! ### a callee, in one word -/
structure Cal (P : Program) (w : World) (K : PySem.W.Frag)
    (mg : Str → Option Value) (base : Heap) (k : Nat) (x : Str)
    (ps : List Str) (sp : Sp) : Prop where
  ex : ∃ f fd, FnOk P w K mg base CX0 k f fd ps sp ∧
    mg x = some (.ref f) ∧ PySem.W.keepIn K (.ref f) = true ∧
    Binds K fd ps []
structure CalG (P : Program) (w : World) (K : PySem.W.Frag)
    (mg : Str → Option Value) (base : Heap) (k : Nat) (x : Str)
    (ps : List Str) (sp : Sp) : Prop where
  ex : ∃ f fd, FnG P w K mg base CX0 k f fd ps sp ∧
    mg x = some (.ref f) ∧ PySem.W.keepIn K (.ref f) = true ∧
    Binds K fd ps []
section
variable {X : Cx} {k : Nat} {ps : List Str} {sp : Sp} {x : Str}
  {p pos : Pos} {e : Expr} {es : List Expr} {t : TA}
theorem pe_cal (C : Cal X.prog X.w X.K X.mg X.base k x ps sp)
    (room : Room k X.A) (ha : PA X (e :: es) t)
    (hg : Gl X x := by rfl)
    (h1 : (x == ("__debug__" : Str)) = false := by decide)
    (h2 : starEach (e :: es) X.env =
      (false, eval e X.env) :: starEach es X.env := by rfl)
    (h3 : (backTo pos (starEach es X.env)).any (·.1) = false := by rfl) :
    PE X (.Call (.Name x p) (e :: es) [] pos) (tCall sp [] E0 t) := by
  obtain ⟨f, fd, F, m, kp, b⟩ := C.ex
  exact pe_call F room hg m kp b .nil pass0 ha h1 h2 h3
theorem pe_calG (C : CalG X.prog X.w X.K X.mg X.base k x ps sp)
    (room : Room k X.A) (gd : X.A.guards = some [])
    (ha : PA X (e :: es) t)
    (hg : Gl X x := by rfl)
    (h1 : (x == ("__debug__" : Str)) = false := by decide)
    (h2 : starEach (e :: es) X.env =
      (false, eval e X.env) :: starEach es X.env := by rfl)
    (h3 : (backTo pos (starEach es X.env)).any (·.1) = false := by rfl) :
    PE X (.Call (.Name x p) (e :: es) [] pos) (tCall sp [] E0 t) := by
  obtain ⟨f, fd, F, m, kp, b⟩ := C.ex
  exact pe_callG F room gd hg m kp b .nil pass0 ha h1 h2 h3
end

/-! ### heaps: what may have changed -/
/-- all but p is as it was -/
def But (p : Addr) (H H' : Hp) : Prop :=
  ∀ q o, H q = some o → q ≠ p → H' q = some o
theorem But.refl {p : Addr} (H : Hp) : But p H H := fun _ _ h _ => h
theorem But.trans {p : Addr} {H H1 H2 : Hp} (a : But p H H1)
    (b : But p H1 H2) : But p H H2 :=
  fun q o h n => b q o (a q o h n) n
theorem But.of {p : Addr} {H H' : Hp} (a : Same H H') : But p H H' :=
  fun q o h _ => a q o h
theorem But.new {p q : Addr} {o : HO} {H H' : Hp} (a : But p H H')
    (n : H q = none) : But p H (upd H' q o) := fun b u h nb => by
  rw [upd_ne (ne_of_none h n)]
  exact a b u h nb
theorem But.at {p : Addr} {o : HO} {H H' : Hp} (a : But p H H') :
    But p H (upd H' p o) := fun b u h nb => by
  rw [upd_ne nb]
  exact a b u h nb
theorem But.same {p : Addr} {H H' : Hp} (a : But p H H')
    (n : H p = none) : Same H H' := fun q o h =>
  a q o h (ne_of_none h n)
theorem sameNew {H : Hp} {p : Addr} {o : HO} (h : H p = none) :
    Same H (upd H p o) := fun b x e => by
  rw [upd_ne (ne_of_none e h)]
  exact e
theorem Same.put {H H' : Hp} {p : Addr} {o : HO} (a : Same H H')
    (h : H p = none) : Same H (upd H' p o) := fun b x e => by
  rw [upd_ne (ne_of_none e h)]
  exact a b x e
theorem But.free {p q : Addr} {H H' : Hp} (a : But p H H') (n : q ≠ p)
    (h : H' q = none) : H q = none := by
  cases e : H q with
  | none => rfl
  | some o => rw [a q o e n] at h; cases h
theorem But.seq {K : PySem.W.Frag} {p a : Addr} {H H' : Hp} {xs : List V}
    (b : But p H H') (h : SqL K H a xs) (n : a ≠ p) : SqL K H' a xs := by
  rcases h with (h | ⟨o, h⟩) | h
  · exact .inl (.inl (b _ _ h n))
  · exact .inl (.inr ⟨o, b _ _ h n⟩)
  · exact .inr h

/-! ### the built-ins' names -/
structure Bl (mg : Str → Option Value) : Prop where
  len : mg "len" = none
  divmod : mg "divmod" = none
  abs : mg "abs" = none
  max : mg "max" = none
  min : mg "min" = none
  range : mg "range" = none
  enum : mg "enumerate" = none
  isi : mg "isinstance" = none
  str : mg "str" = none
  list : mg "list" = none
  set : mg "set" = none
  all : mg "all" = none
  repr : mg "repr" = none
theorem bt_divmod : bootBuiltins "divmod" = some (.builtin "divmod") := by
  decide +kernel
theorem bt_abs : bootBuiltins "abs" = some (.builtin "abs") := by
  decide +kernel
theorem bt_max : bootBuiltins "max" = some (.builtin "max") := by
  decide +kernel
theorem bt_min : bootBuiltins "min" = some (.builtin "min") := by
  decide +kernel
theorem bt_isi : bootBuiltins "isinstance" = some (.builtin "isinstance") := by
  decide +kernel
theorem bt_str : bootBuiltins "str" = some (.type "str") := by
  decide +kernel
theorem bt_list : bootBuiltins "list" = some (.type "list") := by
  decide +kernel
theorem bt_set : bootBuiltins "set" = some (.type "set") := by
  decide +kernel
theorem bt_all : bootBuiltins "all" = some (.builtin "all") := by
  decide +kernel
theorem bt_repr : bootBuiltins "repr" = some (.builtin "repr") := by
  decide +kernel

/-! ### the drawing state -/
def Rng (H : Hp) (p : Addr) : Prop :=
  ∃ a b : Int, H p = some (.lst [.int a, .int b]) ∧ 0 ≤ a ∧ 0 ≤ b ∧
    b < 2147483647
theorem Rng.but {H H' : Hp} {p q : Addr} (r : Rng H p) (b : But q H H')
    (n : p ≠ q) : Rng H' p := by
  obtain ⟨x, y, e, z⟩ := r
  exact ⟨x, y, b _ _ e n, z⟩
theorem Rng.same {H H' : Hp} {p : Addr} (r : Rng H p) (b : Same H H') :
    Rng H' p := by
  obtain ⟨x, y, e, z⟩ := r
  exact ⟨x, y, b _ _ e, z⟩
theorem Rng.ne {H : Hp} {p q : Addr} (r : Rng H p) (n : H q = none) :
    p ≠ q := by
  obtain ⟨x, y, e, z⟩ := r
  exact ne_of_none e n

/-- a draw below m: some number, the state moved on -/
def spDraw : Sp := fun vs H Q _ => ∃ (p : Addr) (m : Int),
  vs = [.ref p, .int m] ∧ Rng H p ∧ 0 < m ∧ m < 1000000 ∧
  ∀ (d : Int) (H' : Hp), 0 ≤ d → d < m → Rng H' p → But p H H' →
    Q (.int d) H'
/-- a new drawing state -/
def spRng (K : PySem.W.Frag) : Sp := fun vs H Q _ =>
  ∃ (a : Addr) (ns : List Int) (k : Nat), vs = [.ref a, .int k] ∧
  SqL K H a (ns.map V.int) ∧ k ≤ 1000 ∧
  ∀ (p : Addr) (H' : Hp), H p = none → Rng H' p → Same H H' →
    Q (.ref p) H'
end OM
/-! names as lists of codes -/
namespace OM
open PySem L2

/-- one to eight letters from a to z -/
structure Nm (l : List Nat) : Prop where
  lo : 1 ≤ l.length
  hi : l.length ≤ 8
  az : ∀ c ∈ l, 97 ≤ c ∧ c ≤ 122
abbrev vS (l : List Nat) : V := .str (SX.S l)
theorem vS_inj {a b : List Nat} (h : vS a = vS b) : a = b :=
  SX.S_inj (V.str.inj h)

theorem nodup_le {α : Type} [BEq α] [LawfulBEq α] : ∀ {l m : List α},
    l.Nodup → (∀ x ∈ l, x ∈ m) → l.length ≤ m.length
  | [], _, _, _ => Nat.zero_le _
  | x :: l, m, nd, h => by
    have hx : x ∈ m := h x List.mem_cons_self
    have nd' := List.nodup_cons.mp nd
    have r : l.length ≤ (m.erase x).length := by
      refine nodup_le nd'.2 fun y hy => ?_
      have ne : y ≠ x := fun e => nd'.1 (e ▸ hy)
      exact (List.mem_erase_of_ne ne).mpr (h y (List.mem_cons_of_mem _ hy))
    rw [List.length_erase_of_mem hx] at r
    have : 0 < m.length := List.length_pos_of_mem hx
    rw [List.length_cons]
    omega

/-- the k-th name to fall back upon -/
def frs6 (l : List Nat) (k : Nat) : List Nat :=
  l.take 6 ++ [97 + k / 26, 97 + k % 26]
theorem frs6_inj {l : List Nat} {j k : Nat} (h : frs6 l j = frs6 l k) :
    j = k := by
  have e := List.append_cancel_left h
  injection e with e1 e2
  injection e2 with e2 _
  omega
theorem Nm.frs {l : List Nat} (n : Nm l) {k : Nat} (hk : k < 676) :
    Nm (frs6 l k) := by
  unfold frs6
  refine ⟨?_, ?_, ?_⟩
  · simp
  · rw [List.length_append, List.length_take]
    show min 6 l.length + 2 ≤ 8
    omega
  · intro c hc
    rcases List.mem_append.mp hc with h | h
    · exact n.az c (List.mem_of_mem_take h)
    · rcases List.mem_cons.mp h with h | h
      · omega
      · rcases List.mem_cons.mp h with h | h
        · omega
        · cases h
def fresh (l : List Nat) : List (List Nat) :=
  l :: (List.range 676).map (frs6 l)
theorem fresh_nm {l : List Nat} (n : Nm l) : ∀ x ∈ fresh l, Nm x := by
  intro x hx
  rcases List.mem_cons.mp hx with h | h
  · rw [h]; exact n
  · obtain ⟨k, hk, rfl⟩ := List.mem_map.mp h
    exact n.frs (List.mem_range.mp hk)
theorem nodup_map {α β : Type} {f : α → β} (hf : ∀ a b, f a = f b → a = b) :
    ∀ {l : List α}, l.Nodup → (l.map f).Nodup
  | [], _ => List.nodup_nil
  | x :: l, h => by
    have h' := List.nodup_cons.mp h
    rw [List.map_cons]
    refine List.nodup_cons.mpr ⟨fun m => ?_, nodup_map hf h'.2⟩
    obtain ⟨y, hy, e⟩ := List.mem_map.mp m
    exact h'.1 (hf _ _ e ▸ hy)
theorem fresh_some {l : List Nat} {us : List (List Nat)}
    (h : us.length < 676) :
    ∃ x r, (fresh l).filter (fun y => decide (y ∉ us)) = x :: r := by
  cases e : (fresh l).filter (fun y => decide (y ∉ us)) with
  | cons x r => exact ⟨x, r, rfl⟩
  | nil =>
    exfalso
    have all : ∀ x ∈ (List.range 676).map (frs6 l), x ∈ us := by
      intro x hx
      apply Classical.byContradiction
      intro nx
      have : x ∈ (fresh l).filter (fun y => decide (y ∉ us)) :=
        List.mem_filter.mpr ⟨List.mem_cons_of_mem _ hx, decide_eq_true nx⟩
      rw [e] at this
      cases this
    have le := nodup_le (nodup_map (fun a b => frs6_inj (l := l))
      List.nodup_range) all
    rw [List.length_map, List.length_range] at le
    omega
theorem inV_S (x : List Nat) : ∀ us : List (List Nat),
    inV (vS x) (us.map vS) = decide (x ∈ us)
  | [] => by simp [inV]
  | u :: us => by
    have ih := inV_S x us
    unfold inV at ih ⊢
    rw [List.map_cons, List.any_cons, ih]
    by_cases e : u = x
    · subst e
      simp [eqV]
    · have ne : ¬ x = u := fun z => e z.symm
      have : eqV (vS u) (vS x) = false := by
        unfold eqV
        simp
        intro z
        exact e z
      rw [this]
      simp [ne]
theorem flat_S (us : List (List Nat)) : (us.map vS).all flatV = true := by
  rw [List.all_eq_true]
  intro v hv
  obtain ⟨l, _, rfl⟩ := List.mem_map.mp hv
  rfl
end OM
namespace OM
open PySem PySem.Spec PyProof.Rows L2
/-- an expression, with a word behind it -/
def tMid (t : TE) : TE := fun σ H Q =>
  ∃ M : V → Hp → Prop, t σ H M ∧ ∀ v H', M v H' → Q v H'
theorem pe_mid {X : Cx} {e : Expr} {t : TE} (h : PE X e t) :
    PE X e (tMid t) := by
  constructor
  intro pins s σ H Q I q
  obtain ⟨M, m, k⟩ := q
  refine thn (h.run pins s σ H M I m) ?_
  rintro u s1 ⟨v, H1, I1, r, z⟩
  exact ⟨v, H1, I1, r, k v H1 z⟩
def tMidT (t : TT) : TT := fun σ H Q =>
  ∃ M : Bool → Hp → Prop, t σ H M ∧ ∀ v H', M v H' → Q v H'
theorem pt_mid {X : Cx} {e : Expr} {t : TT} (h : PT X e t) :
    PT X e (tMidT t) := by
  constructor
  intro pins s σ H Q I q
  obtain ⟨M, m, k⟩ := q
  refine thn (h.run pins s σ H M I m) ?_
  rintro u s1 ⟨H1, I1, z⟩
  exact ⟨H1, I1, k u H1 z⟩
theorem But.put {p t : Addr} {o : HO} {H H1 : Hp} (a : But p H H1)
    (n : H1 t = none) (ne : t ≠ p) : But p H (upd H1 t o) :=
  a.new (a.free ne n)
/-- len of a list or tuple, the written part a letter -/
def rLenK (K : PySem.W.Frag) : List V → Hp → VK → Prop := fun xs H Q =>
  ∃ p ys, xs = [.ref p] ∧ (SqL K H p ys ∨ SqT K H p ys) ∧
    Q (.int ys.length) H
theorem call_lenK {X : Cx} : CallR X (.builtin "len") (rLenK X.K) :=
  call_len_seq
theorem sz {n : Nat} (h : n ≤ 100000) : n ≤ sizeLine :=
  Nat.le_trans h (by decide)
theorem sz' {n : Nat} (h : n < 100000) : n < sizeLine :=
  Nat.lt_of_lt_of_le h (by decide)
end OM
namespace OM
open PySem PySem.Spec PyProof.Rows L2
section
variable {X : Cx} {n : Nat} {f C : Addr} {fd : FuncData} {ps : List Str}
  {sp : Sp}
/-- a def runs at another depth of the same frame -/
theorem runAt {A : Around} {pins : List (Addr × Obj)} {σ : L2.St} {H : Hp}
    {s : Shared} {Q : VK} {us : List Value} {vs : List V}
    (F : FnG X.prog X.w X.K X.mg X.base CX0 n f fd ps sp)
    (room : Room n A) (gd : A.guards = some []) (fr : A.frames = X.A.frames)
    (hb : Binds X.K fd ps []) (I : Inv X pins σ H s) (r : Vals vs us)
    (h : sp vs H Q E0) :
    wpAny (model X.prog X.w) A (call (.ref f) us) (EP X pins σ Q) X.xe s := by
  have hl : us.length = ps.length := r.length.symm.trans (F.len _ _ _ _ h)
  have e0 : Env0 X.prog X.w X.K X.mg X.base A X.stack s H := by
    have e := I.env0
    exact ⟨by rw [fr]; exact e.frames, e.mod, e.bs, e.bsz, e.funs, e.frf,
      e.hok, e.bare⟩
  have bd : BindsTo s fd ⟨us, []⟩ (ps.zip us) := by
    have := hb s us I.kIn (by rw [List.append_nil]; exact hl)
    rw [List.append_nil] at this
    exact this
  refine wpAny_call (codeAny_mono (F.run A X.stack s H ⟨us, []⟩ us vs Q E0
    room gd e0 bd r h) ?_)
  intro r s' hq
  match r, hq with
  | .error e, hq => exact False.elim hq
  | .ok (.ret u), hq => exact I.after hq
  | .ok .next, hq => exact False.elim hq
  | .ok .brk, hq => exact False.elim hq
  | .ok .cont, hq => exact False.elim hq
/-- the same of a def that asks nothing of what is shown -/
theorem runAt0 {A : Around} {pins : List (Addr × Obj)} {σ : L2.St} {H : Hp}
    {s : Shared} {Q : VK} {us : List Value} {vs : List V}
    (F : FnOk X.prog X.w X.K X.mg X.base CX0 n f fd ps sp)
    (room : Room n A) (fr : A.frames = X.A.frames)
    (hb : Binds X.K fd ps []) (I : Inv X pins σ H s) (r : Vals vs us)
    (h : sp vs H Q E0) :
    wpAny (model X.prog X.w) A (call (.ref f) us) (EP X pins σ Q) X.xe s := by
  have hl : us.length = ps.length := r.length.symm.trans (F.len _ _ _ _ h)
  have e0 : Env0 X.prog X.w X.K X.mg X.base A X.stack s H := by
    have e := I.env0
    exact ⟨by rw [fr]; exact e.frames, e.mod, e.bs, e.bsz, e.funs, e.frf,
      e.hok, e.bare⟩
  have bd : BindsTo s fd ⟨us, []⟩ (ps.zip us) := by
    have := hb s us I.kIn (by rw [List.append_nil]; exact hl)
    rw [List.append_nil] at this
    exact this
  refine wpAny_call (codeAny_mono (F.run A X.stack s H ⟨us, []⟩ us vs Q E0
    room e0 bd r h) ?_)
  intro r s' hq
  match r, hq with
  | .error e, hq => exact False.elim hq
  | .ok (.ret u), hq => exact I.after hq
  | .ok .next, hq => exact False.elim hq
  | .ok .brk, hq => exact False.elim hq
  | .ok .cont, hq => exact False.elim hq
/-- an own method that the interpreter calls by itself -/
structure Spec1 (K : PySem.W.Frag) (C : Addr) (m : Str) (f : Addr)
    (fd : FuncData) (ps : List Str) : Prop where
  at_ : PySem.W.findIn K (.ref C) m = some (some (.ref f))
  fn : PySem.W.isFn K (.ref f) = true
  bd : Binds K fd ps []
/-- x == y, both of the class at C -/
def rEqOwn (C : Addr) (sp : Sp) : R2 := fun x y H Q =>
  ∃ a b dx dy fs gs, x = .ref a ∧ y = .ref b ∧
    H a = some (.ins C dx fs) ∧ H b = some (.ins C dy gs) ∧
    sp [.ref a, .ref b] H (fun v H' => ∃ r, v = .bl r ∧ Q (.bl r) H') E0
theorem op_eqOwn (S : Spec1 X.K C "__eq__" f fd ps)
    (F : FnOk X.prog X.w X.K X.mg X.base CX0 n f fd ps sp)
    (room : Room n X.A) : OpR X (compareOp .Eq) (rEqOwn C sp) := by
  intro pins s σ H x y v u Q I rx ry h
  obtain ⟨a, b, dx, dy, fs, gs, rfl, rfl, ha, hb, q⟩ := h
  cases rx
  cases ry
  obtain ⟨mA, J, _⟩ := ins_get I.hok ha
  obtain ⟨mB, J', _⟩ := ins_get I.hok hb
  obtain ⟨od, J, _⟩ := J.look
  obtain ⟨od', J', _⟩ := J'.look
  obtain ⟨m, hF⟩ := I.fr
  show wpAny _ X.A (richCompare .Eq (.ref a) (.ref b)) _ _ s
  refine PySem.W.cmp_K (op := .Eq) (tb := .ref C) room.units0 hF
    I.ok.mod.kin J J'.type (by simp [PySem.W.notFirst]) S.at_ S.fn ?_
  refine wpAny_mono (runAt0 F room rfl S.bd I (us := [.ref a, .ref b])
    (vs := [.ref a, .ref b])
    (.cons rfl (.cons rfl .nil)) q) ?_ (fun _ _ z => z)
  rintro z s' ⟨v, H', I', rv, r, rfl, q'⟩
  cases rv
  exact ⟨.bl r, H', I', rfl, q'⟩
/-- len(x) of the class at C -/
def rLenOwn (C : Addr) (sp : Sp) : List V → Hp → VK → Prop := fun xs H Q =>
  ∃ a dx fs, xs = [.ref a] ∧ H a = some (.ins C dx fs) ∧
    sp [.ref a] H (fun v H' => ∃ n : Nat, v = .int n ∧ n < 2 ^ 60 ∧
      Q (.int n) H') E0
theorem call_lenOwn (S : Spec1 X.K C "__len__" f fd ps)
    (F : FnOk X.prog X.w X.K X.mg X.base CX0 n f fd ps sp)
    (room : Room (n + 1) X.A) :
    CallR X (.builtin "len") (rLenOwn C sp) := by
  intro pins s σ H xs us Q I r h
  obtain ⟨a, dx, fs, rfl, ha, q⟩ := h
  cases r with
  | cons rv rn =>
    cases rn
    cases rv
    obtain ⟨mA, J, _⟩ := ins_get I.hok ha
    obtain ⟨od, J, _⟩ := J.look
    obtain ⟨m, hF⟩ := I.fr
    refine PySem.W.len_K hF I.ok.mod.kin J S.at_ S.fn ?_
    refine wpAny_mono (runAt0 (A := X.A.in1) F room.in1 rfl S.bd I
      (us := [.ref a]) (vs := [.ref a]) (.cons rfl .nil) q) ?_ (fun _ _ z => z)
    rintro z s' ⟨v, H', I', rv, k, rfl, hk, q'⟩
    obtain ⟨t, rfl⟩ := rv
    exact ⟨⟨by omega, by omega⟩, .int k, H', I'.tok _, ⟨_, rfl⟩, q'⟩
/-- repr(x) of the class at C -/
def rReprOwn (C : Addr) (sp : Sp) : List V → Hp → VK → Prop := fun xs H Q =>
  ∃ a dx fs, xs = [.ref a] ∧ H a = some (.ins C dx fs) ∧
    sp [.ref a] H (fun v H' => ∃ x : Str, v = .str x ∧ Q (.str x) H') E0
theorem call_reprOwn (S : Spec1 X.K C "__repr__" f fd ps)
    (F : FnG X.prog X.w X.K X.mg X.base CX0 n f fd ps sp)
    (room : Room (n + 1) X.A) (gd : X.A.guards = some []) :
    CallR X (.builtin "repr") (rReprOwn C sp) := by
  intro pins s σ H xs us Q I r h
  obtain ⟨a, dx, fs, rfl, ha, q⟩ := h
  cases r with
  | cons rv rn =>
    cases rn
    cases rv
    obtain ⟨mA, J, _⟩ := ins_get I.hok ha
    obtain ⟨od, J, _⟩ := J.look
    obtain ⟨m, hF⟩ := I.fr
    refine PySem.W.repr_K (by have := room.units; show X.A.units + 1 < _; omega) hF I.ok.mod.kin J S.at_ S.fn ?_
    refine wpAny_mono (runAt (A := X.A.in1) F room.in1 gd rfl S.bd I
      (us := [.ref a]) (vs := [.ref a]) (.cons rfl .nil) q) ?_ (fun _ _ z => z)
    rintro z s' ⟨v, H', I', rv, x, rfl, q'⟩
    obtain ⟨t, rfl⟩ := rv
    exact ⟨.str x, H', I', ⟨_, rfl⟩, q'⟩
/-- {x!r} of data -/
def tFmtD (K : PySem.W.Frag) (te : TE) : TE := fun σ H Q =>
  te σ H fun v H1 => ∃ a d, v = .ref a ∧ Dp K H1 v d ∧ d.showable = true ∧
    d.depth ≤ 60 ∧ d.shown.length ≤ sizeLine ∧ Q (.str d.shown) H1
theorem pe_fmtD {e : Expr} {te : TE} {pos : Pos} {k : Nat}
    (room : Room k X.A) (gd : X.A.guards = some []) (he : PE X e te) :
    PE X (.FormattedValue e 114 none pos) (tFmtD X.K te) := by
  constructor
  intro pins s σ H Q I h
  refine wpAny_FormattedValue_repr (thn (he.run pins s σ H _ I h) ?_)
  rintro v s1 ⟨x, H1, I1, r1, a, d, rfl, hd, sh, dp, sz, q⟩
  cases r1
  obtain ⟨as, rd⟩ := Dp.reads I1 d _ _ hd rfl
  have un := room.units
  refine pyReprObj_of_reads rd sh (PyData.noDict_hsm (Dp.noDict _ hd)) gd
    (by omega) (fun _ _ e => e) (fun h' u tk hk => ?_) sz
  exact wpAny_formatField_str ⟨.str _, H1, I1.kept hk, ⟨_, rfl⟩, q⟩
    ⟨.str _, H1, (I1.kept (t' := tk) hk).tok _, ⟨_, rfl⟩, q⟩ sz
end
end OM
namespace OM
open PySem PySem.Spec PyProof.Rows L2
abbrev dN (ls : List (List Nat)) : List PyData := ls.map fun l => .str (SX.S l)
theorem dpAll_N {K : PySem.W.Frag} {H : Hp} : ∀ ls : List (List Nat),
    DpAll K H (ls.map vS) (dN ls)
  | [] => .nil
  | l :: r => .cons (.str _) (dpAll_N r)
theorem dp_N {K : PySem.W.Frag} {H : Hp} {a : Addr} {ls : List (List Nat)}
    (h : SqL K H a (ls.map vS)) : Dp K H (.ref a) (.list (dN ls)) :=
  .lst h (dpAll_N ls)
theorem eqv_N : ∀ ls ms : List (List Nat),
    PyData.eqvAll (dN ls) (dN ms) = decide (ls = ms)
  | [], [] => by simp [PyData.eqvAll]
  | [], m :: ms => by simp [PyData.eqvAll]
  | l :: ls, [] => by simp [PyData.eqvAll]
  | l :: ls, m :: ms => by
    have ih := eqv_N ls ms
    show (PyData.eqv (.str (SX.S l)) (.str (SX.S m)) &&
      PyData.eqvAll (dN ls) (dN ms)) = _
    rw [ih]
    unfold PyData.eqv
    rw [SX.S_beq_eq]
    by_cases e : l = m
    · subst e
      simp
    · have : ¬ (l :: ls = m :: ms) := fun z => e (List.cons.inj z).1
      rw [decide_eq_false e, decide_eq_false this]
      rfl
theorem eqv_L (ls ms : List (List Nat)) :
    PyData.eqv (.list (dN ls)) (.list (dN ms)) = decide (ls = ms) := by
  rw [show PyData.eqv (.list (dN ls)) (.list (dN ms)) =
    PyData.eqvAll (dN ls) (dN ms) by simp only [PyData.eqv]]
  exact eqv_N ls ms
/-- texts of Unicode's codes -/
def Uni (ls : List (List Nat)) : Prop := ∀ l ∈ ls, ∀ c ∈ l, c < 1114112
theorem lay_N : ∀ ls : List (List Nat), Uni ls →
    PyData.canLayAll0 (dN ls) = true
  | [], _ => by simp [PyData.canLayAll0]
  | l :: ls, h => by
    have ih := lay_N ls fun x hx => h x (List.mem_cons_of_mem _ hx)
    have ok : PyData.strOk (SX.S l) = true := by
      unfold PyData.strOk
      rw [Array.all_eq_true]
      intro i hi
      have := h l List.mem_cons_self l.toArray[i] (by simp)
      exact decide_eq_true this
    show PyData.canLayAll0 (.str (SX.S l) :: dN ls) = true
    simp only [PyData.canLayAll0, PyData.canLay0, ih, ok, Bool.and_self]
theorem depth_N : ∀ ls : List (List Nat), PyData.depthAll (dN ls) ≤ 1
  | [] => by simp [PyData.depthAll]
  | l :: ls => by
    have ih := depth_N ls
    show PyData.depthAll (.str (SX.S l) :: dN ls) ≤ 1
    simp only [PyData.depthAll, PyData.depth]
    omega
theorem depth_L (ls : List (List Nat)) : (PyData.list (dN ls)).depth ≤ 2 := by
  simp only [PyData.depth]
  have := depth_N ls
  omega
theorem shaped_L {ls : List (List Nat)} (h : Uni ls) :
    SeqAt.shaped (.list (dN ls)) = true := by
  unfold SeqAt.shaped
  rw [show PyData.canLay0 (.list (dN ls)) = PyData.canLayAll0 (dN ls) by
    simp only [PyData.canLay0], lay_N ls h]
  have := depth_L ls
  exact decide_eq_true (by omega)
theorem showable_N : ∀ ls : List (List Nat), PyData.showableAll (dN ls) = true
  | [] => by simp [PyData.showableAll]
  | l :: ls => by
    have ih := showable_N ls
    show PyData.showableAll (.str (SX.S l) :: dN ls) = true
    simp only [PyData.showableAll, PyData.showable, ih, Bool.and_self]
theorem showable_L (ls : List (List Nat)) :
    (PyData.list (dN ls)).showable = true := by
  simp only [PyData.showable]
  exact showable_N ls
/-- short lists of short texts are shown shortly -/
theorem piled_N : ∀ (ls : List (List Nat)) (m : Nat),
    (∀ l ∈ ls, l.length ≤ m ∧ ∀ c ∈ l, c < 1114112) →
    piled (PyData.shownAll (dN ls)) ≤ ls.length * (10 * m + 4)
  | [], _, _ => by
    show piled (PyData.shownAll []) ≤ _
    simp only [PyData.shownAll]
    exact Nat.zero_le _
  | l :: ls, m, h => by
    have ih := piled_N ls m fun x hx => h x (List.mem_cons_of_mem _ hx)
    obtain ⟨h1, h2⟩ := h l List.mem_cons_self
    have h3 := StrLaws.reprText_len (SX.S l) (fun c hc => Nat.lt_of_lt_of_le
      (h2 c hc) (by decide))
    have h4 : (SX.S l).length = l.length := SX.S_len l
    have h5 : (reprText (SX.S l)).length ≤ 10 * m + 2 := by
      refine Nat.le_trans h3 ?_
      rw [h4]
      omega
    show piled (PyData.shownAll (.str (SX.S l) :: dN ls)) ≤ _
    simp only [PyData.shownAll, PyData.shown]
    rw [piled_cons, List.length_cons, Nat.add_mul]
    omega
theorem shown_L {ls : List (List Nat)} {m : Nat} (hn : ls.length ≤ 1000)
    (hm : m ≤ 1000) (h : ∀ l ∈ ls, l.length ≤ m ∧ ∀ c ∈ l, c < 1114112) :
    (PyData.list (dN ls)).shown.length ≤ sizeLine := by
  have p := piled_N ls m h
  have e : (PyData.list (dN ls)).shown =
      listText (PyData.shownAll (dN ls)) := by simp only [PyData.shown]
  rw [e]
  have q := listText_len_le (PyData.shownAll (dN ls))
  have r : ((PyData.shownAll (dN ls)).map (·.length)).sum +
      2 * (PyData.shownAll (dN ls)).length =
      piled (PyData.shownAll (dN ls)) := by
    generalize PyData.shownAll (dN ls) = ts
    induction ts with
    | nil => rfl
    | cons t ts ih =>
      rw [piled_cons, List.map_cons, List.sum_cons, List.length_cons]
      omega
  have s : ls.length * (10 * m + 4) ≤ 1000 * 10004 :=
    Nat.mul_le_mul hn (by omega)
  refine Nat.le_trans (show _ ≤ 10004003 by omega) (by decide)
end OM
namespace OM
open PySem PySem.Spec PyProof.Rows L2
/-- what the written part says of an error's class -/
structure XCl (K : PySem.W.Frag) (C : Addr) : Prop where
  ox : OexC K C
  xf : XfC K C
  ha : PySem.W.findIn K (.ref C) "__class__" =
    some (some (.builtin "object.__class__"))
  hn : PySem.W.specialIn K (.builtin "object.__class__") "__get__" =
    some (some (.builtin "getset_descriptor.__get__"))
  ht : PySem.W.takesIn K (.builtin "object.__class__") = some true
  hm : PySem.W.mroIn K C (.type "object") = some true
theorem ps_imp {X : Cx} {st : Stmt} {t t' : TS} (h : PS X st t)
    (i : ∀ D σ H, t' D σ H → t D σ H) : PS X st t' :=
  ⟨fun pins s σ H D I w => h.run pins s σ H D I (i D σ H w)⟩
/-- the promise of an error's __init__ of two fields -/
def spX2 (C : Addr) (f1 f2 : Str) : Sp := fun vs H Q _ =>
  ∃ (a : Addr) (v1 v2 : V), vs = [.ref a, v1, v2] ∧
  H a = some (exo a C none) ∧ ∀ dx, H dx = none → dx ≠ a →
    Q .non (upd (upd (upd H dx (exd dx [(f1, v1)])) a (exo a C (some dx))) dx
      (exd dx [(f2, v2), (f1, v1)]))
def spX1 (C : Addr) (f1 : Str) : Sp := fun vs H Q _ =>
  ∃ (a : Addr) (v1 : V), vs = [.ref a, v1] ∧
  H a = some (exo a C none) ∧ ∀ dx, H dx = none → dx ≠ a →
    Q .non (upd (upd H dx (exd dx [(f1, v1)])) a (exo a C (some dx)))
/-- a class whose error is raised, in one word -/
structure XMk (P : Program) (w : World) (K : PySem.W.Frag)
    (mg : Str → Option Value) (base : Heap) (C : Addr) (k : Nat) (x : Str)
    (ps : List Str) (sp : Sp) : Prop where
  mgC : mg x = some (.ref C)
  cl : XCl K C
  ex : ∃ f fd, FnOk P w K mg base CX0 k f fd ps sp ∧
    PySem.W.findIn K (.ref C) "__init__" = some (some (.ref f)) ∧
    PySem.W.typeIn K (.ref f) = some (.type "function") ∧ Binds K fd ps []
section
variable {X : Cx}
theorem pass0' {E : XK} : Passes CX0 X E := fun _ _ _ _ _ _ _ h => h.elim
/-- raise C(e1, e2) -/
def tRaise2 (C : Addr) (f1 f2 : Str) (W : WX) (ta : TA) : TS := fun _ σ H =>
  ta σ H fun vs H1 => ∃ v1 v2, vs = [v1, v2] ∧ ∀ d H', H1 d = none →
    H' d = some (.xd [(f2, v2), (f1, v1)]) → Same H1 H' →
    W (.ref C) (some d) σ H'
def tMidA (t : TA) : TA := fun σ H Q =>
  ∃ M : List V → Hp → Prop, t σ H M ∧ ∀ vs H', M vs H' → Q vs H'
theorem pa_mid {es : List Expr} {t : TA} (h : PA X es t) :
    PA X es (tMidA t) := by
  constructor
  intro pos pins s σ H Q I q
  obtain ⟨M, m, k⟩ := q
  refine thn (h.run pos pins s σ H M I m) ?_
  rintro u s1 ⟨v, H1, I1, r, z⟩
  exact ⟨v, H1, I1, r, k v H1 z⟩
theorem made_same {H : Hp} {a d : Addr} {C : Addr} {fs : List (Str × V)}
    {H2 : Hp} (na : H a = none) (nd : H d = none)
    (s : ∀ b o, H b = some o → H2 b = some o) :
    (upd (del H2 a) d (.xd fs)) d = some (.xd fs) ∧
    Same H (upd (del H2 a) d (.xd fs)) :=
  ⟨upd_same, fun b o e => by
    rw [upd_ne (ne_of_none e nd), del_ne (ne_of_none e na)]
    exact s b o e⟩
theorem ps_raise2 {C : Addr} {k : Nat} {x : Str} {ps : List Str}
    {f1 f2 : Str} {W : WX} {p pos pos2 : Pos} {e : Expr} {es : List Expr}
    {ta : TA} (M : XMk X.prog X.w X.K X.mg X.base C k x ps (spX2 C f1 f2))
    (room : Room (k + 1) X.A) (hc : X.calm = true) (tk : Takes X W)
    (ha : PA X (e :: es) ta) (hg : Gl X x := by rfl)
    (h1 : (x == ("__debug__" : Str)) = false := by decide)
    (h2 : starEach (e :: es) X.env =
      (false, eval e X.env) :: starEach es X.env := by rfl)
    (h3 : (backTo pos (starEach es X.env)).any (·.1) = false := by rfl) :
    PS X (.Raise (some (.Call (.Name x p) (e :: es) [] pos)) none pos2)
      (tRaise2 C f1 f2 W ta) := by
  obtain ⟨f, fd, F, iC, tI, b⟩ := M.ex
  refine ps_imp (ps_raise hc tk (pmk_oex M.cl.ox iC tI F room b .nil pass0' hg
    M.mgC (pa_mid ha) h1 h2 h3)) ?_
  intro D σ H h
  refine ⟨_, h, ?_⟩
  rintro vs H1 ⟨v1, v2, rfl, q⟩
  refine ⟨by simp, fun a na => ⟨a, v1, v2, rfl, upd_same, fun d nd ne => ?_⟩⟩
  have nd1 : H1 d = none := by rw [upd_ne ne] at nd; exact nd
  refine ⟨rfl, d, _, ?_, upd_same, nd1, ?_⟩
  · rw [upd_ne ne.symm, upd_same]
  · obtain ⟨e1, e2⟩ := made_same (C := C) (fs := [(f2, v2), (f1, v1)]) na nd1
      (H2 := upd (upd (upd (upd H1 a (exo a C none)) d (exd d [(f1, v1)])) a
        (exo a C (some d))) d (exd d [(f2, v2), (f1, v1)])) fun b o z => by
        rw [upd_ne (ne_of_none z nd1), upd_ne (ne_of_none z na),
          upd_ne (ne_of_none z nd1), upd_ne (ne_of_none z na)]
        exact z
    exact q d _ nd1 e1 e2
/-- raise C(e1) -/
def tRaise1 (C : Addr) (f1 : Str) (W : WX) (ta : TA) : TS := fun _ σ H =>
  ta σ H fun vs H1 => ∃ v1, vs = [v1] ∧ ∀ d H', H1 d = none →
    H' d = some (.xd [(f1, v1)]) → Same H1 H' → W (.ref C) (some d) σ H'
theorem ps_raise1 {C : Addr} {k : Nat} {x : Str} {ps : List Str}
    {f1 : Str} {W : WX} {p pos pos2 : Pos} {e : Expr} {es : List Expr}
    {ta : TA} (M : XMk X.prog X.w X.K X.mg X.base C k x ps (spX1 C f1))
    (room : Room (k + 1) X.A) (hc : X.calm = true) (tk : Takes X W)
    (ha : PA X (e :: es) ta) (hg : Gl X x := by rfl)
    (h1 : (x == ("__debug__" : Str)) = false := by decide)
    (h2 : starEach (e :: es) X.env =
      (false, eval e X.env) :: starEach es X.env := by rfl)
    (h3 : (backTo pos (starEach es X.env)).any (·.1) = false := by rfl) :
    PS X (.Raise (some (.Call (.Name x p) (e :: es) [] pos)) none pos2)
      (tRaise1 C f1 W ta) := by
  obtain ⟨f, fd, F, iC, tI, b⟩ := M.ex
  refine ps_imp (ps_raise hc tk (pmk_oex M.cl.ox iC tI F room b .nil pass0' hg
    M.mgC (pa_mid ha) h1 h2 h3)) ?_
  intro D σ H h
  refine ⟨_, h, ?_⟩
  rintro vs H1 ⟨v1, rfl, q⟩
  refine ⟨by simp, fun a na => ⟨a, v1, rfl, upd_same, fun d nd ne => ?_⟩⟩
  have nd1 : H1 d = none := by rw [upd_ne ne] at nd; exact nd
  refine ⟨rfl, d, [(f1, v1)], upd_same, ?_, nd1, ?_⟩
  · rw [upd_ne ne, upd_same]
  · obtain ⟨e1, e2⟩ := made_same (C := C) (fs := [(f1, v1)]) na nd1
      (H2 := upd (upd (upd H1 a (exo a C none)) d (exd d [(f1, v1)])) a
        (exo a C (some d))) fun b o z => by
        rw [upd_ne (ne_of_none z na), upd_ne (ne_of_none z nd1),
          upd_ne (ne_of_none z na)]
        exact z
    exact q d _ nd1 e1 e2
/-- the error that a suite holds -/
theorem suite_inst {a C dd : Addr} {oe : Obj} {pn : List (Addr × Obj)}
    {pins : List (Addr × Obj)} {σ : L2.St} {H : Hp} {s : Shared}
    {fs : List (Str × V)}
    (I : Inv (X.suite a ((a, oe) :: pn)) pins σ H s)
    (hz : Zc (.ref C) (some dd) oe) (hf : ∃ vs, oe.data = .fields vs)
    (hd : H dd = some (.xd fs)) :
    ∃ od, PySem.W.InstAt s.heap a oe C (some od) := by
  obtain ⟨ha, _⟩ := I.pin (a, oe) (List.mem_append_left _ List.mem_cons_self)
  obtain ⟨vs, hv⟩ := hf
  obtain ⟨mA, hns, _⟩ := (show ObjOk X.prog X.w H s.heap dd (.xd fs) from
    I.hok dd _ hd)
  obtain ⟨od, ho, _⟩ := lookIn_ns hns
  exact ⟨od, ha, hz.1, by unfold PySem.W.notCls; rw [hv] <;> rfl,
    by rw [hz.2]; exact ho⟩
def rIsX (K : PySem.W.Frag) (a : Addr) (cls : Value) (d : Option Addr) :
    List V → Hp → VK → Prop := fun xs H Q =>
  ∃ (C dd : Addr) (fs : List (Str × V)) (c : V) (cv : Value) (b : Bool),
    XCl K C ∧ cls = .ref C ∧ d = some dd ∧ H dd = some (.xd fs) ∧
    xs = [.ref a, c] ∧ ClsV c cv ∧
    PySem.W.kitOne K (.ref C) cv = some b ∧ Q (.bl b) H
theorem call_isX {a : Addr} {cls : Value} {d : Option Addr} {oe : Obj}
    {pn : List (Addr × Obj)} (hz : Zc cls d oe)
    (hf : ∃ vs, oe.data = .fields vs) :
    CallR (X.suite a ((a, oe) :: pn)) (.builtin "isinstance")
      (rIsX X.K a cls d) := by
  intro pins s σ H xs us Q I r h
  obtain ⟨C, dd, fs, c, cv, b, T, rfl, rfl, hd, rfl, k, e, q⟩ := h
  obtain ⟨u1, u2, rfl, r1, r2⟩ := vals2 r
  cases r1
  cases k.eq r2
  obtain ⟨od, J⟩ := suite_inst I hz hf hd
  obtain ⟨cd, hc, _⟩ := PySem.W.any_some T.xf.hdC
  exact PySem.W.kia_one (PySem.W.kitx_exc (by rw [hc]; rfl) T.xf.ga T.xf.gg
    T.xf.exC T.ha T.hn T.ht T.hm) I.kIn J e (fun z => nomatch z) fun tk =>
    ⟨.bl b, H, I.kept (t' := tk) fun _ _ z => z, rfl, q⟩
def rIsXT (K : PySem.W.Frag) (a : Addr) (cls : Value) (d : Option Addr) :
    List V → Hp → VK → Prop := fun xs H Q =>
  ∃ (C dd tp : Addr) (fs : List (Str × V)) (cs : List V) (us : List Value)
    (b : Bool), XCl K C ∧ cls = .ref C ∧ d = some dd ∧
    H dd = some (.xd fs) ∧ xs = [.ref a, .ref tp] ∧ H tp = some (.tup cs) ∧
    Paired ClsV cs us ∧ PySem.W.kitAny K (.ref C) us = some b ∧ Q (.bl b) H
theorem paired_eq : ∀ {cs : List V} {us vs : List Value},
    Paired ClsV cs us → Vals cs vs → vs = us
  | _, _, _, .nil, .nil => rfl
  | _, _, _, .cons h t, .cons r s => by
    rw [h.eq r, paired_eq t s]
theorem call_isXT {a : Addr} {cls : Value} {d : Option Addr} {oe : Obj}
    {pn : List (Addr × Obj)} (hz : Zc cls d oe)
    (hf : ∃ vs, oe.data = .fields vs) :
    CallR (X.suite a ((a, oe) :: pn)) (.builtin "isinstance")
      (rIsXT X.K a cls d) := by
  intro pins s σ H xs us Q I r h
  obtain ⟨C, dd, tp, fs, cs, vs, b, T, rfl, rfl, hd, rfl, ht, pr, e, q⟩ := h
  obtain ⟨u1, u2, rfl, r1, r2⟩ := vals2 r
  cases r1
  cases r2
  obtain ⟨od, J⟩ := suite_inst I hz hf hd
  obtain ⟨cd, hc, _⟩ := PySem.W.any_some T.xf.hdC
  obtain ⟨z, its, rv, ob, ho, hcl, n, hdt⟩ := I.hok tp _ ht
  cases paired_eq pr rv
  obtain ⟨oc, od', da, sl⟩ := ob
  dsimp only at hcl hdt
  subst hcl hdt
  exact PySem.W.kia_tup (PySem.W.kitx_exc (by rw [hc]; rfl) T.xf.ga T.xf.gg
    T.xf.exC T.ha T.hn T.ht T.hm) I.kIn J ho e (fun z => nomatch z) fun tk =>
    ⟨.bl b, H, I.kept (t' := tk) fun _ _ z => z, rfl, q⟩
end
end OM
namespace OM
open PySem PySem.Spec PyProof.Rows L2
section
variable {X : Cx} {k : Nat} {ps : List Str} {sp : Sp} {x : Str} {C : Addr}
  {p pos : Pos} {e : Expr} {es : List Expr} {t : TA}
/-- a callee that may raise -/
structure CalX (P : Program) (w : World) (K : PySem.W.Frag)
    (mg : Str → Option Value) (base : Heap) (k : Nat) (x : Str)
    (ps : List Str) (sp : Sp) : Prop where
  ex : ∃ f fd, FnOk P w K mg base (L2.CX P w) k f fd ps sp ∧
    mg x = some (.ref f) ∧ PySem.W.keepIn K (.ref f) = true ∧
    Binds K fd ps []
/-- f(..), what leaves f leaves this def -/
theorem pe_calX {E : XK} {W : WX}
    (M : CalX X.prog X.w X.K X.mg X.base k x ps sp)
    (room : Room k X.A) (tk : Takes X W)
    (hW : ∀ cls d σ H, E cls d H → W cls d σ H) (ha : PA X (e :: es) t)
    (hg : Gl X x := by rfl)
    (h1 : (x == ("__debug__" : Str)) = false := by decide)
    (h2 : starEach (e :: es) X.env =
      (false, eval e X.env) :: starEach es X.env := by rfl)
    (h3 : (backTo pos (starEach es X.env)).any (·.1) = false := by rfl) :
    PE X (.Call (.Name x p) (e :: es) [] pos) (tCall sp [] E t) := by
  obtain ⟨f, fd, F, m, kp, b⟩ := M.ex
  exact pe_call F room hg m kp b .nil (passes_call tk hW) ha h1 h2 h3
/-- a class that is made, its __init__ may raise -/
structure CalCX (P : Program) (w : World) (K : PySem.W.Frag)
    (mg : Str → Option Value) (base : Heap) (C : Addr) (k : Nat) (x : Str)
    (ps : List Str) (sp : Sp) : Prop where
  mgC : mg x = some (.ref C)
  ex : ∃ f fd, FnOk P w K mg base (L2.CX P w) k f fd ps sp ∧ Mk K C f ∧
    Binds K fd ps []
def tMakeS (C : Addr) (sp : Sp) (E : L2.St → XK) (t : TA) : TE :=
  fun σ H Q => t σ H fun vs H1 => ∀ x dx, H1 x = none → H1 dx = none →
    dx ≠ x → sp (.ref x :: vs) (upd (upd H1 dx (.own x)) x (.ins C dx []))
      (fun v H2 => v = .non ∧ Q (.ref x) H2) (E σ)
theorem pe_makeS {E : L2.St → XK}
    (M : CalCX X.prog X.w X.K X.mg X.base C k x ps sp)
    (room : Room (k + 1) X.A)
    (hx : ∀ σ, PassesAt (L2.CX X.prog X.w) X σ (E σ))
    (ha : PA X (e :: es) t) (hg : Gl X x := by rfl)
    (h1 : (x == ("__debug__" : Str)) = false := by decide)
    (h2 : starEach (e :: es) X.env =
      (false, eval e X.env) :: starEach es X.env := by rfl)
    (h3 : (backTo pos (starEach es X.env)).any (·.1) = false := by rfl) :
    PE X (.Call (.Name x p) (e :: es) [] pos) (tMakeS C sp E t) := by
  obtain ⟨f, fd, F, mk, b⟩ := M.ex
  constructor
  intro pins s σ H Q I h
  refine wpAny_Call_Name_kw (ld_glob I hg M.mgC ?_ h1)
  refine PySem.W.callWith_K (h₀ := X.base) I.ok.mod.kin mk.kp
    (thn (ha.run pos pins s σ H _ I h) ?_) h2 h3
  rintro us s1 ⟨vs, H1, I1, r, q⟩
  refine ⟨I1.kIn, ?_⟩
  show wpAny _ _ (call (.ref C) us) _ _ s1
  let a := s1.heap.objs.size + 1
  have q1 := q a s1.heap.objs.size (I1.hok.fresh (Nat.le_succ _))
    (I1.hok.fresh (Nat.le_refl _)) (Nat.ne_of_lt (Nat.lt_succ_self _))
  have I2 := Inv.made (C := C) I1
  have rr : Vals (V.ref a :: vs) (Value.ref a :: us) := .cons rfl r
  have hl : (Value.ref a :: us).length = ps.length :=
    rr.length.symm.trans (F.len _ _ _ _ q1)
  have bd := b _ (Value.ref a :: us) I2.kIn (by
    rw [List.append_nil]; exact hl)
  rw [List.append_nil] at bd
  refine wpAny_call (make_map (f := f) I1.kIn mk.makes mk.init
    (beq_iff_eq.mp mk.fn) (codeAny_mono (F.run _ X.stack _ _
      ⟨Value.ref a :: us, []⟩ (Value.ref a :: us) _ _ (E σ)
      (room.make C us []) (I2.env0.make C us []) bd rr q1) ?_))
  intro r s' hq
  match r, hq with
  | .error e, hq => exact hx σ pins _ _ e s' I2 hq
  | .ok .next, hq => exact False.elim hq
  | .ok .brk, hq => exact False.elim hq
  | .ok .cont, hq => exact False.elim hq
  | .ok (.ret u), hq =>
    obtain ⟨v, H', I3, rv, ev, q3⟩ := I2.after hq
    subst ev
    exact ⟨rv, ⟨V.ref a, H', I3, rfl, q3⟩⟩
end
end OM
namespace OM
open PySem PySem.Spec PyProof.Rows L2
/-! ### data with small dicts -/
mutual
inductive DX (H : Hp) : V → PyData → Prop
  | non : DX H .non .none
  | bl (b : Bool) : DX H (.bl b) (.bool b)
  | int (i : Int) : DX H (.int i) (.int i)
  | str (x : Str) : DX H (.str x) (.str x)
  | lst {a : Addr} {xs : List V} {ds : List PyData} :
      H a = some (.lst xs) → DXs H xs ds → DX H (.ref a) (.list ds)
  | tup {a : Addr} {xs : List V} {ds : List PyData} :
      H a = some (.tup xs) → DXs H xs ds → DX H (.ref a) (.tuple ds)
  | d0 {a : Addr} : H a = some (.dK []) → DX H (.ref a) (.dict [])
  | d1 {a : Addr} {x : Str} {v : V} {d : PyData} :
      H a = some (.dK [(Sum.inr x, v)]) → DX H v d →
      DX H (.ref a) (.dict [(.str x, d)])
inductive DXs (H : Hp) : List V → List PyData → Prop
  | nil : DXs H [] []
  | cons {v : V} {vs : List V} {d : PyData} {ds : List PyData} :
      DX H v d → DXs H vs ds → DXs H (v :: vs) (d :: ds)
end
mutual
theorem DX.same {H H' : Hp} (s : Same H H') : ∀ (d : PyData) (v : V),
    DX H v d → DX H' v d
  | .none, _, h => by cases h; exact .non
  | .bool b, _, h => by cases h; exact .bl b
  | .int i, _, h => by cases h; exact .int i
  | .str x, _, h => by cases h; exact .str x
  | .list ds, _, h => by
    cases h with
    | lst e t => exact .lst (s _ _ e) (DXs.same s ds _ t)
  | .tuple ds, _, h => by
    cases h with
    | tup e t => exact .tup (s _ _ e) (DXs.same s ds _ t)
  | .dict [], _, h => by
    cases h with
    | d0 e => exact .d0 (s _ _ e)
  | .dict [(k, d)], _, h => by
    cases h with
    | d1 e t => exact .d1 (s _ _ e) (DX.same s d _ t)
  | .dict (_ :: _ :: _), _, h => by cases h
theorem DXs.same {H H' : Hp} (s : Same H H') : ∀ (ds : List PyData)
    (vs : List V), DXs H vs ds → DXs H' vs ds
  | [], _, h => by cases h; exact .nil
  | d :: ds, _, h => by
    cases h with
    | cons a t => exact .cons (DX.same s d _ a) (DXs.same s ds _ t)
end
section
variable {X : Cx} {pins : List (Addr × Obj)} {σ : L2.St} {H : Hp} {s : Shared}
theorem dict_parts {a : Addr} {kvs : List (Key × V)} (I : Inv X pins σ H s)
    (e : H a = some (.dK kvs)) : ∃ o es n vs, s.heap.get? a = some o ∧
      o.cls = .type "dict" ∧ o.data = .dict es n ∧
      Pairs (mixKind X.prog X.w) es.toList vs ∧ KV kvs vs := by
  obtain ⟨_, _, vs, kv, o, es, ep, h1, h2, h3, _, h5, _⟩ := dk_of I.hok e
  exact ⟨o, es, ep, vs, h1, h2.1, h3, h5, kv⟩
theorem keyIs_inr {x : Str} {v : Value} (h : keyIs (.inr x) v = true) :
    ∃ t, v = .str x t := by
  rcases keyIs_shape h with ⟨i, t, e, _⟩ | ⟨y, t, e, e2⟩
  · cases e
  · cases e; exact ⟨t, e2⟩
mutual
theorem DX.reads (I : Inv X pins σ H s) (hs : H sysModules = none) :
    ∀ (d : PyData) (v : V) (u : Value), DX H v d → RelV v u →
      ∃ as, Reads s.heap u d as ∧ sysModules ∉ as
  | .none, _, _, h, r => by
    cases h; cases r; exact ⟨_, Reads.none, by simp⟩
  | .bool b, _, _, h, r => by
    cases h; cases r; exact ⟨_, Reads.bool b, by simp⟩
  | .int i, _, _, h, r => by
    cases h; obtain ⟨t, rfl⟩ := r; exact ⟨_, Reads.int i t, by simp⟩
  | .str x, _, _, h, r => by
    cases h; obtain ⟨t, rfl⟩ := r; exact ⟨_, Reads.str x t, by simp⟩
  | .list ds, _, _, h, r => by
    cases h with
    | lst e t =>
      cases r
      obtain ⟨_, its, n, rv, ho⟩ := I.hok _ _ e
      obtain ⟨as, q, nm⟩ := DXs.reads I hs ds _ its t rv
      refine ⟨_, Reads.list ho rfl rfl (by simpa using q), ?_⟩
      intro m
      rcases List.mem_cons.mp m with z | z
      · rw [z, e] at hs; cases hs
      · exact nm z
  | .tuple ds, _, _, h, r => by
    cases h with
    | tup e t =>
      cases r
      obtain ⟨_, its, rv, o, ho, hc, n, hd⟩ := I.hok _ _ e
      obtain ⟨as, q, nm⟩ := DXs.reads I hs ds _ its t rv
      exact ⟨_, Reads.tuple ho hc hd (by simpa using q), nm⟩
  | .dict [], _, _, h, r => by
    cases h with
    | d0 e =>
      cases r
      obtain ⟨o, es, n, vs, h1, h2, h3, h4, kv⟩ := dict_parts I e
      cases kv
      have ez : es.toList = [] := by cases hz : es.toList with
        | nil => rfl
        | cons a b => rw [hz] at h4; cases h4
      refine ⟨_, Reads.dict (kvs := []) h1 h2 h3 (by rw [ez]; exact .nil)
        (by rw [ez]; exact .nil), ?_⟩
      intro m
      rcases List.mem_cons.mp m with z | z
      · rw [z, e] at hs; cases hs
      · cases z
  | .dict [(k, d)], _, _, h, r => by
    cases h with
    | d1 e t =>
      cases r
      obtain ⟨o, es, n, vs, h1, h2, h3, h4, kv⟩ := dict_parts I e
      cases kv with
      | cons p q =>
        cases q
        cases ez : es.toList with
        | nil => rw [ez] at h4; cases h4
        | cons en er =>
          rw [ez] at h4
          cases h4 with
          | cons k1 v1 r1 =>
            cases r1
            obtain ⟨p1, p2⟩ := p
            obtain ⟨as, rd, nm⟩ := DX.reads I hs d _ _ t p2
            rw [← p1] at k1
            obtain ⟨tk, ek⟩ := keyIs_inr k1
            refine ⟨_, Reads.dict (kvs := [(_, d)]) h1 h2 h3 (as := [])
              (bs := as ++ []) ?_ ?_, ?_⟩
            · rw [ez]
              show ReadsAll _ [en.key] [_] ([] ++ [])
              rw [ek]
              exact .cons (.str _ _) .nil
            · rw [ez]
              show ReadsAll _ [en.val] [d] _
              rw [v1]
              exact .cons rd .nil
            · intro m
              rcases List.mem_cons.mp m with z | z
              · rw [z, e] at hs; cases hs
              · have z' : sysModules ∈ ([] : List Addr) ++ (as ++ []) := z
                rw [List.nil_append, List.append_nil] at z'
                exact nm z'
  | .dict (_ :: _ :: _), _, _, h, _ => by cases h
theorem DXs.reads (I : Inv X pins σ H s) (hs : H sysModules = none) :
    ∀ (ds : List PyData) (vs : List V) (us : List Value), DXs H vs ds →
      Vals vs us → ∃ as, ReadsAll s.heap us ds as ∧ sysModules ∉ as
  | [], _, _, h, r => by
    cases h; cases r; exact ⟨_, ReadsAll.nil, by simp⟩
  | d :: ds, _, _, h, r => by
    cases h with
    | cons h1 h2 =>
      cases r with
      | cons r1 r2 =>
        obtain ⟨as, q1, n1⟩ := DX.reads I hs d _ _ h1 r1
        obtain ⟨bs, q2, n2⟩ := DXs.reads I hs ds _ _ h2 r2
        exact ⟨_, ReadsAll.cons q1 q2, fun m => (List.mem_append.mp m).elim n1 n2⟩
end
/-- repr(x) of data with small dicts -/
def rReprX : List V → Hp → VK → Prop := fun xs H Q =>
  ∃ v d, xs = [v] ∧ DX H v d ∧ d.showable = true ∧ d.depth ≤ 60 ∧
    d.shown.length ≤ sizeLine ∧ Q (.str d.shown) H
theorem call_reprX {k : Nat} (room : Room k X.A)
    (gd : X.A.guards = some [])
    (sm : ∃ o, X.base.get? sysModules = some o) :
    CallR X (.builtin "repr") rReprX := by
  intro pins s σ H xs us Q I r h
  obtain ⟨v, d, rfl, hd, sh, dp, sz, q⟩ := h
  cases r with
  | cons rv rn =>
    cases rn
    rename_i u
    obtain ⟨o, ho⟩ := sm
    have hs : H sysModules = none := (I.env0.bs _ o ho).2
    obtain ⟨as, rd, nm⟩ := DX.reads I hs d v u hd rv
    have un := room.units
    have key : ∀ a : Addr, u = .ref a → wpAny (model X.prog X.w) X.A
        (call (.builtin "repr") [u]) (EP X pins σ Q) X.xe s := by
      rintro a rfl
      refine repr_of_reads' rd sh (fun _ => nm) gd (by omega) (fun _ _ e => e)
        (fun h' u tk hk => ?_) sz
      exact ⟨.str _, H, I.kept hk, ⟨_, rfl⟩, q⟩
    cases hd with
    | non =>
      cases rv
      exact PySem.P.repr_of_none ⟨.str _, H, I.tok _, ⟨_, rfl⟩, q⟩
    | bl b =>
      cases rv
      exact PySem.P.repr_of_bool ⟨.str _, H, I.tok _, ⟨_, rfl⟩, q⟩
    | int i =>
      obtain ⟨t, rfl⟩ := rv
      refine PySem.P.repr_of_int ?_ ⟨.str _, H, I.tok _, ⟨_, rfl⟩, q⟩
      simpa [PyData.showable] using sh
    | str x =>
      obtain ⟨t, rfl⟩ := rv
      exact PySem.P.repr_of_str ⟨.str _, H, I.tok _, ⟨_, rfl⟩, q⟩ sz
    | lst a b => cases rv; exact key _ rfl
    | tup a b => cases rv; exact key _ rfl
    | d0 a => cases rv; exact key _ rfl
    | d1 a b => cases rv; exact key _ rfl
end
end OM
namespace OM
open PySem PySem.Spec PyProof.Rows L2

/-- the law's call, nothing being shown around it -/
theorem lawS {P : Program} {w : World} {K : PySem.W.Frag}
    {mg mb : Str → Option Value} {k : Nat} {fa a : Addr} {fd : FuncData}
    {x : Str} {sp : Sp} {s1 : Shared} {vs : List Value} {ns : List Int}
    (kin : K.In s1.heap) (glob : s1.heap.Ns mainGlobals mg)
    (blt : s1.heap.Ns builtinsNs mb)
    (boot : ∀ x : Str, x ≠ "__name__" → mb x = bootBuiltins x)
    (nol : s1.heap.NoLimit) (gens : s1.gens = #[])
    (ha : s1.heap.get? a =
      some { cls := .type "list", data := .seq vs.toArray })
    (hints : IntsAre vs ns) (hl : ns.length ≤ sizeLine)
    (room : Room k callerA)
    (smod : ∃ mm, s1.heap.Ns sysModules mm)
    (F : ∀ base : Heap, K.In base → base.Ns mainGlobals mg →
      (∃ o, base.get? sysModules = some o) →
      FnG P w K mg base CX0 k fa fd [x] sp)
    (bind : ∀ (s : Shared) (u : Value), BindsTo s fd ⟨[u], []⟩ [(x, u)])
    (hsp : ∀ H : Hp, Only H → SqL K H a (ns.map V.int) →
      sp [.ref a] H (fun v _ => v = .bl true) E0) :
    codeAny (model P w) callerA (.call (.ref fa) ⟨[.ref a], []⟩)
      (fun r s' => r = .ok (.ret (.bool true)) ∧ OldK s1.heap s'.heap ∧
        s'.os = s1.os ∧ AllBare s'.gens) s1 := by
  have rel := vals_ints hints
  have lv := hints.length
  -- H tracks the script alone, or nothing
  suffices core : ∀ H : Hp, Only H → SqL K H a (ns.map V.int) →
      HOk P w H s1.heap → (∀ b, H b ≠ none → b = a) →
      (H a ≠ none → K.lookup a = none) →
      codeAny (model P w) callerA (.call (.ref fa) ⟨[.ref a], []⟩)
        (fun r s' => r = .ok (.ret (.bool true)) ∧ OldK s1.heap s'.heap ∧
          s'.os = s1.os ∧ AllBare s'.gens) s1 by
    by_cases hk : ∃ o, K.lookup a = some o
    · obtain ⟨o, hk⟩ := hk
      have e := kin a o hk
      rw [ha] at e
      cases e
      refine core (fun _ => none) (fun _ => Or.inl rfl) (Or.inr ?_)
        (fun b u z => ?_) (fun b z => absurd rfl z) (fun z => absurd rfl z)
      · exact ⟨_, vs.toArray, _, hk, rfl, rfl, rfl,
          by rw [List.size_toArray, lv]; exact hl, by simpa using rel⟩
      · cases (show (none : Option HO) = some u from z)
    · have hk : K.lookup a = none := by
        cases q : K.lookup a with
        | none => rfl
        | some o => exact absurd ⟨o, q⟩ hk
      let ob : Obj := { cls := .type "list", data := .seq vs.toArray }
      refine core (fun b => if b = a then
          some (.frz ob (.lst (ns.map V.int))) else none)
        (fun b => ?_) (Or.inl (Or.inr ⟨ob, if_pos rfl⟩))
        (fun b u z => ?_) (fun b z => ?_) (fun _ => hk)
      · by_cases hb : b = a
        · exact Or.inr ⟨_, _, if_pos hb⟩
        · exact Or.inl (if_neg hb)
      · by_cases hb : b = a
        · cases (if_pos hb).symm.trans z
          subst hb
          exact ⟨ha, by rw [List.length_map]; exact hl, vs, _, rel, ha⟩
        · cases (if_neg hb).symm.trans z
      · by_cases hb : b = a
        · exact hb
        · exact absurd (if_neg hb) z
  intro H only sq ok alone notK
  have untracked : ∀ {b : Addr} {o : Obj}, s1.heap.get? b = some o →
      (∀ z, o.data ≠ .seq z 0) → H b = none := by
    intro b o e d
    cases q : H b with
    | none => rfl
    | some u =>
      have z : b = a := alone b (by rw [q]; exact nofun)
      subst z
      rw [ha] at e
      cases e
      exact absurd rfl (d _)
  have ns' : ∀ {b : Addr} {m : Str → Option Value}, s1.heap.Ns b m →
      (hidT s1.heap H).Ns b m := by
    rintro b m ⟨o, es, ep, e, d, r⟩
    refine ⟨o, es, ep, hidT_get e (untracked e fun z y => ?_), d, r⟩
    cases d.symm.trans y
  have kin' : K.In (hidT s1.heap H) := by
    intro b o e
    refine hidT_get (kin b o e) ?_
    cases q : H b with
    | none => rfl
    | some u =>
      have z : b = a := alone b (by rw [q]; exact nofun)
      subst z
      rw [notK (by rw [q]; exact nofun)] at e
      cases e
  have md : Mod K mg (hidT s1.heap H) := by
    obtain ⟨mc, h1, h2⟩ := nol
    exact ⟨kin', ns' glob, ⟨mb, ns' blt, boot⟩, ⟨mc, ns' h1, h2⟩⟩
  have env : Env0 P w K mg (hidT s1.heap H) callerA [] s1 H :=
    ⟨rfl, md, fun b o e => of_hidT e, Nat.le_of_eq (hidT_size _ _), trivial,
      fun b hb => (nomatch (show b ∈ ([] : List Addr) from hb)), ok,
      .of_eq gens⟩
  have smd : ∃ o, (hidT s1.heap H).get? sysModules = some o := by
    obtain ⟨mm, hm⟩ := smod
    obtain ⟨o, es, ep, e, _⟩ := ns' hm
    exact ⟨o, e⟩
  refine codeAny_mono ((F _ kin' (ns' glob) smd).run callerA [] s1 H ⟨[.ref a], []⟩
    [.ref a] [.ref a] _ _ room rfl env (bind s1 (.ref a)) (.cons rfl .nil)
    (hsp H only sq)) ?_
  intro r s' h
  match r, h with
  | .error e, h => exact False.elim h
  | .ok .next, h => exact False.elim h
  | .ok .brk, h => exact False.elim h
  | .ok .cont, h => exact False.elim h
  | .ok (.ret u), h =>
    obtain ⟨v, H', os, bare, un, ok', rv, q⟩ := h
    cases (show v = .bl true from q)
    cases (show u = Value.bool true from rv)
    refine ⟨rfl, OldK.of_keep fun b o e => ?_, os, bare⟩
    cases q : H b with
    | none =>
      exact un.keep b o e q
        (fun z => nomatch (show b ∈ ([] : List Addr) from z)) (by simp)
    | some u =>
      cases only b with
      | inl z => rw [q] at z; cases z
      | inr z =>
        obtain ⟨ob, xs, z⟩ := z
        have e1 := (ok b _ z).1
        have e2 := (ok' b _ (un.frzs b ob _ z)).1
        rw [e] at e1
        cases e1
        exact e2

/-- what the head leaves, from the law's promise -/
theorem walkS {l : PySem.W.OpenLaw} {n k : Nat} {q : Program} {ls : List Str}
    {XP : (Str → Option Value) → Heap → Prop} {YP : World → Heap → Prop}
    {d : DefRec} {K : Params → PySem.W.Frag} {sp : PySem.W.Frag → Sp} {x : Str}
    (hn : l.most = some n) (hn2 : n ≤ sizeLine) (hq : importsNone q = true)
    (hdf : d.params.defaults = []) (room : Room k callerA)
    (hY : ∀ (w : World) (h : Heap), YP w h → (K w.params).In h)
    (F : ∀ (w : World) (mg : Str → Option Value) (fa : Addr) (h : Heap),
      (K w.params).In h → h.Ns mainGlobals mg → mg d.name = some (.ref fa) →
      ∃ fd : FuncData,
        (∀ (s : Shared) (u : Value), BindsTo s fd ⟨[u], []⟩ [(x, u)]) ∧
        ∀ base : Heap, (K w.params).In base → base.Ns mainGlobals mg →
          (∃ o, base.get? sysModules = some o) →
          FnG l.prog w (K w.params) mg base CX0 k fa fd [x]
            (sp (K w.params)))
    (hsp : ∀ (K : PySem.W.Frag) (H : Hp) (a : Addr) (ns : List Int),
      ns.length ≤ n → Only H → SqL K H a (ns.map V.int) →
      sp K [.ref a] H (fun v _ => v = .bl true) E0) :
    PySem.W.WalkO q ls XP YP l.row.toRowW d []
      (fun f vs => PySem.call f vs) := by
  refine Att.attach_call hn hdf ?_
  intro w s₀ s1 mg mb fa o pm cd doc a vs ns G Y ho hd hcd hmg hobj hi hlen hg
  have KX := hY w _ Y
  obtain ⟨fd, hb, hF⟩ := F w mg fa _ KX G.T.g hmg
  exact lawS KX G.T.g G.T.b G.T.builtins G.T.nolimit hg hobj hi
    (Nat.le_trans hlen hn2) room
    (by obtain ⟨mm, h, _⟩ := (G.T.seer hq).mods; exact ⟨mm, h⟩) hF hb
    (fun H hO hS => hsp (K w.params) H a ns hlen hO hS)
end OM
namespace OM
open PySem PySem.Spec PyProof.Rows L2
section
variable {X : Cx}
/-- xs == [], whatever xs holds -/
def rEqNil : R2 := fun x y H Q => ∃ a b xs, x = .ref a ∧ y = .ref b ∧
  H a = some (.lst xs) ∧ H b = some (.lst []) ∧ Q (.bl xs.isEmpty) H
theorem op_eqNil {k : Nat} (room : Room k X.A) :
    OpR X (compareOp .Eq) rEqNil := by
  intro pins s σ H x y v u Q I rx ry h
  obtain ⟨a, b, xs, rfl, rfl, ha, hb, q⟩ := h
  cases rx
  cases ry
  obtain ⟨_, its, n, rv, ho⟩ := I.hok _ _ ha
  obtain ⟨_, jts, m, rw', ho'⟩ := I.hok _ _ hb
  cases rw'
  have un := room.units
  cases rv with
  | nil =>
    refine SeqAt.eq_listAt (e := fun _ => true) ⟨_, ho, rfl, _, rfl⟩
      ⟨_, ho', rfl, _, rfl⟩ rfl (by omega) (fun j h1 h2 => ?_) ?_
    · simp at h1
    · exact ⟨.bl true, H, I, rfl, q⟩
  | cons r rs =>
    refine SeqAt.eq_list_lengthsAt ⟨_, ho, rfl, _, rfl⟩
      ⟨_, ho', rfl, _, rfl⟩ (by simp) (by omega) ?_
    exact ⟨.bl false, H, I, rfl, q⟩
end
end OM
/-! Errors whose context is None: raised in a def, passed on by its callers,
caught where the suite raises another one. -/
namespace OM
open PySem PySem.Spec PyProof.Rows L2
section
variable {X : Cx} {k : Nat} {ps : List Str} {sp : Sp} {x : Str} {C : Addr}
  {p pos pos2 : Pos} {e : Expr} {es : List Expr} {ta : TA}
/-- C(e, ..), made in order to be raised where nothing is handled -/
theorem pmkN (M : XMk X.prog X.w X.K X.mg X.base C k x ps sp)
    (room : Room (k + 1) X.A) (ha : PA X (e :: es) ta)
    (hg : Gl X x := by rfl)
    (h1 : (x == ("__debug__" : Str)) = false := by decide)
    (h2 : starEach (e :: es) X.env =
      (false, eval e X.env) :: starEach es X.env := by rfl)
    (h3 : (backTo pos (starEach es X.env)).any (·.1) = false := by rfl) :
    L2N.PMk X (.Call (.Name x p) (e :: es) [] pos) (tMkO C sp [] ta) := by
  obtain ⟨f, fd, fn, at_, ty, bd⟩ := M.ex
  have ox := M.cl.ox
  obtain ⟨_, _, _, _, bm, _, _, _, _, _, _, _, _, _, _, known, isVE⟩ := ox.cls
  intro pins s σ H Q I h
  refine wpAny_Call_Name_kw (ld_glob I hg M.mgC ?_ h1)
  refine PySem.W.callWith_K (h₀ := X.base) I.ok.mod.kin ox.kC
    (thn (ha.run pos pins s σ H _ I h) ?_) h2 h3
  rintro us ⟨hp, g, dr, tk, os⟩ ⟨vs, H1, I1, r1, few, q1⟩
  refine ⟨I1.kIn, ?_⟩
  show wpAny _ _ (call (.ref C) us) _ _ _
  have above : hp.objs.size ≤ hp.objs.size + 1 := Nat.le_succ _
  have todo := q1 (hp.objs.size + 1) (I1.hok.fresh above)
  rw [List.append_nil] at todo
  have grown : ∀ b o, hp.get? b = some o →
      ((hp.push (PySem.W.kdv_tup us)).push
        (PySem.HandSPX.excO C hp.objs.size)).get? b = some o :=
    fun b o z => Heap.get?_push_of_some _ (Heap.get?_push_of_some _ z)
  have new : ((hp.push (PySem.W.kdv_tup us)).push
      (PySem.HandSPX.excO C hp.objs.size)).get? (hp.objs.size + 1) =
      some (PySem.HandSPX.excO C hp.objs.size) := by heap_get
  have I2 := I1.laid (t' := tk) (o := exo (hp.objs.size + 1) C none) grown above
    (exo_ok new)
  have rr : Vals (V.ref (hp.objs.size + 1) :: vs)
      (Value.ref (hp.objs.size + 1) :: us) := .cons rfl r1
  have many : (Value.ref (hp.objs.size + 1) :: us).length = ps.length :=
    rr.length.symm.trans (fn.len _ _ _ _ todo)
  have args := bd _ (Value.ref (hp.objs.size + 1) :: us) I2.kIn (by
    rw [List.append_nil]; exact many)
  rw [List.append_nil] at args
  have short : us.length ≤ sizeLine := by
    have := Paired.length r1
    rw [sizeLine_eq]
    omega
  have ran := fn.run _ X.stack _ _ ⟨Value.ref (hp.objs.size + 1) :: us, []⟩
    (Value.ref (hp.objs.size + 1) :: us) _ _ (fun _ _ _ => False)
    (room.make C us []) (I2.env0.make C us []) args rr todo
  refine wpAny_call (PySem.HandSPX.call_own PySem.F.excBase_ValueError
    (fun Y => PySem.HandSPX.refsVE_contains Y bm isVE) (I1.kIn _ _ known)
    (PySem.W.looks_findIn I1.kIn at_)
    (fun self => PySem.W.bind_fn I1.kIn self ty) short
    (codeAny_mono ran ?_))
  rintro r ⟨h2', g2, d2, t2, os2⟩ out
  match r, out with
  | .error er, out => exact False.elim out
  | .ok .next, out => exact False.elim out
  | .ok .brk, out => exact False.elim out
  | .ok .cont, out => exact False.elim out
  | .ok (.ret u), out =>
    obtain ⟨v, H2, eo, bare, un, hok, rv, ev, d, fs, ea, ed, nd, q2⟩ := out
    subst ev
    obtain ⟨t0, G, J, kG, ng, at2, na⟩ := mk_end0 (d2 := d2) (t2 := t2) I1
      above grown un hok eo bare ea ed nd
    exact ⟨rv, hp.objs.size + 1, _, _, ⟨G, g2, d2, t2, os2⟩, _, .ref C, some d,
      rfl, J, kG, ng, at2, ⟨rfl, rfl, fun vs z => by cases z; rfl⟩, rfl, rfl, na,
      rfl, bare, raises_own ox.exC ox.tyC, q2⟩
/-- raise C(e1, e2), its context None -/
theorem ps_raise2N {f1 f2 : Str} {W : WX}
    (M : XMk X.prog X.w X.K X.mg X.base C k x ps (spX2 C f1 f2))
    (room : Room (k + 1) X.A) (hc : X.calm = true) (tk : L2N.Takes X W)
    (ha : PA X (e :: es) ta) (hg : Gl X x := by rfl)
    (h1 : (x == ("__debug__" : Str)) = false := by decide)
    (h2 : starEach (e :: es) X.env =
      (false, eval e X.env) :: starEach es X.env := by rfl)
    (h3 : (backTo pos (starEach es X.env)).any (·.1) = false := by rfl) :
    PS X (.Raise (some (.Call (.Name x p) (e :: es) [] pos)) none pos2)
      (tRaise2 C f1 f2 W ta) := by
  refine ps_imp (L2N.ps_raise hc tk (pmkN M room (pa_mid ha) hg h1 h2 h3)) ?_
  intro D σ H h
  refine ⟨_, h, ?_⟩
  rintro vs H1 ⟨v1, v2, rfl, q⟩
  refine ⟨by simp, fun a na => ⟨a, v1, v2, rfl, upd_same, fun d nd ne => ?_⟩⟩
  have nd1 : H1 d = none := by rw [upd_ne ne] at nd; exact nd
  refine ⟨rfl, d, _, ?_, upd_same, nd1, ?_⟩
  · rw [upd_ne ne.symm, upd_same]
  · obtain ⟨e1, e2⟩ := made_same (C := C) (fs := [(f2, v2), (f1, v1)]) na nd1
      (H2 := upd (upd (upd (upd H1 a (exo a C none)) d (exd d [(f1, v1)])) a
        (exo a C (some d))) d (exd d [(f2, v2), (f1, v1)])) fun b o z => by
        rw [upd_ne (ne_of_none z nd1), upd_ne (ne_of_none z na),
          upd_ne (ne_of_none z nd1), upd_ne (ne_of_none z na)]
        exact z
    exact q d _ nd1 e1 e2
/-- a class whose error is raised while another one is handled -/
structure XMkH (P : Program) (w : World) (K : PySem.W.Frag)
    (mg : Str → Option Value) (base : Heap) (C : Addr) (k : Nat) (x : Str)
    (ps : List Str) (sp : Sp) : Prop where
  mgC : mg x = some (.ref C)
  cl : XCl K C
  ex : ∃ f fd, L2H.FnH P w K mg base CX0 k f fd ps sp ∧
    PySem.W.findIn K (.ref C) "__init__" = some (some (.ref f)) ∧
    PySem.W.typeIn K (.ref f) = some (.type "function") ∧ Binds K fd ps []
/-- raise C(e1) from None, in an except suite -/
theorem ps_raise1H {f1 : Str} {W : WX} {j : Nat} {cpos : Pos}
    (M : XMkH X.prog X.w X.K X.mg X.base C k x ps (spX1 C f1))
    (room : L2H.RoomH (k + 1) X.A) (hc : L2H.HotC X) (tk : L2.Takes X W)
    (ha : PA X (e :: es) ta) (hg : Gl X x := by rfl)
    (h1 : (x == ("__debug__" : Str)) = false := by decide)
    (h2 : starEach (e :: es) X.env =
      (false, eval e X.env) :: starEach es X.env := by rfl)
    (h3 : (backTo pos (starEach es X.env)).any (·.1) = false := by rfl) :
    PS X (.Raise (some (.Call (.Name x p) (e :: es) [] pos))
      (some (.Constant .none j cpos)) pos2) (tRaise1 C f1 W ta) := by
  obtain ⟨f, fd, fn, iC, tI, b⟩ := M.ex
  refine ps_imp (L2H.ps_raiseHN hc tk (L2H.pmk5_oexH M.cl.ox iC tI fn room hc b
    pass0' hg M.mgC (pa_mid ha) h1 h2 h3)) ?_
  intro D σ H h
  refine ⟨_, h, ?_⟩
  rintro vs H1 ⟨v1, rfl, q⟩
  refine ⟨by simp, fun a na => ⟨a, v1, rfl, upd_same, fun d nd ne => ?_⟩⟩
  have nd1 : H1 d = none := by rw [upd_ne ne] at nd; exact nd
  refine ⟨rfl, d, [(f1, v1)], upd_same, ?_, nd1, ?_⟩
  · rw [upd_ne ne, upd_same]
  · obtain ⟨e1, e2⟩ := made_same (C := C) (fs := [(f1, v1)]) na nd1
      (H2 := upd (upd (upd H1 a (exo a C none)) d (exd d [(f1, v1)])) a
        (exo a C (some d))) fun b o z => by
        rw [upd_ne (ne_of_none z na), upd_ne (ne_of_none z nd1),
          upd_ne (ne_of_none z na)]
        exact z
    exact q d _ nd1 e1 e2
end
/-! ### callees that raise, whatever is known of what they raise -/
section
variable {X : Cx} {k : Nat} {ps : List Str} {sp : Sp} {x : Str} {C : Addr}
  {p pos : Pos} {e : Expr} {es : List Expr} {t : TA} {CX : CXT}
structure CalE (CX : CXT) (P : Program) (w : World) (K : PySem.W.Frag)
    (mg : Str → Option Value) (base : Heap) (k : Nat) (x : Str)
    (ps : List Str) (sp : Sp) : Prop where
  ex : ∃ f fd, FnOk P w K mg base CX k f fd ps sp ∧
    mg x = some (.ref f) ∧ PySem.W.keepIn K (.ref f) = true ∧
    Binds K fd ps []
theorem pe_calE {E : XK} (M : CalE CX X.prog X.w X.K X.mg X.base k x ps sp)
    (room : Room k X.A) (hx : Passes CX X E) (ha : PA X (e :: es) t)
    (hg : Gl X x := by rfl)
    (h1 : (x == ("__debug__" : Str)) = false := by decide)
    (h2 : starEach (e :: es) X.env =
      (false, eval e X.env) :: starEach es X.env := by rfl)
    (h3 : (backTo pos (starEach es X.env)).any (·.1) = false := by rfl) :
    PE X (.Call (.Name x p) (e :: es) [] pos) (tCall sp [] E t) := by
  obtain ⟨f, fd, fn, m, kp, b⟩ := M.ex
  exact pe_call fn room hg m kp b .nil hx ha h1 h2 h3
structure CalCE (CX : CXT) (P : Program) (w : World) (K : PySem.W.Frag)
    (mg : Str → Option Value) (base : Heap) (C : Addr) (k : Nat) (x : Str)
    (ps : List Str) (sp : Sp) : Prop where
  mgC : mg x = some (.ref C)
  ex : ∃ f fd, FnOk P w K mg base CX k f fd ps sp ∧ Mk K C f ∧
    Binds K fd ps []
theorem pe_makeE {E : L2.St → XK}
    (M : CalCE CX X.prog X.w X.K X.mg X.base C k x ps sp)
    (room : Room (k + 1) X.A) (hx : ∀ σ, PassesAt CX X σ (E σ))
    (ha : PA X (e :: es) t) (hg : Gl X x := by rfl)
    (h1 : (x == ("__debug__" : Str)) = false := by decide)
    (h2 : starEach (e :: es) X.env =
      (false, eval e X.env) :: starEach es X.env := by rfl)
    (h3 : (backTo pos (starEach es X.env)).any (·.1) = false := by rfl) :
    PE X (.Call (.Name x p) (e :: es) [] pos) (tMakeS C sp E t) := by
  obtain ⟨f, fd, F, mk, b⟩ := M.ex
  constructor
  intro pins s σ H Q I h
  refine wpAny_Call_Name_kw (ld_glob I hg M.mgC ?_ h1)
  refine PySem.W.callWith_K (h₀ := X.base) I.ok.mod.kin mk.kp
    (thn (ha.run pos pins s σ H _ I h) ?_) h2 h3
  rintro us s1 ⟨vs, H1, I1, r, q⟩
  refine ⟨I1.kIn, ?_⟩
  show wpAny _ _ (call (.ref C) us) _ _ s1
  let a := s1.heap.objs.size + 1
  have q1 := q a s1.heap.objs.size (I1.hok.fresh (Nat.le_succ _))
    (I1.hok.fresh (Nat.le_refl _)) (Nat.ne_of_lt (Nat.lt_succ_self _))
  have I2 := Inv.made (C := C) I1
  have rr : Vals (V.ref a :: vs) (Value.ref a :: us) := .cons rfl r
  have hl : (Value.ref a :: us).length = ps.length :=
    rr.length.symm.trans (F.len _ _ _ _ q1)
  have bd := b _ (Value.ref a :: us) I2.kIn (by
    rw [List.append_nil]; exact hl)
  rw [List.append_nil] at bd
  refine wpAny_call (make_map (f := f) I1.kIn mk.makes mk.init
    (beq_iff_eq.mp mk.fn) (codeAny_mono (F.run _ X.stack _ _
      ⟨Value.ref a :: us, []⟩ (Value.ref a :: us) _ _ (E σ)
      (room.make C us []) (I2.env0.make C us []) bd rr q1) ?_))
  intro r s' hq
  match r, hq with
  | .error e, hq => exact hx σ pins _ _ e s' I2 hq
  | .ok .next, hq => exact False.elim hq
  | .ok .brk, hq => exact False.elim hq
  | .ok .cont, hq => exact False.elim hq
  | .ok (.ret u), hq =>
    obtain ⟨v, H', I3, rv, ev, q3⟩ := I2.after hq
    subst ev
    exact ⟨rv, ⟨V.ref a, H', I3, rfl, q3⟩⟩
end
section
variable {P : Program} {w : World} {K : PySem.W.Frag}
  {mg : Str → Option Value} {base : Heap} {CX : CXT}
/-- a def, whatever is told of what it raises -/
theorem okE {x qual : Str} {st : Stmt} {f : Addr} {fd : FuncData}
    {N ps : List Str} {k : Nat} {sp : Sp} (F : Fun K x qual st f fd)
    (S : FnScope N ps (defScope st))
    (len : ∀ vs H Q E, sp vs H Q E → vs.length = ps.length)
    (body : ∀ (cdv : Value) (A : Around) (outer : List Env) (s : Shared)
      (H : Hp) (vs : List V) (Q : VK) (E : XK),
      Room k (A.deeper (envOfC qual (defScope st) s.heap.objs.size f cdv)) →
      sp vs H Q E → ∃ t, PSs (cxOf CX P w K mg base N qual (defScope st) f cdv
        A outer s H E) (defBody st) t ∧
        t { nx := fun _ H' => Q .non H', rt := Q } (start N vs) H) :
    FnOk P w K mg base CX (k + 1) f fd ps sp := by
  obtain ⟨_, _, _, _, _, _, cdv, _, _, rfl, lk, hcd⟩ := F.ex
  exact fn_of lk hcd S len fun A outer s H vs Q E room h =>
    body cdv A outer s H vs Q E room h
/-- a def called while an error is handled -/
theorem okH {x qual : Str} {st : Stmt} {f : Addr} {fd : FuncData}
    {N ps : List Str} {k : Nat} {sp : Sp} (F : Fun K x qual st f fd)
    (S : FnScope N ps (defScope st))
    (len : ∀ vs H Q E, sp vs H Q E → vs.length = ps.length)
    (body : ∀ (cdv : Value) (A : Around) (outer : List Env) (s : Shared)
      (H : Hp) (vs : List V) (Q : VK) (E : XK) (p : Addr × Obj),
      sp vs H Q E → ∃ t, PSs (L2H.cxH CX P w K mg base N qual (defScope st) f
        cdv A outer s H E p) (defBody st) t ∧
        t { nx := fun _ H' => Q .non H', rt := Q } (start N vs) H) :
    L2H.FnH P w K mg base CX (k + 1) f fd ps sp := by
  obtain ⟨_, _, _, _, _, _, cdv, _, _, rfl, lk, hcd⟩ := F.ex
  exact L2H.fn_ofH lk hcd S len fun A outer s H vs Q E p _ _ h =>
    body cdv A outer s H vs Q E p h
end
end OM
/-! list(x) of a text: its signs -/
namespace OM
open PySem PySem.Spec PyProof.Rows L2
def sgn (l : List Nat) : List V := l.map fun c => vS [c]
theorem valsGet : ∀ {vs : List V} {us : List Value}, vs.length = us.length →
    (∀ (i : Nat) (v : V) (u : Value), vs[i]? = some v → us[i]? = some u →
      RelV v u) → Vals vs us
  | [], [], _, _ => .nil
  | v :: vs, u :: us, h, f => .cons (f 0 v u rfl rfl)
    (valsGet (by simpa using h) fun i v u hv hu => f (i + 1) v u hv hu)
  | [], u :: us, h, _ => by simp at h
  | v :: vs, [], h, _ => by simp at h
theorem cr_listS {X : Cx} (hc : X.calm = true) : CallR X (.type "list")
    (fun xs H Q => ∃ l : List Nat, xs = [vS l] ∧ l.length ≤ 1000 ∧
      ∀ q, H q = none → Q (.ref q) (upd H q (.lst (sgn l)))) := by
  intro pins s σ H xs us Q I r h
  obtain ⟨l, rfl, few, q⟩ := h
  obtain ⟨u, rfl, rx⟩ := vals1 r
  obtain ⟨t, rfl⟩ := rx
  have size : (SX.S l).cps.size = l.length := SX.S_len l
  refine call_list_str (hn := by rw [size]; exact sz (by omega)) (I.ok.hd hc)
    (SX.S l) t fun h' tk acc c' hk at_ is_ => ?_
  have len : acc.toList.length = l.length := by
    rw [Array.length_toList, is_.1, size]
  have vals : Vals (sgn l) acc.toList := by
    refine valsGet ?_ fun i v u hv hu => ?_
    · unfold sgn
      rw [List.length_map, len]
    · rw [Array.getElem?_toList] at hu
      have sg := is_.2 i u hu
      unfold sgn at hv
      rw [List.getElem?_map] at hv
      obtain ⟨c, tt, hc', rfl⟩ := sg
      have e : l[i]? = some c := by rw [← hc']; exact (Array.getElem?_toList (xs := (SX.S l).cps)) ▸ rfl
      rw [e] at hv
      cases hv
      exact ⟨tt, rfl⟩
  refine ⟨.ref _, upd H _ (.lst (sgn l)), I.laid (t' := tk) hk (Nat.le_refl _)
    (show ObjOk X.prog X.w _ _ _ (.lst (sgn l)) from
      ⟨?_, acc.toList, c', vals, ?_⟩), rfl, q _ (I.hok.fresh (Nat.le_refl _))⟩
  · unfold sgn
    rw [List.length_map]
    exact sz (by omega)
  · rw [Array.toArray_toList]
    exact at_
end OM
namespace OM
open PySem PySem.Spec PyProof.Rows L2

/-- code objects whose tables are still empty, and lie outside what K tells -/
structure Bare0 (K : PySem.W.Frag) (h : Heap) (cs : List (Addr × Addr)) :
    Prop where
  hd : ∀ p ∈ cs, PySem.W.CodeHd h p.1 p.2
  emp : ∀ p ∈ cs, h.get? p.2 = some (PySem.W.tabObj #[])
  out : ∀ p ∈ cs, K.lookup p.2 = none

/-- a heap that knows of the tables alone -/
noncomputable def tabHp (cs : List (Addr × Addr)) : Hp := by
  classical exact fun b =>
    if ∃ p ∈ cs, p.2 = b then some (HO.tbl #[]) else none
theorem tabHp_in {cs : List (Addr × Addr)} {p : Addr × Addr} (h : p ∈ cs) :
    tabHp cs p.2 = some (.tbl #[]) := by
  unfold tabHp
  exact if_pos ⟨p, h, rfl⟩
theorem tabHp_some {cs : List (Addr × Addr)} {b : Addr} {u : HO}
    (h : tabHp cs b = some u) : u = .tbl #[] ∧ ∃ p ∈ cs, p.2 = b := by
  unfold tabHp at h
  by_cases q : ∃ p ∈ cs, p.2 = b
  · rw [if_pos q] at h
    exact ⟨(Option.some.inj h).symm, q⟩
  · rw [if_neg q] at h
    cases h

/-- lawG where some defs make lambdas -/
theorem lawT {P : Program} {w : World} {K : PySem.W.Frag}
    {mg mb : Str → Option Value} {k : Nat} {fa a : Addr} {fd : FuncData}
    {x : Str} {sp : Sp} {s1 : Shared} {vs : List Value} {ns : List Int}
    {cs : List (Addr × Addr)}
    (kin : K.In s1.heap) (glob : s1.heap.Ns mainGlobals mg)
    (blt : s1.heap.Ns builtinsNs mb)
    (boot : ∀ x : Str, x ≠ "__name__" → mb x = bootBuiltins x)
    (nol : s1.heap.NoLimit) (gens : s1.gens = #[])
    (Z : Bare0 K s1.heap cs)
    (bmod : ∃ (m : Addr) (o : Obj), mg "__builtins__" = some (.ref m) ∧
      m ≠ builtinsNs ∧ s1.heap.get? m = some o ∧ o.cls = .type "module" ∧
      o.dict = some builtinsNs ∧ o.data = .plain)
    (ha : s1.heap.get? a =
      some { cls := .type "list", data := .seq vs.toArray })
    (hints : IntsAre vs ns) (hl : ns.length ≤ sizeLine)
    (room : Room k callerA)
    (F : ∀ base : Heap, K.In base → base.Ns mainGlobals mg →
      (∀ p ∈ cs, LamX.TabB base mg p.1 p.2) →
      (∀ b o, s1.heap.get? b = some o → (∀ z, o.data ≠ .seq z 0) →
        o.data ≠ .fields #[] → base.get? b = some o) →
      FnG P w K mg base CX0 k fa fd [x] sp)
    (bind : ∀ (s : Shared) (u : Value), BindsTo s fd ⟨[u], []⟩ [(x, u)])
    (hsp : ∀ H : Hp, (∀ p ∈ cs, H p.2 = some (.tbl #[])) →
      SqL K H a (ns.map V.int) →
      sp [.ref a] H (fun v _ => v = .bl true) E0) :
    codeAny (model P w) callerA (.call (.ref fa) ⟨[.ref a], []⟩)
      (fun r s' => r = .ok (.ret (.bool true)) ∧ OldK s1.heap s'.heap ∧
        s'.os = s1.os ∧ AllBare s'.gens) s1 := by
  have rel := vals_ints hints
  have lv := hints.length
  have aOut : ∀ p ∈ cs, p.2 ≠ a := fun p hp e => by
    have z := Z.emp p hp
    rw [e, ha] at z
    have z' := congrArg Obj.data (Option.some.inj z)
    cases z'
  suffices core : ∀ H : Hp, SqL K H a (ns.map V.int) →
      HOk P w H s1.heap → (∀ p ∈ cs, H p.2 = some (.tbl #[])) →
      (∀ b, b ≠ a → H b ≠ none → ∃ p ∈ cs, p.2 = b) →
      (H a = none ∨ (∃ o xs, H a = some (.frz o (.lst xs))) ∧
        K.lookup a = none) →
      codeAny (model P w) callerA (.call (.ref fa) ⟨[.ref a], []⟩)
        (fun r s' => r = .ok (.ret (.bool true)) ∧ OldK s1.heap s'.heap ∧
          s'.os = s1.os ∧ AllBare s'.gens) s1 by
    have tabOk : ∀ b u, tabHp cs b = some u → u = .tbl #[] ∧
        s1.heap.get? b = some (PySem.W.tabObj #[]) := fun b u e => by
      obtain ⟨e1, p, hp, e2⟩ := tabHp_some e
      exact ⟨e1, e2 ▸ Z.emp p hp⟩
    have tabA : tabHp cs a = none := by
      cases q : tabHp cs a with
      | none => rfl
      | some u =>
        obtain ⟨_, p, hp, e⟩ := tabHp_some q
        exact absurd e (aOut p hp)
    by_cases hk : ∃ o, K.lookup a = some o
    · obtain ⟨o, hk⟩ := hk
      have e := kin a o hk
      rw [ha] at e
      cases e
      refine core (tabHp cs) (Or.inr ?_) (fun b u z => ?_)
        (fun p hp => tabHp_in hp) (fun b _ z => ?_) (Or.inl tabA)
      · exact ⟨_, vs.toArray, _, hk, rfl, rfl, rfl,
          by rw [List.size_toArray, lv]; exact hl, by simpa using rel⟩
      · obtain ⟨rfl, e⟩ := tabOk b u z
        exact e
      · cases q : tabHp cs b with
        | none => exact absurd q z
        | some u => exact (tabHp_some q).2
    · have hk : K.lookup a = none := by
        cases q : K.lookup a with
        | none => rfl
        | some o => exact absurd ⟨o, q⟩ hk
      let ob : Obj := { cls := .type "list", data := .seq vs.toArray }
      refine core (upd (tabHp cs) a (.frz ob (.lst (ns.map V.int))))
        (Or.inl (Or.inr ⟨ob, upd_same⟩)) (fun b u z => ?_)
        (fun p hp => by rw [upd_ne (aOut p hp)]; exact tabHp_in hp)
        (fun b hb z => ?_) (Or.inr ⟨⟨ob, _, upd_same⟩, hk⟩)
      · by_cases hb : b = a
        · subst hb
          rw [upd_same] at z
          cases z
          exact ⟨ha, by rw [List.length_map]; exact hl, vs, _, rel, ha⟩
        · rw [upd_ne hb] at z
          obtain ⟨rfl, e⟩ := tabOk b u z
          exact e
      · rw [upd_ne hb] at z
        cases q : tabHp cs b with
        | none => exact absurd q z
        | some u => exact (tabHp_some q).2
  intro H sq ok tabs others atA
  -- what is neither a list nor an empty table is not tracked
  have untracked : ∀ {b : Addr} {o : Obj}, s1.heap.get? b = some o →
      (∀ z, o.data ≠ .seq z 0) → o.data ≠ .fields #[] → H b = none := by
    intro b o e d1 d2
    by_cases hb : b = a
    · subst hb
      rw [ha] at e
      cases e
      exact absurd rfl (d1 _)
    · cases q : H b with
      | none => rfl
      | some u =>
        obtain ⟨p, hp, e2⟩ := others b hb (by rw [q]; exact nofun)
        have z := Z.emp p hp
        rw [e2, e] at z
        cases z
        exact absurd rfl d2
  have ns' : ∀ {b : Addr} {m : Str → Option Value}, s1.heap.Ns b m →
      (hidT s1.heap H).Ns b m := by
    rintro b m ⟨o, es, ep, e, d, r⟩
    refine ⟨o, es, ep, hidT_get e (untracked e (fun z y => ?_)
      fun y => ?_), d, r⟩
    · cases d.symm.trans y
    · cases d.symm.trans y
  have kin' : K.In (hidT s1.heap H) := by
    intro b o e
    refine hidT_get (kin b o e) ?_
    by_cases hb : b = a
    · subst hb
      rcases atA with z | ⟨_, z⟩
      · exact z
      · rw [z] at e
        cases e
    · cases q : H b with
      | none => rfl
      | some u =>
        obtain ⟨p, hp, e2⟩ := others b hb (by rw [q]; exact nofun)
        rw [← e2, Z.out p hp] at e
        cases e
  have md : Mod K mg (hidT s1.heap H) := by
    obtain ⟨mc, h1, h2⟩ := nol
    exact ⟨kin', ns' glob, ⟨mb, ns' blt, boot⟩, ⟨mc, ns' h1, h2⟩⟩
  have made : ∀ p ∈ cs, LamX.TabB (hidT s1.heap H) mg p.1 p.2 := by
    intro p hp
    have em := Z.emp p hp
    have far : ∀ {b : Addr} {o : Obj}, s1.heap.get? b = some o →
        o.data ≠ .fields #[] → b ≠ p.2 := fun {b o} e d z => by
      rw [z, em] at e
      cases e
      exact d rfl
    obtain ⟨gob, ges, gep, ge, gd, _⟩ := glob
    refine ⟨?_, ?_, far ge (by rw [gd]; exact nofun)⟩
    · obtain ⟨o, us, v1, v2, v3, v4, v5, v6, v7, e1, e2, e3, e4, e5⟩ :=
        Z.hd p hp
      refine ⟨o, us, v1, v2, v3, v4, v5, v6, v7, hidT_get e1 (untracked e1
        (fun z y => ?_) (fun y => ?_)), e2, e3, e4, e5⟩
      · cases e3.symm.trans y
      · cases e3.symm.trans y
        simp at e4
    · obtain ⟨m, o, b1, b2, b3, b4, b5, b6⟩ := bmod
      refine ⟨m, o, b1, b2, fun z => ?_, far b3 (by rw [b6]; exact nofun),
        hidT_get b3 (untracked b3 (by rw [b6]; exact nofun)
          (by rw [b6]; exact nofun)), b4, b5, b6⟩
      rw [z, ge] at b3
      cases b3
      cases gd.symm.trans b6
  have env : Env0 P w K mg (hidT s1.heap H) callerA [] s1 H :=
    ⟨rfl, md, fun b o e => of_hidT e, Nat.le_of_eq (hidT_size _ _), trivial,
      fun b hb => (nomatch (show b ∈ ([] : List Addr) from hb)), ok,
      .of_eq gens⟩
  refine codeAny_mono ((F _ kin' (ns' glob) made fun b o e d1 d2 =>
    hidT_get e (untracked e d1 d2)).run callerA [] s1 H ⟨[.ref a], []⟩ [.ref a] [.ref a] _ _ room rfl env (bind s1 (.ref a))
    (.cons rfl .nil) (hsp H tabs sq)) ?_
  intro r s' h
  match r, h with
  | .error e, h => exact False.elim h
  | .ok .next, h => exact False.elim h
  | .ok .brk, h => exact False.elim h
  | .ok .cont, h => exact False.elim h
  | .ok (.ret u), h =>
    obtain ⟨v, H', os, bare, un, ok', rv, q⟩ := h
    cases (show v = .bl true from q)
    cases (show u = Value.bool true from rv)
    have stay : ∀ b o, (∀ p ∈ cs, p.2 ≠ b) → s1.heap.get? b = some o →
        s'.heap.get? b = some o := fun b o nb e => by
      cases q : H b with
      | none =>
        exact un.keep b o e q
          (fun z => nomatch (show b ∈ ([] : List Addr) from z)) (by simp)
      | some u =>
        by_cases hb : b = a
        · subst hb
          rcases atA with z | ⟨⟨ob, xs, z⟩, _⟩
          · rw [z] at q
            cases q
          · have e1 := (ok b _ z).1
            have e2 := (ok' b _ (un.frzs b ob _ z)).1
            rw [e] at e1
            cases e1
            exact e2
        · obtain ⟨p, hp, e2⟩ := others b hb (by rw [q]; exact nofun)
          exact absurd e2 (nb p hp)
    have grow : ∀ p ∈ cs, ∃ us : Array Value,
        s'.heap.get? p.2 = some (PySem.W.tabObj us) := fun p hp => by
      obtain ⟨us, z⟩ := un.tbls p.2 #[] (tabs p hp)
      exact ⟨_, ok' p.2 _ z⟩
    refine ⟨rfl, ⟨fun b o e => ?_, fun b o e => ?_⟩, os, bare⟩
    · by_cases hb : ∃ p ∈ cs, p.2 = b
      · obtain ⟨p, hp, rfl⟩ := hb
        obtain ⟨us, g⟩ := grow p hp
        rw [Z.emp p hp] at e
        cases e
        refine Or.inr (Or.inl ⟨((Z.hd p hp).tab (Z.emp p hp)).isCodeTable,
          rfl, #[], us, rfl, ?_⟩)
        rw [Array.empty_append]
        exact g
      · exact Or.inl (stay b o (fun p hp z => hb ⟨p, hp, z⟩) e)
    · by_cases hb : ∃ p ∈ cs, p.2 = b
      · obtain ⟨p, hp, rfl⟩ := hb
        obtain ⟨us, g⟩ := grow p hp
        exact ⟨_, g⟩
      · exact ⟨o, stay b o (fun p hp z => hb ⟨p, hp, z⟩) e⟩

/-- walkG where some defs make lambdas -/
theorem walkT {l : PySem.W.OpenLaw} {n k : Nat} {q : Program} {ls : List Str}
    {XP : (Str → Option Value) → Heap → Prop} {YP : World → Heap → Prop}
    {d : DefRec} {K : Params → PySem.W.Frag}
    {x : Str}
    (hn : l.most = some n) (hn2 : n ≤ sizeLine)
    (hdf : d.params.defaults = []) (room : Room k callerA)
    (hY : ∀ (w : World) (h : Heap), YP w h → (K w.params).In h)
    (F : ∀ (w : World) (mg : Str → Option Value) (fa : Addr) (h : Heap),
      YP w h → (K w.params).In h → h.Ns mainGlobals mg →
      mg d.name = some (.ref fa) →
      ∃ (fd : FuncData) (cs : List (Addr × Addr)) (sp : Sp),
        Bare0 (K w.params) h cs ∧
        (∀ (s : Shared) (u : Value), BindsTo s fd ⟨[u], []⟩ [(x, u)]) ∧
        (∀ (H : Hp) (a : Addr) (ns : List Int), ns.length ≤ n →
          (∀ p ∈ cs, H p.2 = some (.tbl #[])) →
          SqL (K w.params) H a (ns.map V.int) →
          sp [.ref a] H (fun v _ => v = .bl true) E0) ∧
        ∀ base : Heap, (K w.params).In base → base.Ns mainGlobals mg →
          (∀ p ∈ cs, LamX.TabB base mg p.1 p.2) →
          (∀ b o, h.get? b = some o → (∀ z, o.data ≠ .seq z 0) →
            o.data ≠ .fields #[] → base.get? b = some o) →
          FnG l.prog w (K w.params) mg base CX0 k fa fd [x] sp) :
    PySem.W.WalkO q ls XP YP l.row.toRowW d []
      (fun f vs => PySem.call f vs) := by
  refine Att.attach_call hn hdf ?_
  intro w s₀ s1 mg mb fa o pm cd doc a vs ns G Y ho hd hcd hmg hobj hi hlen hg
  have KX := hY w _ Y
  obtain ⟨fd, cs, sp, Z, hb, hs, hF⟩ := F w mg fa _ Y KX G.T.g hmg
  exact lawT KX G.T.g G.T.b G.T.builtins G.T.nolimit hg Z G.T.bmain hobj hi
    (Nat.le_trans hlen hn2) room hF hb
    (fun H hH hS => hs H a ns hlen hH hS)
end OM
namespace OM
open PySem PySem.Spec PyProof.Rows L2
def topS (i : Nat) : Stmt :=
  PySem.Challenge.pw_ordermerge_k16_whole_texts_corrupted.main.body.getD i
    (.Pass ⟨0, 0, 0, 0⟩)
abbrev s_InvalidBase_init : Stmt := inClass (topS 3) 0
abbrev N_InvalidBase_init : List Str := ["self", "problem", "position"]
theorem sc_InvalidBase_init : FnScope N_InvalidBase_init
    ["self", "problem", "position"] (defScope s_InvalidBase_init) :=
  ⟨rfl, rfl, rfl, by decide +kernel, rfl,
    by decide +kernel, by decide +kernel⟩
abbrev s_InvalidOrder_init : Stmt := inClass (topS 4) 0
abbrev N_InvalidOrder_init : List Str := ["self", "position"]
theorem sc_InvalidOrder_init : FnScope N_InvalidOrder_init
    ["self", "position"] (defScope s_InvalidOrder_init) :=
  ⟨rfl, rfl, rfl, by decide +kernel, rfl,
    by decide +kernel, by decide +kernel⟩
abbrev s_InvalidText_init : Stmt := inClass (topS 5) 0
abbrev N_InvalidText_init : List Str := ["self", "line"]
theorem sc_InvalidText_init : FnScope N_InvalidText_init
    ["self", "line"] (defScope s_InvalidText_init) :=
  ⟨rfl, rfl, rfl, by decide +kernel, rfl,
    by decide +kernel, by decide +kernel⟩
abbrev s_is_name : Stmt := topS 9
abbrev N_is_name : List Str := ["value", "letter"]
theorem sc_is_name : FnScope N_is_name
    ["value"] (defScope s_is_name) :=
  ⟨rfl, rfl, rfl, by decide +kernel, rfl,
    by decide +kernel, by decide +kernel⟩
abbrev s_names_fault : Stmt := topS 10
abbrev N_names_fault : List Str := ["value", "most", "seen", "at", "name"]
theorem sc_names_fault : FnScope N_names_fault
    ["value", "most"] (defScope s_names_fault) :=
  ⟨rfl, rfl, rfl, by decide +kernel, rfl,
    by decide +kernel, by decide +kernel⟩
abbrev s_check_items : Stmt := topS 11
abbrev N_check_items : List Str := ["items", "fault", "problem", "position"]
theorem sc_check_items : FnScope N_check_items
    ["items"] (defScope s_check_items) :=
  ⟨rfl, rfl, rfl, by decide +kernel, rfl,
    by decide +kernel, by decide +kernel⟩
abbrev s_Base_init : Stmt := inClass (topS 12) 0
abbrev N_Base_init : List Str := ["self", "items", "name", "at"]
theorem sc_Base_init : FnScope N_Base_init
    ["self", "items"] (defScope s_Base_init) :=
  ⟨rfl, rfl, rfl, by decide +kernel, rfl,
    by decide +kernel, by decide +kernel⟩
abbrev s_Base_eq : Stmt := inClass (topS 12) 1
abbrev N_Base_eq : List Str := ["self", "other"]
theorem sc_Base_eq : FnScope N_Base_eq
    ["self", "other"] (defScope s_Base_eq) :=
  ⟨rfl, rfl, rfl, by decide +kernel, rfl,
    by decide +kernel, by decide +kernel⟩
abbrev s_Base_len : Stmt := inClass (topS 12) 2
abbrev N_Base_len : List Str := ["self"]
theorem sc_Base_len : FnScope N_Base_len
    ["self"] (defScope s_Base_len) :=
  ⟨rfl, rfl, rfl, by decide +kernel, rfl,
    by decide +kernel, by decide +kernel⟩
abbrev s_Base_repr : Stmt := inClass (topS 12) 3
abbrev N_Base_repr : List Str := ["self"]
theorem sc_Base_repr : FnScope N_Base_repr
    ["self"] (defScope s_Base_repr) :=
  ⟨rfl, rfl, rfl, by decide +kernel, rfl,
    by decide +kernel, by decide +kernel⟩
abbrev s_Base_names : Stmt := inClass (topS 12) 4
abbrev N_Base_names : List Str := ["self"]
theorem sc_Base_names : FnScope N_Base_names
    ["self"] (defScope s_Base_names) :=
  ⟨rfl, rfl, rfl, by decide +kernel, rfl,
    by decide +kernel, by decide +kernel⟩
abbrev s_Base_has_item : Stmt := inClass (topS 12) 5
abbrev N_Base_has_item : List Str := ["self", "value"]
theorem sc_Base_has_item : FnScope N_Base_has_item
    ["self", "value"] (defScope s_Base_has_item) :=
  ⟨rfl, rfl, rfl, by decide +kernel, rfl,
    by decide +kernel, by decide +kernel⟩
abbrev s_order_fault : Stmt := topS 13
abbrev N_order_fault : List Str := ["base", "value", "at", "name"]
theorem sc_order_fault : FnScope N_order_fault
    ["base", "value"] (defScope s_order_fault) :=
  ⟨rfl, rfl, rfl, by decide +kernel, rfl,
    by decide +kernel, by decide +kernel⟩
abbrev s_is_order : Stmt := topS 14
abbrev N_is_order : List Str := ["base", "value"]
theorem sc_is_order : FnScope N_is_order
    ["base", "value"] (defScope s_is_order) :=
  ⟨rfl, rfl, rfl, by decide +kernel, rfl,
    by decide +kernel, by decide +kernel⟩
abbrev s_words_of : Stmt := topS 16
abbrev N_words_of : List Str := ["text"]
theorem sc_words_of : FnScope N_words_of
    ["text"] (defScope s_words_of) :=
  ⟨rfl, rfl, rfl, by decide +kernel, rfl,
    by decide +kernel, by decide +kernel⟩
abbrev s_load_base : Stmt := topS 17
abbrev N_load_base : List Str := ["text", "words"]
theorem sc_load_base : FnScope N_load_base
    ["text"] (defScope s_load_base) :=
  ⟨rfl, rfl, rfl, by decide +kernel, rfl,
    by decide +kernel, by decide +kernel⟩
abbrev s_load_order : Stmt := topS 18
abbrev N_load_order : List Str := ["base", "text", "words"]
theorem sc_load_order : FnScope N_load_order
    ["base", "text"] (defScope s_load_order) :=
  ⟨rfl, rfl, rfl, by decide +kernel, rfl,
    by decide +kernel, by decide +kernel⟩
abbrev s_Lrng : Stmt := topS 20
abbrev N_Lrng : List Str := ["_law_script", "_law_k", "_law_cell"]
theorem sc_Lrng : FnScope N_Lrng
    ["_law_script", "_law_k"] (defScope s_Lrng) :=
  ⟨rfl, rfl, rfl, by decide +kernel, rfl,
    by decide +kernel, by decide +kernel⟩
abbrev s_Ldraw : Stmt := topS 21
abbrev N_Ldraw : List Str := ["_law_rng_here", "_law_many", "_law_digit"]
theorem sc_Ldraw : FnScope N_Ldraw
    ["_law_rng_here", "_law_many"] (defScope s_Ldraw) :=
  ⟨rfl, rfl, rfl, by decide +kernel, rfl,
    by decide +kernel, by decide +kernel⟩
abbrev s_Lchoice : Stmt := topS 22
abbrev N_Lchoice : List Str := ["_law_rng_here", "_law_options"]
theorem sc_Lchoice : FnScope N_Lchoice
    ["_law_rng_here", "_law_options"] (defScope s_Lchoice) :=
  ⟨rfl, rfl, rfl, by decide +kernel, rfl,
    by decide +kernel, by decide +kernel⟩
abbrev s_Lname : Stmt := topS 23
abbrev N_Lname : List Str := ["_law_rng_here", "_law_used", "_law_letters", "_law_length", "_law_name_here", "_law_k", "_law_fresh", "_law_one"]
theorem sc_Lname : FnScope N_Lname
    ["_law_rng_here", "_law_used"] (defScope s_Lname) :=
  ⟨rfl, rfl, rfl, by decide +kernel, rfl,
    by decide +kernel, by decide +kernel⟩
abbrev s_Lnames : Stmt := topS 24
abbrev N_Lnames : List Str := ["_law_rng_here", "_law_many", "_law_used", "_law_result", "_law_k"]
theorem sc_Lnames : FnScope N_Lnames
    ["_law_rng_here", "_law_many", "_law_used"] (defScope s_Lnames) :=
  ⟨rfl, rfl, rfl, by decide +kernel, rfl,
    by decide +kernel, by decide +kernel⟩
abbrev s_Lshuffled : Stmt := topS 25
abbrev N_Lshuffled : List Str := ["_law_rng_here", "_law_values", "_law_pool", "_law_k"]
theorem sc_Lshuffled : FnScope N_Lshuffled
    ["_law_rng_here", "_law_values"] (defScope s_Lshuffled) :=
  ⟨rfl, rfl, rfl, by decide +kernel, rfl,
    by decide +kernel, by decide +kernel⟩
abbrev s_Lis_name : Stmt := topS 26
abbrev N_Lis_name : List Str := ["_law_word", "_law_sign"]
theorem sc_Lis_name : FnScope N_Lis_name
    ["_law_word"] (defScope s_Lis_name) :=
  ⟨rfl, rfl, rfl, by decide +kernel, rfl,
    by decide +kernel, by decide +kernel⟩
abbrev s_Lchanged : Stmt := topS 27
abbrev N_Lchanged : List Str := ["_law_rng_here", "_law_text", "_law_at", "_law_way", "_law_sign", "_law_words", "_law_place", "_law_other"]
theorem sc_Lchanged : FnScope N_Lchanged
    ["_law_rng_here", "_law_text"] (defScope s_Lchanged) :=
  ⟨rfl, rfl, rfl, by decide +kernel, rfl,
    by decide +kernel, by decide +kernel⟩
abbrev s_Lbase_due : Stmt := topS 28
abbrev N_Lbase_due : List Str := ["_law_text", "_law_words", "_law_word", "_law_position"]
theorem sc_Lbase_due : FnScope N_Lbase_due
    ["_law_text"] (defScope s_Lbase_due) :=
  ⟨rfl, rfl, rfl, by decide +kernel, rfl,
    by decide +kernel, by decide +kernel⟩
abbrev s_Lorder_due : Stmt := topS 29
abbrev N_Lorder_due : List Str := ["_law_items", "_law_text", "_law_words"]
theorem sc_Lorder_due : FnScope N_Lorder_due
    ["_law_items", "_law_text"] (defScope s_Lorder_due) :=
  ⟨rfl, rfl, rfl, by decide +kernel, rfl,
    by decide +kernel, by decide +kernel⟩
abbrev s_Ltold : Stmt := topS 30
abbrev N_Ltold : List Str := ["_law_call", "_law_told_here", "e", "_law_others"]
theorem sc_Ltold : FnScope N_Ltold
    ["_law_call"] (defScope s_Ltold) :=
  ⟨rfl, rfl, rfl, by decide +kernel, rfl,
    by decide +kernel, by decide +kernel⟩
abbrev s_Ltext_right : Stmt := topS 31
abbrev N_Ltext_right : List Str := ["_law_base", "_law_items", "_law_text"]
theorem sc_Ltext_right : FnScope N_Ltext_right
    ["_law_base", "_law_items", "_law_text"] (defScope s_Ltext_right) :=
  ⟨rfl, rfl, rfl, by decide +kernel, rfl,
    by decide +kernel, by decide +kernel⟩
abbrev s_law : Stmt := topS 32
abbrev N_law : List Str := ["_law_script", "_law_k", "_law_rng_here", "_law_size", "_law_items", "_law_base", "_law_turn", "_law_text", "_law_change", "_law_some", "_law_many", "_law_value"]
theorem sc_law : FnScope N_law
    ["_law_script"] (defScope s_law) :=
  ⟨rfl, rfl, rfl, by decide +kernel, rfl,
    by decide +kernel, by decide +kernel⟩
end OM
namespace OM
open PySem PySem.Spec PyProof.Rows L2
section
variable {P : Program} {w : World} {K : PySem.W.Frag}
  {mg : Str → Option Value} {base : Heap}
theorem at0 (x y : V) : atI [x, y] 0 = some x := atI_nat (j := 0) rfl
theorem at1 (x y : V) : atI [x, y] 1 = some y := atI_nat (j := 1) rfl
theorem ok_draw {f : Addr} {fd : FuncData} {k : Nat}
    (F : Fun K "_law_draw" "_law_draw" s_Ldraw f fd) (B : Bl mg) :
    FnOk P w K mg base CX0 (k + 1) f fd ["_law_rng_here", "_law_many"]
      spDraw := by
  refine F.ok sc_Ldraw (fun vs H Q E h => ?_)
    (fun cv A outer s H vs Q E hr h => ?_)
  · obtain ⟨p, m, rfl, _⟩ := h
    rfl
  obtain ⟨p, m, rfl, rg, m0, m1, q⟩ := h
  obtain ⟨a, b, hp, a0, b0, b1⟩ := rg
  have nd := sc_Ldraw.nd
  refine ⟨_, pss_cons (ps_if (pt_cmpR op_gt
      (pe_ix ix_list (pv 0) pe_int (fun _ _ => rfl)) pe_int (nomark _))
      (pss_cons (ps_asg (pe_callB call_divmod (by rfl) B.divmod bt_divmod
          (pa_cons (pe_ix ix_list (pv 0) pe_int (fun _ _ => rfl))
            (pa_cons (pv 1) pa_nil)))
        (pg_tup rfl (pgs_cons (pg_sub (pv 0) pe_int set_list)
          (pgs_cons (pg_name (i := 2) nd rfl (.inl rfl)) pgs_nil))))
        (pss_one (ps_ret (pv 2)))) pss_nil)
    (pss_cons (ps_asg (pe_op op_mod (pe_op op_add (pe_op op_mul
        (pe_ix ix_list (pv 0) pe_int (fun _ _ => rfl)) pe_int) pe_int) pe_int)
        (pg_sub (pv 0) pe_int set_list))
    (pss_one (ps_ret (pe_op op_mod (pe_op op_fdiv (pe_op op_mod (pe_op op_mul
        (pe_ix ix_list (pv 0) pe_int (fun _ _ => rfl))
        (pe_ix ix_list (pv 0) pe_int (fun _ _ => rfl))) pe_int) pe_int)
        (pv 1))))), ?_⟩
  refine ⟨_, rfl, p, _, 0, _, rfl, rfl, SqL.of hp, at0 _ _, _, _, rfl, rfl,
    _, rfl, ite2 (fun c => ?_) (fun c => ?_)⟩
  · have c' : 0 < a := of_decide_eq_true c
    refine ⟨_, rfl, p, _, 0, _, rfl, rfl, SqL.of hp, at0 _ _, _, rfl, a, m,
      rfl, ⟨m0, by omega⟩, fun t nt => ?_⟩
    have nt' : p ≠ t := ne_of_none hp nt
    have hp' : (upd H t (.tup [.int (a / m), .int (a % m)])) p =
        some (.lst [.int a, .int b]) := by rw [upd_ne nt']; exact hp
    refine ⟨t, _, rfl, .inl (.inl upd_same), rfl, _, _, rfl, _, rfl, p, _, 0,
      0, rfl, rfl, hp', rfl, _, _, rfl, rfl, _, rfl, ?_⟩
    refine q _ _ (Int.emod_nonneg _ (by omega)) (Int.emod_lt_of_pos _ m0)
      ⟨a / m, b, upd_same, Int.ediv_nonneg a0 (by omega), b0, b1⟩ ?_
    exact ((But.refl H).new nt).at
  · have b2 : 0 ≤ (b * 48271 + 10007) % 2147483587 :=
      Int.emod_nonneg _ (by decide)
    have b3 : (b * 48271 + 10007) % 2147483587 < 2147483587 :=
      Int.emod_lt_of_pos _ (by decide)
    refine ⟨_, rfl, p, _, 1, _, rfl, rfl, SqL.of hp, at1 _ _, _, _, rfl, rfl,
      .inl ⟨by omega, by omega⟩, _, _, rfl, rfl, _, _, rfl, rfl,
      (by show (0 : Int) < 2147483587; decide), _, rfl, p, _, 1, 1, rfl, rfl,
      hp, rfl, ?_⟩
    have hp' : (upd H p (.lst [.int a,
        .int ((b * 48271 + 10007) % 2147483587)])) p = _ := upd_same
    refine ⟨_, rfl, p, _, 1, _, rfl, rfl, SqL.of hp', at1 _ _, _, rfl, p, _,
      1, _, rfl, rfl, SqL.of hp', at1 _ _, _, _, rfl, rfl,
      .inl ⟨by omega, by omega⟩, _, _, rfl, rfl,
      (by show (0 : Int) < 2147483549; decide), _, _, rfl, rfl,
      ⟨by decide, by decide⟩, _, rfl, _, _, rfl, rfl, m0, ?_⟩
    refine q _ _ (Int.emod_nonneg _ (by omega)) (Int.emod_lt_of_pos _ m0)
      ⟨a, _, upd_same, a0, b2, by omega⟩ (But.refl H).at
end
end OM
namespace OM
open PySem PySem.Spec PyProof.Rows L2
section
variable {P : Program} {w : World} {K : PySem.W.Frag}
  {mg : Str → Option Value} {base : Heap}
theorem ifx_cut {tA : TT} {ta tb : TE} {σ : L2.St} {H : Hp} {R : VK}
    (v : V) (h : ∀ R : VK, R v H → tIf tA ta tb σ H R) (k : R v H) :
    tIf tA ta tb σ H R := h R k
theorem ok_rng {f : Addr} {fd : FuncData} {k : Nat}
    (F : Fun K "_law_rng" "_law_rng" s_Lrng f fd) (B : Bl mg) :
    FnOk P w K mg base CX0 (k + 1) f fd ["_law_script", "_law_k"]
      (spRng K) := by
  refine F.ok sc_Lrng (fun vs H Q E h => ?_)
    (fun cv A outer s H vs Q E hr h => ?_)
  · obtain ⟨a, ns, k, rfl, _⟩ := h
    rfl
  obtain ⟨a, ns, n, rfl, hS, hn, q⟩ := h
  have nd := sc_Lrng.nd
  refine ⟨_, pss_cons (ps_set (i := 2) nd rfl (.inl rfl) (pe_ifExp
      (pt_cmpR op_lt (pv 1) (pe_callB call_len_seq (by rfl) B.len
        PySem.boot_len (pa_cons (pv 0) pa_nil)) (nomark _))
      (pe_callB call_abs (by rfl) B.abs bt_abs
        (pa_cons (pe_ix ix_list (pv 0) (pv 1) (fun _ _ => rfl)) pa_nil))
      pe_int))
    (pss_one (ps_ret (pe_lst (pa_cons
      (pe_callB (call_max2 rfl) (by rfl) B.max bt_max
        (pa_cons pe_int (pa_cons (pe_op op_sub (pv 2)
          (pe_op op_pow pe_int pe_int)) pa_nil)))
      (pa_cons (pe_op op_add (pe_op op_mod (pe_op op_pow
        (pe_op op_add (pe_op op_add (pe_op op_mod (pv 2) pe_int)
          (pe_op op_mul pe_int (pv 1))) pe_int) pe_int) pe_int) pe_int)
        pa_nil))))), ?_⟩
  obtain ⟨c, hc⟩ : ∃ c : Int, (n < ns.length → c =
      if ns.getD n 0 < 0 then - ns.getD n 0 else ns.getD n 0) ∧
      (¬ n < ns.length → c = 0) := by
    by_cases h : n < ns.length
    · exact ⟨_, fun _ => rfl, fun z => absurd h z⟩
    · exact ⟨0, fun z => absurd z h, fun _ => rfl⟩
  refine ifx_cut (.int c) (fun R hR => ?_) ?_
  · refine ⟨_, rfl, _, rfl, a, _, rfl, .inl hS, _, _, rfl, rfl, _, rfl,
      ite2 (fun z => ?_) (fun z => ?_)⟩
    · have z' : (n : Int) < ((ns.map V.int).length : Int) :=
        of_decide_eq_true z
      rw [List.length_map] at z'
      have hn' : n < ns.length := by omega
      have g : (ns.map V.int)[n]? = some (.int (ns.getD n 0)) := by
        rw [List.getElem?_map, List.getElem?_eq_getElem hn',
          List.getD_eq_getElem?_getD, List.getElem?_eq_getElem hn']
        rfl
      refine ⟨_, rfl, _, rfl, a, _, n, _, rfl, rfl, hS, atI_nat g, _, rfl, ?_⟩
      rw [← hc.1 hn']
      exact hR
    · have z' : ¬ n < ns.length := fun y => z (decide_eq_true (by
        rw [List.length_map]; omega))
      rw [hc.2 z'] at hR
      exact hR
  · have c0 : 0 ≤ c % 2147483543 := Int.emod_nonneg _ (by decide)
    have c1 : c % 2147483543 < 2147483543 :=
      Int.emod_lt_of_pos _ (by decide)
    refine ⟨_, rfl, _, _, rfl, rfl, ⟨by decide, by decide, by decide⟩, _, _,
      rfl, rfl, _, _, rfl, _, rfl, _, _, rfl, rfl,
      (by show (0 : Int) < 2147483543; decide), _, rfl, _, _, rfl, rfl,
      .inl ⟨by decide, by decide⟩, _, _, rfl, rfl, _, _, rfl, rfl, _, _, rfl,
      rfl, ⟨by decide, by decide, by omega⟩, _, _, rfl, rfl,
      (by show (0 : Int) < 2147483497; decide), _, _, rfl, rfl,
      (by show 2 ≤ sizeLine; decide), fun p np => ?_⟩
    generalize hb : ((c % 2147483543 + 101 * (n : Int) + 7) ^
      (2 : Int).toNat) % 2147483497 = b
    have b0 : 0 ≤ b := by rw [← hb]; exact Int.emod_nonneg _ (by decide)
    have b1 : b < 2147483497 := by
      rw [← hb]; exact Int.emod_lt_of_pos _ (by decide)
    refine q p _ np ⟨_, b + 1, upd_same, ?_, by omega, by omega⟩
      (sameNew np)
    split <;> omega
end
end OM
namespace OM
open PySem PySem.Spec PyProof.Rows L2
abbrev lets : Str := "abcdefghijklmnopqrstuvwxyz"
theorem lets_tl : lets.cps.toList = List.range' 97 26 := by decide +kernel
theorem lets_at {i : Int} (h0 : 0 ≤ i) (h1 : i < 26) :
    atI lets.cps.toList i = some (97 + i.toNat) := by
  have e : i = ((i.toNat : Nat) : Int) := by omega
  rw [e, lets_tl]
  refine atI_nat ?_
  rw [Int.toNat_natCast, List.getElem?_range' (by omega)]
  simp
theorem yes {σ : L2.St} {H : Hp} {A B : Hp → Prop} (h : A H) :
    tYes σ H fun b H' => if b = true then A H' else B H' :=
  iteT (B := B H) h
theorem joinL_ones : ∀ cs : List Nat,
    TL.joinL [] (cs.map fun c => [c]) = cs
  | [] => rfl
  | [c] => rfl
  | c :: d :: r => by
    have ih := joinL_ones (d :: r)
    show [c] ++ [] ++ TL.joinL [] ((d :: r).map fun c => [c]) = _
    rw [ih]
    rfl
def nmB (l : List Nat) : Bool :=
  decide (1 ≤ l.length) && decide (l.length ≤ 8) &&
    l.all fun c => decide (97 ≤ c) && decide (c ≤ 122)
theorem nmB_iff {l : List Nat} : nmB l = true ↔ Nm l := by
  unfold nmB
  simp only [Bool.and_eq_true, decide_eq_true_eq, List.all_eq_true]
  exact ⟨fun ⟨⟨a, b⟩, c⟩ => ⟨a, b, c⟩, fun n => ⟨⟨n.lo, n.hi⟩, n.az⟩⟩
theorem nm_of (x : Str) (h : nmB x.cps.toList = true) :
    ∃ l, (.str x : V) = vS l ∧ Nm l :=
  ⟨x.cps.toList, by rw [vS, SX.S_tl], nmB_iff.mp h⟩
/-- an item of eight written ones -/
theorem at8 {α : Type} {P : α → Prop} {a b c d e f g h : α} {i : Int}
    (h0 : 0 ≤ i) (h1 : i < 8) (pa : P a) (pb : P b) (pc : P c) (pd : P d)
    (pe : P e) (pf : P f) (pg : P g) (ph : P h) :
    ∃ v, atI [a, b, c, d, e, f, g, h] i = some v ∧ P v := by
  have e : i = 0 ∨ i = 1 ∨ i = 2 ∨ i = 3 ∨ i = 4 ∨ i = 5 ∨ i = 6 ∨ i = 7 := by
    omega
  rcases e with rfl | rfl | rfl | rfl | rfl | rfl | rfl | rfl
  · exact ⟨a, rfl, pa⟩
  · exact ⟨b, rfl, pb⟩
  · exact ⟨c, rfl, pc⟩
  · exact ⟨d, rfl, pd⟩
  · exact ⟨_, rfl, pe⟩
  · exact ⟨f, rfl, pf⟩
  · exact ⟨g, rfl, pg⟩
  · exact ⟨h, rfl, ph⟩
theorem at4 {α : Type} {P : α → Prop} {a b c d : α} {i : Int}
    (h0 : 0 ≤ i) (h1 : i < 4) (pa : P a) (pb : P b) (pc : P c) (pd : P d) :
    ∃ v, atI [a, b, c, d] i = some v ∧ P v := by
  have e : i = 0 ∨ i = 1 ∨ i = 2 ∨ i = 3 := by omega
  rcases e with rfl | rfl | rfl | rfl
  · exact ⟨a, rfl, pa⟩
  · exact ⟨b, rfl, pb⟩
  · exact ⟨c, rfl, pc⟩
  · exact ⟨d, rfl, pd⟩
/-- a new name that is not among us -/
def spName (K : PySem.W.Frag) : Sp := fun vs H Q _ =>
  ∃ (p a : Addr) (us : List (List Nat)), vs = [.ref p, .ref a] ∧ Rng H p ∧
  SqL K H a (us.map vS) ∧ a ≠ p ∧ us.length ≤ 600 ∧
  ∀ (l : List Nat) (H' : Hp), Nm l → l ∉ us → Rng H' p → But p H H' →
    Q (vS l) H'
section
variable {P : Program} {w : World} {K : PySem.W.Frag}
  {mg : Str → Option Value} {base : Heap}
abbrev CalDraw (P : Program) (w : World) (K : PySem.W.Frag)
    (mg : Str → Option Value) (base : Heap) (k : Nat) : Prop :=
  Cal P w K mg base k "_law_draw" ["_law_rng_here", "_law_many"] spDraw
theorem ok_name {f : Addr} {fd : FuncData} {k : Nat}
    (F : Fun K "_law_name" "_law_name" s_Lname f fd) (B : Bl mg)
    (C : CalDraw P w K mg base k) :
    FnOk P w K mg base CX0 (k + 1) f fd ["_law_rng_here", "_law_used"]
      (spName K) := by
  refine F.ok sc_Lname (fun vs H Q E h => ?_)
    (fun cv A outer s H vs Q E hr h => ?_)
  · obtain ⟨p, a, us, rfl, _⟩ := h
    rfl
  obtain ⟨p, a, us, rfl, rg, hS, nap, hus, q⟩ := h
  have nd := sc_Lname.nd
  refine ⟨_, C8.pss_cut (ps_set (i := 2) nd rfl (.inr rfl) pe_str)
    (C8.pss_cut (ps_set (i := 3) nd rfl (.inl rfl) (pe_ix ix_list
      (pe_lst (pa_cons pe_int (pa_cons pe_int (pa_cons pe_int (pa_cons
        (pe_op op_add pe_int (pe_cal C hr (pa_cons (pv 0)
          (pa_cons pe_int pa_nil)))) pa_nil)))))
      (pe_cal C hr (pa_cons (pv 0) (pa_cons pe_int pa_nil)))
      (fun _ _ => rfl)))
    (C8.pss_cut (ps_set (i := 4) nd rfl (.inr rfl) (pe_join pe_str
      (pe_lc (own := [("_law_k", 5)]) (g := gName 5) (tt := tYes) rfl nd
        (pi_range1 (by rfl) B.range (pa_cons (pv 3) pa_nil))
        (blkOk_by (N := N_Lname) (sc := defScope s_Lname) (by decide +kernel))
        (fun _ _ _ _ _ => pg_name (i := 5) nd rfl (Or.inl rfl))
        (fun _ _ _ _ _ => pts_nil)
        (fun _ _ _ _ _ => pe_ix ix_str (pv 2)
          (pe_cal C hr (pa_cons (pv 0) (pa_cons pe_int pa_nil)))
          (fun _ _ => rfl)))))
    (C8.pss_cut (ps_if (pt_cmpR op_eq (pe_cal C hr (pa_cons (pv 0)
        (pa_cons pe_int pa_nil))) pe_int (nomark _))
      (pss_one (ps_set (i := 4) nd rfl (.inr rfl) (pe_ix ix_list
        (pe_lst (pa_cons pe_str (pa_cons pe_str (pa_cons pe_str (pa_cons
          pe_str (pa_cons pe_str (pa_cons pe_str (pa_cons pe_str (pa_cons
          pe_str pa_nil)))))))))
        (pe_cal C hr (pa_cons (pv 0) (pa_cons pe_int pa_nil)))
        (fun _ _ => rfl)))) pss_nil)
    (C8.pss_cut (ps_set (i := 6) nd rfl (.inl rfl) (pe_op op_cat
      (pe_lst (pa_cons (pv 4) pa_nil))
      (pe_lc (own := [("_law_k", 5)]) (g := gName 5) (tt := tYes) rfl nd
        (pi_range1 (by rfl) B.range (pa_cons pe_int pa_nil))
        (blkOk_by (N := N_Lname) (sc := defScope s_Lname) (by decide +kernel))
        (fun _ _ _ _ _ => pg_name (i := 5) nd rfl (Or.inl rfl))
        (fun _ _ _ _ _ => pts_nil)
        (fun _ _ _ _ _ => pe_op op_add_str (pe_op op_add_str
          (pe_slice sl_str (pv 4) po_none (po_some pe_int))
          (pe_ix ix_str (pv 2) (pe_op op_fdiv (pv 5) pe_int)
            (fun _ _ => rfl)))
          (pe_ix ix_str (pv 2) (pe_op op_mod (pv 5) pe_int)
            (fun _ _ => rfl))))))
    (pss_one (ps_ret (pe_ix ix_list
      (pe_lc (own := [("_law_one", 7)]) (g := gName 7) rfl nd
        (pi_list (pv 6))
        (blkOk_by (N := N_Lname) (sc := defScope s_Lname) (by decide +kernel))
        (fun _ _ _ _ _ => pg_name (i := 7) nd rfl (Or.inl rfl))
        (fun _ _ _ _ _ => pts_one (pt_cmpR (r := rIn K true) op_notIn_seq (pv 7) (pv 1) (by rfl)))
        (fun _ _ _ _ _ => pv 7))
      pe_int (fun _ _ => rfl)))))))), ?_⟩
  -- letters
  refine ⟨fun σ' H' => σ' = [some (.ref p), some (.ref a), some (.str lets),
    none, none, none, none, none] ∧ H = H', ⟨rfl, rfl⟩, ?_⟩
  rintro _ _ ⟨rfl, rfl⟩
  -- length
  refine ⟨fun σ' H' => ∃ n : Int, 1 ≤ n ∧ n ≤ 8 ∧ σ' = [some (.ref p),
    some (.ref a), some (.str lets), some (.int n), none, none, none, none] ∧
    Rng H' p ∧ But p H H', ?_, ?_⟩
  · refine ⟨_, rfl, p, 8, rfl, rg, by decide, by decide,
      fun d H1 d0 d1 rg1 b1 => ⟨_, _, rfl, rfl, sz (by simp), fun t nt =>
      ⟨_, rfl, p, 4, rfl, rg1.same (sameNew nt), by decide, by decide,
      fun d2 H2 e0 e1 rg2 b2 => ?_⟩⟩⟩
    have ne : t ≠ p := (rg1.ne nt).symm
    obtain ⟨v, hv, n, rfl, n0, n1⟩ := at4 (a := V.int 1) (b := V.int 1)
      (c := V.int 2) (d := V.int (1 + d))
      (P := fun v => ∃ n : Int, v = .int n ∧ 1 ≤ n ∧ n ≤ 8) e0 e1
      ⟨1, rfl, by omega, by omega⟩ ⟨1, rfl, by omega, by omega⟩
      ⟨2, rfl, by omega, by omega⟩ ⟨1 + d, rfl, by omega, by omega⟩
    exact ⟨t, _, d2, _, rfl, rfl, SqL.of (b2 t _ upd_same ne), hv, n, n0, n1,
      rfl, rg2, (b1.put nt ne).trans b2⟩
  rintro _ H1 ⟨n, n0, n1, rfl, rg1, b1⟩
  -- the letters drawn
  refine ⟨fun σ' H' => ∃ l, Nm l ∧ σ' = [some (.ref p), some (.ref a),
    some (.str lets), some (.int n), some (vS l), none, none, none] ∧
    Rng H' p ∧ But p H H', ?_, ?_⟩
  · refine ⟨⟨_, rfl⟩, _, rfl, n, rfl, by omega, by omega, fun D nD => ?_⟩
    have ne : D ≠ p := (rg1.ne nD).symm
    refine lc_range (lo := 0) (n := n.toNat) (fun i H' => ∃ cs : List Nat,
      cs.length = i ∧ (∀ c ∈ cs, 97 ≤ c ∧ c ≤ 122) ∧
      H' D = some (.lst (cs.map fun c => vS [c])) ∧ Rng H' p ∧ But p H H')
      ⟨[], rfl, nofun, upd_same, rg1.same (sameNew nD), b1.put nD ne⟩ ?_ ?_
    · rintro i H2 hi ⟨cs, hl, az, hD, rg2, b2⟩
      refine ⟨rfl, yes ⟨_, rfl, _, rfl, p, 26, rfl, rg2, by decide,
        by decide, fun d H3 d0 d1 rg3 b3 => ⟨_, d, _, rfl, rfl,
        sz (by decide), lets_at d0 d1, _, b3 D _ hD ne, ?_, cs ++
        [97 + d.toNat], ?_, ?_, ?_, ?_, ?_⟩⟩⟩
      · rw [List.length_map]
        exact sz' (by omega)
      · rw [List.length_append, hl]
        rfl
      · intro c hc
        rcases List.mem_append.mp hc with h | h
        · exact az c h
        · rcases List.mem_cons.mp h with h | h
          · omega
          · cases h
      · rw [upd_same, List.map_append]
        rfl
      · exact rg3.but (But.at (p := D) (But.refl H3)) ne.symm
      · exact (b2.trans b3).new (b1.free ne nD)
    · rintro H2 ⟨cs, hl, az, hD, rg2, b2⟩
      refine ⟨_, D, cs.map fun c => SX.S [c], rfl, rfl,
        .inl (SqL.of (by rw [List.map_map]; exact hD)), ?_, cs,
        ⟨by omega, by omega, az⟩, ?_, rg2, b2⟩
      · have e1 : ((cs.map fun c => SX.S [c]).map fun x => x.length).sum =
            cs.length := by
          rw [List.map_map]
          clear hl az hD
          induction cs with
          | nil => rfl
          | cons c cs ih =>
            rw [List.map_cons, List.sum_cons, ih, List.length_cons]
            show 1 + cs.length = cs.length + 1
            omega
        rw [e1, List.length_map, show (Str.ofString "").length = 0 from rfl]
        omega
      · have e2 : Txt.join (Str.ofString "") (cs.map fun c => SX.S [c]) =
            SX.S cs := by
          have := SX.join_S [] (cs.map fun c => [c])
          rw [List.map_map, joinL_ones] at this
          exact this
        rw [e2]
        rfl
  rintro _ H2 ⟨l, nl, rfl, rg2, b2⟩
  -- a command's name
  refine ⟨fun σ' H' => ∃ l, Nm l ∧ σ' = [some (.ref p), some (.ref a),
    some (.str lets), some (.int n), some (vS l), none, none, none] ∧
    Rng H' p ∧ But p H H', ?_, ?_⟩
  · refine ⟨_, rfl, p, 8, rfl, rg2, by decide, by decide,
      fun d H3 d0 d1 rg3 b3 => ⟨rfl, _, rfl, ite2 (fun _ => ?_)
        (fun _ => ⟨l, nl, rfl, rg3, b2.trans b3⟩)⟩⟩
    refine ⟨sz (by decide), fun t nt => ⟨_, rfl, p, 8, rfl,
      rg3.same (sameNew nt), by decide, by decide,
      fun d2 H4 e0 e1 rg4 b4 => ?_⟩⟩
    have ne : t ≠ p := (rg3.ne nt).symm
    obtain ⟨v, hv, l', rfl, nl'⟩ := at8 (P := fun v => ∃ l, v = vS l ∧ Nm l)
      e0 e1 (nm_of "swap" (by decide +kernel)) (nm_of "move" (by decide +kernel))
      (nm_of "base" (by decide +kernel)) (nm_of "users" (by decide +kernel))
      (nm_of "merged" (by decide +kernel)) (nm_of "log" (by decide +kernel))
      (nm_of "ok" (by decide +kernel)) (nm_of "undo" (by decide +kernel))
    exact ⟨t, _, d2, _, rfl, rfl, SqL.of (b4 t _ upd_same ne), hv, l', nl',
      rfl, rg4, ((b2.trans b3).put nt ne).trans b4⟩
  clear nl rg2 b2
  rintro _ H2 ⟨l, nl, rfl, rg2, b2⟩
  -- names to fall back upon
  refine ⟨fun σ' H' => ∃ fr, σ' = [some (.ref p), some (.ref a),
    some (.str lets), some (.int n), some (vS l), none, some (.ref fr), none]
    ∧ fr ≠ p ∧ H' fr = some (.lst ((fresh l).map vS)) ∧
    Rng H' p ∧ But p H H', ?_, ?_⟩
  · refine ⟨_, rfl, sz (by simp), fun t nt => ?_⟩
    have ne : t ≠ p := (rg2.ne nt).symm
    refine ⟨676, rfl, by decide, by decide, fun D nD => ?_⟩
    have rg3 : Rng (upd H2 t (.lst [vS l])) p := rg2.same (sameNew nt)
    have neD : D ≠ p := (rg3.ne nD).symm
    have net : t ≠ D := fun e => by rw [← e, upd_same] at nD; cases nD
    have b3 : But p H (upd H2 t (.lst [vS l])) := b2.put nt ne
    refine lc_range (lo := 0) (n := 676) (fun i H' =>
      H' D = some (.lst (((List.range i).map (frs6 l)).map vS)) ∧
      H' t = some (.lst [vS l]) ∧ Rng H' p ∧ But p H H')
      ⟨upd_same, by rw [upd_ne net, upd_same], rg3.same (sameNew nD),
        b3.put nD neD⟩ ?_ ?_
    · rintro i H4 hi ⟨hD, ht, rg4, b4⟩
      have f1 : 0 ≤ (0 + (i : Int)) / 26 := by omega
      have f2 : (0 + (i : Int)) / 26 < 26 := by omega
      have f3 : 0 ≤ (0 + (i : Int)) % 26 := by omega
      have f4 : (0 + (i : Int)) % 26 < 26 := by omega
      have ll := nl.hi
      have ec : cutS (SX.S l) none (some 6) = SX.S (l.take 6) := by
        rw [C8.cutS_slice, SX.slice_to (by decide)]
        rfl
      refine ⟨rfl, yes ⟨_, rfl, 6, rfl, SX.S l, rfl,
        sz (by rw [SX.S_len]; omega), _, rfl, _, rfl, _, _, rfl, rfl,
        ⟨by decide, by decide⟩, _, _, _, rfl, rfl, sz (by decide),
        lets_at f1 f2, _, _, rfl, rfl, ?_, _, rfl, _, rfl, _, _, rfl, rfl,
        (by show (0 : Int) < 26; decide), _, _, _, rfl, rfl, sz (by decide),
        lets_at f3 f4, _, _, rfl, rfl, ?_, _, hD, ?_, ?_, ?_, ?_, ?_⟩⟩
      · rw [ec, SX.S_len, List.length_take]
        show min 6 l.length + 1 ≤ _
        exact sz (by omega)
      · rw [ec, strLen_append, SX.S_len, List.length_take]
        show min 6 l.length + 1 + 1 ≤ _
        exact sz (by omega)
      · rw [List.length_map, List.length_map, List.length_range]
        exact sz' (by omega)
      · rw [upd_same, ec]
        have e5 : SX.S (l.take 6) ++ (⟨#[97 + ((0 + (i : Int)) / 26).toNat]⟩ :
            Str) ++ ⟨#[97 + ((0 + (i : Int)) % 26).toNat]⟩ =
            SX.S (frs6 l i) := by
          have e6 : ((0 + (i : Int)) / 26).toNat = i / 26 := by omega
          have e7 : ((0 + (i : Int)) % 26).toNat = i % 26 := by omega
          rw [e6, e7]
          show SX.S (l.take 6) ++ SX.S [97 + i / 26] ++ SX.S [97 + i % 26] = _
          rw [SX.S_cat, SX.S_cat]
          unfold frs6
          rw [List.append_assoc]
          rfl
        rw [e5, List.range_succ, List.map_append, List.map_append]
        rfl
      · rw [upd_ne net]
        exact ht
      · exact rg4.but (But.at (p := D) (But.refl H4)) neD.symm
      · exact b4.new (b3.free neD nD)
    · rintro H4 ⟨hD, ht, rg4, b4⟩
      refine ⟨t, D, _, _, rfl, rfl, ht, hD, ?_, fun fr nfr => ⟨fr, rfl,
        (rg4.ne nfr).symm, ?_, rg4.same (sameNew nfr),
        b4.put nfr (rg4.ne nfr).symm⟩⟩
      · rw [List.length_map, List.length_map, List.length_range]
        exact sz (by simp)
      · rw [upd_same]
        rfl
  clear rg2 b2
  rintro _ H3 ⟨fr, rfl, nfp, hfr, rg3, b3⟩
  -- the first one that is free
  refine ⟨_, rfl, fr, rfl, ⟨_, SqL.of hfr⟩, fun D nD => ?_⟩
  have neD : D ≠ p := (rg3.ne nD).symm
  have nfD : fr ≠ D := ne_of_none hfr nD
  have hS3 : SqL K H3 a (us.map vS) := b3.seq hS nap
  have naD : SqL K (upd H3 D (.lst [])) a (us.map vS) := (sameNew nD).seq hS3
  refine lc_list (K := K) (a := fr) (xs := (fresh l).map vS) (fun i H' =>
    H' D = some (.lst ((((fresh l).take i).filter
      (fun y => decide (y ∉ us))).map vS)) ∧
    H' fr = some (.lst ((fresh l).map vS)) ∧ Rng H' p ∧ But p H3 H' ∧
    SqL K H' a (us.map vS))
    ⟨upd_same, by rw [upd_ne nfD]; exact hfr, rg3.same (sameNew nD),
      (But.refl H3).put nD neD, naD⟩ (fun i H' _ z => SqL.of z.2.1) ?_ ?_
  · rintro i y H4 hy ⟨hD, hf, rg4, b4, hS4⟩
    rw [List.getElem?_map] at hy
    obtain ⟨x, hx, rfl⟩ : ∃ x, (fresh l)[i]? = some x ∧ vS x = y := by
      cases e : (fresh l)[i]? with
      | none => rw [e] at hy; cases hy
      | some x => rw [e] at hy; exact ⟨x, rfl, Option.some.inj hy⟩
    have et : (fresh l).take (i + 1) = (fresh l).take i ++ [x] := by
      rw [List.take_add_one, hx]
      rfl
    refine ⟨rfl, _, rfl, _, rfl, a, _, rfl, .inl hS4, rfl, flat_S us, _, rfl,
      ?_⟩
    rw [inV_S]
    have hlen : ((((fresh l).take i).filter
        (fun y => decide (y ∉ us))).map vS).length < sizeLine := by
      rw [List.length_map]
      refine sz' (Nat.lt_of_le_of_lt (List.length_filter_le _ _) ?_)
      rw [List.length_take]
      have : (fresh l).length = 677 := by
        unfold fresh
        rw [List.length_cons, List.length_map, List.length_range]
      omega
    by_cases hm : x ∈ us
    · rw [decide_eq_true hm]
      refine iteF ⟨?_, hf, rg4, b4, hS4⟩
      rw [hD, et, List.filter_append, List.filter_cons_of_neg (by simp [hm]),
        List.filter_nil, List.append_nil]
    · rw [decide_eq_false hm]
      refine iteT ⟨_, rfl, _, hD, hlen, ?_, ?_, ?_, ?_, ?_⟩
      · rw [upd_same, et, List.filter_append,
          List.filter_cons_of_pos (by simp [hm]), List.filter_nil,
          List.map_append]
        rfl
      · rw [upd_ne nfD]
        exact hf
      · exact rg4.but (But.at (p := D) (But.refl H4)) neD.symm
      · exact b4.new nD
      · have naD' : But D H4 (upd H4 D (.lst ((((fresh l).take i).filter
            (fun y => decide (y ∉ us))).map vS ++ [vS x]))) :=
          But.at (But.refl H4)
        by_cases had : a = D
        · subst had
          rcases hS3 with (h | ⟨o, h⟩) | h
          · rw [h] at nD; cases nD
          · rw [h] at nD; cases nD
          · exact .inr h
        · exact naD'.seq hS4 had
  · rintro H4 ⟨hD, hf, rg4, b4, hS4⟩
    obtain ⟨x, r, ex⟩ := fresh_some (l := l) (us := us) (by omega)
    rw [List.take_of_length_le (by rw [List.length_map]; exact Nat.le_refl _),
      ex] at hD
    have mx : x ∈ (fresh l).filter (fun y => decide (y ∉ us)) := by
      rw [ex]; exact List.mem_cons_self
    have mx' := List.mem_filter.mp mx
    exact ⟨D, _, 0, _, rfl, rfl, SqL.of hD, atI_nat (j := 0) rfl,
      q x H4 (fresh_nm nl x mx'.1) (of_decide_eq_true mx'.2) rg4
        (b3.trans b4)⟩
end
end OM
namespace OM
open PySem PySem.Spec PyProof.Rows L2
/-- some new names -/
def spNames : Sp := fun vs H Q _ =>
  ∃ (p u : Addr) (m : Nat) (us : List (List Nat)),
  vs = [.ref p, .int m, .ref u] ∧ Rng H p ∧ H u = some (.lst (us.map vS)) ∧
  u ≠ p ∧ m ≤ 100 ∧ us.length ≤ 400 ∧
  ∀ (q : Addr) (ls : List (List Nat)) (H' : Hp), H q = none →
    ls.length = m → (∀ l ∈ ls, Nm l) → ls.Nodup → (∀ l ∈ ls, l ∉ us) →
    H' q = some (.lst (ls.map vS)) → Rng H' p → But p H H' →
    Q (.ref q) H'
section
variable {P : Program} {w : World} {K : PySem.W.Frag}
  {mg : Str → Option Value} {base : Heap}
theorem ok_names {f : Addr} {fd : FuncData} {k : Nat}
    (F : Fun K "_law_names" "_law_names" s_Lnames f fd) (B : Bl mg)
    (C : Cal P w K mg base k "_law_name" ["_law_rng_here", "_law_used"]
      (spName K)) :
    FnOk P w K mg base CX0 (k + 1) f fd
      ["_law_rng_here", "_law_many", "_law_used"] spNames := by
  refine F.ok sc_Lnames (fun vs H Q E h => ?_)
    (fun cv A outer s H vs Q E hr h => ?_)
  · obtain ⟨p, u, m, us, rfl, _⟩ := h
    rfl
  obtain ⟨p, u, m, us, rfl, rg, hu, nup, hm, hus, q⟩ := h
  have nd := sc_Lnames.nd
  refine ⟨_, pss_cons (ps_set (i := 3) nd rfl (.inl rfl) (pe_lst pa_nil))
    (pss_cons (ps_for PassesOwn.never rfl
      (pi_range1 (by rfl) B.range (pa_cons (pv 1) pa_nil))
      (pg_name (i := 4) nd rfl (.inl rfl))
      (pss_one (ps_expr (pe_bm PySem.F.plainAttrs_list
        PySem.F.slot_list_append PySem.F.type_list_append mt_append (pv 3)
        (pa_cons (pe_cal C hr (pa_cons (pv 0) (pa_cons
          (pe_op op_cat (pv 2) (pv 3)) pa_nil))) pa_nil)))))
    (pss_one (ps_ret (pv 3)))), ?_⟩
  refine ⟨sz (by simp), fun r nr => ?_⟩
  have nrp : r ≠ p := (rg.ne nr).symm
  have nru : u ≠ r := ne_of_none hu nr
  refine ⟨_, rfl, m, rfl, by omega, by omega, ?_⟩
  refine for_range (lo := 0) (n := m) (fun i σ H' => ∃ (ls : List (List Nat))
      (v : Option V), σ = [some (.ref p), some (.int m), some (.ref u),
      some (.ref r), v] ∧ ls.length = i ∧ (∀ l ∈ ls, Nm l) ∧ ls.Nodup ∧
      (∀ l ∈ ls, l ∉ us) ∧ H' r = some (.lst (ls.map vS)) ∧ Rng H' p ∧
      But p H H')
    ⟨[], none, rfl, rfl, nofun, List.nodup_nil, nofun, upd_same,
      rg.same (sameNew nr), (But.refl H).put nr nrp⟩ ?_ ?_
  · rintro i σ H1 hi ⟨ls, v, rfl, hl, nm, nd1, no, h1, rg1, b1⟩
    refine ⟨_, rfl, .inl ⟨rfl, _, SqL.of h1⟩, _, rfl, _, rfl, _, rfl, u, r,
      _, _, rfl, rfl, b1 u _ hu nup, h1, ?_, fun t nt => ?_⟩
    · rw [List.length_map, List.length_map]
      exact sz (by omega)
    have ntp : t ≠ p := (rg1.ne nt).symm
    have ntr : r ≠ t := ne_of_none h1 nt
    refine ⟨p, t, us ++ ls, rfl, rg1.same (sameNew nt), ?_, ntp, ?_,
      fun l H2 nl ni rg2 b2 => ?_⟩
    · rw [List.map_append]
      exact SqL.of upd_same
    · rw [List.length_append]
      omega
    · have h2 : H2 r = some (.lst (ls.map vS)) :=
        b2 r _ (by rw [upd_ne ntr]; exact h1) nrp
      refine ⟨r, _, _, rfl, rfl, h2, ?_, ls ++ [l], _, rfl, ?_, ?_, ?_, ?_, ?_,
        ?_, ?_⟩
      · rw [List.length_map]
        exact sz' (by omega)
      · rw [List.length_append, hl]
        rfl
      · intro x hx
        rcases List.mem_append.mp hx with h | h
        · exact nm x h
        · rw [List.mem_singleton.mp h]
          exact nl
      · refine List.nodup_append.mpr ⟨nd1, by simp, ?_⟩
        intro x hx y hy e
        rw [List.mem_singleton.mp hy] at e
        exact ni (List.mem_append_right _ (e ▸ hx))
      · intro x hx
        rcases List.mem_append.mp hx with h | h
        · exact no x h
        · rw [List.mem_singleton.mp h]
          exact fun z => ni (List.mem_append_left _ z)
      · rw [upd_same, List.map_append]
        rfl
      · exact rg2.but (But.at (p := r) (But.refl H2)) nrp.symm
      · exact ((b1.put nt ntp).trans b2).new nr
  · rintro σ H1 ⟨ls, v, rfl, hl, nm, nd1, no, h1, rg1, b1⟩
    exact ⟨_, rfl, q r ls H1 nr hl nm nd1 no h1 rg1 b1⟩
end
end OM
namespace OM
open PySem PySem.Spec PyProof.Rows L2
theorem erase_perm {α : Type} {l : List α} {i : Nat} (h : i < l.length) :
    (l[i] :: l.eraseIdx i).Perm l := by
  rw [List.eraseIdx_eq_take_drop_succ]
  refine List.perm_middle.symm.trans ?_
  rw [← List.drop_eq_getElem_cons h, List.take_append_drop]
/-- the values in another sequence -/
def spShuf (K : PySem.W.Frag) : Sp := fun vs H Q _ =>
  ∃ (p a : Addr) (xs : List V), vs = [.ref p, .ref a] ∧ Rng H p ∧
  SqL K H a xs ∧ a ≠ p ∧ xs.length ≤ 1000 ∧
  ∀ (q : Addr) (ys : List V) (H' : Hp), H q = none → ys.Perm xs →
    H' q = some (.lst ys) → Rng H' p → But p H H' → Q (.ref q) H'
section
variable {P : Program} {w : World} {K : PySem.W.Frag}
  {mg : Str → Option Value} {base : Heap}
theorem ok_shuf {f : Addr} {fd : FuncData} {k : Nat}
    (F : Fun K "_law_shuffled" "_law_shuffled" s_Lshuffled f fd) (B : Bl mg)
    (C : CalDraw P w K mg base k) :
    FnOk P w K mg base CX0 (k + 1) f fd ["_law_rng_here", "_law_values"]
      (spShuf K) := by
  refine F.ok sc_Lshuffled (fun vs H Q E h => ?_)
    (fun cv A outer s H vs Q E hr h => ?_)
  · obtain ⟨p, a, xs, rfl, _⟩ := h
    rfl
  obtain ⟨p, a, xs, rfl, rg, hS, nap, hx, q⟩ := h
  have nd := sc_Lshuffled.nd
  refine ⟨_, pss_cons (ps_set (i := 2) nd rfl (.inr rfl)
      (pe_callTy call_list_of (by rfl) B.list bt_list (pa_cons (pv 1) pa_nil)))
    (pss_one (ps_ret
      (pe_lc (own := [("_law_k", 3)]) (g := gName 3) (tt := tYes)
        (te := tBM K "list" rPopAt (tVar 2) (tCons (tCall spDraw [] E0
          (tCons (tVar 0) (tCons (tCB (rLenK K) (tCons (tVar 2) tNil)) tNil)))
          tNil)) rfl nd
        (pi_range1 (by rfl) B.range (pa_cons
          (pe_callB call_len_seq (by rfl) B.len PySem.boot_len
            (pa_cons (pv 1) pa_nil)) pa_nil))
        (blkOk_by (N := N_Lshuffled) (sc := defScope s_Lshuffled)
          (by decide +kernel))
        (fun _ _ _ _ _ => pg_name (i := 3) nd rfl (Or.inl rfl))
        (fun _ _ _ _ _ => pts_nil)
        (fun _ _ _ _ _ => pe_bm PySem.F.plainAttrs_list
          PySem.F.slot_list_pop PySem.F.type_list_pop mt_popAt (pv 2)
          (pa_cons (pe_cal C hr (pa_cons (pv 0) (pa_cons
            (pe_callB (r := rLenK K) call_lenK (by rfl) B.len
              PySem.boot_len (pa_cons (pv 2) pa_nil)) pa_nil))) pa_nil))))),
    ?_⟩
  refine ⟨_, rfl, a, _, rfl, .inl hS, fun o no => ?_⟩
  have hS1 := (sameNew (o := .lst xs) no).seq hS
  have rg1 : Rng (upd H o (.lst xs)) p := rg.same (sameNew no)
  have nop : o ≠ p := (rg.ne no).symm
  refine ⟨_, rfl, a, _, rfl, .inl hS1, _, rfl, by omega, by omega,
    fun D nD => ?_⟩
  have nDp : D ≠ p := (rg1.ne nD).symm
  have nDo : D ≠ o := fun e => by rw [e, upd_same] at nD; cases nD
  have fD : H D = none := (upd_ne (H := H) (o := .lst xs) nDo).symm.trans nD
  refine lc_range (lo := 0) (n := xs.length) (fun i H' => ∃ ac rs : List V,
    ac.length = i ∧ (ac ++ rs).Perm xs ∧ H' D = some (.lst ac) ∧
    H' o = some (.lst rs) ∧ Rng H' p ∧ But p H H')
    ⟨[], xs, rfl, List.Perm.refl _, upd_same,
      by rw [upd_ne nDo.symm, upd_same], rg1.same (sameNew nD),
      ((But.refl H).put no nop).put nD nDp⟩ ?_ ?_
  · rintro i H1 hi ⟨ac, rs, hl, pm, hD, ho, rg2, b2⟩
    have len : ac.length + rs.length = xs.length := by
      have := pm.length_eq
      rw [List.length_append] at this
      exact this
    refine ⟨rfl, yes ⟨_, rfl, .inl ⟨rfl, _, SqL.of ho⟩, _, rfl, _, rfl, o, _,
      rfl, .inl (SqL.of ho), p, rs.length, rfl, rg2, by omega, by omega,
      fun d H2 d0 d1 rg3 b3 => ?_⟩⟩
    have hd : d.toNat < rs.length := by omega
    refine ⟨o, rs, d, d.toNat, rs[d.toNat], rfl, rfl, b3 o _ ho nop, by omega,
      by omega, ?_, List.getElem?_eq_getElem hd, ac, ?_, sz' (by omega),
      ac ++ [rs[d.toNat]], rs.eraseIdx d.toNat, ?_, ?_, ?_, ?_, ?_, ?_⟩
    · exact seqIndex_of d0 d1
    · rw [upd_ne nDo]
      exact b3 D _ hD nDp
    · rw [List.length_append, hl]
      rfl
    · refine List.Perm.trans ?_ pm
      rw [List.append_assoc]
      exact List.Perm.append_left _ (erase_perm hd)
    · exact upd_same
    · rw [upd_ne nDo.symm, upd_same]
    · exact (rg3.but (But.at (p := o) (But.refl H2)) nop.symm).but
        (But.at (p := D) (But.refl _)) nDp.symm
    · exact ((b2.trans b3).new no).new fD
  · rintro H1 ⟨ac, rs, hl, pm, hD, ho, rg2, b2⟩
    have len : ac.length + rs.length = xs.length := by
      have := pm.length_eq
      rw [List.length_append] at this
      exact this
    have e : rs = [] := List.length_eq_zero_iff.mp (by omega)
    rw [e, List.append_nil] at pm
    exact q D ac H1 fD pm hD rg2 b2
end
end OM
namespace OM
open PySem PySem.Spec PyProof.Rows L2
theorem lt1 (c d : Nat) : decide (([c] : List Nat) < [d]) = decide (c < d) := by
  by_cases h : c < d
  · rw [decide_eq_true h]
    refine decide_eq_true ?_
    rw [List.cons_lt_cons_iff]
    exact Or.inl h
  · rw [decide_eq_false h]
    refine decide_eq_false fun z => ?_
    rw [List.cons_lt_cons_iff] at z
    rcases z with z | ⟨_, z⟩
    · exact h z
    · exact absurd z (by simp)
def azB (c : Nat) : Bool := decide (97 ≤ c) && decide (c ≤ 122)
theorem all_az (l : List Nat) :
    ((l.map azB).all id) = l.all azB := by
  rw [List.all_map]
  rfl
/-- is it a name: a text, or a value of another type -/
def spIsName (K : PySem.W.Frag) : Sp := fun vs H Q _ => ∃ v, vs = [v] ∧
  ((∃ x : Str, v = .str x ∧ x.length ≤ sizeLine ∧ ∀ H', Same H H' →
      Q (.bl (nmB x.cps.toList)) H') ∨
   (∃ t, TyX K H v t ∧ PySem.W.kitOne K t (.type "str") = some false ∧
      Q (.bl false) H))
section
variable {P : Program} {w : World} {K : PySem.W.Frag}
  {mg : Str → Option Value} {base : Heap}
theorem ok_isname {f : Addr} {fd : FuncData} {k : Nat}
    (F : Fun K "is_name" "is_name" s_is_name f fd) (B : Bl mg)
    {t8 : Tok} (m8 : mg "MAX_NAME_LENGTH" = some (.int 8 t8)) :
    FnOk P w K mg base CX0 (k + 1) f fd ["value"] (spIsName K) := by
  refine F.ok sc_is_name (fun vs H Q E h => ?_)
    (fun cv A outer s H vs Q E hr h => ?_)
  · obtain ⟨v, rfl, _⟩ := h
    rfl
  obtain ⟨v, rfl, h⟩ := h
  have nd := sc_is_name.nd
  refine ⟨_, pss_cons (ps_if (pt_mid (PW.pt (pw_or (pt_not (pt_val
      (pe_callB call_isi (by rfl) B.isi bt_isi (pa_cons (pv 0) (pa_cons
        (pe_bltn (v := .ty "str") (by rfl) B.str bt_str rfl) pa_nil)))))
      (pw_or1 (pt_not (pt_chain op_le op_le pe_int
        (pe_callB call_len_str (by rfl) B.len PySem.boot_len
          (pa_cons (pv 0) pa_nil))
        (pe_glob (v := .int 8) (by rfl) m8 ⟨_, rfl⟩)))))))
      (pss_one (ps_ret pe_bl)) pss_nil)
    (pss_one (ps_ret (pe_callB (cr_all rfl) (by rfl) B.all bt_all (pa_cons
      (pe_lc (own := [("letter", 1)]) (g := gName 1) (tt := tYes) rfl nd
        (pi_str (pv 0))
        (blkOk_by (N := N_is_name) (sc := defScope s_is_name)
          (by decide +kernel))
        (fun _ _ _ _ _ => pg_name (i := 1) nd rfl (Or.inl rfl))
        (fun _ _ _ _ _ => pts_nil)
        (fun _ _ _ _ _ => pe_mid (pe_chain op_le_str op_le_str pe_str
          (pv 1) pe_str))) pa_nil)))), ?_⟩
  rcases h with ⟨x, rfl, hx, q⟩ | ⟨t, ty, kt, q⟩
  · refine ⟨fun b H' => b = !(decide (1 ≤ x.length) && decide (x.length ≤ 8)) ∧
      H = H', ?_, ?_⟩
    · refine ⟨_, rfl, _, _, _, _, true, rfl, .ty "str", .base (.str x),
        kit_ty (by decide +kernel), _, rfl, iteF ?_⟩
      refine ⟨_, rfl, x, rfl, hx, _, _, rfl, rfl, _, rfl, ite2 (fun c => ?_)
        (fun c => ?_)⟩
      · have c' : (1 : Int) ≤ x.length := of_decide_eq_true c
        refine ⟨_, _, rfl, rfl, _, rfl, ?_, rfl⟩
        rw [decide_eq_true (show 1 ≤ x.length by omega), Bool.true_and]
        congr 1
        exact decide_eq_decide.mpr ⟨fun z => by omega, fun z => by omega⟩
      · refine ⟨_, rfl, ?_, rfl⟩
        rw [decide_eq_false (show ¬ 1 ≤ x.length from fun z =>
          c (decide_eq_true (by omega)))]
        rfl
    · rintro b _ ⟨rfl, rfl⟩
      by_cases c : 1 ≤ x.length ∧ x.length ≤ 8
      · rw [decide_eq_true c.1, decide_eq_true c.2]
        refine iteF ⟨_, rfl, x, rfl, fun D nD => ?_⟩
        refine lc_it walk_str (fun i H' => H' D = some (.lst
          (((x.cps.toList.take i).map azB).map V.bl)) ∧ Same H H')
          ⟨upd_same, sameNew nD⟩ (fun _ _ _ _ => trivial) ?_ ?_
        · rintro i v _ H1 hi ⟨hD, sm⟩ ⟨rfl, c0, hc, rfl⟩
          have hc' : x.cps.toList[i]? = some c0 := by
            rw [Array.getElem?_toList]; exact hc
          refine ⟨rfl, yes ⟨fun v H' => v = .bl (azB c0) ∧ H1 = H', ?_, ?_⟩⟩
          · refine ⟨_, rfl, _, _, rfl, rfl, _, rfl, ite2 (fun z => ?_)
              (fun z => ?_)⟩
            · refine ⟨_, _, rfl, rfl, ?_, rfl⟩
              have z' : ¬ c0 < 97 := by
                rw [show (Str.ofString "a").cps.toList = [97] by
                  decide +kernel, lt1] at z
                simpa using z
              rw [show (Str.ofString "z").cps.toList = [122] by
                decide +kernel, lt1]
              unfold azB
              rw [decide_eq_true (show 97 ≤ c0 by omega), Bool.true_and]
              congr 1
              by_cases y : c0 ≤ 122
              · rw [decide_eq_true y, decide_eq_false (by omega)]
                rfl
              · rw [decide_eq_false y, decide_eq_true (by omega)]
                rfl
            · refine ⟨?_, rfl⟩
              have z' : c0 < 97 := by
                rw [show (Str.ofString "a").cps.toList = [97] by
                  decide +kernel, lt1] at z
                simpa using z
              unfold azB
              rw [decide_eq_false (show ¬ 97 ≤ c0 by omega)]
              rfl
          · rintro v _ ⟨rfl, rfl⟩
            refine ⟨_, hD, ?_, ?_, ?_⟩
            · rw [List.length_map, List.length_map, List.length_take]
              refine sz' ?_
              have : x.length = x.cps.toList.length := TL.len_tl x
              omega
            · rw [upd_same, List.take_add_one, hc', List.map_append,
                List.map_append]
              rfl
            · exact OM.Same.put sm nD
        · rintro H1 ⟨hD, sm⟩
          rw [List.take_of_length_le (by
            rw [Array.length_toList]; exact Nat.le_refl _)] at hD
          refine ⟨D, _, rfl, SqL.of hD, ?_⟩
          rw [all_az]
          have := q H1 sm
          unfold nmB at this
          rw [← TL.len_tl x] at this
          rw [decide_eq_true c.1, decide_eq_true c.2, Bool.true_and,
            Bool.true_and] at this
          exact this
      · have e : (decide (1 ≤ x.length) && decide (x.length ≤ 8)) = false := by
          by_cases c1 : 1 ≤ x.length
          · rw [decide_eq_false (show ¬ x.length ≤ 8 from fun z => c ⟨c1, z⟩)]
            exact Bool.and_false _
          · rw [decide_eq_false c1]
            exact Bool.false_and _
        rw [e]
        refine iteT ?_
        have := q H (Same.refl H)
        unfold nmB at this
        rw [← TL.len_tl x, e, Bool.false_and] at this
        exact this
  · refine ⟨fun b H' => b = true ∧ H = H', ?_, ?_⟩
    · exact ⟨_, rfl, _, _, _, _, false, rfl, .ty "str", ty, kt, _, rfl,
        iteT ⟨rfl, rfl⟩⟩
    · rintro b _ ⟨rfl, rfl⟩
      exact iteT q
end
end OM
namespace OM
open PySem PySem.Spec PyProof.Rows L2
/-- what makes a base -/
structure Good (ls : List (List Nat)) : Prop where
  nm : ∀ l ∈ ls, Nm l
  nd : ls.Nodup
  lo : 1 ≤ ls.length
  hi : ls.length ≤ 40
theorem Nm.len {l : List Nat} (n : Nm l) : (SX.S l).length ≤ sizeLine := by
  rw [SX.S_len]
  have := n.hi
  exact sz (by omega)
theorem Nm.b {l : List Nat} (n : Nm l) : nmB (SX.S l).cps.toList = true :=
  nmB_iff.mpr n
theorem get_map {ls : List (List Nat)} {i : Nat} {v : V}
    (h : (ls.map vS)[i]? = some v) : ∃ l, ls[i]? = some l ∧ v = vS l := by
  rw [List.getElem?_map] at h
  cases e : ls[i]? with
  | none => rw [e] at h; cases h
  | some l => rw [e] at h; exact ⟨l, rfl, (Option.some.inj h).symm⟩
theorem nodup_take {α : Type} {ls : List α} {i : Nat} {l : α}
    (nd : ls.Nodup) (h : ls[i]? = some l) : l ∉ ls.take i := by
  intro hm
  obtain ⟨j, hj, e⟩ := List.getElem_of_mem hm
  rw [List.length_take] at hj
  rw [List.getElem_take] at e
  obtain ⟨hi, e2⟩ := List.getElem?_eq_some_iff.mp h
  have := (List.getElem_inj nd).mp (e.trans e2.symm)
  omega
def spCheckOk : Sp := fun vs H Q _ => ∃ (a : Addr) (ls : List (List Nat)),
  vs = [.ref a] ∧ H a = some (.lst (ls.map vS)) ∧ Good ls ∧
  ∀ H', Same H H' → Q .non H'
def spNFaultOk : Sp := fun vs H Q _ => ∃ (a : Addr) (ls : List (List Nat)),
  vs = [.ref a, .int 40] ∧ H a = some (.lst (ls.map vS)) ∧ Good ls ∧
  ∀ H', Same H H' → Q .non H'
section
variable {P : Program} {w : World} {K : PySem.W.Frag}
  {mg : Str → Option Value} {base : Heap}
abbrev CalIsName (P : Program) (w : World) (K : PySem.W.Frag)
    (mg : Str → Option Value) (base : Heap) (k : Nat) : Prop :=
  Cal P w K mg base k "is_name" ["value"] (spIsName K)
theorem ok_nfault {f : Addr} {fd : FuncData} {k : Nat}
    (F : Fun K "names_fault" "names_fault" s_names_fault f fd) (B : Bl mg)
    (C : CalIsName P w K mg base k) :
    FnOk P w K mg base CX0 (k + 1) f fd ["value", "most"] spNFaultOk := by
  refine F.ok sc_names_fault (fun vs H Q E h => ?_)
    (fun cv A outer s H vs Q E hr h => ?_)
  · obtain ⟨a, ls, rfl, _⟩ := h
    rfl
  obtain ⟨a, ls, rfl, ha, gd, q⟩ := h
  have nd := sc_names_fault.nd
  refine ⟨_, pss_cons (ps_if (pt_not (pt_val
      (pe_callB call_isi (by rfl) B.isi bt_isi (pa_cons (pv 0) (pa_cons
        (pe_bltn (v := .ty "list") (by rfl) B.list bt_list rfl) pa_nil)))))
      (pss_one ps_never) pss_nil)
    (pss_cons (ps_set (i := 2) nd rfl (.inl rfl)
      (pe_callTy0 cr_set0K (by rfl) B.set bt_set))
    (pss_cons (ps_for PassesOwn.never rfl
      (pi_enum (by rfl) B.enum (pa_cons (pv 0) pa_nil))
      (pg_tup rfl (pgs_cons (pg_name (i := 3) nd rfl (.inl rfl))
        (pgs_cons (pg_name (i := 4) nd rfl (.inl rfl)) pgs_nil)))
      (pss_cons (ps_if (pt_not (pt_val (pe_cal C hr (pa_cons (pv 4) pa_nil))))
        (pss_one ps_never) pss_nil)
      (pss_cons (ps_if (pt_cmpR or_sinK (pv 4) (pv 2) (by rfl))
        (pss_one ps_never) pss_nil)
      (pss_one (ps_expr (pe_saddK (pv 2) (pa_cons (pv 4) pa_nil)))))))
    (pss_cons (ps_if (pt_not (pt_chain op_le op_le pe_int
        (pe_callB call_len_seq (by rfl) B.len PySem.boot_len
          (pa_cons (pv 0) pa_nil)) (pv 1)))
      (pss_one ps_never) pss_nil)
    (pss_one (ps_ret pe_non))))), ?_⟩
  refine ⟨_, rfl, _, _, _, _, true, rfl, .ty "list", .base (.lst ha),
    kit_ty (by decide +kernel), _, rfl, iteF ?_⟩
  refine ⟨rfl, fun sn nsn => ?_⟩
  have nas : a ≠ sn := ne_of_none ha nsn
  have ha1 : (upd H sn (SetK P w sn (fun _ => false) 0)) a =
      some (.lst (ls.map vS)) := by rw [upd_ne nas]; exact ha
  refine ⟨_, rfl, a, _, rfl, SqL.of ha1, ?_⟩
  refine for_it (walk_enum (K := K) (a := a) (xs := ls.map vS))
    (fun i σ H' => ∃ (S : Key → Bool) (n : Nat) (y z : Option V),
      σ = [some (.ref a), some (.int 40), some (.ref sn), y, z] ∧ n ≤ i ∧
      (∀ l, S (Sum.inr (SX.S l)) = decide (l ∈ ls.take i)) ∧
      H' sn = some (SetK P w sn S n) ∧ H' a = some (.lst (ls.map vS)) ∧
      Same H H')
    ⟨fun _ => false, 0, none, none, rfl, Nat.le_refl _, fun l => by simp,
      upd_same, ha1, sameNew nsn⟩
    (fun i σ H' _ z => by obtain ⟨_, _, _, _, _, _, _, _, h, _⟩ := z; exact SqL.of h)
    ?_ ?_
  · rintro i v σ H1 H2 hi ⟨S, n, y, z, rfl, hn, hS, hs, ha2, sm⟩
      ⟨T, x1, x2, rfl, nT, rfl, e1, e2⟩
    obtain ⟨l, hl, rfl⟩ := get_map e2
    cases Option.some.inj e1
    rw [List.length_map] at hi
    have nl : Nm l := gd.nm l (List.mem_of_getElem? hl)
    have nTs : sn ≠ T := ne_of_none hs nT
    have nTa : a ≠ T := ne_of_none ha2 nT
    have sm1 : Same H (upd H1 T (.tup [.int (i : Nat), vS l])) :=
      sm.trans (sameNew nT)
    have nin : l ∉ ls.take i := nodup_take gd.nd hl
    refine ⟨T, _, rfl, .inl (.inl upd_same), rfl, _, _, rfl, _, _, rfl, rfl,
      ?_⟩
    refine ⟨_, rfl, _, rfl, .inl ⟨_, rfl, nl.len, fun H3 sm3 => ?_⟩⟩
    rw [nl.b]
    have hs3 : H3 sn = some (SetK P w sn S n) :=
      sm3 _ _ (by rw [upd_ne nTs]; exact hs)
    have ha3 : H3 a = some (.lst (ls.map vS)) :=
      sm3 _ _ (by rw [upd_ne nTa]; exact ha2)
    refine ⟨_, rfl, iteF ?_⟩
    refine ⟨_, rfl, _, rfl, Sum.inr (SX.S l), sn, S, n, rfl, rfl, hs3, _, rfl,
      ?_⟩
    have sf : S (Sum.inr (SX.S l)) = false := by
      rw [hS]; exact decide_eq_false nin
    rw [sf]
    refine iteF ?_
    refine ⟨_, rfl, ⟨sn, S, n, rfl, hs3⟩, _, rfl, sn, Sum.inr (SX.S l), S, n,
      rfl, rfl, hs3, ?_, ?_⟩
    · have := gd.hi
      show n + 1 < 4096
      omega
    refine ⟨_, _, _, _, rfl, ?_, ?_, upd_same, ?_, ?_⟩
    · rw [sf]
      show n + 1 ≤ i + 1
      omega
    · intro l'
      show (S (Sum.inr (SX.S l')) || decide ((Sum.inr (SX.S l') : Key) =
        Sum.inr (SX.S l))) = _
      rw [hS, List.take_add_one, hl]
      by_cases e : l' = l
      · subst e
        simp
      · have : ¬ ((Sum.inr (SX.S l') : Key) = Sum.inr (SX.S l)) :=
          fun z => e (SX.S_inj (Sum.inr.inj z))
        rw [decide_eq_false this, Bool.or_false]
        refine decide_eq_decide.mpr ?_
        rw [List.mem_append]
        constructor
        · exact Or.inl
        · rintro (z | z)
          · exact z
          · exact absurd (by simpa using z) e
    · rw [upd_ne nas]
      exact ha3
    · exact OM.Same.put (sm1.trans sm3) nsn
  · rintro σ H1 ⟨S, n, y, z, rfl, hn, hS, hs, ha2, sm⟩
    have h1 := gd.lo
    have h2 := gd.hi
    refine ⟨_, rfl, a, _, rfl, .inl (SqL.of ha2), _, _, rfl, rfl, _, rfl, ?_⟩
    rw [List.length_map, decide_eq_true (show (1 : Int) ≤ ls.length by omega)]
    refine iteT ⟨_, rfl, _, _, rfl, rfl, _, rfl, ?_⟩
    rw [decide_eq_true (show (ls.length : Int) ≤ 40 by omega)]
    exact iteF (q H1 sm)
theorem ok_check {f : Addr} {fd : FuncData} {k : Nat}
    (F : Fun K "check_items" "check_items" s_check_items f fd)
    (Cf : Cal P w K mg base k "names_fault" ["value", "most"] spNFaultOk)
    {t40 : Tok} (m40 : mg "MAX_ITEMS" = some (.int 40 t40)) :
    FnOk P w K mg base CX0 (k + 1) f fd ["items"] spCheckOk := by
  refine F.ok sc_check_items (fun vs H Q E h => ?_)
    (fun cv A outer s H vs Q E hr h => ?_)
  · obtain ⟨a, ls, rfl, _⟩ := h
    rfl
  obtain ⟨a, ls, rfl, ha, gd, q⟩ := h
  have nd := sc_check_items.nd
  refine ⟨_, pss_cons (ps_set (i := 1) nd rfl (.inl rfl)
      (pe_cal Cf hr (pa_cons (pv 0) (pa_cons
        (pe_glob (v := .int 40) (by rfl) m40 ⟨_, rfl⟩) pa_nil))))
    (pss_one (ps_if (pt_cmpR op_notN (pv 1) pe_non (nomark _))
      (pss_cons ps_never (pss_one ps_never)) pss_nil)), ?_⟩
  exact ⟨_, rfl, a, ls, rfl, ha, gd, fun H1 s1 =>
    ⟨_, rfl, rfl, _, rfl, iteF (q H1 s1)⟩⟩
end
end OM
namespace OM
open PySem PySem.Spec PyProof.Rows L2
/-! ### the first problem of a list -/
def tx : V → Option (List Nat)
  | .str x => some x.cps.toList
  | _ => none
def jd : List (List Nat) → Nat → List (Option (List Nat)) → Option (Str × Nat)
  | _, _, [] => none
  | _, i, none :: _ => some ("name", i)
  | seen, i, some l :: r =>
    if nmB l = true then
      if l ∈ seen then some ("duplicate", i) else jd (seen ++ [l]) (i + 1) r
    else some ("name", i)
def judge (xs : List V) : Option (Str × Nat) :=
  match jd [] 0 (xs.map tx) with
  | some r => some r
  | none => if 1 ≤ xs.length ∧ xs.length ≤ 40 then none else some ("count", 0)
/-- a value that is_name tells: a text, or one of another type -/
def Elt (K : PySem.W.Frag) (H : Hp) (v : V) : Prop :=
  (∃ l, v = vS l ∧ l.length ≤ 10000) ∨
  (∃ t, TyX K H v t ∧ PySem.W.kitOne K t (.type "str") = some false ∧
    tx v = none)
theorem TyOf.same {K : PySem.W.Frag} {H H' : Hp} {v : V} {t : Value}
    (h : TyOf K H v t) (s : Same H H') : TyOf K H' v t := by
  cases h with
  | non => exact .non
  | bl x => exact .bl x
  | int i => exact .int i
  | str x => exact .str x
  | flt x => exact .flt x
  | lst e => exact .lst (s _ _ e)
  | frz e => exact .frz (s _ _ e)
  | tup e => exact .tup (s _ _ e)
  | dK e => exact .dK (s _ _ e)
  | dT e => exact .dT (s _ _ e)
  | ins e cl ha hn ht hm => exact .ins (s _ _ e) cl ha hn ht hm
/-- the types that are asked about, and stay -/
def TyS (K : PySem.W.Frag) (H : Hp) (v : V) (t : Value) : Prop := TyOf K H v t
/-- InvalidBase leaves -/
def IbOut (C : Addr) (H : Hp) (E : XK) (r : Str × Nat) : Prop :=
  ∀ d H', H d = none → H' d = some (.xd [("position", .int (r.2 : Nat)),
    ("problem", .str r.1)]) → Same H H' → E (.ref C) (some d) H'
theorem IbOut.back {C : Addr} {H H1 : Hp} {E : XK} {r : Str × Nat}
    (h : IbOut C H E r) (s : Same H H1) : IbOut C H1 E r :=
  fun d H' n e s' => h d H' (s.free n) e (s.trans s')
def Elt1 (K : PySem.W.Frag) (H : Hp) (v : V) : Prop :=
  (∃ l, v = vS l ∧ l.length ≤ 10000) ∨
  (∃ t, TyOf K H v t ∧ PySem.W.kitOne K t (.type "str") = some false ∧
    tx v = none)
theorem Elt1.same {K : PySem.W.Frag} {H H' : Hp} {v : V}
    (h : Elt1 K H v) (s : Same H H') : Elt1 K H' v := by
  rcases h with h | ⟨t, a, b, c⟩
  · exact .inl h
  · exact .inr ⟨t, OM.TyOf.same a s, b, c⟩
/-- names_fault tells a problem -/
def NfOut (H : Hp) (Q : V → Hp → Prop) (r : Str × Nat) : Prop :=
  ∀ t H', H' t = some (.tup [.str r.1, .int (r.2 : Nat)]) → Same H H' →
    Q (.ref t) H'
theorem NfOut.back {H H1 : Hp} {Q : V → Hp → Prop} {r : Str × Nat}
    (h : NfOut H Q r) (s : Same H H1) : NfOut H1 Q r :=
  fun t H' e s' => h t H' e (s.trans s')
/-- names_fault, whatever it is given -/
def spNfX (K : PySem.W.Frag) : Sp := fun vs H Q _ =>
  ∃ v, vs = [v, .int 40] ∧
  ((∃ t, TyOf K H v t ∧ PySem.W.kitOne K t (.type "list") = some false ∧
      NfOut H Q ("list", 0)) ∨
   (∃ a xs, v = .ref a ∧ H a = some (.lst xs) ∧ (∀ x ∈ xs, Elt1 K H x) ∧
      xs.length ≤ 1000 ∧
      (∀ r, judge xs = some r → NfOut H Q r) ∧
      (judge xs = none → ∀ H', Same H H' → Q .non H')))
/-- check_items, whatever it is given -/
def spCheckX (K : PySem.W.Frag) (C : Addr) : Sp := fun vs H Q E =>
  ∃ v, vs = [v] ∧
  ((∃ t, TyOf K H v t ∧ PySem.W.kitOne K t (.type "list") = some false ∧
      IbOut C H E ("list", 0)) ∨
   (∃ a xs, v = .ref a ∧ H a = some (.lst xs) ∧ (∀ x ∈ xs, Elt1 K H x) ∧
      xs.length ≤ 1000 ∧
      (∀ r, judge xs = some r → IbOut C H E r) ∧
      (judge xs = none → ∀ H', Same H H' → Q .non H')))
theorem jd_step {ls : List (List Nat)} {l : List Nat} {i : Nat}
    {r : List (Option (List Nat))} (h1 : nmB l = true) (h2 : l ∉ ls) :
    jd ls i (some l :: r) = jd (ls ++ [l]) (i + 1) r := by
  show (if nmB l = true then _ else _) = _
  rw [if_pos h1, if_neg h2]
theorem drop_cons {α : Type} {xs : List α} {i : Nat} {x : α}
    (h : xs[i]? = some x) : xs.drop i = x :: xs.drop (i + 1) := by
  obtain ⟨hi, e⟩ := List.getElem?_eq_some_iff.mp h
  rw [List.drop_eq_getElem_cons hi, e]
section
variable {P : Program} {w : World} {K : PySem.W.Frag}
  {mg : Str → Option Value} {base : Heap} {CI : Addr}
/-- self.problem = problem; self.position = position -/
theorem ok_ibinit {f : Addr} {fd : FuncData} {k : Nat} {q : Str}
    (F : Fun K "__init__" q s_InvalidBase_init f fd) (T : OexC K CI)
    (n1 : PySem.W.findIn K (.ref CI) "problem" = some none)
    (n2 : PySem.W.findIn K (.ref CI) "position" = some none) :
    FnOk P w K mg base CX0 (k + 1) f fd ["self", "problem", "position"]
      (spX2 CI "problem" "position") := by
  refine F.ok sc_InvalidBase_init (fun vs H Q E h => ?_)
    (fun cv A outer s H vs Q E hr h => ?_)
  · obtain ⟨a, v1, v2, rfl, _⟩ := h
    rfl
  obtain ⟨a, v1, v2, rfl, ha, q⟩ := h
  refine ⟨_, pss_cons (ps_ost (pv 0) (pv 1)) (pss_one (ps_ost (pv 0) (pv 2))),
    ?_⟩
  refine ⟨_, rfl, _, rfl, a, CI, rfl, T, n1, .inl ⟨ha, fun dx nd ne => ?_⟩⟩
  refine ⟨_, rfl, _, rfl, a, CI, rfl, T, n2, .inr ⟨dx,
    [("problem", v1)], upd_same, ?_, ?_, ?_⟩⟩
  · rw [upd_ne ne, upd_same]
  · simp
  · exact q dx nd ne
theorem ok_nfaultX {f : Addr} {fd : FuncData} {k : Nat}
    (F : Fun K "names_fault" "names_fault" s_names_fault f fd) (B : Bl mg)
    (C : CalIsName P w K mg base k) :
    FnOk P w K mg base CX0 (k + 1) f fd ["value", "most"] (spNfX K) := by
  refine F.ok sc_names_fault (fun vs H Q E h => ?_)
    (fun cv A outer s H vs Q E hr h => ?_)
  · obtain ⟨v, rfl, _⟩ := h
    rfl
  obtain ⟨v, rfl, h⟩ := h
  have nd := sc_names_fault.nd
  refine ⟨_, pss_cons (ps_if (pt_not (pt_val
      (pe_callB call_isi (by rfl) B.isi bt_isi (pa_cons (pv 0) (pa_cons
        (pe_bltn (v := .ty "list") (by rfl) B.list bt_list rfl) pa_nil)))))
      (pss_one (ps_ret (pe_tup (pa_cons pe_str (pa_cons pe_int pa_nil))))) pss_nil)
    (pss_cons (ps_set (i := 2) nd rfl (.inl rfl)
      (pe_callTy0 cr_set0K (by rfl) B.set bt_set))
    (pss_cons (ps_for PassesOwn.never rfl
      (pi_enum (by rfl) B.enum (pa_cons (pv 0) pa_nil))
      (pg_tup rfl (pgs_cons (pg_name (i := 3) nd rfl (.inl rfl))
        (pgs_cons (pg_name (i := 4) nd rfl (.inl rfl)) pgs_nil)))
      (pss_cons (ps_if (pt_not (pt_val (pe_cal C hr (pa_cons (pv 4) pa_nil))))
        (pss_one (ps_ret (pe_tup (pa_cons pe_str (pa_cons (pv 3) pa_nil))))) pss_nil)
      (pss_cons (ps_if (pt_cmpR or_sinK (pv 4) (pv 2) (by rfl))
        (pss_one (ps_ret (pe_tup (pa_cons pe_str (pa_cons (pv 3) pa_nil))))) pss_nil)
      (pss_one (ps_expr (pe_saddK (pv 2) (pa_cons (pv 4) pa_nil)))))))
    (pss_cons (ps_if (pt_mid (pt_not (pt_chain op_le op_le pe_int
        (pe_callB call_len_seq (by rfl) B.len PySem.boot_len
          (pa_cons (pv 0) pa_nil)) (pv 1))))
      (pss_one (ps_ret (pe_tup (pa_cons pe_str (pa_cons pe_int pa_nil)))))
      pss_nil) (pss_one (ps_ret pe_non))))), ?_⟩
  rcases h with ⟨t, ty, kt, out⟩ | ⟨a, xs, rfl, ha, el, hx, bad, good⟩
  · refine ⟨_, rfl, _, _, _, _, false, rfl, .ty "list", .base ty, kt, _, rfl,
      iteT ⟨sz (by simp), fun t nt => ?_⟩⟩
    exact out t _ upd_same (sameNew nt)
  refine ⟨_, rfl, _, _, _, _, true, rfl, .ty "list", .base (.lst ha),
    kit_ty (by decide +kernel), _, rfl, iteF ?_⟩
  refine ⟨rfl, fun sn nsn => ?_⟩
  have nas : a ≠ sn := ne_of_none ha nsn
  have ha1 : (upd H sn (SetK P w sn (fun _ => false) 0)) a = some (.lst xs) := by
    rw [upd_ne nas]; exact ha
  refine ⟨_, rfl, a, _, rfl, SqL.of ha1, ?_⟩
  refine for_it (walk_enum (K := K) (a := a) (xs := xs))
    (fun i σ H' => ∃ (ls : List (List Nat)) (S : Key → Bool) (n : Nat)
      (y z : Option V),
      σ = [some (.ref a), some (.int 40), some (.ref sn), y, z] ∧ n ≤ i ∧ ls.length = i ∧
      xs.take i = ls.map vS ∧ (∀ l ∈ ls, nmB l = true) ∧
      jd [] 0 (xs.map tx) = jd ls i ((xs.drop i).map tx) ∧
      (∀ l, S (Sum.inr (SX.S l)) = decide (l ∈ ls)) ∧
      H' sn = some (SetK P w sn S n) ∧ H' a = some (.lst xs) ∧ Same H H')
    ⟨[], fun _ => false, 0, none, none, rfl, Nat.le_refl _, rfl, rfl, nofun, rfl,
      fun l => by simp, upd_same, ha1, sameNew nsn⟩
    (fun i σ H' _ z => by
      obtain ⟨_, _, _, _, _, _, _, _, _, _, _, _, _, h, _⟩ := z
      exact SqL.of h)
    ?_ ?_
  · rintro i v σ H1 H2 hi ⟨ls, S, n, y, z, rfl, hn, ll, tk, nml, jde, hS, hs,
      ha2, sm⟩ ⟨T, x1, x2, rfl, nT, rfl, e1, e2⟩
    cases Option.some.inj e1
    have nTs : sn ≠ T := ne_of_none hs nT
    have nTa : a ≠ T := ne_of_none ha2 nT
    have sm1 : Same H (upd H1 T (.tup [.int (i : Nat), x2])) :=
      sm.trans (sameNew nT)
    have dc := drop_cons e2
    rw [dc, List.map_cons] at jde
    have judg : ∀ r, jd ls i (tx x2 :: (xs.drop (i + 1)).map tx) = some r →
        judge xs = some r := fun r hr => by
      unfold judge
      rw [jde, hr]
    have hname : ∀ H3, Same (upd H1 T (.tup [.int (i : Nat), x2])) H3 →
        jd ls i (tx x2 :: (xs.drop (i + 1)).map tx) = some (("name" : Str), i) →
        NfOut H3 Q ("name", i) := fun H3 s3 hj =>
      (bad _ (judg _ hj)).back (sm1.trans s3)
    refine ⟨T, _, rfl, .inl (.inl upd_same), rfl, _, _, rfl, _, _, rfl, rfl,
      ?_⟩
    rcases (el x2 (List.mem_of_getElem? e2)) with ⟨l, rfl, hl⟩ | ⟨t, ty, kt, tn⟩
    · have ell : (SX.S l).length ≤ sizeLine := by
        rw [SX.S_len]; exact sz (by omega)
      refine ⟨_, rfl, _, rfl, .inl ⟨_, rfl, ell, fun H3 s3 => ?_⟩⟩
      have hs3 : H3 sn = some (SetK P w sn S n) :=
        s3 _ _ (by rw [upd_ne nTs]; exact hs)
      have ha3 : H3 a = some (.lst xs) :=
        s3 _ _ (by rw [upd_ne nTa]; exact ha2)
      cases nb : nmB l with
      | false =>
        refine ⟨_, rfl, iteT ⟨_, rfl, sz (by simp), fun t nt => ?_⟩⟩
        refine hname H3 s3 ?_ t _ upd_same (sameNew nt)
        show (if nmB l = true then _ else _) = _
        rw [if_neg (by rw [nb]; exact Bool.false_ne_true)]
      | true =>
        refine ⟨_, rfl, iteF ?_⟩
        refine ⟨_, rfl, _, rfl, Sum.inr (SX.S l), sn, S, n, rfl, rfl, hs3, _, rfl,
          ?_⟩
        by_cases ml : l ∈ ls
        · have st : S (Sum.inr (SX.S l)) = true := by
            rw [hS]; exact decide_eq_true ml
          rw [st]
          refine iteT ⟨_, rfl, sz (by simp), fun t nt => ?_⟩
          refine (bad ("duplicate", i) (judg _ ?_)).back (sm1.trans s3) t _
            upd_same (sameNew nt)
          show (if nmB l = true then _ else _) = _
          rw [if_pos nb, if_pos ml]
        · have sf : S (Sum.inr (SX.S l)) = false := by
            rw [hS]; exact decide_eq_false ml
          rw [sf]
          refine iteF ?_
          refine ⟨_, rfl, ⟨sn, S, n, rfl, hs3⟩, _, rfl, sn, Sum.inr (SX.S l), S,
            n, rfl, rfl, hs3, ?_, ?_⟩
          · show n + 1 < 4096
            omega
          refine ⟨ls ++ [l], _, _, _, _, rfl, ?_, ?_, ?_, ?_, ?_, ?_, upd_same,
            ?_, ?_⟩
          · rw [sf]
            show n + 1 ≤ i + 1
            omega
          · rw [List.length_append, ll]
            rfl
          · rw [List.take_add_one, show xs[i]? = some (vS l) from e2, tk,
              List.map_append]
            rfl
          · intro x hx
            rcases List.mem_append.mp hx with h | h
            · exact nml x h
            · rw [List.mem_singleton.mp h]
              exact nb
          · rw [jde]
            exact jd_step nb ml
          · intro l'
            show (S (Sum.inr (SX.S l')) || decide ((Sum.inr (SX.S l') : Key) =
              Sum.inr (SX.S l))) = _
            rw [hS]
            by_cases e : l' = l
            · subst e
              simp
            · have : ¬ ((Sum.inr (SX.S l') : Key) = Sum.inr (SX.S l)) :=
                fun z => e (SX.S_inj (Sum.inr.inj z))
              rw [decide_eq_false this, Bool.or_false]
              refine decide_eq_decide.mpr ?_
              rw [List.mem_append]
              constructor
              · exact Or.inl
              · rintro (z | z)
                · exact z
                · exact absurd (List.mem_singleton.mp z) e
          · rw [upd_ne nas]
            exact ha3
          · exact OM.Same.put (sm1.trans s3) nsn
    · refine ⟨_, rfl, _, rfl, .inr ⟨t, .base (OM.TyOf.same ty sm1), kt, ?_⟩⟩
      refine ⟨_, rfl, iteT ⟨_, rfl, sz (by simp), fun t nt => ?_⟩⟩
      refine hname _ (Same.refl _) ?_ t _ upd_same (sameNew nt)
      rw [tn]
      rfl
  · rintro σ H1 ⟨ls, S, n, y, z, rfl, hn, ll, tk, nml, jde, hS, hs, ha2, sm⟩
    rw [List.drop_length] at jde
    have jn : jd [] 0 (xs.map tx) = none := jde
    refine ⟨fun b H' => b = !(decide (1 ≤ xs.length) && decide (xs.length ≤ 40))
      ∧ H1 = H', ?_, ?_⟩
    · refine ⟨_, rfl, a, _, rfl, .inl (SqL.of ha2), _, _, rfl, rfl, _, rfl,
        ite2 (fun c => ?_) (fun c => ?_)⟩
      · have c' : (1 : Int) ≤ xs.length := of_decide_eq_true c
        refine ⟨_, rfl, _, _, rfl, rfl, _, rfl, ?_, rfl⟩
        rw [decide_eq_true (show 1 ≤ xs.length by omega), Bool.true_and]
        congr 1
        exact decide_eq_decide.mpr ⟨fun z => by omega, fun z => by omega⟩
      · refine ⟨_, rfl, ?_, rfl⟩
        rw [decide_eq_false (show ¬ 1 ≤ xs.length from fun z =>
          c (decide_eq_true (by omega)))]
        rfl
    · rintro b _ ⟨rfl, rfl⟩
      by_cases c : 1 ≤ xs.length ∧ xs.length ≤ 40
      · rw [decide_eq_true c.1, decide_eq_true c.2]
        refine iteF (good ?_ H1 sm)
        unfold judge
        rw [jn]
        exact if_pos c
      · have e : (decide (1 ≤ xs.length) && decide (xs.length ≤ 40)) = false := by
          by_cases c1 : 1 ≤ xs.length
          · rw [decide_eq_false (show ¬ xs.length ≤ 40 from fun z => c ⟨c1, z⟩)]
            exact Bool.and_false _
          · rw [decide_eq_false c1]
            exact Bool.false_and _
        rw [e]
        refine iteT ⟨sz (by simp), fun t nt => ?_⟩
        refine (bad ("count", 0) ?_).back sm t _ upd_same (sameNew nt)
        unfold judge
        rw [jn]
        exact if_neg c
theorem ok_checkX {f : Addr} {fd : FuncData} {k j : Nat}
    (F : Fun K "check_items" "check_items" s_check_items f fd)
    (Cf : Cal P w K mg base k "names_fault" ["value", "most"] (spNfX K))
    (M : XMk P w K mg base CI j "InvalidBase"
      ["self", "problem", "position"] (spX2 CI "problem" "position"))
    (hj : j + 1 ≤ k)
    {t40 : Tok} (m40 : mg "MAX_ITEMS" = some (.int 40 t40)) :
    FnOk P w K mg base (L2.CX P w) (k + 1) f fd ["items"]
      (spCheckX K CI) := by
  refine Fun.okX F sc_check_items (fun vs H Q E h => ?_)
    (fun cv A outer s H vs Q E hr h => ?_)
  · obtain ⟨v, rfl, _⟩ := h
    rfl
  obtain ⟨v, rfl, h⟩ := h
  have nd := sc_check_items.nd
  have hrj := hr.mono hj
  refine ⟨_, pss_cons (ps_set (i := 1) nd rfl (.inl rfl)
      (pe_cal Cf hr (pa_cons (pv 0) (pa_cons
        (pe_glob (v := .int 40) (by rfl) m40 ⟨_, rfl⟩) pa_nil))))
    (pss_one (ps_if (pt_cmpR op_notN (pv 1) pe_non (nomark _))
      (pss_cons (ps_asg (pv 1) (pg_tup rfl
        (pgs_cons (pg_name (i := 2) nd rfl (.inl rfl))
        (pgs_cons (pg_name (i := 3) nd rfl (.inl rfl)) pgs_nil))))
      (pss_one (ps_raise2 M hrj rfl (takes_of rfl rfl rfl rfl)
        (pa_cons (pv 2) (pa_cons (pv 3) pa_nil))))) pss_nil)), ?_⟩
  refine ⟨_, rfl, v, rfl, ?_⟩
  rcases h with ⟨t, ty, kt, out⟩ | ⟨a, xs, rfl, ha, el, hx, bad, good⟩
  · exact .inl ⟨t, ty, kt, fun T H1 e s => ⟨_, rfl, rfl, _, rfl, iteT ⟨_, rfl,
      T, _, rfl, .inl (.inl e), rfl, _, _, rfl, _, _, rfl, rfl, _, rfl, _, rfl,
      _, _, rfl, fun d H' n e' s' => out d H' (s.free n) e' (s.trans s')⟩⟩⟩
  · exact .inr ⟨a, xs, rfl, ha, el, hx, fun r hr T H1 e s => ⟨_, rfl, rfl, _,
      rfl, iteT ⟨_, rfl, T, _, rfl, .inl (.inl e), rfl, _, _, rfl, _, _, rfl, rfl,
      _, rfl, _, rfl, _, _, rfl, fun d H' n e' s' =>
      bad r hr d H' (s.free n) e' (s.trans s')⟩⟩,
      fun jn H1 s1 => ⟨_, rfl, rfl, _, rfl, iteF (good jn H1 s1)⟩⟩
end
end OM
namespace OM
open PySem PySem.Spec PyProof.Rows L2
/-! ### what a base holds -/
def prs : Nat → List (List Nat) → List (Key × V)
  | _, [] => []
  | n, l :: r => (Sum.inr (SX.S l), .int (n : Int)) :: prs (n + 1) r
theorem prs_len : ∀ (n : Nat) (ls : List (List Nat)),
    (prs n ls).length = ls.length
  | _, [] => rfl
  | n, _ :: r => congrArg (· + 1) (prs_len (n + 1) r)
theorem prs_snoc : ∀ (n : Nat) (ls : List (List Nat)) (l : List Nat),
    prs n (ls ++ [l]) =
      prs n ls ++ [(Sum.inr (SX.S l), .int ((n + ls.length : Nat) : Int))]
  | n, [], l => rfl
  | n, x :: r, l => by
    have ih := prs_snoc (n + 1) r l
    show (Sum.inr (SX.S x), V.int (n : Int)) :: prs (n + 1) (r ++ [l]) = _
    rw [ih, List.length_cons, show n + 1 + r.length = n + (r.length + 1) by
      omega]
    rfl
theorem val_prs (l : List Nat) : ∀ (n : Nat) (ls : List (List Nat)),
    valV (prs n ls) (Sum.inr (SX.S l) : Key) =
      if l ∈ ls then some (.int ((n + ls.idxOf l : Nat) : Int)) else none
  | n, [] => rfl
  | n, x :: r => by
    have ih := val_prs l (n + 1) r
    by_cases e : x = l
    · subst e
      rw [if_pos List.mem_cons_self, List.idxOf_cons_self]
      show Option.map _ (List.find? _ ((Sum.inr (SX.S x), _) :: _)) = _
      rw [List.find?_cons_of_pos (by simp)]
      rfl
    · have ne : ¬ ((Sum.inr (SX.S x) : Key) = Sum.inr (SX.S l)) :=
        fun z => e (SX.S_inj (Sum.inr.inj z))
      have hv : valV (prs n (x :: r)) (Sum.inr (SX.S l) : Key) =
          valV (prs (n + 1) r) (Sum.inr (SX.S l)) := by
        show Option.map _ (List.find? _ ((Sum.inr (SX.S x), _) :: _)) = _
        rw [List.find?_cons_of_neg (by simpa using ne)]
        rfl
      rw [hv, ih]
      by_cases m : l ∈ r
      · rw [if_pos m, if_pos (List.mem_cons_of_mem _ m),
          List.idxOf_cons, show (x == l) = false from
            beq_eq_false_iff_ne.mpr e]
        show some (V.int ((n + 1 + r.idxOf l : Nat) : Int)) =
          some (V.int ((n + (r.idxOf l + 1) : Nat) : Int))
        rw [show n + 1 + r.idxOf l = n + (r.idxOf l + 1) by omega]
      · rw [if_neg m, if_neg fun z => ?_]
        rcases List.mem_cons.mp z with z | z
        · exact e z.symm
        · exact m z
/-- the attributes -/
def bf (lo d : Addr) : List (Str × V) :=
  putF "places" (.ref d) (putF "listed" (.ref lo) [])
theorem ne_pl : ¬ (("listed" : Str) = "places") := by decide +kernel
theorem bf_listed (lo d : Addr) :
    (bf lo d).lookup ("listed" : Str) = some (.ref lo) := by
  unfold bf
  rw [lookup_putF, if_neg ne_pl, lookup_putF, if_pos rfl]
theorem bf_places (lo d : Addr) :
    (bf lo d).lookup ("places" : Str) = some (.ref d) := by
  unfold bf
  rw [lookup_putF, if_pos rfl]
theorem bf_no (lo d : Addr) {m : Str} (h1 : ¬ m = "places")
    (h2 : ¬ m = "listed") : (bf lo d).lookup m = none := by
  unfold bf
  rw [lookup_putF, if_neg h1, lookup_putF, if_neg h2]
  rfl
structure BaseAt (C : Addr) (H : Hp) (b : Addr) (ls : List (List Nat)) :
    Prop where
  ob : ∃ dx lo d, H b = some (.ins C dx (bf lo d)) ∧
    H lo = some (.lst (ls.map vS)) ∧ H d = some (.dK (prs 0 ls))
theorem BaseAt.same {C b : Addr} {H H' : Hp} {ls : List (List Nat)}
    (x : BaseAt C H b ls) (s : Same H H') : BaseAt C H' b ls := by
  obtain ⟨dx, lo, d, h1, h2, h3⟩ := x.ob
  exact ⟨dx, lo, d, s _ _ h1, s _ _ h2, s _ _ h3⟩
theorem neRng {H : Hp} {p q : Addr} {ls : List (List Nat)} (r : Rng H p)
    (h : H q = some (.lst (ls.map vS))) : q ≠ p := by
  obtain ⟨a, b, e, _⟩ := r
  refine ne_of h e fun z => ?_
  have z' := HO.lst.inj z
  cases ls with
  | nil => cases z'
  | cons l r =>
    rw [List.map_cons] at z'
    cases (List.cons.inj z').1
theorem BaseAt.but {C b p : Addr} {H H' : Hp} {ls : List (List Nat)}
    (x : BaseAt C H b ls) (r : Rng H p) (s : But p H H') :
    BaseAt C H' b ls := by
  obtain ⟨dx, lo, d, h1, h2, h3⟩ := x.ob
  have n2 := neRng r h2
  obtain ⟨i, j, e, _⟩ := r
  exact ⟨dx, lo, d, s _ _ h1 (ne_of h1 e nofun), s _ _ h2 n2,
    s _ _ h3 (ne_of h3 e nofun)⟩
theorem BaseAt.ne {C b p : Addr} {H : Hp} {ls : List (List Nat)}
    (x : BaseAt C H b ls) (n : H p = none) : b ≠ p := by
  obtain ⟨dx, lo, d, h1, h2, h3⟩ := x.ob
  exact ne_of_none h1 n
structure BC (K : PySem.W.Frag) (mg : Str → Option Value) (C : Addr) :
    Prop where
  ic : C8.InsC K C
  nL : NoAttr K C "listed"
  nP : NoAttr K C "places"
  mgC : mg "Base" = some (.ref C)
  kC : PySem.W.keepIn K (.ref C) = true
theorem BC.cl {K : PySem.W.Frag} {mg : Str → Option Value} {C : Addr}
    (x : BC K mg C) : Cls K C := x.ic.cl
/-- Base(items), the items being right -/
def spInitOk (C : Addr) : Sp := fun vs H Q _ =>
  ∃ (b a dx : Addr) (ls : List (List Nat)), vs = [.ref b, .ref a] ∧
  H b = some (.ins C dx []) ∧ H a = some (.lst (ls.map vS)) ∧ Good ls ∧
  ∀ H', BaseAt C H' b ls → But b H H' → Q .non H'
/-- a walk of a dict comprehension -/
theorem dc_walk {J : It} {n : Nat} {G : Hp → Prop}
    {Y : Nat → Hp → V → Hp → Prop} (wk : Walk J n G Y) {g : TG} {tt : TT}
    {tk tv : TE} {vs : List Nat} {σ : L2.St} {H1 : Hp} {D : Addr}
    {Qd : Hp → Prop} (Pv : Nat → Hp → Prop)
    (h0 : Pv 0 (upd H1 D (.dK []))) (hG : ∀ i H, i ≤ n → Pv i H → G H)
    (hs : ∀ i x H H', i < n → Pv i H → Y i H x H' →
      g x (wipe σ vs) H' fun σ2 H2 => wipe σ2 vs = wipe σ vs ∧
        tt σ2 H2 fun b H3 => if b = true then tk σ2 H3 fun y H4 =>
          tv σ2 H4 fun z H5 => ∃ kvs k, y = kV k ∧ H5 D = some (.dK kvs) ∧
            kvs.length < sizeLine ∧ Pv (i + 1) (upd H5 D (.dK (putK kvs k z)))
          else Pv (i + 1) H3)
    (hd : ∀ H, Pv n H → Qd H) :
    ∃ W : Nat → Nat → Hp → Prop, (∃ m, W 0 m (upd H1 D (.dK []))) ∧
      ∀ i m H, W i m H → (J.stop i H ∧ Qd H) ∨ (J.go i H ∧
        ∃ Nx : Hp → Prop, (∀ H', Nx H' → ∃ m', m' < m ∧ W (i + 1) m' H') ∧
        ∀ x H', J.yld i H x H' → g x (wipe σ vs) H' fun σ2 H2 =>
          wipe σ2 vs = wipe σ vs ∧ tt σ2 H2 fun b H3 => if b = true then
            tk σ2 H3 fun y H4 => tv σ2 H4 fun z H5 => ∃ kvs k, y = kV k ∧
              H5 D = some (.dK kvs) ∧ kvs.length < sizeLine ∧
              Nx (upd H5 D (.dK (putK kvs k z))) else Nx H3) := by
  refine ⟨fun i m H => m + i = n ∧ Pv i H, ⟨n, rfl, h0⟩, ?_⟩
  rintro i m H ⟨e, p⟩
  have q := hG i H (by omega) p
  rcases Nat.lt_or_ge i n with lt | ge
  · exact .inr ⟨wk.goes i H lt q, Pv (i + 1),
      fun H' p' => ⟨m - 1, by omega, by omega, p'⟩,
      fun x H' y => hs i x H H' lt p (wk.yields i H x H' lt q y)⟩
  · have e' : i = n := by omega
    subst e'
    exact .inl ⟨wk.stops H q, hd H p⟩
section
variable {P : Program} {w : World} {K : PySem.W.Frag}
  {mg : Str → Option Value} {base : Heap} {C : Addr}
theorem ok_init {f : Addr} {fd : FuncData} {k : Nat}
    (F : Fun K "__init__" "Base.__init__" s_Base_init f fd) (B : Bl mg)
    (T : BC K mg C)
    (Ck : Cal P w K mg base k "check_items" ["items"] spCheckOk) :
    FnOk P w K mg base CX0 (k + 1) f fd ["self", "items"] (spInitOk C) := by
  refine F.ok sc_Base_init (fun vs H Q E h => ?_)
    (fun cv A outer s H vs Q E hr h => ?_)
  · obtain ⟨b, a, dx, ls, rfl, _⟩ := h
    rfl
  obtain ⟨b, a, dx, ls, rfl, hb, ha, gd, q⟩ := h
  have nd := sc_Base_init.nd
  refine ⟨_, pss_cons (ps_expr (pe_cal Ck hr (pa_cons (pv 1) pa_nil)))
    (pss_cons (ps_fld (pv 0) (pe_callTy call_list_of (by rfl) B.list bt_list
      (pa_cons (pv 1) pa_nil)) rfl)
    (pss_one (ps_fld (pv 0)
      (pe_dc (own := [("name", 2), ("at", 3)])
        (g := gTup K 2 (gCons (gName 3) (gCons (gName 2) gNil)))
        (tt := tYes) rfl nd
        (pi_enum (by rfl) B.enum (pa_cons (pv 1) pa_nil))
        (blkOk_by (N := N_Base_init) (sc := defScope s_Base_init)
          (by decide +kernel))
        (fun _ _ _ _ _ => pg_tup rfl (pgs_cons (pg_name (i := 3) nd rfl
          (Or.inl rfl)) (pgs_cons (pg_name (i := 2) nd rfl (Or.inl rfl))
          pgs_nil)))
        (fun _ _ _ _ _ => pts_nil) (fun _ _ _ _ _ => pv 2)
        (fun _ _ _ _ _ => pv 3)) rfl))), ?_⟩
  refine ⟨_, rfl, a, ls, rfl, ha, gd, fun H1 s1 => ?_⟩
  have nba : b ≠ a := ne_of hb ha nofun
  have hb1 := s1 _ _ hb
  have ha1 := s1 _ _ ha
  refine ⟨_, rfl, a, _, rfl, .inl (SqL.of ha1), fun lo nlo => ?_⟩
  have nbl : b ≠ lo := ne_of_none hb1 nlo
  have nal : a ≠ lo := ne_of_none ha1 nlo
  refine ⟨_, rfl, b, C, dx, [], rfl, by rw [upd_ne nbl]; exact hb1, T.cl, T.nL,
    by decide, ?_⟩
  generalize eH2 : upd (upd H1 lo (.lst (ls.map vS))) b
    (.ins C dx (putF "listed" (.ref lo) [])) = H2
  have hb2 : H2 b = some (.ins C dx (putF "listed" (.ref lo) [])) := by
    rw [← eH2]; exact upd_same
  have ha2 : H2 a = some (.lst (ls.map vS)) := by
    rw [← eH2, upd_ne nba.symm, upd_ne nal]; exact ha1
  have hl2 : H2 lo = some (.lst (ls.map vS)) := by
    rw [← eH2, upd_ne nbl.symm, upd_same]
  have b2 : But b H H2 := by
    rw [← eH2]
    exact ((But.of s1).new (s1.free nlo)).at
  refine ⟨_, rfl, a, _, rfl, SqL.of ha2, fun d nd' => ?_⟩
  have ndb : b ≠ d := ne_of_none hb2 nd'
  have nda : a ≠ d := ne_of_none ha2 nd'
  have ndl : lo ≠ d := ne_of_none hl2 nd'
  refine dc_walk (walk_enum (K := K) (a := a) (xs := ls.map vS))
    (fun i H' => H' d = some (.dK (prs 0 (ls.take i))) ∧
      H' b = some (.ins C dx (putF "listed" (.ref lo) [])) ∧
      H' a = some (.lst (ls.map vS)) ∧ H' lo = some (.lst (ls.map vS)) ∧
      But b H H')
    ⟨upd_same, by rw [upd_ne ndb]; exact hb2, by rw [upd_ne nda]; exact ha2,
      by rw [upd_ne ndl]; exact hl2, b2.put nd' ndb.symm⟩
    (fun i H' _ z => SqL.of z.2.2.1) ?_ ?_
  · rintro i v H3 H4 hi ⟨hd, h1, h2, h3, b3⟩ ⟨T', x1, x2, rfl, nT, rfl, e1, e2⟩
    obtain ⟨l, hl, rfl⟩ := get_map e2
    cases Option.some.inj e1
    rw [List.length_map] at hi
    have hhi := gd.hi
    refine ⟨T', _, rfl, .inl (.inl upd_same), rfl, _, _, rfl, _, _, rfl, rfl,
      rfl, yes ⟨_, rfl, _, rfl, prs 0 (ls.take i), Sum.inr (SX.S l), rfl, ?_, ?_,
      ?_, ?_, ?_, ?_, ?_⟩⟩
    · rw [upd_ne (ne_of_none hd nT)]
      exact hd
    · rw [prs_len, List.length_take]
      exact sz' (by omega)
    · rw [upd_same, putK_new _ (by
        rw [val_prs, if_neg (nodup_take gd.nd hl)]),
        List.take_add_one, hl]
      show _ = some (HO.dK (prs 0 (ls.take i ++ [l])))
      rw [prs_snoc, List.length_take, Nat.min_eq_left (by omega),
        Nat.zero_add]
    · rw [upd_ne ndb, upd_ne (ne_of_none h1 nT)]
      exact h1
    · rw [upd_ne nda, upd_ne (ne_of_none h2 nT)]
      exact h2
    · rw [upd_ne ndl, upd_ne (ne_of_none h3 nT)]
      exact h3
    · exact (b3.put nT (ne_of_none h1 nT).symm).new (b2.free ndb.symm nd')
  · rintro H3 ⟨hd, h1, h2, h3, b3⟩
    rw [List.take_of_length_le (by rw [List.length_map]; exact Nat.le_refl _)]
      at hd
    refine ⟨_, rfl, b, C, dx, _, rfl, h1, T.cl, T.nP,
      by show 1 < 1000; decide, ?_⟩
    refine q _ ⟨dx, lo, d, upd_same, ?_, ?_⟩ b3.at
    · rw [upd_ne nbl.symm]
      exact h3
    · rw [upd_ne ndb.symm]
      exact hd
end
end OM
namespace OM
open PySem PySem.Spec PyProof.Rows L2
theorem jd_none {K : PySem.W.Frag} {H : Hp} : ∀ (xs : List V)
    (seen : List (List Nat)) (i : Nat), (∀ x ∈ xs, Elt1 K H x) →
    jd seen i (xs.map tx) = none →
    ∃ ls : List (List Nat), xs = ls.map vS ∧ (∀ l ∈ ls, Nm l) ∧ ls.Nodup ∧
      ∀ l ∈ ls, l ∉ seen
  | [], _, _, _, _ => ⟨[], rfl, nofun, List.nodup_nil, nofun⟩
  | x :: xs, seen, i, el, h => by
    rcases el x List.mem_cons_self with ⟨l, rfl, hl⟩ | ⟨t, _, _, tn⟩
    · have h' : jd seen i (some l :: xs.map tx) = none := h
      unfold jd at h'
      by_cases nb : nmB l = true
      · rw [if_pos nb] at h'
        by_cases ml : l ∈ seen
        · rw [if_pos ml] at h'; cases h'
        · rw [if_neg ml] at h'
          obtain ⟨ls, e, nm, nd, ns⟩ := jd_none xs _ _
            (fun y hy => el y (List.mem_cons_of_mem _ hy)) h'
          refine ⟨l :: ls, by rw [e]; rfl, ?_, ?_, ?_⟩
          · intro y hy
            rcases List.mem_cons.mp hy with rfl | hy
            · exact nmB_iff.mp nb
            · exact nm y hy
          · refine List.nodup_cons.mpr ⟨fun hm => ?_, nd⟩
            exact ns l hm (List.mem_append_right _ List.mem_cons_self)
          · intro y hy
            rcases List.mem_cons.mp hy with rfl | hy
            · exact ml
            · exact fun z => ns y hy (List.mem_append_left _ z)
      · rw [if_neg nb] at h'; cases h'
    · rw [List.map_cons, tn] at h
      cases h
theorem judge_none {K : PySem.W.Frag} {H : Hp} {xs : List V}
    (el : ∀ x ∈ xs, Elt1 K H x) (h : judge xs = none) :
    ∃ ls : List (List Nat), xs = ls.map vS ∧ Good ls := by
  unfold judge at h
  cases e : jd [] 0 (xs.map tx) with
  | some r => rw [e] at h; cases h
  | none =>
    rw [e] at h
    obtain ⟨ls, e', nm, nd, _⟩ := jd_none xs _ _ el e
    by_cases c : 1 ≤ xs.length ∧ xs.length ≤ 40
    · refine ⟨ls, e', nm, nd, ?_, ?_⟩
      · have := c.1; rw [e', List.length_map] at this; exact this
      · have := c.2; rw [e', List.length_map] at this; exact this
    · simp only [if_neg c] at h
      cases h
/-- Base(items), whatever the items are -/
def spInitX (K : PySem.W.Frag) (C CI : Addr) : Sp := fun vs H Q E =>
  ∃ (b dx : Addr) (v : V), vs = [.ref b, v] ∧ H b = some (.ins C dx []) ∧
  ((∃ t, TyOf K H v t ∧ PySem.W.kitOne K t (.type "list") = some false ∧
      IbOut CI H E ("list", 0)) ∨
   (∃ a xs, v = .ref a ∧ H a = some (.lst xs) ∧ (∀ x ∈ xs, Elt1 K H x) ∧
      xs.length ≤ 1000 ∧ (∀ r, judge xs = some r → IbOut CI H E r) ∧
      (judge xs = none → ∀ ls, xs = ls.map vS → Good ls → ∀ H',
        BaseAt C H' b ls → But b H H' → Q .non H')))
section
variable {P : Program} {w : World} {K : PySem.W.Frag}
  {mg : Str → Option Value} {base : Heap} {C CI : Addr}
theorem ok_initX {f : Addr} {fd : FuncData} {k : Nat}
    (F : Fun K "__init__" "Base.__init__" s_Base_init f fd) (B : Bl mg)
    (T : BC K mg C)
    (Ck : CalX P w K mg base k "check_items" ["items"] (spCheckX K CI)) :
    FnOk P w K mg base (L2.CX P w) (k + 1) f fd ["self", "items"]
      (spInitX K C CI) := by
  refine Fun.okX F sc_Base_init (fun vs H Q E h => ?_)
    (fun cv A outer s H vs Q E hr h => ?_)
  · obtain ⟨b, dx, v, rfl, _⟩ := h
    rfl
  obtain ⟨b, dx, v, rfl, hb, h⟩ := h
  have nd := sc_Base_init.nd
  refine ⟨_, pss_cons (ps_expr (pe_calX Ck hr (takes_of rfl rfl rfl rfl)
      (fun _ _ _ _ z => z) (pa_cons (pv 1) pa_nil)))
    (pss_cons (ps_fld (pv 0) (pe_callTy call_list_of (by rfl) B.list bt_list
      (pa_cons (pv 1) pa_nil)) rfl)
    (pss_one (ps_fld (pv 0)
      (pe_dc (own := [("name", 2), ("at", 3)])
        (g := gTup K 2 (gCons (gName 3) (gCons (gName 2) gNil)))
        (tt := tYes) rfl nd
        (pi_enum (by rfl) B.enum (pa_cons (pv 1) pa_nil))
        (blkOk_by (N := N_Base_init) (sc := defScope s_Base_init)
          (by decide +kernel))
        (fun _ _ _ _ _ => pg_tup rfl (pgs_cons (pg_name (i := 3) nd rfl
          (Or.inl rfl)) (pgs_cons (pg_name (i := 2) nd rfl (Or.inl rfl))
          pgs_nil)))
        (fun _ _ _ _ _ => pts_nil) (fun _ _ _ _ _ => pv 2)
        (fun _ _ _ _ _ => pv 3)) rfl))), ?_⟩
  rcases h with ⟨t, ty, kt, out⟩ | ⟨a, xs, rfl, ha, el, hx, bad, good⟩
  · exact ⟨_, rfl, _, rfl, .inl ⟨t, ty, kt, out⟩⟩
  refine ⟨_, rfl, _, rfl, .inr ⟨a, xs, rfl, ha, el, hx, bad, fun jn H1 s1 => ?_⟩⟩
  obtain ⟨ls, rfl, gd⟩ := judge_none el jn
  have q := good jn ls rfl gd
  have nba : b ≠ a := ne_of hb ha nofun
  have hb1 := s1 _ _ hb
  have ha1 := s1 _ _ ha
  refine ⟨_, rfl, a, _, rfl, .inl (SqL.of ha1), fun lo nlo => ?_⟩
  have nbl : b ≠ lo := ne_of_none hb1 nlo
  have nal : a ≠ lo := ne_of_none ha1 nlo
  refine ⟨_, rfl, b, C, dx, [], rfl, by rw [upd_ne nbl]; exact hb1, T.cl, T.nL,
    by decide, ?_⟩
  generalize eH2 : upd (upd H1 lo (.lst (ls.map vS))) b
    (.ins C dx (putF "listed" (.ref lo) [])) = H2
  have hb2 : H2 b = some (.ins C dx (putF "listed" (.ref lo) [])) := by
    rw [← eH2]; exact upd_same
  have ha2 : H2 a = some (.lst (ls.map vS)) := by
    rw [← eH2, upd_ne nba.symm, upd_ne nal]; exact ha1
  have hl2 : H2 lo = some (.lst (ls.map vS)) := by
    rw [← eH2, upd_ne nbl.symm, upd_same]
  have b2 : But b H H2 := by
    rw [← eH2]
    exact ((But.of s1).new (s1.free nlo)).at
  refine ⟨_, rfl, a, _, rfl, SqL.of ha2, fun d nd' => ?_⟩
  have ndb : b ≠ d := ne_of_none hb2 nd'
  have nda : a ≠ d := ne_of_none ha2 nd'
  have ndl : lo ≠ d := ne_of_none hl2 nd'
  refine dc_walk (walk_enum (K := K) (a := a) (xs := ls.map vS))
    (fun i H' => H' d = some (.dK (prs 0 (ls.take i))) ∧
      H' b = some (.ins C dx (putF "listed" (.ref lo) [])) ∧
      H' a = some (.lst (ls.map vS)) ∧ H' lo = some (.lst (ls.map vS)) ∧
      But b H H')
    ⟨upd_same, by rw [upd_ne ndb]; exact hb2, by rw [upd_ne nda]; exact ha2,
      by rw [upd_ne ndl]; exact hl2, b2.put nd' ndb.symm⟩
    (fun i H' _ z => SqL.of z.2.2.1) ?_ ?_
  · rintro i v H3 H4 hi ⟨hd, h1, h2, h3, b3⟩ ⟨T', x1, x2, rfl, nT, rfl, e1, e2⟩
    obtain ⟨l, hl, rfl⟩ := get_map e2
    cases Option.some.inj e1
    rw [List.length_map] at hi
    have hhi := gd.hi
    refine ⟨T', _, rfl, .inl (.inl upd_same), rfl, _, _, rfl, _, _, rfl, rfl,
      rfl, yes ⟨_, rfl, _, rfl, prs 0 (ls.take i), Sum.inr (SX.S l), rfl, ?_, ?_,
      ?_, ?_, ?_, ?_, ?_⟩⟩
    · rw [upd_ne (ne_of_none hd nT)]
      exact hd
    · rw [prs_len, List.length_take]
      exact sz' (by omega)
    · rw [upd_same, putK_new _ (by
        rw [val_prs, if_neg (nodup_take gd.nd hl)]),
        List.take_add_one, hl]
      show _ = some (HO.dK (prs 0 (ls.take i ++ [l])))
      rw [prs_snoc, List.length_take, Nat.min_eq_left (by omega),
        Nat.zero_add]
    · rw [upd_ne ndb, upd_ne (ne_of_none h1 nT)]
      exact h1
    · rw [upd_ne nda, upd_ne (ne_of_none h2 nT)]
      exact h2
    · rw [upd_ne ndl, upd_ne (ne_of_none h3 nT)]
      exact h3
    · exact (b3.put nT (ne_of_none h1 nT).symm).new (b2.free ndb.symm nd')
  · rintro H3 ⟨hd, h1, h2, h3, b3⟩
    rw [List.take_of_length_le (by rw [List.length_map]; exact Nat.le_refl _)]
      at hd
    refine ⟨_, rfl, b, C, dx, _, rfl, h1, T.cl, T.nP,
      by show 1 < 1000; decide, ?_⟩
    refine q _ ⟨dx, lo, d, upd_same, ?_, ?_⟩ b3.at
    · rw [upd_ne nbl.symm]
      exact h3
    · rw [upd_ne ndb.symm]
      exact hd
end
end OM
namespace OM
open PySem PySem.Spec PyProof.Rows L2
/-! ### a method, in one word -/
structure CalM (P : Program) (w : World) (K : PySem.W.Frag)
    (mg : Str → Option Value) (base : Heap) (C : Addr) (k : Nat) (x : Str)
    (ps : List Str) (sp : Sp) : Prop where
  cl : Cls K C
  ex : ∃ f fd, FnOk P w K mg base CX0 k f fd ps sp ∧ Meth K C x f ∧
    Binds K fd ps []
section
variable {X : Cx} {k : Nat} {ps : List Str} {sp : Sp} {x : Str} {C : Addr}
  {p pos : Pos} {o e : Expr} {es : List Expr} {t : TA} {to : TE}
theorem pe_calM {pl : Sem Bool} (M : CalM X.prog X.w X.K X.mg X.base C k x ps sp)
    (room : Room k X.A) (ho : PE X o to) (ha : PA X (e :: es) t)
    (h1 : starEach (e :: es) X.env =
      (false, eval e X.env) :: starEach es X.env := by rfl)
    (h2 : (backTo pos (starEach es X.env)).any (·.1) = false := by rfl)
    (h3 : eval (.Call (.Attribute o x p) (e :: es) [] pos) X.env = (do
      let ov ← eval o X.env
      standAt p.atName
      let (f, first) ← holding [ov] (getMethod ov x pl)
      callWith pos f first (backTo pos (starEach (e :: es) X.env))
        (backToKw pos (keywordEach [] X.env))) := by rfl) :
    PE X (.Call (.Attribute o x p) (e :: es) [] pos)
      (tMeth C x sp [] E0 to t) := by
  obtain ⟨f, fd, F, m, b⟩ := M.ex
  exact pe_meth (pl := pl) ho M.cl m F room b .nil pass0 ha h1 h2 h3
theorem pe_calM0 {pl : Sem Bool} (M : CalM X.prog X.w X.K X.mg X.base C k x ps sp)
    (room : Room k X.A) (ho : PE X o to)
    (h3 : eval (.Call (.Attribute o x p) [] [] pos) X.env = (do
      let ov ← eval o X.env
      standAt p.atName
      let (f, first) ← holding [ov] (getMethod ov x pl)
      callWith pos f first (backTo pos (starEach [] X.env))
        (backToKw pos (keywordEach [] X.env))) := by rfl) :
    PE X (.Call (.Attribute o x p) [] [] pos)
      (tMeth C x sp [] E0 to tNil) := by
  obtain ⟨f, fd, F, m, b⟩ := M.ex
  exact pe_meth0 (pl := pl) ho M.cl m F room b .nil pass0 h3
end
def spGetNames (C : Addr) : Sp := fun vs H Q _ =>
  ∃ (b : Addr) (ls : List (List Nat)), vs = [.ref b] ∧ BaseAt C H b ls ∧
  ∀ q H', H q = none → H' q = some (.lst (ls.map vS)) → Same H H' →
    Q (.ref q) H'
def spLenB (C : Addr) : Sp := fun vs H Q _ =>
  ∃ (b : Addr) (ls : List (List Nat)), vs = [.ref b] ∧ BaseAt C H b ls ∧
  Q (.int ls.length) H
/-- == of two bases -/
def spEqB (C : Addr) : Sp := fun vs H Q _ =>
  ∃ (b o : Addr) (ls ms : List (List Nat)), vs = [.ref b, .ref o] ∧
  BaseAt C H b ls ∧ BaseAt C H o ms ∧ Uni ls ∧ Uni ms ∧
  Q (.bl (decide (ls = ms))) H
def baseText (ls : List (List Nat)) : Str :=
  Str.empty ++ Str.ofString "Base(" ++ (PyData.list (dN ls)).shown ++
    Str.ofString ")"
/-- repr of a base -/
def spReprB (C : Addr) : Sp := fun vs H Q _ =>
  ∃ (b : Addr) (ls : List (List Nat)), vs = [.ref b] ∧ BaseAt C H b ls ∧
  Good ls ∧ Q (.str (baseText ls)) H
theorem Nm.uni {l : List Nat} (n : Nm l) : ∀ c ∈ l, c < 1114112 := fun c h => by
  have := n.az c h
  omega
theorem Good.uni {ls : List (List Nat)} (g : Good ls) : Uni ls :=
  fun l h => (g.nm l h).uni
theorem Good.shown {ls : List (List Nat)} (g : Good ls) :
    (PyData.list (dN ls)).shown.length ≤ sizeLine := by
  have := g.hi
  exact shown_L (m := 8) (by omega) (by omega) fun l h =>
    ⟨(g.nm l h).hi, (g.nm l h).uni⟩
section
variable {P : Program} {w : World} {K : PySem.W.Frag}
  {mg : Str → Option Value} {base : Heap} {C : Addr}
theorem ok_getnames {f : Addr} {fd : FuncData} {k : Nat}
    (F : Fun K "names" "Base.names" s_Base_names f fd) (B : Bl mg)
    (T : BC K mg C) :
    FnOk P w K mg base CX0 (k + 1) f fd ["self"] (spGetNames C) := by
  refine F.ok sc_Base_names (fun vs H Q E h => ?_)
    (fun cv A outer s H vs Q E hr h => ?_)
  · obtain ⟨b, ls, rfl, _⟩ := h
    rfl
  obtain ⟨b, ls, rfl, hb, q⟩ := h
  obtain ⟨dx, lo, d, h1, h2, h3⟩ := hb.ob
  refine ⟨_, pss_one (ps_ret (pe_callTy call_list_of (by rfl) B.list bt_list
    (pa_cons (pe_fld (pv 0) rfl) pa_nil))), ?_⟩
  exact ⟨_, rfl, b, C, dx, _, _, rfl, h1, T.cl, T.nL, bf_listed _ _, lo, _, rfl,
    .inl (SqL.of h2), fun l nl => q l _ nl upd_same (sameNew nl)⟩
theorem ok_lenB {f : Addr} {fd : FuncData} {k : Nat}
    (F : Fun K "__len__" "Base.__len__" s_Base_len f fd) (B : Bl mg)
    (T : BC K mg C) :
    FnOk P w K mg base CX0 (k + 1) f fd ["self"] (spLenB C) := by
  refine F.ok sc_Base_len (fun vs H Q E h => ?_)
    (fun cv A outer s H vs Q E hr h => ?_)
  · obtain ⟨b, ls, rfl, _⟩ := h
    rfl
  obtain ⟨b, ls, rfl, hb, q⟩ := h
  obtain ⟨dx, lo, d, h1, h2, h3⟩ := hb.ob
  refine ⟨_, pss_one (ps_ret (pe_callB call_len_seq (by rfl) B.len
    PySem.boot_len (pa_cons (pe_fld (pv 0) rfl) pa_nil))), ?_⟩
  refine ⟨_, rfl, b, C, dx, _, _, rfl, h1, T.cl, T.nL, bf_listed _ _, lo, _,
    rfl, .inl (SqL.of h2), ?_⟩
  rw [List.length_map]
  exact q
theorem ok_eqB {f : Addr} {fd : FuncData} {k : Nat}
    (F : Fun K "__eq__" "Base.__eq__" s_Base_eq f fd) (B : Bl mg)
    (T : BC K mg C) :
    FnOk P w K mg base CX0 (k + 1) f fd ["self", "other"] (spEqB C) := by
  refine F.ok sc_Base_eq (fun vs H Q E h => ?_)
    (fun cv A outer s H vs Q E hr h => ?_)
  · obtain ⟨b, o, ls, ms, rfl, _⟩ := h
    rfl
  obtain ⟨b, o, ls, ms, rfl, hb, ho, u1, u2, q⟩ := h
  obtain ⟨dx, lo, d, h1, h2, h3⟩ := hb.ob
  obtain ⟨dy, mo, e, g1, g2, g3⟩ := ho.ob
  refine ⟨_, pss_one (ps_ret (pe_and
    (pe_callB (C8.call_isC T.ic) (by rfl) B.isi bt_isi (pa_cons (pv 1)
      (pa_cons (pe_glob (v := .ref C) (by rfl) T.mgC rfl) pa_nil)))
    (pe_one (pe_cmpR (op_eqD hr.units) (pe_fld (pv 0) rfl) (pe_fld (pv 1) rfl)
      (nomark _))))), ?_⟩
  refine ⟨_, rfl, o, dy, _, rfl, g1, _, rfl, iteT ?_⟩
  refine ⟨_, rfl, b, C, dx, _, _, rfl, h1, T.cl, T.nL, bf_listed _ _, _, rfl, o,
    C, dy, _, _, rfl, g1, T.cl, T.nL, bf_listed _ _, _, _, dp_N (SqL.of h2),
    dp_N (SqL.of g2), shaped_L u1, shaped_L u2, ?_⟩
  rw [eqv_L]
  exact q
theorem ok_reprB {f : Addr} {fd : FuncData} {k : Nat}
    (F : Fun K "__repr__" "Base.__repr__" s_Base_repr f fd)
    (T : BC K mg C) :
    FnG P w K mg base CX0 (k + 1) f fd ["self"] (spReprB C) := by
  refine okG F sc_Base_repr (fun vs H Q E h => ?_)
    (fun cv A outer s H vs Q E hr gd h => ?_)
  · obtain ⟨b, ls, rfl, _⟩ := h
    rfl
  obtain ⟨b, ls, rfl, hb, good, q⟩ := h
  obtain ⟨dx, lo, d, h1, h2, h3⟩ := hb.ob
  refine ⟨_, pss_one (ps_ret (pe_joined (.cons pe_str (.cons
    (pe_fmtD hr gd (pe_fld (pv 0) rfl)) (.cons pe_str .nil))))), ?_⟩
  have l1 := good.shown
  have l2 : (PyData.list (dN ls)).shown.length ≤ 10004003 := by
    have e : (PyData.list (dN ls)).shown =
        listText (PyData.shownAll (dN ls)) := by simp only [PyData.shown]
    have p := piled_N ls 8 fun l h => ⟨(good.nm l h).hi, (good.nm l h).uni⟩
    have q := listText_len_le (PyData.shownAll (dN ls))
    rw [e]
    have r : ((PyData.shownAll (dN ls)).map (·.length)).sum +
        2 * (PyData.shownAll (dN ls)).length =
        piled (PyData.shownAll (dN ls)) := by
      generalize PyData.shownAll (dN ls) = ts
      induction ts with
      | nil => rfl
      | cons t ts ih =>
        rw [piled_cons, List.map_cons, List.sum_cons, List.length_cons]
        omega
    have s : ls.length * (10 * 8 + 4) ≤ 40 * 84 :=
      Nat.mul_le_mul good.hi (Nat.le_refl _)
    omega
  have l3 : (Str.ofString "Base(").length = 5 := by decide +kernel
  have l4 : (Str.ofString ")").length = 1 := by decide +kernel
  have l5 : (Str.empty).length = 0 := by decide +kernel
  have l6 : 10005000 ≤ sizeLine := by decide
  refine ⟨_, rfl, ?_, _, rfl, b, C, dx, _, _, rfl, h1, T.cl, T.nL,
    bf_listed _ _, lo, _, rfl, dp_N (SqL.of h2), showable_L ls,
    Nat.le_trans (depth_L ls) (by decide), l1, _, rfl, ?_, _, rfl, ?_, q⟩
  · rw [strLen_append]
    omega
  · rw [strLen_append, strLen_append]
    omega
  · rw [strLen_append, strLen_append, strLen_append]
    omega
end
end OM
namespace OM
open PySem PySem.Spec PyProof.Rows L2
/-- is it an item -/
def spHas (K : PySem.W.Frag) (C : Addr) : Sp := fun vs H Q _ =>
  ∃ (b : Addr) (ls : List (List Nat)) (v : V), vs = [.ref b, v] ∧
  BaseAt C H b ls ∧ (∀ l ∈ ls, Nm l) ∧
  ((∃ x : Str, v = .str x ∧ x.length ≤ sizeLine ∧ ∀ H', Same H H' →
      Q (.bl (decide (x.cps.toList ∈ ls))) H') ∨
   (∃ t, TyX K H v t ∧ PySem.W.kitOne K t (.type "str") = some false ∧
      ∀ H', Same H H' → Q (.bl false) H'))
section
variable {P : Program} {w : World} {K : PySem.W.Frag}
  {mg : Str → Option Value} {base : Heap} {C : Addr}
theorem ok_has {f : Addr} {fd : FuncData} {k : Nat}
    (F : Fun K "has_item" "Base.has_item" s_Base_has_item f fd) (B : Bl mg)
    (T : BC K mg C) (Ci : CalIsName P w K mg base k) :
    FnOk P w K mg base CX0 (k + 1) f fd ["self", "value"] (spHas K C) := by
  refine F.ok sc_Base_has_item (fun vs H Q E h => ?_)
    (fun cv A outer s H vs Q E hr h => ?_)
  · obtain ⟨b, ls, v, rfl, _⟩ := h
    rfl
  obtain ⟨b, ls, v, rfl, hb, nm, h⟩ := h
  have hu := hu_of hr
  refine ⟨_, pss_one (ps_ret (pe_and (pe_cal Ci hr (pa_cons (pv 1) pa_nil))
    (pe_one (pe_cmp (pc_din hu (pv 1) (pe_fld (pv 0) rfl)) rfl)))), ?_⟩
  rcases h with ⟨x, rfl, hx, q⟩ | ⟨t, ty, kt, q⟩
  · refine ⟨_, rfl, _, rfl, .inl ⟨x, rfl, hx, fun H1 s1 => ?_⟩⟩
    obtain ⟨dx, lo, d, h1, h2, h3⟩ := (hb.same s1).ob
    refine ⟨_, rfl, ?_⟩
    by_cases hm : x.cps.toList ∈ ls
    · have e : nmB x.cps.toList = true := nmB_iff.mpr (nm _ hm)
      rw [e]
      refine iteT ⟨_, rfl, _, rfl, b, C, dx, _, _, rfl, h1, T.cl, T.nP,
        bf_places _ _, d, _, rfl, DGet.k (k := Sum.inr x) h3, ?_⟩
      have ex : x = SX.S x.cps.toList := (SX.S_tl x).symm
      rw [ex, val_prs, if_pos hm]
      have := q H1 s1
      rw [decide_eq_true hm] at this
      exact this
    · have qf := q H1 s1
      rw [decide_eq_false hm] at qf
      cases e : nmB x.cps.toList with
      | false => exact iteF qf
      | true =>
        refine iteT ⟨_, rfl, _, rfl, b, C, dx, _, _, rfl, h1, T.cl, T.nP,
          bf_places _ _, d, _, rfl, DGet.k (k := Sum.inr x) h3, ?_⟩
        have ex : x = SX.S x.cps.toList := (SX.S_tl x).symm
        rw [ex, val_prs, if_neg hm]
        exact qf
  · exact ⟨_, rfl, _, rfl, .inr ⟨t, ty, kt, _, rfl, iteF (q H (Same.refl H))⟩⟩
end
end OM
namespace OM
open PySem PySem.Spec PyProof.Rows L2
/-! ### a class that is made, in one word -/
structure CalC (P : Program) (w : World) (K : PySem.W.Frag)
    (mg : Str → Option Value) (base : Heap) (C : Addr) (k : Nat) (x : Str)
    (ps : List Str) (sp : Sp) : Prop where
  mgC : mg x = some (.ref C)
  ex : ∃ f fd, FnOk P w K mg base CX0 k f fd ps sp ∧ Mk K C f ∧
    Binds K fd ps []
section
variable {X : Cx} {k : Nat} {ps : List Str} {sp : Sp} {x : Str} {C : Addr}
  {p pos : Pos} {e : Expr} {es : List Expr} {t : TA}
theorem pe_calC (M : CalC X.prog X.w X.K X.mg X.base C k x ps sp)
    (room : Room (k + 1) X.A) (ha : PA X (e :: es) t)
    (hg : Gl X x := by rfl)
    (h1 : (x == ("__debug__" : Str)) = false := by decide)
    (h2 : starEach (e :: es) X.env =
      (false, eval e X.env) :: starEach es X.env := by rfl)
    (h3 : (backTo pos (starEach es X.env)).any (·.1) = false := by rfl) :
    PE X (.Call (.Name x p) (e :: es) [] pos) (tMake C sp [] E0 t) := by
  obtain ⟨f, fd, F, m, b⟩ := M.ex
  exact pe_make m F room hg M.mgC b .nil pass0 ha h1 h2 h3
end
theorem cut_to (xs : List V) {n : Nat} (h : n ≤ xs.length) :
    cutV xs none (some (n : Int)) = xs.take n := by
  unfold cutV
  rw [HT.sIx_nat, HT.sIx_none, Nat.min_eq_left h, Nat.sub_zero,
    List.drop_zero]
theorem cut_from (xs : List V) {n : Nat} (h : n ≤ xs.length) :
    cutV xs (some (n : Int)) none = xs.drop n := by
  unfold cutV
  rw [HT.sIx_nat, HT.sIx_none, Nat.min_eq_left h]
  exact List.take_of_length_le (by rw [List.length_drop]; exact Nat.le_refl _)
/-- os is an order of the base -/
structure Ord (C : Addr) (H : Hp) (b a : Addr) (ls os : List (List Nat)) :
    Prop where
  ba : BaseAt C H b ls
  good : Good ls
  li : H a = some (.lst (os.map vS))
  pm : os.Perm ls
theorem Ord.same {C b a : Addr} {H H' : Hp} {ls os : List (List Nat)}
    (x : Ord C H b a ls os) (s : Same H H') : Ord C H' b a ls os :=
  ⟨x.ba.same s, x.good, s _ _ x.li, x.pm⟩
theorem Good.perm {ls os : List (List Nat)} (g : Good ls)
    (p : os.Perm ls) : Good os :=
  ⟨fun l h => g.nm l (p.mem_iff.mp h), p.nodup_iff.mpr g.nd,
    by rw [p.length_eq]; exact g.lo, by rw [p.length_eq]; exact g.hi⟩
end OM
namespace OM
open PySem PySem.Spec PyProof.Rows L2
/-- one of the options -/
def spChoice (K : PySem.W.Frag) : Sp := fun vs H Q _ =>
  ∃ (p a : Addr) (xs : List V), vs = [.ref p, .ref a] ∧ Rng H p ∧
  SqL K H a xs ∧ a ≠ p ∧ 0 < xs.length ∧ xs.length ≤ 1000 ∧
  ∀ (x : V) (H' : Hp), x ∈ xs → Rng H' p → But p H H' → Q x H'
section
variable {P : Program} {w : World} {K : PySem.W.Frag}
  {mg : Str → Option Value} {base : Heap}
theorem ok_choice {f : Addr} {fd : FuncData} {k : Nat}
    (F : Fun K "_law_choice" "_law_choice" s_Lchoice f fd) (B : Bl mg)
    (Cd : CalDraw P w K mg base k) :
    FnOk P w K mg base CX0 (k + 1) f fd ["_law_rng_here", "_law_options"]
      (spChoice K) := by
  refine F.ok sc_Lchoice (fun vs H Q E h => ?_)
    (fun cv A outer s H vs Q E hr h => ?_)
  · obtain ⟨p, a, xs, rfl, _⟩ := h
    rfl
  obtain ⟨p, a, xs, rfl, rg, hS, nap, h0, h1, q⟩ := h
  refine ⟨_, pss_one (ps_ret (pe_ix ix_list (pv 1) (pe_cal Cd hr
    (pa_cons (pv 0) (pa_cons (pe_callB call_len_seq (by rfl) B.len
      PySem.boot_len (pa_cons (pv 1) pa_nil)) pa_nil))) (fun _ _ => rfl))), ?_⟩
  refine ⟨_, rfl, _, rfl, _, rfl, a, _, rfl, .inl hS, p, xs.length, rfl, rg,
    by omega, by omega, fun d H1 d0 d1 rg1 b1 => ?_⟩
  have hd : d.toNat < xs.length := by omega
  have ed : d = ((d.toNat : Nat) : Int) := by omega
  refine ⟨a, xs, d, xs[d.toNat], rfl, rfl, b1.seq hS nap, ?_,
    q _ H1 (List.getElem_mem hd) rg1 b1⟩
  have := atI_nat (List.getElem?_eq_getElem hd)
  rw [← ed] at this
  exact this
end
end OM
namespace OM
open PySem PySem.Spec PyProof.Rows L2
def abc : Str := Str.ofString "abcdefghijklmnopqrstuvwxyz"
theorem mem_abc (c : Nat) : decide (c ∈ abc.cps.toList) = azB c := by
  have e : abc.cps.toList = (List.range 26).map (97 + ·) := by decide +kernel
  rw [e]
  unfold azB
  rw [← Bool.decide_and]
  refine decide_eq_decide.mpr ?_
  simp only [List.mem_map, List.mem_range]
  constructor
  · rintro ⟨k, hk, rfl⟩
    omega
  · intro h
    exact ⟨c - 97, by omega, by omega⟩
theorem len0 (x : Str) : decide (V.str x = V.str (Str.ofString "")) =
    decide (x.length = 0) := by
  refine decide_eq_decide.mpr ⟨fun h => ?_, fun h => ?_⟩
  · cases h
    decide +kernel
  · have : x.cps.toList = [] := by
      rw [TL.len_tl] at h
      exact List.eq_nil_of_length_eq_zero h
    rw [← SX.S_tl x, this]
    rfl
theorem two_le {a b : V} : [a, b].length ≤ sizeLine := by
  show 2 ≤ sizeLine
  decide
def badS (l : List Nat) : List V :=
  (l.filter fun c => !azB c).map fun c => .str ⟨#[c]⟩
theorem badS_nil (l : List Nat) : (badS l).isEmpty = l.all azB := by
  unfold badS
  rw [List.isEmpty_map]
  induction l with
  | nil => rfl
  | cons c r ih =>
    rw [List.all_cons, ← ih]
    cases h : azB c with
    | false => simp [h]
    | true => simp [h]
theorem badS_len (l : List Nat) : (badS l).length ≤ l.length := by
  unfold badS
  rw [List.length_map]
  exact List.length_filter_le _ _
/-- a new pair -/
def NewP (H : Hp) (Q : VK) (r : Str × Nat) : Prop := ∀ T H', H T = none →
  H' T = some (.tup [.str r.1, .int (r.2 : Nat)]) → Same H H' → Q (.ref T) H'
theorem NewP.back {H H1 : Hp} {Q : VK} {r : Str × Nat} (h : NewP H Q r)
    (s : Same H H1) : NewP H1 Q r :=
  fun T H' n e s' => h T H' (s.free n) e (s.trans s')
theorem NewP.at_ {H : Hp} {Q : VK} {r : Str × Nat} (h : NewP H Q r) :
    ∀ p, H p = none → Q (.ref p) (upd H p (.tup [.str r.1, .int (r.2 : Nat)])) :=
  fun p n => h p _ n upd_same (sameNew n)
end OM
namespace OM
open PySem PySem.Spec PyProof.Rows L2
/-! ### a base is made, or InvalidBase leaves with the context None -/
theorem jd_good : ∀ (ls seen : List (List Nat)) (i : Nat), (∀ l ∈ ls, Nm l) →
    ls.Nodup → (∀ l ∈ ls, l ∉ seen) →
    jd seen i ((ls.map vS).map tx) = none
  | [], _, _, _, _, _ => rfl
  | l :: r, seen, i, nm, nd, ns => by
    have hd := List.nodup_cons.mp nd
    show jd seen i (some l :: (r.map vS).map tx) = none
    rw [jd_step (nmB_iff.mpr (nm l List.mem_cons_self))
      (ns l List.mem_cons_self)]
    refine jd_good r _ _ (fun x h => nm x (List.mem_cons_of_mem _ h)) hd.2
      fun x h z => ?_
    rcases List.mem_append.mp z with z | z
    · exact ns x (List.mem_cons_of_mem _ h) z
    · rw [List.mem_singleton.mp z] at h
      exact hd.1 h
theorem judge_good {ls : List (List Nat)} (g : Good ls) :
    judge (ls.map vS) = none := by
  unfold judge
  rw [jd_good ls [] 0 g.nm g.nd fun _ _ z => nomatch z]
  exact if_pos ⟨by rw [List.length_map]; exact g.lo,
    by rw [List.length_map]; exact g.hi⟩
theorem map_vS_eq {ls ms : List (List Nat)} (h : ls.map vS = ms.map vS) :
    ls = ms := by
  induction ls generalizing ms with
  | nil => cases ms with
    | nil => rfl
    | cons a b => cases h
  | cons x r ih => cases ms with
    | nil => cases h
    | cons a b =>
      rw [List.map_cons, List.map_cons] at h
      rw [vS_inj (List.cons.inj h).1, ih (List.cons.inj h).2]
theorem judge_not {K : PySem.W.Frag} {H : Hp} {ls : List (List Nat)}
    (hl : ∀ l ∈ ls, l.length ≤ 10000) (g : ¬ Good ls) :
    ∃ r, judge (ls.map vS) = some r := by
  cases e : judge (ls.map vS) with
  | some r => exact ⟨r, rfl⟩
  | none =>
    obtain ⟨ms, e', g'⟩ := judge_none (K := K) (H := H) (fun x hx => by
      obtain ⟨l, h, rfl⟩ := List.mem_map.mp hx
      exact .inl ⟨l, rfl, hl l h⟩) e
    rw [← map_vS_eq e'] at g'
    exact absurd g' g
section
variable {P : Program} {w : World} {K : PySem.W.Frag}
  {mg : Str → Option Value} {base : Heap} {C CI CT : Addr}
theorem ok_checkN {f : Addr} {fd : FuncData} {k j : Nat}
    (F : Fun K "check_items" "check_items" s_check_items f fd)
    (Cf : Cal P w K mg base k "names_fault" ["value", "most"] (spNfX K))
    (M : XMk P w K mg base CI j "InvalidBase"
      ["self", "problem", "position"] (spX2 CI "problem" "position"))
    (hj : j + 1 ≤ k)
    {t40 : Tok} (m40 : mg "MAX_ITEMS" = some (.int 40 t40)) :
    FnOk P w K mg base (L2N.CX P w) (k + 1) f fd ["items"]
      (spCheckX K CI) := by
  refine okE F sc_check_items (fun vs H Q E h => ?_)
    (fun cv A outer s H vs Q E hr h => ?_)
  · obtain ⟨v, rfl, _⟩ := h
    rfl
  obtain ⟨v, rfl, h⟩ := h
  have nd := sc_check_items.nd
  have hrj := hr.mono hj
  refine ⟨_, pss_cons (ps_set (i := 1) nd rfl (.inl rfl)
      (pe_cal Cf hr (pa_cons (pv 0) (pa_cons
        (pe_glob (v := .int 40) (by rfl) m40 ⟨_, rfl⟩) pa_nil))))
    (pss_one (ps_if (pt_cmpR op_notN (pv 1) pe_non (nomark _))
      (pss_cons (ps_asg (pv 1) (pg_tup rfl
        (pgs_cons (pg_name (i := 2) nd rfl (.inl rfl))
        (pgs_cons (pg_name (i := 3) nd rfl (.inl rfl)) pgs_nil))))
      (pss_one (ps_raise2N M hrj rfl (L2N.takes_of rfl rfl rfl rfl)
        (pa_cons (pv 2) (pa_cons (pv 3) pa_nil))))) pss_nil)), ?_⟩
  refine ⟨_, rfl, v, rfl, ?_⟩
  rcases h with ⟨t, ty, kt, out⟩ | ⟨a, xs, rfl, ha, el, hx, bad, good⟩
  · exact .inl ⟨t, ty, kt, fun T H1 e s => ⟨_, rfl, rfl, _, rfl, iteT ⟨_, rfl,
      T, _, rfl, .inl (.inl e), rfl, _, _, rfl, _, _, rfl, rfl, _, rfl, _, rfl,
      _, _, rfl, fun d H' n e' s' => out d H' (s.free n) e' (s.trans s')⟩⟩⟩
  · exact .inr ⟨a, xs, rfl, ha, el, hx, fun r hr T H1 e s => ⟨_, rfl, rfl, _,
      rfl, iteT ⟨_, rfl, T, _, rfl, .inl (.inl e), rfl, _, _, rfl, _, _, rfl, rfl,
      _, rfl, _, rfl, _, _, rfl, fun d H' n e' s' =>
      bad r hr d H' (s.free n) e' (s.trans s')⟩⟩,
      fun jn H1 s1 => ⟨_, rfl, rfl, _, rfl, iteF (good jn H1 s1)⟩⟩
theorem ok_initN {f : Addr} {fd : FuncData} {k : Nat}
    (F : Fun K "__init__" "Base.__init__" s_Base_init f fd) (B : Bl mg)
    (T : BC K mg C)
    (Ck : CalE (L2N.CX P w) P w K mg base k "check_items" ["items"]
      (spCheckX K CI)) :
    FnOk P w K mg base (L2N.CX P w) (k + 1) f fd ["self", "items"]
      (spInitX K C CI) := by
  refine okE F sc_Base_init (fun vs H Q E h => ?_)
    (fun cv A outer s H vs Q E hr h => ?_)
  · obtain ⟨b, dx, v, rfl, _⟩ := h
    rfl
  obtain ⟨b, dx, v, rfl, hb, h⟩ := h
  have nd := sc_Base_init.nd
  refine ⟨_, pss_cons (ps_expr (pe_calE Ck hr
      (L2N.passes_call (L2N.takes_of rfl rfl rfl rfl) (fun _ _ _ _ z => z))
      (pa_cons (pv 1) pa_nil)))
    (pss_cons (ps_fld (pv 0) (pe_callTy call_list_of (by rfl) B.list bt_list
      (pa_cons (pv 1) pa_nil)) rfl)
    (pss_one (ps_fld (pv 0)
      (pe_dc (own := [("name", 2), ("at", 3)])
        (g := gTup K 2 (gCons (gName 3) (gCons (gName 2) gNil)))
        (tt := tYes) rfl nd
        (pi_enum (by rfl) B.enum (pa_cons (pv 1) pa_nil))
        (blkOk_by (N := N_Base_init) (sc := defScope s_Base_init)
          (by decide +kernel))
        (fun _ _ _ _ _ => pg_tup rfl (pgs_cons (pg_name (i := 3) nd rfl
          (Or.inl rfl)) (pgs_cons (pg_name (i := 2) nd rfl (Or.inl rfl))
          pgs_nil)))
        (fun _ _ _ _ _ => pts_nil) (fun _ _ _ _ _ => pv 2)
        (fun _ _ _ _ _ => pv 3)) rfl))), ?_⟩
  rcases h with ⟨t, ty, kt, out⟩ | ⟨a, xs, rfl, ha, el, hx, bad, good⟩
  · exact ⟨_, rfl, _, rfl, .inl ⟨t, ty, kt, out⟩⟩
  refine ⟨_, rfl, _, rfl, .inr ⟨a, xs, rfl, ha, el, hx, bad, fun jn H1 s1 => ?_⟩⟩
  obtain ⟨ls, rfl, gd⟩ := judge_none el jn
  have q := good jn ls rfl gd
  have nba : b ≠ a := ne_of hb ha nofun
  have hb1 := s1 _ _ hb
  have ha1 := s1 _ _ ha
  refine ⟨_, rfl, a, _, rfl, .inl (SqL.of ha1), fun lo nlo => ?_⟩
  have nbl : b ≠ lo := ne_of_none hb1 nlo
  have nal : a ≠ lo := ne_of_none ha1 nlo
  refine ⟨_, rfl, b, C, dx, [], rfl, by rw [upd_ne nbl]; exact hb1, T.cl, T.nL,
    by decide, ?_⟩
  generalize eH2 : upd (upd H1 lo (.lst (ls.map vS))) b
    (.ins C dx (putF "listed" (.ref lo) [])) = H2
  have hb2 : H2 b = some (.ins C dx (putF "listed" (.ref lo) [])) := by
    rw [← eH2]; exact upd_same
  have ha2 : H2 a = some (.lst (ls.map vS)) := by
    rw [← eH2, upd_ne nba.symm, upd_ne nal]; exact ha1
  have hl2 : H2 lo = some (.lst (ls.map vS)) := by
    rw [← eH2, upd_ne nbl.symm, upd_same]
  have b2 : But b H H2 := by
    rw [← eH2]
    exact ((But.of s1).new (s1.free nlo)).at
  refine ⟨_, rfl, a, _, rfl, SqL.of ha2, fun d nd' => ?_⟩
  have ndb : b ≠ d := ne_of_none hb2 nd'
  have nda : a ≠ d := ne_of_none ha2 nd'
  have ndl : lo ≠ d := ne_of_none hl2 nd'
  refine dc_walk (walk_enum (K := K) (a := a) (xs := ls.map vS))
    (fun i H' => H' d = some (.dK (prs 0 (ls.take i))) ∧
      H' b = some (.ins C dx (putF "listed" (.ref lo) [])) ∧
      H' a = some (.lst (ls.map vS)) ∧ H' lo = some (.lst (ls.map vS)) ∧
      But b H H')
    ⟨upd_same, by rw [upd_ne ndb]; exact hb2, by rw [upd_ne nda]; exact ha2,
      by rw [upd_ne ndl]; exact hl2, b2.put nd' ndb.symm⟩
    (fun i H' _ z => SqL.of z.2.2.1) ?_ ?_
  · rintro i v H3 H4 hi ⟨hd, h1, h2, h3, b3⟩ ⟨T', x1, x2, rfl, nT, rfl, e1, e2⟩
    obtain ⟨l, hl, rfl⟩ := get_map e2
    cases Option.some.inj e1
    rw [List.length_map] at hi
    have hhi := gd.hi
    refine ⟨T', _, rfl, .inl (.inl upd_same), rfl, _, _, rfl, _, _, rfl, rfl,
      rfl, yes ⟨_, rfl, _, rfl, prs 0 (ls.take i), Sum.inr (SX.S l), rfl, ?_, ?_,
      ?_, ?_, ?_, ?_, ?_⟩⟩
    · rw [upd_ne (ne_of_none hd nT)]
      exact hd
    · rw [prs_len, List.length_take]
      exact sz' (by omega)
    · rw [upd_same, putK_new _ (by
        rw [val_prs, if_neg (nodup_take gd.nd hl)]),
        List.take_add_one, hl]
      show _ = some (HO.dK (prs 0 (ls.take i ++ [l])))
      rw [prs_snoc, List.length_take, Nat.min_eq_left (by omega),
        Nat.zero_add]
    · rw [upd_ne ndb, upd_ne (ne_of_none h1 nT)]
      exact h1
    · rw [upd_ne nda, upd_ne (ne_of_none h2 nT)]
      exact h2
    · rw [upd_ne ndl, upd_ne (ne_of_none h3 nT)]
      exact h3
    · exact (b3.put nT (ne_of_none h1 nT).symm).new (b2.free ndb.symm nd')
  · rintro H3 ⟨hd, h1, h2, h3, b3⟩
    rw [List.take_of_length_le (by rw [List.length_map]; exact Nat.le_refl _)]
      at hd
    refine ⟨_, rfl, b, C, dx, _, rfl, h1, T.cl, T.nP,
      by show 1 < 1000; decide, ?_⟩
    refine q _ ⟨dx, lo, d, upd_same, ?_, ?_⟩ b3.at
    · rw [upd_ne nbl.symm]
      exact h3
    · rw [upd_ne ndb.symm]
      exact hd
/-! ### InvalidText -/
theorem ok_itinit {f : Addr} {fd : FuncData} {k : Nat} {q : Str}
    (F : Fun K "__init__" q s_InvalidText_init f fd) (T : OexC K CT)
    (n1 : PySem.W.findIn K (.ref CT) "line" = some none) :
    FnOk P w K mg base CX0 (k + 1) f fd ["self", "line"]
      (spX1 CT "line") := by
  refine F.ok sc_InvalidText_init (fun vs H Q E h => ?_)
    (fun cv A outer s H vs Q E hr h => ?_)
  · obtain ⟨a, v1, rfl, _⟩ := h
    rfl
  obtain ⟨a, v1, rfl, ha, q⟩ := h
  refine ⟨_, pss_one (ps_ost (pv 0) (pv 1)), ?_⟩
  exact ⟨_, rfl, _, rfl, a, CT, rfl, T, n1, .inl ⟨ha, fun dx nd ne =>
    q dx nd ne⟩⟩
theorem ok_itinitH {f : Addr} {fd : FuncData} {k : Nat} {q : Str}
    (F : Fun K "__init__" q s_InvalidText_init f fd) (T : OexC K CT)
    (n1 : PySem.W.findIn K (.ref CT) "line" = some none) :
    L2H.FnH P w K mg base CX0 (k + 1) f fd ["self", "line"]
      (spX1 CT "line") := by
  refine okH F sc_InvalidText_init (fun vs H Q E h => ?_)
    (fun cv A outer s H vs Q E p h => ?_)
  · obtain ⟨a, v1, rfl, _⟩ := h
    rfl
  obtain ⟨a, v1, rfl, ha, q⟩ := h
  refine ⟨_, pss_one (ps_ost (pv 0) (pv 1)), ?_⟩
  exact ⟨_, rfl, _, rfl, a, CT, rfl, T, n1, .inl ⟨ha, fun dx nd ne =>
    q dx nd ne⟩⟩
end
end OM
namespace OM
open PySem PySem.Spec PyProof.Rows L2
/-- the words of a text -/
abbrev wd (x : List Nat) : List (List Nat) := TL.spl [32] 0 [] x
theorem sp32 : Str.ofString " " = SX.S [32] := by
  refine TL.ext_tl ?_
  decide +kernel
/-- a text that is short, as all its words are -/
structure Txt0 (x : List Nat) : Prop where
  len : x.length ≤ 10000
  few : (wd x).length < 64
  wds : ∀ l ∈ wd x, l.length ≤ 10000
/-- InvalidText leaves -/
def ItOut (C : Addr) (H : Hp) (E : XK) (n : Nat) : Prop :=
  ∀ d H', H d = none → H' d = some (.xd [("line", .int (n : Nat))]) →
    Same H H' → E (.ref C) (some d) H'
theorem ItOut.back {C : Addr} {H H1 : Hp} {E : XK} {n : Nat}
    (h : ItOut C H E n) (s : Same H H1) : ItOut C H1 E n :=
  fun d H' nd e s' => h d H' (s.free nd) e (s.trans s')
/-- no text -/
def NoT (K : PySem.W.Frag) (H : Hp) (v : V) : Prop :=
  ∃ t, TyOf K H v t ∧ PySem.W.kitOne K t (.type "str") = some false
theorem NoT.same {K : PySem.W.Frag} {H H' : Hp} {v : V} (h : NoT K H v)
    (s : Same H H') : NoT K H' v := by
  obtain ⟨t, a, b⟩ := h
  exact ⟨t, OM.TyOf.same a s, b⟩
def spWordsX (K : PySem.W.Frag) (CT : Addr) : Sp := fun vs H Q E =>
  ∃ v, vs = [v] ∧ ((NoT K H v ∧ ItOut CT H E 0) ∨
    (∃ x, v = vS x ∧ Txt0 x ∧ ∀ q H', H q = none →
      H' q = some (.lst ((wd x).map vS)) → Same H H' → Q (.ref q) H'))
/-- load_base, whatever it is given -/
def spLoadBX (K : PySem.W.Frag) (C CT : Addr) : Sp := fun vs H Q E =>
  ∃ v, vs = [v] ∧ ((NoT K H v ∧ ItOut CT H E 0) ∨
    (∃ x, v = vS x ∧ Txt0 x ∧
      (Good (wd x) → ∀ q H', H q = none → BaseAt C H' q (wd x) → Same H H' →
        Q (.ref q) H') ∧
      (¬ Good (wd x) → ItOut CT H E 1)))
/-- load_order, whatever it is given -/
def spLoadOX (K : PySem.W.Frag) (C CT : Addr) : Sp := fun vs H Q E =>
  ∃ (b : Addr) (ls : List (List Nat)) (v : V), vs = [.ref b, v] ∧
  BaseAt C H b ls ∧ Good ls ∧ ((NoT K H v ∧ ItOut CT H E 0) ∨
    (∃ x, v = vS x ∧ Txt0 x ∧
      ((wd x).Perm ls → ∀ q H', H q = none →
        H' q = some (.lst ((wd x).map vS)) → Same H H' → Q (.ref q) H') ∧
      (¬ (wd x).Perm ls → ItOut CT H E 1)))
/-- order_fault of a list of texts -/
def spFaultT (C : Addr) : Sp := fun vs H Q _ =>
  ∃ (b a : Addr) (ls os : List (List Nat)), vs = [.ref b, .ref a] ∧
  BaseAt C H b ls ∧ Good ls ∧ H a = some (.lst (os.map vS)) ∧
  os.length ≤ 10000 ∧ (∀ l ∈ os, l.length ≤ 10000) ∧
  (os.Perm ls → ∀ H', Same H H' → Q .non H') ∧
  (¬ os.Perm ls → ∀ (n : Nat) H', Same H H' → Q (.int n) H')
def spIsOrdT (C : Addr) : Sp := fun vs H Q _ =>
  ∃ (b a : Addr) (ls os : List (List Nat)), vs = [.ref b, .ref a] ∧
  BaseAt C H b ls ∧ Good ls ∧ H a = some (.lst (os.map vS)) ∧
  os.length ≤ 10000 ∧ (∀ l ∈ os, l.length ≤ 10000) ∧
  ∀ H', Same H H' → Q (.bl (decide (os.Perm ls))) H'
section
variable {P : Program} {w : World} {K : PySem.W.Frag}
  {mg : Str → Option Value} {base : Heap} {C CI CT : Addr}
theorem ok_wordsX {f : Addr} {fd : FuncData} {k j : Nat}
    (F : Fun K "words_of" "words_of" s_words_of f fd) (B : Bl mg)
    (M : XMk P w K mg base CT j "InvalidText" ["self", "line"]
      (spX1 CT "line")) (hj : j + 1 ≤ k) :
    FnOk P w K mg base (L2.CX P w) (k + 1) f fd ["text"]
      (spWordsX K CT) := by
  refine okE F sc_words_of (fun vs H Q E h => ?_)
    (fun cv A outer s H vs Q E hr h => ?_)
  · obtain ⟨x, rfl, _⟩ := h
    rfl
  obtain ⟨v, rfl, h⟩ := h
  refine ⟨_, pss_cons (ps_if (pt_not (pt_val
      (pe_callB call_isi (by rfl) B.isi bt_isi (pa_cons (pv 0) (pa_cons
        (pe_bltn (v := .ty "str") (by rfl) B.str bt_str rfl) pa_nil)))))
      (pss_one (ps_raise1 M (hr.mono hj) rfl (takes_of rfl rfl rfl rfl)
        (pa_cons pe_int pa_nil))) pss_nil)
    (pss_one (ps_ret (pe_split (pv 0) pe_str))), ?_⟩
  rcases h with ⟨⟨t, ty, kt⟩, out⟩ | ⟨x, rfl, hx, q⟩
  · refine ⟨_, rfl, _, _, _, _, false, rfl, .ty "str", .base ty, kt, _, rfl,
      iteT ⟨_, rfl, fun d H' nd e s => out d H' nd e s⟩⟩
  have hl : (SX.S x).length = x.length := SX.S_len x
  have := hx.len
  refine ⟨_, rfl, _, _, _, _, true, rfl, .ty "str", .base (.str _),
    kit_ty (by decide +kernel), _, rfl, iteF ?_⟩
  refine ⟨_, rfl, ⟨_, rfl⟩, SX.S x, _, rfl, rfl, by decide +kernel, ?_,
    fun p np => ?_⟩
  · rw [hl]
    exact sz (by omega)
  · refine q p _ np ?_ (sameNew np)
    rw [upd_same, sp32, SX.split_S (by decide) (by decide), List.map_map]
    rfl
theorem ok_loadBX {f : Addr} {fd : FuncData} {k j : Nat}
    (F : Fun K "load_base" "load_base" s_load_base f fd)
    (mI : mg "InvalidBase" = some (.ref CI))
    (exI : PySem.W.exmOne K (.ref CI) (.ref CI) = some true)
    (Cw : CalE (L2.CX P w) P w K mg base k "words_of" ["text"]
      (spWordsX K CT))
    (Cb : CalCE (L2N.CX P w) P w K mg base C j "Base" ["self", "items"]
      (spInitX K C CI)) (hj : j + 1 ≤ k)
    (M : XMkH P w K mg base CT j "InvalidText" ["self", "line"]
      (spX1 CT "line")) :
    FnOk P w K mg base (L2.CX P w) (k + 1) f fd ["text"]
      (spLoadBX K C CT) := by
  refine okE F sc_load_base (fun vs H Q E h => ?_)
    (fun cv A outer s H vs Q E hr h => ?_)
  · obtain ⟨x, rfl, _⟩ := h
    rfl
  obtain ⟨v, rfl, h⟩ := h
  have nd := sc_load_base.nd
  have hrj := hr.mono hj
  refine ⟨_, pss_cons (ps_set (i := 1) nd rfl (.inl rfl)
      (pe_calE Cw hr (passes_call (takes_of rfl rfl rfl rfl)
        (fun _ _ _ _ z => z)) (pa_cons (pv 0) pa_nil)))
    (pss_one (L2H.ps_try_onlyX rfl rfl ⟨rfl, by decide, .inl mI⟩
      (L2H.passesAt_of rfl) (takes_of rfl rfl rfl rfl)
      (fun W pn xe tk _ _ => pss_one (ps_ret (pe_makeE Cb hrj
        (fun σ => L2N.passAt tk σ) (pa_cons (pv 1) pa_nil))))
      (fun a oe cls d pn hz hf tk hot => pss_one (ps_raise1H M
        (L2H.roomH_mark hrj _) hot tk (pa_cons pe_int pa_nil))))), ?_⟩
  rcases h with ⟨nt, out⟩ | ⟨x, rfl, hx, good, bad⟩
  · exact ⟨_, rfl, _, rfl, .inl ⟨nt, out⟩⟩
  refine ⟨_, rfl, _, rfl, .inr ⟨x, rfl, hx, fun p H1 np hp s1 => ?_⟩⟩
  refine ⟨_, rfl, fun b dx nb nx ne => ?_⟩
  have npb : p ≠ b := ne_of_none hp nb
  have npx : p ≠ dx := ne_of_none hp nx
  have s2 : Same H (upd (upd H1 dx (.own b)) b (.ins C dx [])) :=
    OM.Same.put (OM.Same.put s1 (s1.free nx)) (s1.free nb)
  refine ⟨b, dx, .ref p, rfl, upd_same, .inr ⟨p, _, rfl, by
    rw [upd_ne npb, upd_ne npx]; exact hp, fun y hy => ?_, ?_, fun r hr => ?_,
    fun _ ls e g H2 hB b2 => ⟨rfl, ?_⟩⟩⟩
  · obtain ⟨l, hl, rfl⟩ := List.mem_map.mp hy
    exact .inl ⟨l, rfl, hx.wds l hl⟩
  · rw [List.length_map]
    have := hx.few
    omega
  · have ng : ¬ Good (wd x) := fun g => by
      rw [judge_good g] at hr
      cases hr
    intro d H2 nd2 e2 s3
    refine ⟨true, exI, fun _ a na => ⟨_, rfl, fun d2 H3 n3 e3 s4 => ?_⟩,
      fun z => nomatch z⟩
    exact bad ng d2 H3 ((s2.trans s3).free n3) e3 ((s2.trans s3).trans s4)
  · rw [← map_vS_eq e] at hB g
    refine good g b H2 (s1.free nb) hB fun c o z => ?_
    exact b2 c o (s2 c o z) (ne_of_none z (s1.free nb))
/-! ### orders -/
theorem perm_sub {α : Type} [DecidableEq α] : ∀ (os ls : List α), os.Nodup →
    (∀ x ∈ os, x ∈ ls) → ls.length ≤ os.length → os.Perm ls
  | [], ls, _, _, h => by
    rw [List.eq_nil_of_length_eq_zero (Nat.le_zero.mp h)]
  | x :: r, ls, nd, sub, h => by
    have hx := sub x List.mem_cons_self
    have nc := List.nodup_cons.mp nd
    have ih := perm_sub r (ls.erase x) nc.2 (fun y hy =>
      (List.mem_erase_of_ne (fun e => by rw [e] at hy; exact nc.1 hy)).mpr
        (sub y (List.mem_cons_of_mem _ hy))) (by
      rw [List.length_erase_of_mem hx]
      rw [List.length_cons] at h
      omega)
    exact (ih.cons x).trans (List.perm_cons_erase hx).symm
theorem ok_faultT {f fl : Addr} {fd fdl : FuncData} {k n : Nat}
    (F : Fun K "order_fault" "order_fault" s_order_fault f fd) (B : Bl mg)
    (T : BC K mg C)
    (Mh : CalM P w K mg base C k "has_item" ["self", "value"] (spHas K C))
    (Sl : Spec1 K C "__len__" fl fdl ["self"])
    (Gl : FnOk P w K mg base CX0 n fl fdl ["self"] (spLenB C))
    (hn : n + 1 ≤ k) :
    FnOk P w K mg base CX0 (k + 1) f fd ["base", "value"] (spFaultT C) := by
  refine F.ok sc_order_fault (fun vs H Q E h => ?_)
    (fun cv A outer s H vs Q E hr h => ?_)
  · obtain ⟨b, a, ls, os, rfl, _⟩ := h
    rfl
  obtain ⟨b, a, ls, os, rfl, hb, gd, ha, ho, hw, good, bad⟩ := h
  have nd := sc_order_fault.nd
  have hrn := hr.mono hn
  refine ⟨_, pss_cons (ps_if (pt_not (pt_val
      (pe_callB call_isi (by rfl) B.isi bt_isi (pa_cons (pv 1) (pa_cons
        (pe_bltn (v := .ty "list") (by rfl) B.list bt_list rfl) pa_nil)))))
      (pss_one ps_never) pss_nil)
    (pss_cons (ps_for PassesOwn.never rfl
      (pi_enum (by rfl) B.enum (pa_cons (pv 1) pa_nil))
      (pg_tup rfl (pgs_cons (pg_name (i := 2) nd rfl (.inl rfl))
        (pgs_cons (pg_name (i := 3) nd rfl (.inl rfl)) pgs_nil)))
      (pss_one (ps_if (PW.pt (pw_or (pt_not (pt_val
          (pe_calM Mh hr (pv 0) (pa_cons (pv 3) pa_nil))))
          (pw_or1 (pt_cmpR op_in_seq (pv 3)
            (pe_slice sl_list (pv 1) po_none (po_some (pv 2))) (by rfl)))))
        (pss_one (ps_ret (pv 2))) pss_nil)))
    (pss_cons (ps_if (pt_cmpR op_lt
        (pe_callB call_len_seq (by rfl) B.len PySem.boot_len
          (pa_cons (pv 1) pa_nil))
        (pe_callB (call_lenOwn Sl Gl hrn) (by rfl) B.len PySem.boot_len
          (pa_cons (pv 0) pa_nil)) (nomark _))
      (pss_one (ps_ret (pe_callB call_len_seq (by rfl) B.len PySem.boot_len
          (pa_cons (pv 1) pa_nil)))) pss_nil)
    (pss_one (ps_ret pe_non)))), ?_⟩
  refine ⟨_, rfl, _, _, _, _, true, rfl, .ty "list", .base (.lst ha),
    kit_ty (by decide +kernel), _, rfl, iteF ?_⟩
  refine ⟨_, rfl, a, _, rfl, SqL.of ha, ?_⟩
  refine for_it (walk_enum (K := K) (a := a) (xs := os.map vS))
    (fun i σ H' => ∃ (y z : Option V),
      σ = [some (.ref b), some (.ref a), y, z] ∧ Same H H' ∧
      (os.take i).Nodup ∧ ∀ l ∈ os.take i, l ∈ ls)
    ⟨none, none, rfl, Same.refl H, List.nodup_nil, nofun⟩
    (fun i σ H' _ z => by
      obtain ⟨_, _, _, sm, _⟩ := z
      exact SqL.of (sm _ _ ha))
    ?_ ?_
  · rintro i v σ H1 H2 hi ⟨y, z, rfl, sm, ndi, sub⟩
      ⟨T', x1, x2, rfl, nT, rfl, e1, e2⟩
    obtain ⟨l, hl, rfl⟩ := get_map e2
    cases Option.some.inj e1
    rw [List.length_map] at hi
    have sm2 := sm.trans (sameNew (o := .tup [.int (i : Nat), vS l]) nT)
    have hb2 := hb.same sm2
    obtain ⟨dx, lo, d, h1, h2, h3⟩ := hb2.ob
    have ml : l ∈ os := List.mem_of_getElem? hl
    have hlen : (SX.S l).length ≤ sizeLine := by
      rw [SX.S_len]
      have := hw l ml
      exact sz (by omega)
    refine ⟨T', _, rfl, .inl (.inl upd_same), rfl, _, _, rfl, _, _, rfl, rfl,
      ?_⟩
    refine ⟨_, rfl, b, dx, _, rfl, h1, bf_no _ _ (by decide +kernel)
      (by decide +kernel), _, rfl, b, ls, _, rfl, hb2, gd.nm, .inl ⟨_, rfl,
      hlen, fun H3 s3 => ?_⟩⟩
    have sm3 := sm2.trans s3
    by_cases mm : l ∈ ls
    · rw [decide_eq_true (show (SX.S l).cps.toList ∈ ls from mm)]
      refine ⟨_, rfl, iteF ?_⟩
      refine ⟨_, rfl, _, rfl, _, rfl, i, rfl, a, _, rfl,
        SqL.of (sm3 _ _ ha), fun t nt => ?_⟩
      rw [cut_to _ (by rw [List.length_map]; omega), ← List.map_take]
      refine ⟨t, _, rfl, .inl (SqL.of upd_same), rfl, flat_S _, _, rfl, ?_⟩
      rw [inV_S]
      have sm4 := sm3.trans (sameNew (o := .lst ((os.take i).map vS)) nt)
      by_cases mt : l ∈ os.take i
      · rw [decide_eq_true mt]
        refine iteT ⟨_, rfl, bad (fun pm => ?_) i _ sm4⟩
        exact nodup_take (pm.nodup_iff.mpr gd.nd) hl mt
      · rw [decide_eq_false mt]
        have e3 : os.take (i + 1) = os.take i ++ [l] := by
          rw [List.take_add_one, hl]
          rfl
        refine iteF ⟨_, _, rfl, sm4, ?_, ?_⟩
        · rw [e3, List.nodup_append]
          refine ⟨ndi, by simp, fun x hx y hy => ?_⟩
          rw [List.mem_singleton.mp hy]
          exact fun z => mt (by rw [← z]; exact hx)
        · intro x hx
          rw [e3] at hx
          rcases List.mem_append.mp hx with hx | hx
          · exact sub x hx
          · rw [List.mem_singleton.mp hx]
            exact mm
    · rw [decide_eq_false (show ¬ (SX.S l).cps.toList ∈ ls from mm)]
      refine ⟨_, rfl, iteT ⟨_, rfl, bad (fun pm => ?_) i _ sm3⟩⟩
      exact mm (pm.mem_iff.mp ml)
  · rintro σ H1 ⟨y, z, rfl, sm, ndi, sub⟩
    rw [List.length_map, List.take_length] at ndi sub
    have hb1 := hb.same sm
    have ha1 := sm _ _ ha
    obtain ⟨dx, lo, d, h1, h2, h3⟩ := hb1.ob
    refine ⟨_, rfl, a, _, rfl, .inl (SqL.of ha1), _, rfl, b, dx, _, rfl, h1,
      b, ls, rfl, hb1, ls.length, rfl, ?_, _, _, rfl, rfl, _, rfl, ?_⟩
    · have := gd.hi
      omega
    · rw [List.length_map]
      by_cases c : os.length < ls.length
      · rw [decide_eq_true (by omega)]
        refine iteT ⟨_, rfl, a, _, rfl, .inl (SqL.of ha1), ?_⟩
        rw [List.length_map]
        refine bad (fun pm => ?_) _ _ sm
        have := pm.length_eq
        omega
      · rw [decide_eq_false (by omega)]
        exact iteF (good (perm_sub _ _ ndi sub (by omega)) H1 sm)
theorem ok_isordT {f : Addr} {fd : FuncData} {k : Nat}
    (F : Fun K "is_order" "is_order" s_is_order f fd)
    (Cf : Cal P w K mg base k "order_fault" ["base", "value"]
      (spFaultT C)) :
    FnOk P w K mg base CX0 (k + 1) f fd ["base", "value"] (spIsOrdT C) := by
  refine F.ok sc_is_order (fun vs H Q E h => ?_)
    (fun cv A outer s H vs Q E hr h => ?_)
  · obtain ⟨b, a, ls, os, rfl, _⟩ := h
    rfl
  obtain ⟨b, a, ls, os, rfl, hb, gd, ha, ho, hw, q⟩ := h
  refine ⟨_, pss_one (ps_ret (pe_cmpR op_isN (pe_cal Cf hr (pa_cons (pv 0)
    (pa_cons (pv 1) pa_nil))) pe_non (nomark _))), ?_⟩
  refine ⟨_, rfl, _, rfl, b, a, ls, os, rfl, hb, gd, ha, ho, hw, fun pm H1 s1 =>
    ⟨rfl, ?_⟩, fun pm n H1 s1 => ⟨rfl, ?_⟩⟩
  · have := q H1 s1
    rw [decide_eq_true pm] at this
    exact this
  · have := q H1 s1
    rw [decide_eq_false pm] at this
    exact this
theorem ok_loadOX {f : Addr} {fd : FuncData} {k j : Nat}
    (F : Fun K "load_order" "load_order" s_load_order f fd)
    (Cw : CalE (L2.CX P w) P w K mg base k "words_of" ["text"]
      (spWordsX K CT))
    (Ci : Cal P w K mg base k "is_order" ["base", "value"] (spIsOrdT C))
    (M : XMk P w K mg base CT j "InvalidText" ["self", "line"]
      (spX1 CT "line")) (hj : j + 1 ≤ k) :
    FnOk P w K mg base (L2.CX P w) (k + 1) f fd ["base", "text"]
      (spLoadOX K C CT) := by
  refine okE F sc_load_order (fun vs H Q E h => ?_)
    (fun cv A outer s H vs Q E hr h => ?_)
  · obtain ⟨b, ls, v, rfl, _⟩ := h
    rfl
  obtain ⟨b, ls, v, rfl, hb, gd, h⟩ := h
  have nd := sc_load_order.nd
  refine ⟨_, pss_cons (ps_set (i := 2) nd rfl (.inl rfl)
      (pe_calE Cw hr (passes_call (takes_of rfl rfl rfl rfl)
        (fun _ _ _ _ z => z)) (pa_cons (pv 1) pa_nil)))
    (pss_cons (ps_if (pt_not (pt_val (pe_cal Ci hr (pa_cons (pv 0)
        (pa_cons (pv 2) pa_nil)))))
      (pss_one (ps_raise1 M (hr.mono hj) rfl (takes_of rfl rfl rfl rfl)
        (pa_cons pe_int pa_nil))) pss_nil)
    (pss_one (ps_ret (pv 2)))), ?_⟩
  rcases h with ⟨nt, out⟩ | ⟨x, rfl, hx, good, bad⟩
  · exact ⟨_, rfl, _, rfl, .inl ⟨nt, out⟩⟩
  have := hx.few
  refine ⟨_, rfl, _, rfl, .inr ⟨x, rfl, hx, fun p H1 np hp s1 => ?_⟩⟩
  refine ⟨_, rfl, _, rfl, b, p, ls, wd x, rfl, hb.same s1, gd, hp, by omega,
    hx.wds, fun H2 s2 => ?_⟩
  by_cases pm : (wd x).Perm ls
  · rw [decide_eq_true pm]
    exact ⟨_, rfl, iteF ⟨_, rfl, good pm p H2 np (s2 _ _ hp) (s1.trans s2)⟩⟩
  · rw [decide_eq_false pm]
    exact ⟨_, rfl, iteT ⟨_, rfl, fun d H3 nd3 e3 s3 =>
      bad pm d H3 ((s1.trans s2).free nd3) e3 ((s1.trans s2).trans s3)⟩⟩
end
end OM
namespace OM
open PySem PySem.Spec PyProof.Rows L2
/-! ### the words of a text -/
theorem spl_cons (acc : List Nat) (c : Nat) (r : List Nat) :
    TL.spl [32] 0 acc (c :: r) =
      if c = 32 then acc :: TL.spl [32] 0 [] r
      else TL.spl [32] 0 (acc ++ [c]) r := by
  show (if TL.pre [32] (c :: r) = true then acc :: TL.spl [32] 0 [] r
      else TL.spl [32] 0 (acc ++ [c]) r) = _
  have e : TL.pre [32] (c :: r) = decide (c = 32) := by
    show ([c] == [32]) = _
    by_cases h : c = 32
    · subst h
      rfl
    · rw [decide_eq_false h]
      exact beq_false_of_ne fun z => h (List.cons.inj z).1
  rw [e]
  by_cases h : c = 32
  · rw [if_pos h, if_pos (decide_eq_true h)]
  · rw [if_neg h, if_neg (by rw [decide_eq_false h]; exact Bool.false_ne_true)]
/-- letters of all words, each with the space behind it -/
def jl (ws : List (List Nat)) : Nat := (ws.map fun l => l.length + 1).sum
theorem jl_cons (l : List Nat) (ws : List (List Nat)) :
    jl (l :: ws) = l.length + 1 + jl ws := by
  unfold jl
  rw [List.map_cons, List.sum_cons]
theorem spl_facts : ∀ (x acc : List Nat), 32 ∉ acc →
    (TL.spl [32] 0 acc x).length = x.count 32 + 1 ∧
    jl (TL.spl [32] 0 acc x) = acc.length + x.length + 1 ∧
    ∀ l ∈ TL.spl [32] 0 acc x, 32 ∉ l ∧ ∀ c ∈ l, c ∈ acc ∨ c ∈ x
  | [], acc, h => by
    show ([acc] : List (List Nat)).length = _ ∧ jl [acc] = _ ∧
      ∀ l ∈ [acc], _
    refine ⟨by simp, by rw [jl_cons]; simp [jl], fun l hl => ?_⟩
    rw [List.mem_singleton.mp hl]
    exact ⟨h, fun c hc => .inl hc⟩
  | c :: r, acc, h => by
    rw [spl_cons]
    by_cases e : c = 32
    · rw [if_pos e]
      obtain ⟨a1, a2, a3⟩ := spl_facts r [] (by simp)
      refine ⟨?_, ?_, fun l hl => ?_⟩
      · rw [List.length_cons, a1, e, List.count_cons_self]
      · rw [jl_cons, a2, List.length_cons, List.length_nil]
        omega
      · rcases List.mem_cons.mp hl with rfl | hl
        · exact ⟨h, fun c hc => .inl hc⟩
        · obtain ⟨b1, b2⟩ := a3 l hl
          refine ⟨b1, fun d hd => ?_⟩
          rcases b2 d hd with z | z
          · cases z
          · exact .inr (List.mem_cons_of_mem _ z)
    · rw [if_neg e]
      obtain ⟨a1, a2, a3⟩ := spl_facts r (acc ++ [c]) (by
        rw [List.mem_append, List.mem_singleton]
        rintro (z | z)
        · exact h z
        · exact e z.symm)
      refine ⟨?_, ?_, fun l hl => ?_⟩
      · rw [a1, List.count_cons_of_ne (fun z => e z)]
      · rw [a2, List.length_append, List.length_cons, List.length_cons,
          List.length_nil]
        omega
      · obtain ⟨b1, b2⟩ := a3 l hl
        refine ⟨b1, fun d hd => ?_⟩
        rcases b2 d hd with z | z
        · rcases List.mem_append.mp z with z | z
          · exact .inl z
          · rw [List.mem_singleton.mp z]
            exact .inr List.mem_cons_self
        · exact .inr (List.mem_cons_of_mem _ z)
theorem wd_len (x : List Nat) : (wd x).length = x.count 32 + 1 :=
  (spl_facts x [] (by simp)).1
theorem wd_jl (x : List Nat) : jl (wd x) = x.length + 1 := by
  have := (spl_facts x [] (by simp)).2.1
  rw [List.length_nil] at this
  show jl (TL.spl [32] 0 [] x) = _
  omega
theorem wd_mem {x l : List Nat} (h : l ∈ wd x) : 32 ∉ l ∧ ∀ c ∈ l, c ∈ x := by
  obtain ⟨a, b⟩ := (spl_facts x [] (by simp)).2.2 l h
  exact ⟨a, fun c hc => (b c hc).elim (fun z => nomatch z) id⟩
theorem wd_ne (x : List Nat) : wd x ≠ [] := fun e => by
  have := wd_len x
  rw [e] at this
  exact absurd this (by simp)
theorem jl_mem {l : List Nat} : ∀ {ws : List (List Nat)}, l ∈ ws →
    l.length + 1 ≤ jl ws
  | w :: ws, h => by
    rw [jl_cons]
    rcases List.mem_cons.mp h with rfl | h
    · omega
    · have := jl_mem h
      omega
/-- a text that may be changed: its length and its spaces -/
structure TxB (m c : Nat) (x : List Nat) : Prop where
  len : x.length + 2 ≤ m
  spc : x.count 32 ≤ c
  uni : ∀ d ∈ x, d < 1114112
theorem TxB.txt {m c : Nat} {x : List Nat} (h : TxB m c x) (hm : m ≤ 10000)
    (hc : c < 63) : Txt0 x := by
  have a := h.len
  refine ⟨by omega, ?_, fun l hl => ?_⟩
  · rw [wd_len]
    have := h.spc
    omega
  · have := jl_mem hl
    rw [wd_jl] at this
    omega
theorem TxB.uniW {m c : Nat} {x : List Nat} (h : TxB m c x) : Uni (wd x) :=
  fun l hl d hd => h.uni d ((wd_mem hl).2 d hd)
/-! ### joined again -/
theorem jl_append (a b : List (List Nat)) : jl (a ++ b) = jl a + jl b := by
  unfold jl
  rw [List.map_append, List.sum_append]
abbrev jnS (ws : List (List Nat)) : List Nat := TL.joinL [32] ws
theorem jnS_len : ∀ ws : List (List Nat), (jnS ws).length ≤ jl ws
  | [] => Nat.zero_le _
  | [l] => by
    show l.length ≤ jl [l]
    rw [jl_cons]
    omega
  | l :: k :: r => by
    have := jnS_len (k :: r)
    show (l ++ ([32] ++ jnS (k :: r))).length ≤ _
    rw [List.length_append, List.length_append, jl_cons]
    show l.length + (1 + (jnS (k :: r)).length) ≤ _
    omega
theorem jnS_cnt : ∀ ws : List (List Nat), (∀ l ∈ ws, 32 ∉ l) →
    (jnS ws).count 32 + 1 ≤ ws.length + 1
  | [], _ => by
    show ([] : List Nat).count 32 + 1 ≤ _
    simp
  | [l], h => by
    show l.count 32 + 1 ≤ _
    rw [List.count_eq_zero.mpr (h l List.mem_cons_self)]
    simp
  | l :: k :: r, h => by
    have ih := jnS_cnt (k :: r) fun x hx => h x (List.mem_cons_of_mem _ hx)
    show (l ++ ([32] ++ jnS (k :: r))).count 32 + 1 ≤ _
    rw [List.count_append, List.count_append,
      List.count_eq_zero.mpr (h l List.mem_cons_self)]
    have : ([32] : List Nat).count 32 = 1 := by decide
    rw [this, List.length_cons]
    omega
theorem jnS_cnt1 {ws : List (List Nat)} (h : ∀ l ∈ ws, 32 ∉ l) :
    (jnS ws).count 32 ≤ ws.length - 1 := by
  cases ws with
  | nil =>
    show ([] : List Nat).count 32 ≤ _
    simp
  | cons l r =>
    have e := wd_len (jnS (l :: r))
    have e2 : wd (jnS (l :: r)) = l :: r := TL.spl_join (List.cons_ne_nil _ _) h
    rw [e2] at e
    omega
theorem jnS_uni : ∀ ws : List (List Nat), Uni ws →
    ∀ d ∈ jnS ws, d < 1114112
  | [], _, d, h => nomatch (show d ∈ ([] : List Nat) from h)
  | [l], u, d, h => u l List.mem_cons_self d h
  | l :: k :: r, u, d, h => by
    have h' : d ∈ l ++ ([32] ++ jnS (k :: r)) := h
    rcases List.mem_append.mp h' with z | z
    · exact u l List.mem_cons_self d z
    · rcases List.mem_append.mp z with z | z
      · rw [List.mem_singleton.mp z]
        decide
      · exact jnS_uni (k :: r) (fun x hx => u x (List.mem_cons_of_mem _ hx)) d z
theorem join_txb {m c : Nat} {ws : List (List Nat)} (h1 : jl ws + 2 ≤ m)
    (h2 : ws.length ≤ c + 1) (h3 : ∀ l ∈ ws, 32 ∉ l) (u : Uni ws) :
    TxB m c (jnS ws) := by
  have a := jnS_len ws
  have b := jnS_cnt1 h3
  exact ⟨by omega, by omega, jnS_uni ws u⟩
theorem jl_set : ∀ (ws : List (List Nat)) (i : Nat) (l : List Nat),
    jl (ws.set i l) ≤ jl ws + (l.length + 1)
  | [], _, _ => by simp [jl]
  | w :: ws, 0, l => by
    rw [List.set_cons_zero, jl_cons, jl_cons]
    omega
  | w :: ws, i + 1, l => by
    have := jl_set ws i l
    rw [List.set_cons_succ, jl_cons, jl_cons]
    omega
theorem jl_erase : ∀ (ws : List (List Nat)) (i : Nat),
    jl (ws.eraseIdx i) ≤ jl ws
  | [], _ => by simp [jl]
  | w :: ws, 0 => by
    rw [List.eraseIdx_cons_zero, jl_cons]
    omega
  | w :: ws, i + 1 => by
    have := jl_erase ws i
    rw [List.eraseIdx_cons_succ, jl_cons, jl_cons]
    omega
theorem jl_put (ws : List (List Nat)) (i : Nat) (l : List Nat) :
    jl (ws.take i ++ [l] ++ ws.drop i) = jl ws + (l.length + 1) := by
  rw [jl_append, jl_append, jl_cons]
  have : jl (ws.take i) + jl (ws.drop i) = jl ws := by
    rw [← jl_append, List.take_append_drop]
  have e : jl ([] : List (List Nat)) = 0 := rfl
  omega
/-! ### sorted lists of texts -/
theorem rising_pw : ∀ (p : Str) (r : List Str), risingS p r = true →
    (p :: r).Pairwise fun a b => ltCps b.cps.toList a.cps.toList = false := by
  intro p r
  induction r generalizing p with
  | nil => exact fun _ => List.pairwise_singleton _ _
  | cons x r ih =>
    intro h
    have h' : (!ltCps x.cps.toList p.cps.toList && risingS x r) = true := h
    rw [Bool.and_eq_true, Bool.not_eq_true'] at h'
    have pw := ih x h'.2
    refine List.pairwise_cons.mpr ⟨fun b hb => ?_, pw⟩
    rcases List.mem_cons.mp hb with rfl | hb
    · exact h'.1
    · have q := (List.pairwise_cons.mp pw).1 b hb
      have q1 := h'.1
      rw [ltCps_eq] at q q1 ⊢
      have a1 := of_decide_eq_false q
      have a2 := of_decide_eq_false q1
      refine decide_eq_false ?_
      rw [List.not_lt] at a1 a2 ⊢
      exact List.le_trans a2 a1
theorem sorted_uniq {ys zs : List Str} (h1 : sortedS ys = true)
    (h2 : sortedS zs = true) (p : ys.Perm zs) : ys = zs := by
  have pw : ∀ {l : List Str}, sortedS l = true → l.Pairwise fun a b =>
      ltCps b.cps.toList a.cps.toList = false := fun {l} h => by
    cases l with
    | nil => exact List.Pairwise.nil
    | cons x r => exact rising_pw x r h
  refine List.Perm.eq_of_pairwise (fun a b _ _ ab ba => ?_) (pw h1) (pw h2) p
  rw [ltCps_eq] at ab ba
  have a1 := of_decide_eq_false ab
  have a2 := of_decide_eq_false ba
  rw [List.not_lt] at a1 a2
  exact TL.ext_tl (List.le_antisymm a1 a2)
end OM
namespace OM
open PySem PySem.Spec PyProof.Rows L2
/-- the law's own word on a text -/
def spLisN : Sp := fun vs H Q _ => ∃ x, vs = [vS x] ∧ x.length ≤ 10000 ∧
  ∀ H', Same H H' → Q (.bl (nmB x)) H'
/-- a new pair of «returned» and a list -/
def NewR (H : Hp) (Q : VK) (ws : List (List Nat)) : Prop := ∀ T L H',
  H T = none → H' T = some (.tup [.str "returned", .ref L]) →
  H' L = some (.lst (ws.map vS)) → Same H H' → Q (.ref T) H'
theorem NewR.back {H H1 : Hp} {Q : VK} {ws : List (List Nat)} (h : NewR H Q ws)
    (s : Same H H1) : NewR H1 Q ws :=
  fun T L H' n e e2 s' => h T L H' (s.free n) e e2 (s.trans s')
def spBdue (K : PySem.W.Frag) : Sp := fun vs H Q _ => ∃ v, vs = [v] ∧
  ((NoT K H v ∧ NewP H Q ("text", 0)) ∨
   (∃ x, v = vS x ∧ Txt0 x ∧ (Good (wd x) → NewR H Q (wd x)) ∧
      (¬ Good (wd x) → NewP H Q ("text", 1))))
def spOdue (K : PySem.W.Frag) : Sp := fun vs H Q _ =>
  ∃ (a : Addr) (ls : List (List Nat)) (v : V), vs = [.ref a, v] ∧
  H a = some (.lst (ls.map vS)) ∧ Good ls ∧
  ((NoT K H v ∧ NewP H Q ("text", 0)) ∨
   (∃ x, v = vS x ∧ Txt0 x ∧ Uni (wd x) ∧
      ((wd x).Perm ls → NewR H Q (wd x)) ∧
      (¬ (wd x).Perm ls → NewP H Q ("text", 1))))
section
variable {P : Program} {w : World} {K : PySem.W.Frag}
  {mg : Str → Option Value} {base : Heap}
theorem ok_lisN {f : Addr} {fd : FuncData} {k : Nat}
    (F : Fun K "_law_is_name" "_law_is_name" s_Lis_name f fd) (B : Bl mg) :
    FnOk P w K mg base CX0 (k + 1) f fd ["_law_word"] spLisN := by
  refine F.ok sc_Lis_name (fun vs H Q E h => ?_)
    (fun cv A outer s H vs Q E hr h => ?_)
  · obtain ⟨v, rfl, _⟩ := h
    rfl
  obtain ⟨x, rfl, hx, q⟩ := h
  have nd := sc_Lis_name.nd
  have hs : (SX.S x).length = x.length := SX.S_len x
  refine ⟨_, pss_one (ps_ret (pe_and (pe_mid (pe_chain op_le op_le pe_int
        (pe_callB call_len_str (by rfl) B.len PySem.boot_len
          (pa_cons (pv 0) pa_nil)) pe_int))
      (pe_one (pe_cmpR (op_eqNil hr)
        (pe_lc (own := [("_law_sign", 1)]) (g := gName 1) rfl nd
          (pi_str (pv 0))
          (blkOk_by (N := N_Lis_name) (sc := defScope s_Lis_name)
            (by decide +kernel))
          (fun _ _ _ _ _ => pg_name (i := 1) nd rfl (Or.inl rfl))
          (fun _ _ _ _ _ => pts_one (pt_cmpR op_notIn_sign (pv 1) pe_str
            (by rfl)))
          (fun _ _ _ _ _ => pv 1))
        (pe_lst pa_nil) (nomark _))))), ?_⟩
  refine ⟨fun v H' => v = .bl (decide (1 ≤ x.length) && decide (x.length ≤ 8)) ∧
    H = H', ?_, ?_⟩
  · refine ⟨_, rfl, _, rfl, by rw [hs]; exact sz (by omega), _, _, rfl, rfl, _,
      rfl, ite2 (fun c => ?_) (fun c => ?_)⟩
    · rw [hs] at c
      have c' : (1 : Int) ≤ x.length := of_decide_eq_true c
      refine ⟨_, _, rfl, rfl, ?_, rfl⟩
      rw [hs, decide_eq_true (show 1 ≤ x.length by omega), Bool.true_and]
      show V.bl _ = V.bl _
      congr 1
      exact decide_eq_decide.mpr ⟨fun z => by omega, fun z => by omega⟩
    · rw [hs] at c
      refine ⟨?_, rfl⟩
      rw [decide_eq_false (show ¬ 1 ≤ x.length from fun z =>
        c (decide_eq_true (by omega)))]
      rfl
  · rintro v _ ⟨rfl, rfl⟩
    by_cases c : 1 ≤ x.length ∧ x.length ≤ 8
    · rw [decide_eq_true c.1, decide_eq_true c.2]
      refine ⟨_, rfl, iteT ⟨_, rfl, _, rfl, fun D nD => ?_⟩⟩
      have ex : (SX.S x).cps.toList = x := rfl
      refine lc_it walk_str (fun i H' => H' D = some (.lst
        (badS (x.take i))) ∧ Same H H')
        ⟨upd_same, sameNew nD⟩ (fun _ _ _ _ => trivial) ?_ ?_
      · rintro i v _ H1 hi ⟨hD, sm⟩ ⟨rfl, c0, hc, rfl⟩
        have hc' : x[i]? = some c0 := by
          rw [← ex, Array.getElem?_toList]; exact hc
        have st : x.take (i + 1) = x.take i ++ [c0] := by
          rw [List.take_add_one, hc']
          rfl
        refine ⟨rfl, _, rfl, c0, _, rfl, rfl, _, rfl, ?_⟩
        rw [show decide (c0 ∈ (Str.ofString
          "abcdefghijklmnopqrstuvwxyz").cps.toList) = azB c0 from mem_abc c0]
        cases az : azB c0 with
        | true =>
          refine iteF ⟨?_, sm⟩
          rw [hD, st]
          unfold badS
          rw [List.filter_append]
          simp [az]
        | false =>
          refine iteT ⟨_, rfl, _, hD, ?_, ?_, OM.Same.put sm nD⟩
          · have h1 := badS_len (x.take i)
            rw [List.length_take] at h1
            exact sz' (by omega)
          · rw [upd_same, st]
            unfold badS
            rw [List.filter_append]
            simp [az]
      · rintro H1 ⟨hD, sm⟩
        rw [List.take_of_length_le (by
          rw [← ex, Array.length_toList, ex]; exact Nat.le_refl _)] at hD
        refine ⟨by decide, fun l nl => ?_⟩
        refine ⟨D, l, _, rfl, rfl, by rw [upd_ne (ne_of_none hD nl)]; exact hD,
          upd_same, ?_⟩
        rw [badS_nil]
        have := q (upd H1 l (.lst [])) (sm.trans (sameNew nl))
        unfold nmB at this
        rw [decide_eq_true c.1, decide_eq_true c.2, Bool.true_and,
          Bool.true_and] at this
        exact this
    · have e : (decide (1 ≤ x.length) && decide (x.length ≤ 8)) = false := by
        by_cases c1 : 1 ≤ x.length
        · rw [decide_eq_false (show ¬ x.length ≤ 8 from fun z => c ⟨c1, z⟩)]
          exact Bool.and_false _
        · rw [decide_eq_false c1]
          exact Bool.false_and _
      rw [e]
      refine ⟨_, rfl, iteF ?_⟩
      have := q H (Same.refl H)
      unfold nmB at this
      rw [e, Bool.false_and] at this
      exact this
end
end OM
namespace OM
open PySem PySem.Spec PyProof.Rows L2
theorem bt_any : bootBuiltins "any" = some (.builtin "any") := by
  decide +kernel
section
variable {P : Program} {w : World} {K : PySem.W.Frag}
  {mg : Str → Option Value} {base : Heap}
theorem ok_bdue {f : Addr} {fd : FuncData} {k : Nat}
    (F : Fun K "_law_base_due" "_law_base_due" s_Lbase_due f fd) (B : Bl mg)
    (bA : mg "any" = none)
    (Ci : Cal P w K mg base k "_law_is_name" ["_law_word"] spLisN) :
    FnOk P w K mg base CX0 (k + 1) f fd ["_law_text"] (spBdue K) := by
  refine F.ok sc_Lbase_due (fun vs H Q E h => ?_)
    (fun cv A outer s H vs Q E hr h => ?_)
  · obtain ⟨v, rfl, _⟩ := h
    rfl
  obtain ⟨v, rfl, h⟩ := h
  have nd := sc_Lbase_due.nd
  refine ⟨_, pss_cons (ps_if (pt_not (pt_val
      (pe_callB call_isi (by rfl) B.isi bt_isi (pa_cons (pv 0) (pa_cons
        (pe_bltn (v := .ty "str") (by rfl) B.str bt_str rfl) pa_nil)))))
      (pss_one (ps_ret (pe_tup (pa_cons pe_str (pa_cons pe_int pa_nil)))))
      pss_nil)
    (pss_cons (ps_set (i := 1) nd rfl (.inr rfl) (pe_split (pv 0) pe_str))
    (pss_cons (ps_if (pt_mid (PW.pt (pw_or (pt_cmpR op_gt
        (pe_callB call_len_seq (by rfl) B.len PySem.boot_len
          (pa_cons (pv 1) pa_nil)) pe_int (nomark _))
        (pw_or1 (pt_not (pt_val (pe_callB (cr_all rfl) (by rfl) B.all bt_all
          (pa_cons (pe_lc (own := [("_law_word", 2)]) (g := gName 2)
            (tt := tYes) rfl nd (pi_list (pv 1))
            (blkOk_by (N := N_Lbase_due) (sc := defScope s_Lbase_due)
              (by decide +kernel))
            (fun _ _ _ _ _ => pg_name (i := 2) nd rfl (Or.inl rfl))
            (fun _ _ _ _ _ => pts_nil)
            (fun _ _ _ _ _ => pe_cal Ci hr (pa_cons (pv 2) pa_nil)))
            pa_nil))))))))
      (pss_one (ps_ret (pe_tup (pa_cons pe_str (pa_cons pe_int pa_nil)))))
      pss_nil)
    (pss_cons (ps_if (pt_mid (pt_val (pe_callB (cr_any rfl) (by rfl) bA bt_any
        (pa_cons (pe_lc (own := [("_law_position", 3), ("_law_word", 2)])
          (g := gTup K 2 (gCons (gName 3) (gCons (gName 2) gNil)))
          (tt := tYes) rfl nd
          (pi_enum (by rfl) B.enum (pa_cons (pv 1) pa_nil))
          (blkOk_by (N := N_Lbase_due) (sc := defScope s_Lbase_due)
            (by decide +kernel))
          (fun _ _ _ _ _ => pg_tup rfl (pgs_cons (pg_name (i := 3) nd rfl
            (Or.inl rfl)) (pgs_cons (pg_name (i := 2) nd rfl (Or.inl rfl))
            pgs_nil)))
          (fun _ _ _ _ _ => pts_nil)
          (fun _ _ _ _ _ => pe_cmpR (r := rIn K false) op_in_seq (pv 2)
            (pe_slice (r := rSlL K) sl_list (pv 1) po_none (po_some (pv 3)))
            (by rfl)))
          pa_nil))))
      (pss_one (ps_ret (pe_tup (pa_cons pe_str (pa_cons pe_int pa_nil)))))
      pss_nil)
    (pss_one (ps_ret (pe_tup (pa_cons pe_str (pa_cons (pv 1) pa_nil)))))))), ?_⟩
  rcases h with ⟨⟨t, ty, kt⟩, out⟩ | ⟨x, rfl, hx, good, bad⟩
  · exact ⟨_, rfl, _, _, _, _, false, rfl, .ty "str", .base ty, kt, _, rfl,
      iteT ⟨by decide, out.at_⟩⟩
  have hl : (SX.S x).length = x.length := SX.S_len x
  have h1 := hx.len
  have h2 := hx.few
  refine ⟨_, rfl, _, _, _, _, true, rfl, .ty "str", .base (.str _),
    kit_ty (by decide +kernel), _, rfl, iteF ?_⟩
  refine ⟨_, rfl, ⟨_, rfl⟩, SX.S x, _, rfl, rfl, by decide +kernel, by
    rw [hl]; exact sz (by omega), fun p np => ?_⟩
  have ew : (Txt.split (SX.S x) (Str.ofString " ")).map V.str =
      (wd x).map vS := by
    rw [sp32, SX.split_S (by decide) (by decide), List.map_map]
    rfl
  rw [ew]
  have hp : (upd H p (.lst ((wd x).map vS))) p = some (.lst ((wd x).map vS)) :=
    upd_same
  have s1 : Same H (upd H p (.lst ((wd x).map vS))) := sameNew np
  generalize upd H p (.lst ((wd x).map vS)) = H1 at hp s1 ⊢
  -- names, not too many
  refine ⟨fun b H' => b = !(decide ((wd x).length ≤ 40) &&
    (wd x).all nmB) ∧ Same H1 H', ?_, ?_⟩
  · refine ⟨_, rfl, p, _, rfl, .inl (SqL.of hp), _, _, rfl, rfl, _, rfl, ?_⟩
    rw [List.length_map]
    by_cases c : (wd x).length ≤ 40
    · rw [decide_eq_false (show ¬ ((40 : Int) < ((wd x).length : Nat)) by omega),
        decide_eq_true c]
      refine iteF ?_
      refine ⟨_, rfl, p, rfl, ⟨_, SqL.of hp⟩, fun D nD => ?_⟩
      refine lc_list (K := K) (a := p) (xs := (wd x).map vS) (fun i H' =>
        H' D = some (.lst ((((wd x).take i).map nmB).map V.bl)) ∧ Same H1 H')
        ⟨upd_same, sameNew nD⟩ (fun i H' _ z => SqL.of (z.2 _ _ hp)) ?_ ?_
      · rintro i y H2 hy ⟨hD, sm⟩
        obtain ⟨l, hl', rfl⟩ := get_map hy
        have ml := List.mem_of_getElem? hl'
        refine ⟨rfl, yes ⟨_, rfl, l, rfl, hx.wds l ml, fun H3 s3 => ⟨_, s3 _ _ hD,
          ?_, ?_, ?_⟩⟩⟩
        · rw [List.length_map, List.length_map, List.length_take]
          exact sz' (by omega)
        · rw [upd_same, List.take_add_one, hl', List.map_append,
            List.map_append]
          rfl
        · exact OM.Same.put (sm.trans s3) nD
      · rintro H2 ⟨hD, sm⟩
        rw [List.length_map, List.take_length] at hD
        refine ⟨D, _, rfl, SqL.of hD, _, rfl, ?_, sm⟩
        rw [List.all_map, Bool.true_and]
        rfl
    · rw [decide_eq_true (show (40 : Int) < ((wd x).length : Nat) by omega),
        decide_eq_false c]
      exact iteT ⟨rfl, Same.refl H1⟩
  rintro b H2 ⟨rfl, s2⟩
  have hp2 := s2 _ _ hp
  by_cases c : (wd x).length ≤ 40 ∧ (wd x).all nmB = true
  · rw [decide_eq_true c.1, c.2]
    refine iteF ?_
    refine ⟨fun b H' => b = !decide ((wd x).Nodup) ∧ Same H2 H', ?_, ?_⟩
    · refine ⟨_, rfl, p, _, rfl, SqL.of hp2, fun D nD => ?_⟩
      refine lc_it (walk_enum (K := K) (a := p) (xs := (wd x).map vS))
        (fun i H' => ∃ bs : List Bool, H' D = some (.lst (bs.map V.bl)) ∧
          bs.length = i ∧ (bs.any id = true ↔ ¬ ((wd x).take i).Nodup) ∧
          Same H2 H')
        ⟨[], upd_same, rfl, by simp, sameNew nD⟩
        (fun i H' _ z => by
          obtain ⟨_, _, _, _, sm⟩ := z
          exact SqL.of (sm _ _ hp2)) ?_ ?_
      · rintro i v H3 H4 hi ⟨bs, hD, hb, hn, sm⟩
          ⟨T', x1, x2, rfl, nT, rfl, e1, e2⟩
        obtain ⟨l, hl', rfl⟩ := get_map e2
        cases Option.some.inj e1
        rw [List.length_map] at hi
        have sm4 := sm.trans (sameNew (o := .tup [.int (i : Nat), vS l]) nT)
        refine ⟨T', _, rfl, .inl (.inl upd_same), rfl, _, _, rfl, _, _, rfl, rfl,
          rfl, yes ⟨_, rfl, _, rfl, _, rfl, i, rfl, p, _, rfl,
          SqL.of (sm4 _ _ hp2), fun t nt => ?_⟩⟩
        rw [cut_to _ (by rw [List.length_map]; omega), ← List.map_take]
        refine ⟨t, _, rfl, .inl (SqL.of upd_same), rfl, flat_S _, ?_⟩
        have sm5 := sm4.trans (sameNew (o := .lst (((wd x).take i).map vS)) nt)
        have hD5 : (upd (upd H3 T' (.tup [.int (i : Nat), vS l])) t
            (.lst (((wd x).take i).map vS))) D = some (.lst (bs.map V.bl)) := by
          rw [upd_ne (ne_of_none (by
            rw [upd_ne (ne_of_none hD nT)]; exact hD) nt),
            upd_ne (ne_of_none hD nT)]
          exact hD
        refine ⟨_, hD5, ?_, bs ++ [decide (l ∈ (wd x).take i)], ?_, ?_, ?_,
          OM.Same.put sm5 nD⟩
        · rw [List.length_map, hb]
          exact sz' (by omega)
        · rw [upd_same, List.map_append]
          show some (HO.lst (bs.map V.bl ++ [V.bl (inV (vS l)
            (((wd x).take i).map vS))])) = _
          rw [inV_S]
          rfl
        · rw [List.length_append, hb]
          rfl
        · rw [List.any_append, Bool.or_eq_true, hn, List.take_add_one, hl']
          show _ ∨ ([decide (l ∈ (wd x).take i)].any id) = true ↔
            ¬ ((wd x).take i ++ [l]).Nodup
          have e3 : ([decide (l ∈ (wd x).take i)].any id) = true ↔
              l ∈ (wd x).take i := by simp
          rw [e3, List.nodup_append]
          constructor
          · rintro (z | z) ⟨y1, y2, y3⟩
            · exact z y1
            · exact y3 l z l List.mem_cons_self rfl
          · intro z
            by_cases y1 : ((wd x).take i).Nodup
            · refine .inr (Classical.byContradiction fun y2 => z ⟨y1, by simp,
                fun a ha b hb => ?_⟩)
              rw [List.mem_singleton.mp hb]
              exact fun e => y2 (by rw [← e]; exact ha)
            · exact .inl y1
      · rintro H3 ⟨bs, hD, hb, hn, sm⟩
        rw [List.length_map, List.take_length] at hn
        refine ⟨D, bs, rfl, SqL.of hD, _, rfl, ?_, sm⟩
        by_cases c2 : (wd x).Nodup
        · rw [decide_eq_true c2]
          cases e : bs.any id with
          | false => rfl
          | true => exact absurd c2 (hn.mp e)
        · rw [decide_eq_false c2, hn.mpr c2]
          rfl
    rintro b H3 ⟨rfl, s3⟩
    have s03 := (s1.trans s2).trans s3
    by_cases c2 : (wd x).Nodup
    · rw [decide_eq_true c2]
      have g : Good (wd x) := ⟨fun l hl => nmB_iff.mp
        (List.all_eq_true.mp c.2 l hl), c2, by rw [wd_len]; omega, c.1⟩
      refine iteF ⟨_, rfl, two_le, fun T nT => ?_⟩
      have hp3 := s3 _ _ hp2
      exact good g T p _ (s03.free nT) upd_same
        (by rw [upd_ne (ne_of_none hp3 nT)]; exact hp3) (s03.trans (sameNew nT))
    · rw [decide_eq_false c2]
      exact iteT ⟨two_le, ((bad fun g => c2 g.nd).back s03).at_⟩
  · have e : (decide ((wd x).length ≤ 40) && (wd x).all nmB) = false := by
      by_cases c1 : (wd x).length ≤ 40
      · cases e2 : (wd x).all nmB with
        | false => exact Bool.and_false _
        | true => exact absurd ⟨c1, e2⟩ c
      · rw [decide_eq_false c1]
        exact Bool.false_and _
    rw [e]
    refine iteT ⟨two_le, ((bad fun g => c ⟨g.hi, ?_⟩).back
      (s1.trans s2)).at_⟩
    exact List.all_eq_true.mpr fun l hl => nmB_iff.mpr (g.nm l hl)
end
end OM
namespace OM
open PySem PySem.Spec PyProof.Rows L2
theorem bt_srt : bootBuiltins "sorted" = some (.builtin "sorted") := by
  decide +kernel
abbrev cpL (ys : List Str) : List (List Nat) := ys.map fun y => y.cps.toList
theorem cpL_S (ys : List Str) : ys.map V.str = (cpL ys).map vS := by
  rw [List.map_map]
  refine List.map_congr_left fun y _ => ?_
  show V.str y = V.str (SX.S y.cps.toList)
  rw [SX.S_tl]
theorem cpL_inj {ys zs : List Str} : cpL ys = cpL zs ↔ ys = zs := by
  constructor
  · intro h
    have := congrArg (List.map SX.S) h
    rw [List.map_map, List.map_map] at this
    have e : ∀ l : List Str, l.map (SX.S ∘ fun y => y.cps.toList) = l :=
      fun l => by
        conv => rhs; rw [← List.map_id l]
        exact List.map_congr_left fun y _ => SX.S_tl y
    rwa [e, e] at this
  · exact fun h => by rw [h]
theorem cpL_perm {ys : List Str} {ws : List (List Nat)}
    (h : ys.Perm (ws.map SX.S)) : (cpL ys).Perm ws := by
  have := h.map fun y : Str => y.cps.toList
  rw [List.map_map] at this
  have e : ws.map ((fun y : Str => y.cps.toList) ∘ SX.S) = ws := by
    conv => rhs; rw [← List.map_id ws]
    exact List.map_congr_left fun y _ => rfl
  rwa [e] at this
theorem map_strS (ws : List (List Nat)) :
    (ws.map SX.S).map V.str = ws.map vS := by
  rw [List.map_map]
  rfl
theorem srt_eq {ys zs : List Str} {ws ls : List (List Nat)}
    (h1 : ys.Perm (ws.map SX.S)) (h2 : zs.Perm (ls.map SX.S))
    (s1 : sortedS ys = true) (s2 : sortedS zs = true) :
    decide (cpL ys = cpL zs) = decide (ws.Perm ls) := by
  refine decide_eq_decide.mpr ⟨fun h => ?_, fun h => ?_⟩
  · have := (cpL_perm h1).symm.trans (h ▸ cpL_perm h2)
    exact this
  · exact cpL_inj.mpr (sorted_uniq s1 s2
      ((h1.trans (h.map SX.S)).trans h2.symm))
section
variable {P : Program} {w : World} {K : PySem.W.Frag}
  {mg : Str → Option Value} {base : Heap}
theorem ok_odue {f : Addr} {fd : FuncData} {k : Nat}
    (F : Fun K "_law_order_due" "_law_order_due" s_Lorder_due f fd) (B : Bl mg)
    (bS : mg "sorted" = none) :
    FnOk P w K mg base CX0 (k + 1) f fd ["_law_items", "_law_text"]
      (spOdue K) := by
  refine F.ok sc_Lorder_due (fun vs H Q E h => ?_)
    (fun cv A outer s H vs Q E hr h => ?_)
  · obtain ⟨a, ls, v, rfl, _⟩ := h
    rfl
  obtain ⟨a, ls, v, rfl, ha, gd, h⟩ := h
  have nd := sc_Lorder_due.nd
  refine ⟨_, pss_cons (ps_if (pt_not (pt_val
      (pe_callB call_isi (by rfl) B.isi bt_isi (pa_cons (pv 1) (pa_cons
        (pe_bltn (v := .ty "str") (by rfl) B.str bt_str rfl) pa_nil)))))
      (pss_one (ps_ret (pe_tup (pa_cons pe_str (pa_cons pe_int pa_nil)))))
      pss_nil)
    (pss_cons (ps_set (i := 2) nd rfl (.inl rfl) (pe_split (pv 1) pe_str))
    (pss_one (ps_ret (pe_ifExp (pt_cmpR (op_eqD hr.units)
        (pe_callB cr_sortedS (by rfl) bS bt_srt (pa_cons (pv 2) pa_nil))
        (pe_callB cr_sortedS (by rfl) bS bt_srt (pa_cons (pv 0) pa_nil))
        (nomark _))
      (pe_tup (pa_cons pe_str (pa_cons (pv 2) pa_nil)))
      (pe_tup (pa_cons pe_str (pa_cons pe_int pa_nil))))))), ?_⟩
  rcases h with ⟨⟨t, ty, kt⟩, out⟩ | ⟨x, rfl, hx, un, good, bad⟩
  · exact ⟨_, rfl, _, _, _, _, false, rfl, .ty "str", .base ty, kt, _, rfl,
      iteT ⟨by decide, out.at_⟩⟩
  have hl : (SX.S x).length = x.length := SX.S_len x
  have h1 := hx.len
  have h2 := hx.few
  have h3 := gd.hi
  refine ⟨_, rfl, _, _, _, _, true, rfl, .ty "str", .base (.str _),
    kit_ty (by decide +kernel), _, rfl, iteF ?_⟩
  refine ⟨_, rfl, ⟨_, rfl⟩, SX.S x, _, rfl, rfl, by decide +kernel, by
    rw [hl]; exact sz (by omega), fun p np => ?_⟩
  have ew : (Txt.split (SX.S x) (Str.ofString " ")).map V.str =
      (wd x).map vS := by
    rw [sp32, SX.split_S (by decide) (by decide), List.map_map]
    rfl
  rw [ew]
  have hp : (upd H p (.lst ((wd x).map vS))) p = some (.lst ((wd x).map vS)) :=
    upd_same
  have s1 : Same H (upd H p (.lst ((wd x).map vS))) := sameNew np
  generalize upd H p (.lst ((wd x).map vS)) = H1 at hp s1 ⊢
  refine ⟨_, rfl, p, (wd x).map SX.S, rfl, by rw [map_strS]; exact SqL.of hp,
    by rw [List.length_map]; exact h2, fun ys q py sy nq => ?_⟩
  have ha1 := s1 _ _ ha
  refine ⟨_, rfl, a, ls.map SX.S, rfl, by
    rw [map_strS]
    exact SqL.of (by rw [upd_ne (ne_of_none ha1 nq)]; exact ha1),
    by rw [List.length_map]; omega, fun zs r pz sz' nr => ?_⟩
  have hq : (upd H1 q (.lst (ys.map V.str))) q = some (.lst (ys.map V.str)) :=
    upd_same
  have nqr : q ≠ r := ne_of_none hq nr
  have s2 := (s1.trans (sameNew (o := .lst (ys.map V.str)) nq)).trans
    (sameNew (o := .lst (zs.map V.str)) nr)
  have hp3 : (upd (upd H1 q (.lst (ys.map V.str))) r
      (.lst (zs.map V.str))) p = some (.lst ((wd x).map vS)) :=
    sameNew nr _ _ (sameNew nq _ _ hp)
  refine ⟨_, _, dp_N (ls := cpL ys) (SqL.of ?_), dp_N (ls := cpL zs)
    (SqL.of ?_), shaped_L ?_, shaped_L ?_, _, rfl, ?_⟩
  · rw [upd_ne nqr, hq, cpL_S]
  · rw [upd_same, cpL_S]
  · exact fun l hl => un l ((cpL_perm py).mem_iff.mp hl)
  · exact fun l hl => (gd.nm l ((cpL_perm pz).mem_iff.mp hl)).uni
  rw [eqv_L, srt_eq py pz sy sz']
  generalize upd (upd H1 q (.lst (ys.map V.str))) r (.lst (zs.map V.str)) = H3
    at s2 hp3 ⊢
  by_cases pm : (wd x).Perm ls
  · rw [decide_eq_true pm]
    refine iteT ⟨_, rfl, two_le, fun T nT => ?_⟩
    exact good pm T p _ (s2.free nT) upd_same
      (by rw [upd_ne (ne_of_none hp3 nT)]; exact hp3) (s2.trans (sameNew nT))
  · rw [decide_eq_false pm]
    exact iteF ⟨two_le, ((bad pm).back s2).at_⟩
end
end OM
namespace OM
open PySem PySem.Spec PyProof.Rows L2
/-! ### a text changed at one place -/
def sg0 : List Nat := [97, 98, 122, 32, 32, 65, 90, 48, 46, 45, 95]
theorem sg0_S : (Str.ofString "abz  AZ0.-_") = SX.S sg0 := by
  refine TL.ext_tl ?_
  decide +kernel
theorem nl_S : (Str.ofString "\n") = SX.S [10] := by
  refine TL.ext_tl ?_
  decide +kernel
theorem bb_S : (Str.ofString "bb") = SX.S [98, 98] := by
  refine TL.ext_tl ?_
  decide +kernel
/-- what may be put in -/
structure Sg (g : List Nat) : Prop where
  len : g.length ≤ 2
  spc : g.count 32 ≤ 1
  uni : ∀ d ∈ g, d < 1114112
theorem sg_all {v : V} (h : v ∈ sgn sg0 ++ [vS [10], vS [98, 98]]) :
    ∃ g, v = vS g ∧ Sg g := by
  have all : ∀ g ∈ sg0.map (fun c => [c]) ++ [[10], [98, 98]], Sg g := by
    have : (sg0.map (fun c => [c]) ++ [[10], [98, 98]]).all (fun g =>
        decide (g.length ≤ 2) && decide (g.count 32 ≤ 1) &&
        g.all fun d => decide (d < 1114112)) = true := by decide
    intro g hg
    have z := List.all_eq_true.mp this g hg
    simp only [Bool.and_eq_true, decide_eq_true_eq, List.all_eq_true] at z
    exact ⟨z.1.1, z.1.2, z.2⟩
  have e : sgn sg0 ++ [vS [10], vS [98, 98]] =
      (sg0.map (fun c => [c]) ++ [[10], [98, 98]]).map vS := by
    unfold sgn
    rw [List.map_append, List.map_map]
    rfl
  rw [e] at h
  obtain ⟨g, hg, rfl⟩ := List.mem_map.mp h
  exact ⟨g, rfl, all g hg⟩
theorem cnt_take (x : List Nat) (i j : Nat) (h : i ≤ j) :
    (x.take i).count 32 + (x.drop j).count 32 ≤ x.count 32 := by
  have e : x.count 32 = (x.take i).count 32 + (x.drop i).count 32 := by
    rw [← List.count_append, List.take_append_drop]
  have e2 : (x.drop j).count 32 ≤ (x.drop i).count 32 := by
    have : x.drop j = (x.drop i).drop (j - i) := by
      rw [List.drop_drop]
      congr 1
      omega
    rw [this]
    exact (List.drop_sublist _ _).count_le _
  omega
theorem txb_cut {m c i j : Nat} {x g : List Nat} (h : TxB m c x) (ij : i ≤ j)
    (sg : Sg g) : TxB (4 * m) (c + 1) (x.take i ++ g ++ x.drop j) := by
  have a := h.len
  have b := h.spc
  have d := sg.len
  have e := sg.spc
  have k := cnt_take x i j ij
  refine ⟨?_, ?_, fun y hy => ?_⟩
  · rw [List.length_append, List.length_append, List.length_take,
      List.length_drop]
    omega
  · rw [List.count_append, List.count_append]
    omega
  · rcases List.mem_append.mp hy with z | z
    · rcases List.mem_append.mp z with z | z
      · exact h.uni y (List.mem_of_mem_take z)
      · exact sg.uni y z
    · exact h.uni y (List.mem_of_mem_drop z)
/-- the words, changed -/
structure WsB (m c : Nat) (ws : List (List Nat)) : Prop where
  jl : jl ws + 2 ≤ m
  len : ws.length ≤ c + 1
  nsp : ∀ l ∈ ws, 32 ∉ l
  uni : Uni ws
theorem ixN_at {n j : Nat} (h : j < n) : ixN n (j : Int) = some j := by
  unfold ixN
  rw [if_pos (by omega), if_pos (by omega), Int.toNat_natCast]
theorem erase_map {α β : Type} (f : α → β) : ∀ (l : List α) (i : Nat),
    (l.map f).eraseIdx i = (l.eraseIdx i).map f
  | [], _ => rfl
  | x :: r, 0 => rfl
  | x :: r, i + 1 => by
    show f x :: (r.map f).eraseIdx i = f x :: (r.eraseIdx i).map f
    rw [erase_map f r i]
theorem upd_twice (H : Hp) (a : Addr) (o o' : HO) :
    upd (upd H a o) a o' = upd H a o' := by
  funext b
  by_cases e : b = a
  · subst e
    rw [upd_same, upd_same]
  · rw [upd_ne e, upd_ne e, upd_ne e]
/-- a word that may stand in a text -/
def W0 (l : List Nat) : Prop := 32 ∉ l ∧ ∀ d ∈ l, d < 1114112
theorem wsb_of {m c : Nat} {x : List Nat} {ws : List (List Nat)}
    (tb : TxB m c x) (h1 : OM.jl ws ≤ 3 * OM.jl (wd x))
    (h2 : ws.length ≤ (wd x).length + 1) (h3 : ∀ l ∈ ws, W0 l) :
    WsB (4 * m) (c + 1) ws := by
  have a := wd_jl x
  have b := wd_len x
  have d := tb.len
  have e := tb.spc
  exact ⟨by omega, by omega, fun l hl => (h3 l hl).1, fun l hl => (h3 l hl).2⟩
theorem sum_S : ∀ ws : List (List Nat),
    ((ws.map SX.S).map (·.length)).sum + ws.length = jl ws
  | [] => rfl
  | l :: r => by
    have ih := sum_S r
    have e : (SX.S l).length = l.length := SX.S_len l
    rw [List.map_cons, List.map_cons, List.sum_cons, List.length_cons, jl_cons, e]
    omega
theorem W0.cat {a b : List Nat} (h : W0 a) (k : W0 b) : W0 (a ++ b) :=
  ⟨fun z => (List.mem_append.mp z).elim h.1 k.1,
    fun d hd => (List.mem_append.mp hd).elim (h.2 d) (k.2 d)⟩
def spChg : Sp := fun vs H Q _ => ∃ (p : Addr) (x : List Nat) (m c : Nat),
  vs = [.ref p, vS x] ∧ Rng H p ∧ TxB m c x ∧ m ≤ 2000 ∧ c ≤ 50 ∧
  ∀ y H', TxB (4 * m) (c + 1) y → Rng H' p → But p H H' → Q (vS y) H'
section
variable {P : Program} {w : World} {K : PySem.W.Frag}
  {mg : Str → Option Value} {base : Heap}
theorem ok_chg {f : Addr} {fd : FuncData} {k : Nat}
    (F : Fun K "_law_changed" "_law_changed" s_Lchanged f fd) (B : Bl mg)
    (Cd : CalDraw P w K mg base k)
    (Cc : Cal P w K mg base k "_law_choice" ["_law_rng_here", "_law_options"]
      (spChoice K)) :
    FnOk P w K mg base CX0 (k + 1) f fd ["_law_rng_here", "_law_text"]
      spChg := by
  refine F.ok sc_Lchanged (fun vs H Q E h => ?_)
    (fun cv A outer s H vs Q E hr h => ?_)
  · obtain ⟨p, x, m, c, rfl, _⟩ := h
    rfl
  obtain ⟨p, x, m, c, rfl, rg, tb, hm, hc, q⟩ := h
  have nd := sc_Lchanged.nd
  refine ⟨_, C8.pss_cut (ps_par (i := 2) (j := 3) (by rfl) nd rfl rfl
      (by decide) rfl rfl
      (pa_cons (pe_cal Cd hr (pa_cons (pv 0)
        (pa_cons (pe_op op_add (pe_callB call_len_str (by rfl) B.len
          PySem.boot_len (pa_cons (pv 1) pa_nil)) pe_int) pa_nil)))
        (pa_cons (pe_cal Cd hr (pa_cons (pv 0) (pa_cons pe_int pa_nil)))
          pa_nil)) rfl)
    (C8.pss_cut (ps_set (i := 4) nd rfl (.inl rfl) (pe_cal Cc hr (pa_cons (pv 0)
        (pa_cons (pe_op op_cat (pe_callTy (cr_listS rfl) (by rfl) B.list bt_list
            (pa_cons pe_str pa_nil))
          (pe_lst (pa_cons pe_str (pa_cons pe_str pa_nil)))) pa_nil))))
    (pss_cons (ps_if (pt_cmpR op_eq (pv 3) pe_int (nomark _))
      (pss_one (ps_ret (pe_op op_add_str
        (pe_slice C8.sl_txt (pv 1) po_none (po_some (pv 2)))
        (pe_slice C8.sl_txt (pv 1) (po_some (pe_op op_add (pv 2) pe_int))
          po_none)))) pss_nil)
    (pss_cons (ps_if (pt_cmpR op_eq (pv 3) pe_int (nomark _))
      (pss_one (ps_ret (pe_op op_add_str (pe_op op_add_str
        (pe_slice C8.sl_txt (pv 1) po_none (po_some (pv 2))) (pv 4))
        (pe_slice C8.sl_txt (pv 1) (po_some (pv 2)) po_none)))) pss_nil)
    (pss_cons (ps_if (pt_cmpR op_eq (pv 3) pe_int (nomark _))
      (pss_one (ps_ret (pe_op op_add_str (pe_op op_add_str
        (pe_slice C8.sl_txt (pv 1) po_none (po_some (pv 2))) (pv 4))
        (pe_slice C8.sl_txt (pv 1) (po_some (pe_op op_add (pv 2) pe_int))
          po_none)))) pss_nil)
    (C8.pss_cut (ps_set (i := 5) nd rfl (.inl rfl) (pe_split (pv 1) pe_str))
    (C8.pss_cut (ps_par (i := 6) (j := 7) (by rfl) nd rfl rfl
      (by decide) rfl rfl
      (pa_cons (pe_cal Cd hr (pa_cons (pv 0)
        (pa_cons (pe_callB call_len_seq (by rfl) B.len PySem.boot_len
          (pa_cons (pv 5) pa_nil)) pa_nil)))
        (pa_cons (pe_cal Cd hr (pa_cons (pv 0)
        (pa_cons (pe_callB call_len_seq (by rfl) B.len PySem.boot_len
          (pa_cons (pv 5) pa_nil)) pa_nil))) pa_nil)) rfl)
    (C8.pss_cut (ps_if (pt_cmpR op_eq (pv 3) pe_int (nomark _))
      (pss_one (ps_expr (pe_bm PySem.F.plainAttrs_list PySem.F.slot_list_insert
        PySem.F.type_list_insert mt_insert (pv 5) (pa_cons (pv 6) (pa_cons
          (pe_ix ix_list (pv 5) (pv 7) (fun _ _ => rfl)) pa_nil)))))
      (pss_one (ps_if (pt_cmpR op_eq (pv 3) pe_int (nomark _))
        (pss_one (ps_expr (pe_bm PySem.F.plainAttrs_list PySem.F.slot_list_pop
          PySem.F.type_list_pop mt_popAt (pv 5) (pa_cons (pv 6) pa_nil))))
        (pss_one (ps_if (pt_cmpR op_eq (pv 3) pe_int (nomark _))
          (pss_one (ps_asg (pe_tup (pa_cons
              (pe_ix ix_list (pv 5) (pv 7) (fun _ _ => rfl))
              (pa_cons (pe_ix ix_list (pv 5) (pv 6) (fun _ _ => rfl)) pa_nil)))
            (pg_tup rfl (pgs_cons (pg_sub (pv 5) (pv 6) set_list)
              (pgs_cons (pg_sub (pv 5) (pv 7) set_list) pgs_nil)))))
          (pss_one (ps_if (pt_cmpR op_eq (pv 3) pe_int (nomark _))
            (pss_one (ps_asg (pe_op op_add_str
                (pe_ix ix_list (pv 5) (pv 6) (fun _ _ => rfl))
                (pe_ix ix_list (pv 5) (pv 7) (fun _ _ => rfl)))
              (pg_sub (pv 5) (pv 6) set_list)))
            (pss_one (ps_expr (pe_bm PySem.F.plainAttrs_list
              PySem.F.slot_list_insert PySem.F.type_list_insert mt_insert (pv 5)
              (pa_cons (pv 6) (pa_cons pe_str pa_nil))))))))))))
    (pss_one (ps_ret (pe_join pe_str (pv 5))))))))))), ?_⟩
  have hs : (SX.S x).length = x.length := SX.S_len x
  have h1 := tb.len
  have hz : (SX.S x).length ≤ sizeLine := by rw [hs]; exact sz (by omega)
  -- where, and how
  refine ⟨fun σ' H' => ∃ (i : Nat) (v : Int), σ' = [some (.ref p), some (vS x),
    some (.int i), some (.int v), none, none, none, none] ∧ Rng H' p ∧
    But p H H', ?_, ?_⟩
  · refine ⟨_, rfl, _, rfl, _, rfl, hz, _, _, rfl, rfl, p, _, rfl, rg, by
      rw [hs]; omega, by rw [hs]; omega, fun d H1 d0 d1 rg1 b1 => ?_⟩
    refine ⟨_, rfl, p, 8, rfl, rg1, by decide, by decide,
      fun e H2 e0 e1 rg2 b2 => ?_⟩
    obtain ⟨i, rfl⟩ : ∃ i : Nat, d = i := ⟨d.toNat, by omega⟩
    exact ⟨_, _, rfl, i, e, rfl, rg2, b1.trans b2⟩
  rintro _ H1 ⟨i, v, rfl, rg1, b1⟩
  -- a sign
  refine ⟨fun σ' H' => ∃ g, Sg g ∧ σ' = [some (.ref p), some (vS x),
    some (.int i), some (.int v), some (vS g), none, none, none] ∧ Rng H' p ∧
    But p H H', ?_, ?_⟩
  · refine ⟨_, rfl, sg0, by rw [sg0_S], by decide, fun q1 n1 => ?_⟩
    have nq1 : q1 ≠ p := (rg1.ne n1).symm
    have k1 : (upd H1 q1 (.lst (sgn sg0))) q1 = some (.lst (sgn sg0)) := upd_same
    have rg2 : Rng (upd H1 q1 (.lst (sgn sg0))) p := rg1.same (sameNew n1)
    have b2 : But p H (upd H1 q1 (.lst (sgn sg0))) := b1.put n1 nq1
    generalize upd H1 q1 (.lst (sgn sg0)) = H2 at k1 rg2 b2 ⊢
    refine ⟨two_le, fun q2 n2 => ?_⟩
    have nq2 : q2 ≠ p := (rg2.ne n2).symm
    have e2 : [V.str (Str.ofString "\n"), V.str (Str.ofString "bb")] =
        [vS [10], vS [98, 98]] := by rw [nl_S, bb_S]
    have k2 : (upd H2 q2 (.lst [V.str (Str.ofString "\n"),
        V.str (Str.ofString "bb")])) q2 = some (.lst [vS [10], vS [98, 98]]) := by
      rw [upd_same, e2]
    have k12 : (upd H2 q2 (.lst [V.str (Str.ofString "\n"),
        V.str (Str.ofString "bb")])) q1 = some (.lst (sgn sg0)) :=
      sameNew n2 _ _ k1
    have rg3 : Rng (upd H2 q2 (.lst [V.str (Str.ofString "\n"),
        V.str (Str.ofString "bb")])) p := rg2.same (sameNew n2)
    have b3 : But p H (upd H2 q2 (.lst [V.str (Str.ofString "\n"),
        V.str (Str.ofString "bb")])) := b2.put n2 nq2
    generalize upd H2 q2 (.lst [V.str (Str.ofString "\n"),
        V.str (Str.ofString "bb")]) = H3 at k2 k12 rg3 b3 ⊢
    refine ⟨q1, q2, _, _, rfl, rfl, k12, k2, by decide, fun q3 n3 => ?_⟩
    have nq3 : q3 ≠ p := (rg3.ne n3).symm
    refine ⟨p, q3, _, rfl, rg3.same (sameNew n3), SqL.of upd_same, nq3, by decide,
      by decide, fun y H4 hy rg4 b4 => ?_⟩
    obtain ⟨g, rfl, sg⟩ := sg_all hy
    exact ⟨g, sg, rfl, rg4, (b3.put n3 nq3).trans b4⟩
  rintro _ H2 ⟨g, sg, rfl, rg2, b2⟩
  have sgl := sg.len
  have hg : (SX.S g).length = g.length := SX.S_len g
  have hi0 : (0 : Int) ≤ (i : Nat) := by omega
  have hi1 : (0 : Int) ≤ (i : Nat) + 1 := by omega
  have eT : Txt.slice (SX.S x) none (some ((i : Nat) : Int)) =
      SX.S (x.take i) := by
    rw [SX.slice_to hi0]
    rfl
  have eD : Txt.slice (SX.S x) (some ((i : Nat) : Int)) none =
      SX.S (x.drop i) := by
    rw [SX.slice_from hi0]
    rfl
  have eD1 : Txt.slice (SX.S x) (some (((i : Nat) : Int) + 1)) none =
      SX.S (x.drop (i + 1)) := by
    rw [SX.slice_from hi1]
    rfl
  have lT : (SX.S (x.take i)).length ≤ 2000 := by
    rw [SX.S_len, List.length_take]; omega
  have lD : (SX.S (x.drop i)).length ≤ 2000 := by
    rw [SX.S_len, List.length_drop]; omega
  have lD1 : (SX.S (x.drop (i + 1))).length ≤ 2000 := by
    rw [SX.S_len, List.length_drop]; omega
  have lTg : (SX.S (x.take i) ++ SX.S g).length ≤ 3000 := by
    rw [strLen_append, hg]; omega
  have fin : ∀ (r : List Nat) (j : Nat), Sg r → i ≤ j →
      Q (.str (SX.S (x.take i) ++ SX.S r ++ SX.S (x.drop j))) H2 :=
    fun r j sr ij => by
      rw [SX.S_cat, SX.S_cat]
      exact q _ H2 (txb_cut tb ij sr) rg2 b2
  refine ⟨_, rfl, rfl, _, rfl, ite2 (fun w0 => ?_) (fun w0 => ?_)⟩
  · refine ⟨_, rfl, _, rfl, _, rfl, SX.S x, rfl, hz, ?_⟩
    rw [eT]
    refine ⟨_, rfl, _, rfl, _, _, rfl, rfl, _, rfl, SX.S x, rfl, hz, ?_⟩
    rw [eD1]
    refine ⟨_, _, rfl, rfl, sz (by omega), ?_⟩
    have := fin [] (i + 1) ⟨by simp, by simp, nofun⟩ (by omega)
    have e0 : SX.S (x.take i) ++ SX.S [] = SX.S (x.take i) := by
      rw [SX.S_cat, List.append_nil]
    rw [e0] at this
    exact this
  refine ⟨_, rfl, rfl, _, rfl, ite2 (fun w1 => ?_) (fun w1 => ?_)⟩
  · refine ⟨_, rfl, _, rfl, _, rfl, SX.S x, rfl, hz, ?_⟩
    rw [eT]
    refine ⟨_, rfl, _, _, rfl, rfl, sz (by omega), _, rfl, _, rfl, _, rfl, SX.S x,
      rfl, hz, ?_⟩
    rw [eD]
    exact ⟨_, _, rfl, rfl, sz (by omega), fin g i sg (Nat.le_refl _)⟩
  refine ⟨_, rfl, rfl, _, rfl, ite2 (fun w2 => ?_) (fun w2 => ?_)⟩
  · refine ⟨_, rfl, _, rfl, _, rfl, SX.S x, rfl, hz, ?_⟩
    rw [eT]
    refine ⟨_, rfl, _, _, rfl, rfl, sz (by omega), _, rfl, _, rfl, _, _, rfl, rfl,
      _, rfl, SX.S x, rfl, hz, ?_⟩
    rw [eD1]
    exact ⟨_, _, rfl, rfl, sz (by omega), fin g (i + 1) sg (by omega)⟩
  -- its words
  have wl := wd_len x
  have wj := wd_jl x
  have sp := tb.spc
  have w0 : ∀ l ∈ wd x, W0 l := fun l hl =>
    ⟨(wd_mem hl).1, fun d hd => tb.uni d ((wd_mem hl).2 d hd)⟩
  refine ⟨fun σ' H' => ∃ q0, σ' = [some (.ref p), some (vS x), some (.int i),
    some (.int v), some (vS g), some (.ref q0), none, none] ∧ H q0 = none ∧
    q0 ≠ p ∧ H' q0 = some (.lst ((wd x).map vS)) ∧ Rng H' p ∧ But p H H',
    ?_, ?_⟩
  · refine ⟨_, rfl, ⟨_, rfl⟩, SX.S x, _, rfl, rfl, by decide +kernel, by
      rw [hs]; exact sz (by omega), fun q0 n0 => ?_⟩
    have nq0 : q0 ≠ p := (rg2.ne n0).symm
    refine ⟨q0, rfl, b2.free nq0 n0, nq0, ?_, rg2.same (sameNew n0),
      b2.put n0 nq0⟩
    rw [upd_same, sp32, SX.split_S (by decide) (by decide), List.map_map]
    rfl
  rintro _ H3 ⟨q0, rfl, nH, nqp, k3, rg3, b3⟩
  refine ⟨fun σ' H' => ∃ a b : Nat, a < (wd x).length ∧ b < (wd x).length ∧
    σ' = [some (.ref p), some (vS x), some (.int i), some (.int v),
    some (vS g), some (.ref q0), some (.int a), some (.int b)] ∧
    H' q0 = some (.lst ((wd x).map vS)) ∧ Rng H' p ∧ But p H H', ?_, ?_⟩
  · refine ⟨_, rfl, _, rfl, q0, _, rfl, .inl (SqL.of k3), p, _, rfl, rg3, by
      rw [List.length_map]; omega, by rw [List.length_map]; omega,
      fun d H4 d0 d1 rg4 b4 => ?_⟩
    have k4 := b4 q0 _ k3 nqp
    refine ⟨_, rfl, _, rfl, q0, _, rfl, .inl (SqL.of k4), p, _, rfl, rg4, by
      rw [List.length_map]; omega, by rw [List.length_map]; omega,
      fun e H5 e0 e1 rg5 b5 => ?_⟩
    rw [List.length_map] at d1 e1
    obtain ⟨a, rfl⟩ : ∃ a : Nat, d = a := ⟨d.toNat, by omega⟩
    obtain ⟨b, rfl⟩ : ∃ b : Nat, e = b := ⟨e.toNat, by omega⟩
    exact ⟨_, _, rfl, a, b, by omega, by omega, rfl, b5 q0 _ k4 nqp, rg5,
      (b3.trans b4).trans b5⟩
  rintro _ H4 ⟨a, b, ha, hb, rfl, k4, rg4, b4⟩
  have ga : ((wd x).map vS)[a]? = some (vS (wd x)[a]) := by
    rw [List.getElem?_map, List.getElem?_eq_getElem ha]
    rfl
  have gb : ((wd x).map vS)[b]? = some (vS (wd x)[b]) := by
    rw [List.getElem?_map, List.getElem?_eq_getElem hb]
    rfl
  have wa := w0 _ (List.getElem_mem ha)
  have wb := w0 _ (List.getElem_mem hb)
  have ja := jl_mem (List.getElem_mem ha)
  have jb := jl_mem (List.getElem_mem hb)
  have hml : ((wd x).map vS).length = (wd x).length := List.length_map _
  refine ⟨fun σ' H' => ∃ ws, WsB (4 * m) (c + 1) ws ∧
    σ' = [some (.ref p), some (vS x), some (.int i), some (.int v),
    some (vS g), some (.ref q0), some (.int a), some (.int b)] ∧
    H' q0 = some (.lst (ws.map vS)) ∧ Rng H' p ∧ But p H H', ?_, ?_⟩
  · have out : ∀ (ws : List (List Nat)) (xs : List V) (H' : Hp), Same H4 H' →
        xs = ws.map vS → WsB (4 * m) (c + 1) ws →
        ∃ ws', WsB (4 * m) (c + 1) ws' ∧
        ([some (.ref p), some (vS x), some (.int i), some (.int v),
          some (vS g), some (.ref q0), some (.int a), some (.int b)] : L2.St) =
        [some (.ref p), some (vS x), some (.int i), some (.int v),
          some (vS g), some (.ref q0), some (.int a), some (.int b)] ∧
        (upd H' q0 (.lst xs)) q0 = some (.lst (ws'.map vS)) ∧
        Rng (upd H' q0 (.lst xs)) p ∧ But p H (upd H' q0 (.lst xs)) :=
      fun ws xs H' s e wb => ⟨ws, wb, rfl, by rw [upd_same, e],
        (rg4.same s).but (But.at (p := q0) (But.refl _)) nqp.symm,
        (b4.trans (But.of s)).new nH⟩
    have put : ∀ l, W0 l → l.length + 1 ≤ jl (wd x) → WsB (4 * m) (c + 1)
        ((wd x).take a ++ [l] ++ (wd x).drop a) := fun l hl hj =>
      wsb_of tb (by rw [jl_put]; omega) (by
        rw [List.length_append, List.length_append, List.length_take,
          List.length_drop, List.length_singleton]
        omega) fun y hy => by
        rcases List.mem_append.mp hy with z | z
        · rcases List.mem_append.mp z with z | z
          · exact w0 y (List.mem_of_mem_take z)
          · rw [List.mem_singleton.mp z]
            exact hl
        · exact w0 y (List.mem_of_mem_drop z)
    have putE : ∀ l, ((wd x).map vS).take a ++ [vS l] ++ ((wd x).map vS).drop a =
        ((wd x).take a ++ [l] ++ (wd x).drop a).map vS := fun l => by
      rw [List.map_append, List.map_append, List.map_take, List.map_drop]
      rfl
    refine ⟨_, rfl, rfl, _, rfl, ite2 (fun w3 => ?_) (fun w3 => ?_)⟩
    · exact ⟨_, rfl, .inl ⟨rfl, _, SqL.of k4⟩, _, rfl, _, rfl, _, rfl, q0, _, _,
        vS (wd x)[b], rfl, rfl, SqL.of k4, atI_nat (j := b) gb, q0, _, a,
        vS (wd x)[b], rfl, rfl, k4, by rw [hml]; exact sz' (by omega), by omega,
        by omega, out _ _ H4 (Same.refl _) (putE _) (put _ wb jb)⟩
    refine ⟨_, rfl, rfl, _, rfl, ite2 (fun w4 => ?_) (fun w4 => ?_)⟩
    · exact ⟨_, rfl, .inl ⟨rfl, _, SqL.of k4⟩, _, rfl, q0, _, a, a,
        vS (wd x)[a], rfl, rfl, k4, by omega, by omega,
        seqIndex_of (by omega) (by rw [hml]; omega), ga,
        out ((wd x).eraseIdx a) _ H4 (Same.refl _) (erase_map ..)
          (wsb_of tb (by have := jl_erase (wd x) a; omega) (by
            rw [List.length_eraseIdx]
            split <;> omega) fun l hl => w0 l (List.mem_of_mem_eraseIdx hl))⟩
    refine ⟨_, rfl, rfl, _, rfl, ite2 (fun w5 => ?_) (fun w5 => ?_)⟩
    · refine ⟨_, rfl, _, rfl, q0, _, _, vS (wd x)[b], rfl, rfl, SqL.of k4,
        atI_nat (j := b) gb, _, rfl, _, rfl, q0, _, _, vS (wd x)[a], rfl, rfl,
        SqL.of k4, atI_nat (j := a) ga, two_le, fun t2 nt => ?_⟩
      have s5 : Same H4 (upd H4 t2 (.tup [vS (wd x)[b], vS (wd x)[a]])) :=
        sameNew nt
      have k5 := s5 _ _ k4
      have t5 : (upd H4 t2 (.tup [vS (wd x)[b], vS (wd x)[a]])) t2 =
        some (.tup [vS (wd x)[b], vS (wd x)[a]]) := upd_same
      generalize upd H4 t2 (.tup [vS (wd x)[b], vS (wd x)[a]]) = H5 at s5 k5 t5 ⊢
      refine ⟨t2, _, rfl, .inl (.inl t5), rfl, _, _, rfl, _, rfl, _, rfl, q0,
        _, a, a, rfl, rfl, k5, ixN_at (by rw [hml]; omega), _, _, rfl, _, rfl,
        _, rfl, q0, _, b, b, rfl, rfl, upd_same, ixN_at (by
          rw [List.length_set, hml]; omega), rfl, ?_⟩
      rw [upd_twice]
      refine out (((wd x).set a (wd x)[b]).set b (wd x)[a]) _ H5 s5 (by
        rw [List.map_set, List.map_set]) (wsb_of tb ?_ ?_ fun l hl => ?_)
      · have z1 := jl_set ((wd x).set a (wd x)[b]) b (wd x)[a]
        have z2 := jl_set (wd x) a (wd x)[b]
        omega
      · rw [List.length_set, List.length_set]
        omega
      · rcases List.mem_or_eq_of_mem_set hl with z | rfl
        · rcases List.mem_or_eq_of_mem_set z with z | rfl
          · exact w0 l z
          · exact wb
        · exact wa
    refine ⟨_, rfl, rfl, _, rfl, ite2 (fun w6 => ?_) (fun w6 => ?_)⟩
    · have e1 : (SX.S (wd x)[a]).length = (wd x)[a].length := SX.S_len _
      have e2 : (SX.S (wd x)[b]).length = (wd x)[b].length := SX.S_len _
      refine ⟨_, rfl, _, rfl, q0, _, _, vS (wd x)[a], rfl, rfl, SqL.of k4,
        atI_nat (j := a) ga, _, rfl, _, rfl, q0, _, _, vS (wd x)[b], rfl, rfl,
        SqL.of k4, atI_nat (j := b) gb, _, _, rfl, rfl, by
          rw [e1, e2]; exact sz (by omega), _, rfl, _, rfl, q0, _, a, a, rfl,
        rfl, k4, ixN_at (by rw [hml]; omega), ?_⟩
      rw [SX.S_cat]
      refine out ((wd x).set a ((wd x)[a] ++ (wd x)[b])) _ H4 (Same.refl _) (by
        rw [List.map_set]) (wsb_of tb ?_ ?_ fun l hl => ?_)
      · have z2 := jl_set (wd x) a ((wd x)[a] ++ (wd x)[b])
        rw [List.length_append] at z2
        omega
      · rw [List.length_set]
        omega
      · rcases List.mem_or_eq_of_mem_set hl with z | rfl
        · exact w0 l z
        · exact wa.cat wb
    exact ⟨_, rfl, .inl ⟨rfl, _, SqL.of k4⟩, _, rfl, q0, _, a,
      vS [], rfl, rfl, k4, by rw [hml]; exact sz' (by omega), by omega,
      by omega, out _ _ H4 (Same.refl _) (putE _) (put [] ⟨by simp, nofun⟩ (by
        show 0 + 1 ≤ _
        omega))⟩
  rintro _ H5 ⟨ws, wsb, rfl, k5, rg5, b5⟩
  have b1' := wsb.jl
  have b2' := wsb.len
  refine ⟨⟨_, rfl⟩, _, rfl, _, q0, ws.map SX.S, rfl, rfl, .inl (SqL.of (by
    rw [map_strS]; exact k5)), ?_, ?_⟩
  · have := sum_S ws
    have e3 : (Str.ofString " ").length = 1 := by decide +kernel
    rw [e3, List.length_map]
    omega
  · rw [sp32, SX.join_S [32] ws]
    exact q _ H5 (join_txb wsb.jl wsb.len wsb.nsp wsb.uni) rg5 b5
end
end OM
namespace OM
open PySem PySem.Spec PyProof.Rows L2
theorem bt_LE : bootBuiltins "LookupError" = some (.type "LookupError") := by
  decide +kernel
theorem bt_VE' : bootBuiltins "ValueError" = some (.type "ValueError") := by
  decide +kernel
/-- what is known of the errors' classes -/
structure XT (K : PySem.W.Frag) (mg : Str → Option Value)
    (CI CO CV CT : Addr) : Prop where
  cl : XCl K CT
  mI : mg "InvalidBase" = some (.ref CI)
  mO : mg "OrderError" = some (.ref CO)
  mV : mg "InvalidOrder" = some (.ref CV)
  mT : mg "InvalidText" = some (.ref CT)
  mE : mg "ValueError" = none
  mL : mg "LookupError" = none
  ex : PySem.W.exmOne K (.ref CT) (.ref CT) = some true
  kA : PySem.W.kitAny K (.ref CT)
    [.ref CI, .ref CV, .type "LookupError"] = some false
  kO : PySem.W.kitOne K (.ref CT) (.ref CO) = some true
  kE : PySem.W.kitOne K (.ref CT) (.type "ValueError") = some true
  n1 : PySem.W.findIn K (.ref CT) "line" = some none
/-- a suite, read where there are as many letters as there are -/
def tLen (n : Nat) (t : TS) : TS := fun D σ H => σ.length = n → t D σ H
theorem pss_len {X : Cx} {ss : List Stmt} {t : TS} {n : Nat}
    (hn : X.N.length = n) (h : PSs X ss t) : PSs X ss (tLen n t) :=
  ⟨fun pins s σ H D I w => h.run pins s σ H D I (w (I.len.trans hn))⟩
theorem pss_ex {X : Cx} {ss : List Stmt} {α : Type} {c : α → Prop}
    {t : α → TS} (h : ∀ a, c a → PSs X ss (t a)) :
    PSs X ss (fun D σ H => ∃ a, c a ∧ t a D σ H) :=
  ⟨fun pins s σ H D I ⟨a, ca, w⟩ => (h a ca).run pins s σ H D I w⟩
/-- what told makes of the call that it is handed -/
def TTt (CT : Addr) : (XK → Hp → VK → Prop) → Hp → VK → Prop := fun tl H Q =>
  ∀ H0, Same H H0 → tl (fun cls d H' => ∃ (dd : Addr) (n : Nat),
      cls = .ref CT ∧ d = some dd ∧ H' dd = some (.xd [("line", .int n)]) ∧
      NewP H' Q ("text", n)) H0
    (fun v H1 => [V.str "returned", v].length ≤ sizeLine ∧ ∀ t, H1 t = none →
      ∃ u, some (some (V.ref t)) = some (some u) ∧
        Q u (upd H1 t (.tup [.str "returned", v])))
section
variable {X : Cx} {CI CO CV CT : Addr}
theorem told_to (B : Bl X.mg) (T : XT X.K X.mg CI CO CV CT) {q : Str}
    {g : Addr} {cdg : Value} :
    LamX.GivesTo X N_Ltold "_law_told" (defScope s_Ltold) g cdg
      (defBody s_Ltold) "_law_call" q (TTt CT) := by
  intro f c' s H Q tl act hc h
  have nd := sc_Ltold.nd
  rcases X with ⟨P, w, K, mg, base, A, N, s0, H0, env, outer, stack, ex, fn,
    calm, pn0, xe0⟩
  have T : XT K mg CI CO CV CT := T
  have B : Bl mg := B
  refine ⟨_, pss_cons (ps_set (i := 1) nd rfl (.inl rfl)
      (pe_tup (pa_cons pe_str (pa_cons pe_non pa_nil))))
    (pss_cons (ps_try_as (i := 2)
      (X := (cxOf C8.CX0 P w K mg base N_Ltold "_law_told"
        (defScope s_Ltold) g cdg A stack s H C8.E0).nox)
      rfl rfl nd rfl rfl ⟨rfl, by decide, .inl T.mT⟩ LamX.takes0
      (fun W pn xe tk _ => pss_ex (α := XK)
        (c := fun Ech => ∀ cls d σ' H', Ech cls d H' → W cls d σ' H')
        fun Ech hW => pss_one (ps_set (i := 1) nd rfl (.inl rfl) (pe_tup
          (pa_cons pe_str (pa_cons (act W pn xe Ech _ _ tk hW) pa_nil)))))
      (fun a oe cls d pn hz hf => pss_len
        (X := (cxOf C8.CX0 P w K mg base N_Ltold "_law_told"
          (defScope s_Ltold) g cdg A stack s H C8.E0).nox.suite a
          ((a, oe) :: pn)) (n := 4) rfl (pss_cons (ps_set (i := 3) nd rfl
          (.inl rfl) (pe_callB (call_isXT hz hf) (by rfl) B.isi bt_isi
          (pa_cons (pv 2) (pa_cons (pe_tup (pa_cons
            (pe_glob (v := .ref CI) (by rfl) T.mI rfl) (pa_cons
            (pe_glob (v := .ref CV) (by rfl) T.mV rfl) (pa_cons
            (pe_bltn (v := .ty "LookupError") (by rfl) T.mL bt_LE rfl)
            pa_nil)))) pa_nil))))
        (pss_one (ps_if (PW.pt (pw_and (pt_val
            (pe_callB (call_isX hz hf) (by rfl) B.isi bt_isi
              (pa_cons (pv 2) (pa_cons (pe_glob (v := .ref CO) (by rfl) T.mO rfl)
                pa_nil))))
            (pw_and (pt_val (pe_callB (call_isX hz hf) (by rfl) B.isi bt_isi
              (pa_cons (pv 2) (pa_cons (pe_bltn (v := .ty "ValueError") (by rfl)
                T.mE bt_VE' rfl) pa_nil))))
            (pw_and1 (pt_not (pt_val (pv 3)))))))
          (pss_one (ps_set (i := 1) nd rfl (.inl rfl) (pe_tup (pa_cons pe_str
            (pa_cons (pe_xf T.cl.xf T.n1 hz hf (pv 2)) pa_nil)))))
          pss_nil)))))
    (pss_one (ps_ret (pv 1)))), ?_⟩
  refine ⟨two_le, fun p0 n0 => ?_⟩
  refine ⟨fun cls d H' => ∃ (dd : Addr) (n : Nat),
      cls = .ref CT ∧ d = some dd ∧ H' dd = some (.xd [("line", .int n)]) ∧
      NewP H' Q ("text", n), ?_, ?_⟩
  · rintro cls d σ' H' ⟨dd, n, rfl, rfl, hd, np⟩
    refine ⟨true, T.ex, fun _ a na => ?_, fun z => nomatch z⟩
    intro hl
    rw [List.length_set] at hl
    obtain ⟨x0, x1, x2, x3, rfl⟩ : ∃ x0 x1 x2 x3, σ' = [x0, x1, x2, x3] := by
      match σ', hl with
      | [x0, x1, x2, x3], _ => exact ⟨_, _, _, _, rfl⟩
    refine ⟨_, rfl, by show 3 ≤ sizeLine; decide, fun tp ntp => ?_⟩
    have hd4 : ∀ o, (upd H' tp o) dd = some (.xd [("line", .int n)]) := fun o => by
      rw [upd_ne (ne_of_none hd ntp)]; exact hd
    refine ⟨CT, dd, tp, _, _, _, false, T.cl, rfl, rfl, hd4 _, rfl, upd_same,
      .cons (.own _) (.cons (.own _) (.cons (.ty _) .nil)), T.kA, ?_⟩
    refine ⟨_, rfl, CT, dd, _, _, _, true, T.cl, rfl, rfl, hd4 _, rfl, .own _,
      T.kO, _, rfl, iteT ?_⟩
    refine ⟨_, rfl, CT, dd, _, _, _, true, T.cl, rfl, rfl, hd4 _, rfl, .ty _,
      T.kE, _, rfl, iteT ?_⟩
    refine ⟨_, rfl, _, rfl, iteT ?_⟩
    refine ⟨_, rfl, rfl, rfl, dd, _, _, rfl, hd4 _, rfl, two_le,
      fun t nt => ?_⟩
    refine ⟨_, rfl, ?_⟩
    exact (np.back (sameNew ntp)).at_ t nt
  · refine ⟨rfl, sameNew n0 _ _ hc, ?_⟩
    exact h _ (sameNew (o := .tup [.str "other", .non]) n0)
end
end OM
namespace OM
open PySem PySem.Spec PyProof.Rows L2
structure Shw (d : PyData) : Prop where
  sh : d.showable = true
  dp : d.depth ≤ 60
  sz : d.shown.length ≤ sizeLine
def pairD (r : Str × Nat) : PyData := .tuple [.str r.1, .int (r.2 : Nat)]
theorem big_line : 10005000 ≤ sizeLine := by decide
theorem log_small {n : Nat} (h : n < 10 ^ 9) : n.log2 < 1920 := by
  by_cases e : n = 0
  · subst e
    decide
  · refine (Nat.log2_lt e).mpr (Nat.lt_trans h ?_)
    calc (10 : Nat) ^ 9 < 2 ^ 30 := by decide
      _ ≤ 2 ^ 1920 := Nat.pow_le_pow_right (by decide) (by decide)
theorem pair_shw {r : Str × Nat} (h1 : (reprText r.1).length ≤ 100)
    (h2 : r.2 < 10 ^ 9) : Shw (pairD r) := by
  refine ⟨?_, ?_, ?_⟩
  · unfold pairD
    simp only [PyData.showable, PyData.showableAll, Bool.true_and,
      Bool.and_true]
    exact decide_eq_true (log_small (by simpa using h2))
  · unfold pairD
    simp only [PyData.depth, PyData.depthAll]
    omega
  · unfold pairD
    simp only [PyData.shown, PyData.shownAll]
    refine Nat.le_trans (tupleText_len_le _) (Nat.le_trans ?_ big_line)
    have h3 : (Str.ofString (toString ((r.2 : Nat) : Int))).length ≤ 10 :=
      PyProof.Rows.toString_length_le (by omega) (by decide) (by omega)
    simp only [List.map_cons, List.map_nil, List.sum_cons, List.sum_nil,
      List.length_cons, List.length_nil]
    omega
def retD (ls : List (List Nat)) : PyData :=
  .tuple [.str "returned", .list (dN ls)]
theorem sum2_piled (ts : List Str) :
    (ts.map (·.length)).sum + 2 * ts.length = piled ts := by
  induction ts with
  | nil => rfl
  | cons t ts ih =>
    rw [piled_cons, List.map_cons, List.sum_cons, List.length_cons]
    omega
theorem Good.shown2 {ls : List (List Nat)} (g : Good ls) :
    (PyData.list (dN ls)).shown.length ≤ 4000 := by
  have e : (PyData.list (dN ls)).shown =
      listText (PyData.shownAll (dN ls)) := by simp only [PyData.shown]
  have p := piled_N ls 8 fun l h => ⟨(g.nm l h).hi, (g.nm l h).uni⟩
  have q := listText_len_le (PyData.shownAll (dN ls))
  rw [e]
  have r := sum2_piled (PyData.shownAll (dN ls))
  have s : ls.length * (10 * 8 + 4) ≤ 40 * 84 :=
    Nat.mul_le_mul g.hi (Nat.le_refl _)
  omega
theorem ret_shw {ls : List (List Nat)} (g : Good ls) : Shw (retD ls) := by
  refine ⟨?_, ?_, ?_⟩
  · unfold retD
    simp only [PyData.showable, PyData.showableAll, Bool.true_and,
      Bool.and_true]
    exact showable_N ls
  · unfold retD
    have h := depth_N ls
    simp only [PyData.depth, PyData.depthAll]
    omega
  · unfold retD
    have h := g.shown2
    have h0 : (reprText (Str.ofString "returned")).length ≤ 100 := by
      decide +kernel
    simp only [PyData.shown, PyData.shownAll] at h ⊢
    refine Nat.le_trans (tupleText_len_le _) (Nat.le_trans ?_ big_line)
    simp only [List.map_cons, List.map_nil, List.sum_cons, List.sum_nil,
      List.length_cons, List.length_nil]
    omega
theorem text_shw {n : Nat} (h : n < 10) : Shw (pairD ("text", n)) :=
  pair_shw (by
    show (reprText (Str.ofString "text")).length ≤ 100
    decide +kernel) (by show n < _; omega)
theorem dp_pair {K : PySem.W.Frag} {H : Hp} {T : Addr} {r : Str × Nat}
    (h : H T = some (.tup [.str r.1, .int (r.2 : Nat)])) :
    Dp K H (.ref T) (pairD r) :=
  .tup (.inl (.inl h)) (.cons (.str _) (.cons (.int _) .nil))
theorem dp_ret {K : PySem.W.Frag} {H : Hp} {T L : Addr} {ws : List (List Nat)}
    (h : H T = some (.tup [.str "returned", .ref L]))
    (hl : H L = some (.lst (ws.map vS))) : Dp K H (.ref T) (retD ws) :=
  .tup (.inl (.inl h)) (.cons (.str _) (.cons (dp_N (SqL.of hl)) .nil))
/-! ### all but the tables stays -/
theorem BaseAt.ext {C b : Addr} {H H' : Hp} {ls : List (List Nat)}
    (x : BaseAt C H b ls) (s : LamX.ExtN H H') : BaseAt C H' b ls := by
  obtain ⟨dx, lo, d, h1, h2, h3⟩ := x.ob
  exact ⟨dx, lo, d, s _ _ h1 nofun, s _ _ h2 nofun, s _ _ h3 nofun⟩
theorem NoT.ext {K : PySem.W.Frag} {H H' : Hp} {v : V} (h : NoT K H v)
    (s : LamX.ExtN H H') : NoT K H' v := by
  obtain ⟨t, a, b⟩ := h
  refine ⟨t, ?_, b⟩
  cases a with
  | non => exact .non
  | bl x => exact .bl x
  | int i => exact .int i
  | str x => exact .str x
  | flt x => exact .flt x
  | lst e => exact .lst (s _ _ e nofun)
  | frz e => exact .frz (s _ _ e nofun)
  | tup e => exact .tup (s _ _ e nofun)
  | dK e => exact .dK (s _ _ e nofun)
  | dT e => exact .dT (s _ _ e nofun)
  | ins e cl ha hn ht hm => exact .ins (s _ _ e nofun) cl ha hn ht hm
theorem ext_same {H H' : Hp} (s : Same H H') : LamX.ExtN H H' :=
  LamX.ExtN.of s
end OM
namespace OM
open PySem PySem.Spec PyProof.Rows L2
section
variable {P : Program} {w : World} {K : PySem.W.Frag}
  {mg : Str → Option Value} {base : Heap}
/-- a def whose code object is known -/
theorem okGc {x qual : Str} {st : Stmt} {f : Addr} {fd : FuncData}
    {N ps : List Str} {k : Nat} {sp : Sp} {c : Addr}
    (F : Fun K x qual st f fd) (S : FnScope N ps (defScope st))
    (hcode : fd.code = .ref c)
    (len : ∀ vs H Q E, sp vs H Q E → vs.length = ps.length)
    (body : ∀ (A : Around) (outer : List Env) (s : Shared)
        (H : Hp) (vs : List V) (Q : VK) (E : XK),
      Room k (A.deeper (envOfC qual (defScope st) s.heap.objs.size f (.ref c))) →
      A.guards = some [] → sp vs H Q E →
      ∃ t, PSs (cxOf CX0 P w K mg base N qual (defScope st) f (.ref c) A
          outer s H E).nox (defBody st) t ∧
        t { nx := fun _ H' => Q .non H', rt := Q } (start N vs) H) :
    FnG P w K mg base CX0 (k + 1) f fd ps sp := by
  obtain ⟨oc, od, kV, dc, pm, an, cv, ct, sl, rfl, lk, hc⟩ := F.ex
  have e : cv = .ref c := hcode
  subst e
  refine FnG.mk' lk hc S len ?_
  intro A outer s H vs Q E room gd hsp
  obtain ⟨t, h, q⟩ := body A outer s H vs Q E room gd hsp
  exact ⟨t, h.nox, q⟩
end
/-- the lambdas' name -/
abbrev lamQ : Str :=
  (envOfC "_law_text_right" (defScope s_Ltext_right) 0 0 .none).qual ++ "<lambda>"
/-- the value that is asked about -/
def Asked (K : PySem.W.Frag) (H : Hp) (v : V) : Prop :=
  NoT K H v ∨ ∃ x, v = vS x ∧ Txt0 x ∧ Uni (wd x)
def spTR (K : PySem.W.Frag) (C : Addr) (T : List (Addr × Str)) : Sp :=
  fun vs H Q _ => ∃ (b it : Addr) (ls : List (List Nat)) (v : V),
  vs = [.ref b, .ref it, v] ∧ BaseAt C H b ls ∧ Good ls ∧
  H it = some (.lst (ls.map vS)) ∧ Asked K H v ∧ LamX.Tabs T H ∧
  ∀ H', LamX.ExtN H H' → LamX.Tabs T H' → Q (.bl true) H'
section
variable {P : Program} {w : World} {K : PySem.W.Frag}
  {mg : Str → Option Value} {base : Heap} {C CI CO CV CT : Addr}
theorem ok_tr {f g c PT : Addr} {fd fg : FuncData} {k : Nat}
    {T : List (Addr × Str)}
    (F : Fun K "_law_text_right" "_law_text_right" s_Ltext_right f fd)
    (hcode : fd.code = .ref c) (B : Bl mg) (XX : XT K mg CI CO CV CT)
    (Fg : Fun K "_law_told" "_law_told" s_Ltold g fg)
    (mg_ : mg "_law_told" = some (.ref g))
    (kg : PySem.W.keepIn K (.ref g) = true) (bg : Binds K fg ["_law_call"] [])
    (TB : LamX.TabB base mg c PT)
    (hmT : (PT, lamQ) ∈ T) (huT : ∀ p ∈ T, p.1 = PT → p.2 = lamQ)
    (Cb : Cal P w K mg base k "_law_base_due" ["_law_text"] (spBdue K))
    (Co : Cal P w K mg base k "_law_order_due" ["_law_items", "_law_text"]
      (spOdue K))
    (Cl : CalE (L2.CX P w) P w K mg base k "load_base" ["text"]
      (spLoadBX K C CT))
    (Cm : CalE (L2.CX P w) P w K mg base k "load_order" ["base", "text"]
      (spLoadOX K C CT))
    (Mn : CalM P w K mg base C k "names" ["self"] (spGetNames C)) :
    FnG P w K mg base CX0 (k + 3) f fd
      ["_law_base", "_law_items", "_law_text"] (spTR K C T) := by
  refine okGc F sc_Ltext_right hcode (fun vs H Q E h => ?_)
    (fun A outer s H vs Q E hr gd h => ?_)
  · obtain ⟨b, it, ls, v, rfl, _⟩ := h
    rfl
  obtain ⟨b, it, ls, v, rfl, hb, go, hi, as, tb, q⟩ := h
  obtain ⟨oc, od, kV, dc, pm, an, cv, ct, sl, rfl, lk, hcd⟩ := Fg.ex
  have nd := sc_Ltext_right.nd
  have hrk := hr.mono (show k ≤ k + 2 by omega)
  refine ⟨_, pss_cons (ps_if (pt_cmpR op_ne
      (pe_mid (pe_callB (call_reprD hr gd) (by rfl) B.repr bt_repr (pa_cons
        (LamX.pe_lamcall (T := T) (k := k) (by rfl) mg_ kg lk hcd bg sc_Ltold
          rfl (.inl rfl) (told_to B XX) TB rfl hmT huT hr
          (LamX.lamS_by (sc := defScope s_Ltext_right)
            (by decide +kernel)) rfl (fun _ _ _ _ _ => rfl)
          (fun A outer s H E f c' hr2 => pe_calM0 Mn hr2
            (pe_calE Cl hr2 (passes_call (takes_of rfl rfl rfl rfl)
              (fun _ _ _ _ z => z)) (pa_cons (pv 2) pa_nil)))) pa_nil)))
      (pe_mid (pe_callB (call_reprD hr gd) (by rfl) B.repr bt_repr (pa_cons
        (pe_cal Cb hrk (pa_cons (pv 2) pa_nil)) pa_nil))) (nomark _))
      (pss_one (ps_ret pe_bl)) pss_nil)
    (pss_one (ps_ret (pe_cmpR op_eq
      (pe_mid (pe_callB (call_reprD hr gd) (by rfl) B.repr bt_repr (pa_cons
        (LamX.pe_lamcall (T := T) (k := k) (by rfl) mg_ kg lk hcd bg sc_Ltold
          rfl (.inl rfl) (told_to B XX) TB rfl hmT huT hr
          (LamX.lamS_by (sc := defScope s_Ltext_right)
            (by decide +kernel)) rfl (fun _ _ _ _ _ => rfl)
          (fun A outer s H E f c' hr2 =>
            (pe_calE Cm hr2 (passes_call (takes_of rfl rfl rfl rfl)
              (fun _ _ _ _ z => z)) (pa_cons (pv 0) (pa_cons (pv 2) pa_nil)))))
          pa_nil)))
      (pe_mid (pe_callB (call_reprD hr gd) (by rfl) B.repr bt_repr (pa_cons
        (pe_cal Co hrk (pa_cons (pv 1) (pa_cons (pv 2) pa_nil))) pa_nil)))
      (nomark _)))), ?_⟩
  -- what is told of a base, what of an order
  obtain ⟨dB, shB, toldB, dueB⟩ : ∃ dB : PyData, Shw dB ∧
      (∀ (H1 : Hp) (Q' : VK) (E' : XK), LamX.ExtN H H1 →
        (∀ n H2, Same H1 H2 → pairD ("text", n) = dB →
          ∀ d, H2 d = some (.xd [("line", .int (n : Nat))]) →
          E' (.ref CT) (some d) H2) →
        (∀ q H2 ws, Same H1 H2 → retD ws = dB → BaseAt C H2 q ws → Good ws →
          Q' (.ref q) H2) → spLoadBX K C CT [v] H1 Q' E') ∧
      (∀ (H1 : Hp) (Q' : VK) (E' : XK), LamX.ExtN H H1 →
        (∀ r H2, Same H1 H2 → Dp K H2 r dB → Q' r H2) →
        spBdue K [v] H1 Q' E') := by
    rcases as with nt | ⟨x, rfl, tx, un⟩
    · refine ⟨pairD ("text", 0), text_shw (by decide), fun H1 Q' E' x1 hE hQ =>
        ⟨v, rfl, .inl ⟨nt.ext x1, fun d H2 _ e s => hE 0 H2 s rfl d e⟩⟩,
        fun H1 Q' E' x1 hQ => ⟨v, rfl, .inl ⟨nt.ext x1, fun T' H2 _ e s =>
          hQ _ H2 s (dp_pair e)⟩⟩⟩
    · by_cases gw : Good (wd x)
      · exact ⟨retD (wd x), ret_shw gw, fun H1 Q' E' x1 hE hQ =>
          ⟨_, rfl, .inr ⟨x, rfl, tx, fun g q H2 _ hB s => hQ q H2 _ s rfl hB g,
            fun ng => absurd gw ng⟩⟩,
          fun H1 Q' E' x1 hQ => ⟨_, rfl, .inr ⟨x, rfl, tx,
            fun g T' L H2 _ e e2 s => hQ _ H2 s (dp_ret e e2),
            fun ng => absurd gw ng⟩⟩⟩
      · exact ⟨pairD ("text", 1), text_shw (by decide), fun H1 Q' E' x1 hE hQ =>
          ⟨_, rfl, .inr ⟨x, rfl, tx, fun g => absurd g gw,
            fun _ d H2 _ e s => hE 1 H2 s rfl d e⟩⟩,
          fun H1 Q' E' x1 hQ => ⟨_, rfl, .inr ⟨x, rfl, tx,
            fun g => absurd g gw, fun _ T' H2 _ e s => hQ _ H2 s (dp_pair e)⟩⟩⟩
  obtain ⟨dO, shO, toldO, dueO⟩ : ∃ dO : PyData, Shw dO ∧
      (∀ (H1 : Hp) (Q' : VK) (E' : XK), LamX.ExtN H H1 →
        (∀ n H2, Same H1 H2 → pairD ("text", n) = dO →
          ∀ d, H2 d = some (.xd [("line", .int (n : Nat))]) →
          E' (.ref CT) (some d) H2) →
        (∀ q H2 ws, Same H1 H2 → retD ws = dO →
          H2 q = some (.lst (ws.map vS)) → Q' (.ref q) H2) →
        spLoadOX K C CT [.ref b, v] H1 Q' E') ∧
      (∀ (H1 : Hp) (Q' : VK) (E' : XK), LamX.ExtN H H1 →
        (∀ r H2, Same H1 H2 → Dp K H2 r dO → Q' r H2) →
        spOdue K [.ref it, v] H1 Q' E') := by
    rcases as with nt | ⟨x, rfl, tx, un⟩
    · refine ⟨pairD ("text", 0), text_shw (by decide), fun H1 Q' E' x1 hE hQ =>
        ⟨b, ls, v, rfl, hb.ext x1, go, .inl ⟨nt.ext x1,
          fun d H2 _ e s => hE 0 H2 s rfl d e⟩⟩,
        fun H1 Q' E' x1 hQ => ⟨it, ls, v, rfl, x1 _ _ hi nofun, go,
          .inl ⟨nt.ext x1, fun T' H2 _ e s => hQ _ H2 s (dp_pair e)⟩⟩⟩
    · by_cases pm : (wd x).Perm ls
      · exact ⟨retD (wd x), ret_shw (go.perm pm), fun H1 Q' E' x1 hE hQ =>
          ⟨b, ls, _, rfl, hb.ext x1, go, .inr ⟨x, rfl, tx,
            fun g q H2 _ hB s => hQ q H2 _ s rfl hB,
            fun ng => absurd pm ng⟩⟩,
          fun H1 Q' E' x1 hQ => ⟨it, ls, _, rfl, x1 _ _ hi nofun, go,
            .inr ⟨x, rfl, tx, un, fun g T' L H2 _ e e2 s =>
              hQ _ H2 s (dp_ret e e2), fun ng => absurd pm ng⟩⟩⟩
      · exact ⟨pairD ("text", 1), text_shw (by decide), fun H1 Q' E' x1 hE hQ =>
          ⟨b, ls, _, rfl, hb.ext x1, go, .inr ⟨x, rfl, tx,
            fun g => absurd g pm, fun _ d H2 _ e s => hE 1 H2 s rfl d e⟩⟩,
          fun H1 Q' E' x1 hQ => ⟨it, ls, _, rfl, x1 _ _ hi nofun, go,
            .inr ⟨x, rfl, tx, un, fun g => absurd g pm,
              fun _ T' H2 _ e s => hQ _ H2 s (dp_pair e)⟩⟩⟩
  refine ⟨fun v' H' => v' = .str dB.shown ∧ LamX.ExtN H H' ∧ LamX.Tabs T H',
    ?_, ?_⟩
  · refine ⟨tb, fun H1 x1 t1 H0 s0 => ?_⟩
    have x0 : LamX.ExtN H H0 := x1.trans (ext_same s0)
    have t0 : LamX.Tabs T H0 := t1.ext s0
    refine ⟨_, rfl, ?_⟩
    dsimp only [tNil, List.append_nil]
    refine toldB H0 _ _ x0 (fun n H2 s e d hd => ?_)
      (fun q0 H2 ws s e hB g => ?_)
    · exact ⟨d, n, rfl, rfl, hd, fun T' H3 n3 e3 s3 => ⟨_, dB, rfl,
        e ▸ dp_pair e3, shB.sh, shB.dp, shB.sz, rfl,
        x0.trans (ext_same (s.trans s3)), t0.ext (s.trans s3)⟩⟩
    · obtain ⟨dx', lo, dd, h1, h2, h3⟩ := hB.ob
      refine ⟨q0, dx', _, rfl, h1, bf_no _ _ (by decide +kernel)
        (by decide +kernel), q0, ws, rfl, hB, fun nn H3 nnn hn s3 => ⟨two_le,
        fun t nt => ⟨_, rfl, ?_⟩⟩⟩
      have s4 := (s.trans s3).trans
        (sameNew (o := .tup [.str "returned", .ref nn]) nt)
      exact ⟨_, dB, rfl, e ▸ dp_ret upd_same
        (by rw [upd_ne (ne_of_none hn nt)]; exact hn), shB.sh, shB.dp, shB.sz,
        rfl, x0.trans (ext_same s4), t0.ext s4⟩
  rintro _ H1 ⟨rfl, x1, t1⟩
  refine ⟨fun v' H' => v' = .str dB.shown ∧ LamX.ExtN H H' ∧ LamX.Tabs T H',
    ?_, ?_⟩
  · refine ⟨_, rfl, ?_⟩
    show spBdue K [v] H1 _ E0
    exact dueB H1 _ E0 x1 fun r H2 s dp => ⟨_, dB, rfl, dp, shB.sh, shB.dp,
      shB.sz, rfl, x1.trans (ext_same s), t1.ext s⟩
  rintro _ H2 ⟨rfl, x2, t2⟩
  refine ⟨rfl, _, rfl, ?_⟩
  rw [decide_eq_true rfl]
  refine iteF ?_
  refine ⟨fun v' H' => v' = .str dO.shown ∧ LamX.ExtN H H' ∧ LamX.Tabs T H',
    ?_, ?_⟩
  · refine ⟨t2, fun H3 x3 t3 H0 s0 => ?_⟩
    have x0 : LamX.ExtN H H0 := (x2.trans x3).trans (ext_same s0)
    have t0 : LamX.Tabs T H0 := t3.ext s0
    refine ⟨_, rfl, _, rfl, ?_⟩
    dsimp only [tNil, List.append_nil]
    refine toldO H0 _ _ x0 (fun n H2 s e d hd => ?_)
      (fun q0 H2 ws s e hn => ⟨two_le, fun t nt => ⟨_, rfl, ?_⟩⟩)
    · exact ⟨d, n, rfl, rfl, hd, fun T' H3 n3 e3 s3 => ⟨_, dO, rfl,
        e ▸ dp_pair e3, shO.sh, shO.dp, shO.sz, rfl,
        x0.trans (ext_same (s.trans s3)), t0.ext (s.trans s3)⟩⟩
    · have s4 := s.trans
        (sameNew (o := .tup [.str "returned", .ref q0]) nt)
      exact ⟨_, dO, rfl, e ▸ dp_ret upd_same
        (by rw [upd_ne (ne_of_none hn nt)]; exact hn), shO.sh, shO.dp, shO.sz,
        rfl, x0.trans (ext_same s4), t0.ext s4⟩
  rintro _ H3 ⟨rfl, x3, t3⟩
  refine ⟨fun v' H' => v' = .str dO.shown ∧ LamX.ExtN H H' ∧ LamX.Tabs T H',
    ?_, ?_⟩
  · refine ⟨_, rfl, _, rfl, ?_⟩
    show spOdue K [.ref it, v] H3 _ E0
    exact dueO H3 _ E0 x3 fun r H2 s dp => ⟨_, dO, rfl, dp, shO.sh,
      shO.dp, shO.sz, rfl, x3.trans (ext_same s), t3.ext s⟩
  rintro _ H4 ⟨rfl, x4, t4⟩
  refine ⟨rfl, ?_⟩
  rw [decide_eq_true rfl]
  exact q H4 x4 t4
end
end OM
namespace OM
open PySem PySem.Spec PyProof.Rows L2
def unS : V → List Nat
  | .str x => x.cps.toList
  | _ => []
theorem perm_vS' {ys : List V} {ls : List (List Nat)}
    (h : ys.Perm (ls.map vS)) : ∃ os : List (List Nat), ys = os.map vS ∧ os.Perm ls := by
  refine ⟨ys.map unS, ?_, ?_⟩
  · rw [List.map_map]
    refine (List.map_id ys).symm.trans (List.map_congr_left fun y hy => ?_)
    obtain ⟨l, _, rfl⟩ := List.mem_map.mp (h.mem_iff.mp hy)
    rfl
  · have := h.map unS
    rw [List.map_map] at this
    have e : ls.map (unS ∘ vS) = ls := by
      refine (List.map_congr_left fun l _ => ?_).trans (List.map_id ls)
      rfl
    rw [e] at this
    exact this
theorem jl_le8 : ∀ {ws : List (List Nat)}, (∀ l ∈ ws, l.length ≤ 8) →
    jl ws ≤ 9 * ws.length
  | [], _ => Nat.zero_le _
  | l :: r, h => by
    have ih := jl_le8 fun x hx => h x (List.mem_cons_of_mem l hx)
    have := h l List.mem_cons_self
    rw [jl_cons, List.length_cons]
    omega
theorem Nm.no32 {l : List Nat} (n : Nm l) : 32 ∉ l := fun h => by
  have := n.az 32 h
  omega
theorem TxB.mono {m m' c c' : Nat} {x : List Nat} (h : TxB m c x)
    (hm : m ≤ m') (hc : c ≤ c') : TxB m' c' x :=
  ⟨Nat.le_trans h.len hm, Nat.le_trans h.spc hc, h.uni⟩
/-! ### tables, and all that the drawing leaves as it is -/
theorem Tabs.but {T : List (Addr × Str)} {H H' : Hp} {p : Addr}
    (t : LamX.Tabs T H) (r : Rng H p) (b : But p H H') : LamX.Tabs T H' := by
  obtain ⟨u, v, e, _⟩ := r
  intro x hx
  obtain ⟨ps, h1, h2, h3⟩ := t x hx
  refine ⟨ps, b _ _ h1 (fun z => ?_), h2, fun pos cv hc => ?_⟩
  · rw [z, e] at h1
    cases h1
  · obtain ⟨c, rfl, h4⟩ := h3 pos cv hc
    refine ⟨c, rfl, b _ _ h4 (fun z => ?_)⟩
    rw [z, e] at h4
    exact absurd (Option.some.inj h4) nofun
/-- all stays but p and the tables -/
def Kp (p : Addr) (H H' : Hp) : Prop := ∀ b o, H b = some o → b ≠ p →
  (∀ ps, o ≠ .tbl ps) → H' b = some o
theorem Kp.of {p : Addr} {H H' : Hp} (b : But p H H') : Kp p H H' :=
  fun c o e n _ => b c o e n
theorem Kp.ext {p : Addr} {H H' : Hp} (x : LamX.ExtN H H') : Kp p H H' :=
  fun c o e _ n => x c o e n
theorem Kp.trans {p : Addr} {H H1 H2 : Hp} (a : Kp p H H1) (b : Kp p H1 H2) :
    Kp p H H2 := fun c o e n t => b c o (a c o e n t) n t
theorem Rng.ext {p : Addr} {H H' : Hp} (r : Rng H p) (x : LamX.ExtN H H') :
    Rng H' p := by
  obtain ⟨u, v, e, z⟩ := r
  exact ⟨u, v, x _ _ e nofun, z⟩
theorem SqL.extN {K : PySem.W.Frag} {H H' : Hp} {a : Addr} {xs : List V}
    (h : SqL K H a xs) (x : LamX.ExtN H H') : SqL K H' a xs := by
  rcases h with (h | ⟨o, h⟩) | h
  · exact .inl (.inl (x _ _ h nofun))
  · exact .inl (.inr ⟨o, x _ _ h nofun⟩)
  · exact .inr h
theorem rng_ne {H : Hp} {p q : Addr} {ls : List (List Nat)} (r : Rng H p)
    (h : H q = some (.lst (ls.map vS))) : q ≠ p := fun z => by
  obtain ⟨u, v, e, _⟩ := r
  rw [z, e] at h
  have h' := HO.lst.inj (Option.some.inj h)
  cases ls with
  | nil => cases h'
  | cons l r => cases h'
/-- one cell of the script: the drawing state, the items, the base -/
structure Cl (C : Addr) (T : List (Addr × Str)) (H0 H : Hp) (p it b : Addr)
    (ls : List (List Nat)) : Prop where
  rg : Rng H p
  it : H it = some (.lst (ls.map vS))
  ba : BaseAt C H b ls
  tb : LamX.Tabs T H
  kp : Kp p H0 H
theorem Cl.but {C : Addr} {T : List (Addr × Str)} {H0 H H' : Hp}
    {p it b : Addr} {ls : List (List Nat)} (x : Cl C T H0 H p it b ls)
    (s : But p H H') (r : Rng H' p) : Cl C T H0 H' p it b ls := by
  refine ⟨r, s _ _ x.it (rng_ne x.rg x.it), ?_, Tabs.but x.tb x.rg s,
    x.kp.trans (Kp.of s)⟩
  obtain ⟨dx, lo, d, h1, h2, h3⟩ := x.ba.ob
  obtain ⟨u, v, e, _⟩ := x.rg
  refine ⟨dx, lo, d, s _ _ h1 (fun z => ?_), s _ _ h2 (rng_ne x.rg h2),
    s _ _ h3 (fun z => ?_)⟩
  · rw [z, e] at h1
    cases h1
  · rw [z, e] at h3
    cases h3
theorem Cl.same {C : Addr} {T : List (Addr × Str)} {H0 H H' : Hp}
    {p it b : Addr} {ls : List (List Nat)} (x : Cl C T H0 H p it b ls)
    (s : Same H H') : Cl C T H0 H' p it b ls :=
  x.but (But.of s) (x.rg.same s)
theorem Cl.ext {C : Addr} {T : List (Addr × Str)} {H0 H H' : Hp}
    {p it b : Addr} {ls : List (List Nat)} (x : Cl C T H0 H p it b ls)
    (s : LamX.ExtN H H') (t : LamX.Tabs T H') : Cl C T H0 H' p it b ls :=
  ⟨x.rg.ext s, s _ _ x.it nofun, x.ba.ext s, t, x.kp.trans (Kp.ext s)⟩
theorem at3' {a b c : V} {d : Int} (h0 : 0 ≤ d) (h1 : d < 3) :
    ∃ v, atI [a, b, c] d = some v ∧ (v = a ∨ v = b ∨ v = c) := by
  obtain ⟨j, rfl⟩ : ∃ j : Nat, d = j := ⟨d.toNat, by omega⟩
  match j, h1 with
  | 0, _ => exact ⟨a, atI_nat rfl, .inl rfl⟩
  | 1, _ => exact ⟨b, atI_nat rfl, .inr (.inl rfl)⟩
  | 2, _ => exact ⟨c, atI_nat rfl, .inr (.inr rfl)⟩
  | n + 3, h => exact absurd h (by omega)
theorem NoT.but {K : PySem.W.Frag} {H H' : Hp} {v : V} {p : Addr}
    (h : NoT K H v) (r : Rng H p) (s : But p H H') (r' : Rng H' p) :
    NoT K H' v := by
  obtain ⟨t, a, b⟩ := h
  refine ⟨t, ?_, b⟩
  obtain ⟨u, w, e, _⟩ := r
  obtain ⟨u', w', e', _⟩ := r'
  have ne : ∀ {q : Addr} {o : HO}, H q = some o → (∀ xs, o ≠ .lst xs) → q ≠ p :=
    fun {q o} h n z => by
      rw [z, e] at h
      exact n _ (Option.some.inj h).symm
  cases a with
  | non => exact .non
  | bl x => exact .bl x
  | int i => exact .int i
  | str x => exact .str x
  | flt x => exact .flt x
  | @lst q xs h =>
    by_cases z : q = p
    · subst z
      exact .lst e'
    · exact .lst (s _ _ h z)
  | frz h => exact .frz (s _ _ h (ne h nofun))
  | tup h => exact .tup (s _ _ h (ne h nofun))
  | dK h => exact .dK (s _ _ h (ne h nofun))
  | dT h => exact .dT (s _ _ h (ne h nofun))
  | ins h cl ha hn ht hm => exact .ins (s _ _ h (ne h nofun)) cl ha hn ht hm
theorem Asked.but {K : PySem.W.Frag} {H H' : Hp} {v : V} {p : Addr}
    (h : Asked K H v) (r : Rng H p) (s : But p H H') (r' : Rng H' p) :
    Asked K H' v := by
  rcases h with h | h
  · exact .inl (h.but r s r')
  · exact .inr h
theorem Asked.same {K : PySem.W.Frag} {H H' : Hp} {v : V}
    (h : Asked K H v) (s : Same H H') : Asked K H' v := by
  rcases h with h | h
  · exact .inl (h.same s)
  · exact .inr h
theorem Asked.ext {K : PySem.W.Frag} {H H' : Hp} {v : V}
    (h : Asked K H v) (s : LamX.ExtN H H') : Asked K H' v := by
  rcases h with h | h
  · exact .inl (h.ext s)
  · exact .inr h
theorem TxB.asked {K : PySem.W.Frag} {H : Hp} {m c : Nat} {x : List Nat}
    (h : TxB m c x) (hm : m ≤ 10000) (hc : c < 63) : Asked K H (vS x) :=
  .inr ⟨x, rfl, h.txt hm hc, h.uniW⟩
theorem noT_of {K : PySem.W.Frag} {H : Hp} {v : V} {T : String}
    (h : TyOf K H v (.type T))
    (k : PySem.W.kitOne K (.type T) (.type "str") = some false) :
    Asked K H v := .inl ⟨_, h, k⟩
theorem TxB.app {m c m' c' : Nat} {x y : List Nat} (h : TxB m c x)
    (k : TxB m' c' y) : TxB (m + m') (c + c') (x ++ y) := by
  have a := h.len
  have b := k.len
  have d := h.spc
  have e := k.spc
  refine ⟨by rw [List.length_append]; omega, by rw [List.count_append]; omega,
    fun z hz => (List.mem_append.mp hz).elim (h.uni z) (k.uni z)⟩
theorem Tabs.put {T : List (Addr × Str)} {H : Hp} {D : Addr} {ys zs : List V}
    (t : LamX.Tabs T H) (h : H D = some (.lst ys)) :
    LamX.Tabs T (upd H D (.lst zs)) := by
  intro x hx
  obtain ⟨ps, h1, h2, h3⟩ := t x hx
  have n1 : x.1 ≠ D := fun z => by
    rw [z, h] at h1
    cases h1
  refine ⟨ps, by rw [upd_ne n1]; exact h1, h2, fun pos cv hc => ?_⟩
  obtain ⟨c, rfl, h4⟩ := h3 pos cv hc
  have n2 : c ≠ D := fun z => by
    rw [z, h] at h4
    exact absurd (Option.some.inj h4) nofun
  exact ⟨c, rfl, by rw [upd_ne n2]; exact h4⟩
def spLawT (K : PySem.W.Frag) (T : List (Addr × Str)) : Sp := fun vs H Q _ =>
  ∃ (a : Addr) (ns : List Int), vs = [.ref a] ∧ SqL K H a (ns.map V.int) ∧
  ns.length ≤ 63 ∧ LamX.Tabs T H ∧ ∀ H', Q (.bl true) H'
section
variable {P : Program} {w : World} {K : PySem.W.Frag}
  {mg : Str → Option Value} {base : Heap} {C : Addr}
theorem ok_law16 {f : Addr} {fd : FuncData} {k : Nat} {T : List (Addr × Str)}
    (F : Fun K "law" "law" s_law f fd) (B : Bl mg) (T0 : BC K mg C)
    (Cr : Cal P w K mg base k "_law_rng" ["_law_script", "_law_k"] (spRng K))
    (Cd : CalDraw P w K mg base k)
    (Cn : Cal P w K mg base k "_law_names"
      ["_law_rng_here", "_law_many", "_law_used"] spNames)
    (Cs : Cal P w K mg base k "_law_shuffled" ["_law_rng_here", "_law_values"]
      (spShuf K))
    (Cg : Cal P w K mg base k "_law_changed" ["_law_rng_here", "_law_text"]
      spChg)
    (Cb : CalC P w K mg base C k "Base" ["self", "items"] (spInitOk C))
    (Mn : CalM P w K mg base C k "names" ["self"] (spGetNames C))
    (Ct : CalG P w K mg base k "_law_text_right"
      ["_law_base", "_law_items", "_law_text"] (spTR K C T)) :
    FnG P w K mg base CX0 (k + 2) f fd ["_law_script"] (spLawT K T) := by
  refine okG F sc_law (fun vs H Q E h => ?_)
    (fun cv A outer s H vs Q E hr1 gd h => ?_)
  · obtain ⟨a, ns, rfl, _⟩ := h
    rfl
  obtain ⟨a, ns, rfl, hS, hlen, tb, q⟩ := h
  have nd := sc_law.nd
  have hr := hr1.mono (Nat.le_succ k)
  refine ⟨_, pss_cons (ps_for PassesOwn.never rfl
      (pi_range1 (by rfl) B.range (pa_cons
        (pe_callB (call_max2 rfl) (by rfl) B.max bt_max (pa_cons pe_int (pa_cons
          (pe_callB (call_min2 rfl) (by rfl) B.min bt_min (pa_cons pe_int
            (pa_cons (pe_callB call_len_seq (by rfl) B.len PySem.boot_len
              (pa_cons (pv 0) pa_nil)) pa_nil))) pa_nil)))
        pa_nil))
      (pg_name (i := 1) nd rfl (.inl rfl))
      (C8.pss_cut (ps_set (i := 2) nd rfl (.inl rfl)
        (pe_cal Cr hr (pa_cons (pv 0) (pa_cons (pv 1) pa_nil))))
      (C8.pss_cut (ps_set (i := 3) nd rfl (.inl rfl)
        (pe_ix ix_list (pe_lst (pa_cons
          (pe_op op_add pe_int (pe_cal Cd hr (pa_cons (pv 2) (pa_cons pe_int
            pa_nil))))
          (pa_cons (pe_op op_add pe_int (pe_cal Cd hr (pa_cons (pv 2) (pa_cons
            pe_int pa_nil))))
          (pa_cons (pe_op op_add pe_int (pe_cal Cd hr (pa_cons (pv 2)
              (pa_cons pe_int pa_nil)))) pa_nil))))
          (pe_cal Cd hr (pa_cons (pv 2) (pa_cons pe_int pa_nil)))
          (fun _ _ => rfl)))
      (C8.pss_cut (ps_set (i := 4) nd rfl (.inr rfl)
        (pe_cal Cn hr (pa_cons (pv 2) (pa_cons (pv 3) (pa_cons (pe_lst pa_nil)
          pa_nil)))))
      (C8.pss_cut (ps_set (i := 5) nd rfl (.inr rfl)
        (pe_calC Cb hr1 (pa_cons (pe_callTy call_list_of (by rfl) B.list bt_list
          (pa_cons (pv 4) pa_nil)) pa_nil)))
      (C8.pss_cut (ps_for PassesOwn.never rfl
        (pi_range1 (by rfl) B.range (pa_cons pe_int pa_nil))
        (pg_name (i := 6) nd rfl (.inl rfl))
        (C8.pss_cut (ps_set (i := 7) nd rfl (.inl rfl) (pe_join pe_str
          (pe_cal Cs hr (pa_cons (pv 2) (pa_cons (pv 4) pa_nil)))))
        (C8.pss_cut (ps_for PassesOwn.never rfl
          (pi_range1 (by rfl) B.range (pa_cons (pe_cal Cd hr (pa_cons (pv 2)
            (pa_cons pe_int pa_nil))) pa_nil))
          (pg_name (i := 8) nd rfl (.inl rfl))
          (pss_one (ps_set (i := 7) nd rfl (.inl rfl) (pe_cal Cg hr (pa_cons
            (pv 2) (pa_cons (pv 7) pa_nil))))))
        (pss_one (ps_if (pt_not (pt_val (pe_calG Ct hr gd (pa_cons (pv 5)
          (pa_cons (pv 4) (pa_cons (pv 7) pa_nil))))))
          (pss_one ps_never) pss_nil)))))
      (C8.pss_cut (ps_set (i := 9) nd rfl (.inl rfl) (pe_lst (pa_cons pe_non
        (pa_cons pe_int (pa_cons pe_int (pa_cons pe_bl (pa_cons pe_bl
        (pa_cons (pe_lst pa_nil) (pa_cons (pe_tup pa_nil) (pa_cons pe_dnewK
        (pa_cons (pe_callTy call_list_of (by rfl) B.list bt_list
          (pa_cons (pv 4) pa_nil))
        (pa_cons (pe_tup (pa_cons pe_str pa_nil))
        (pa_cons (pe_calM0 Mn hr (pv 5)) (pa_cons pe_str (pa_cons pe_str
        (pa_cons pe_str pa_nil))))))))))))))))
      (C8.pss_cut (ps_set (i := 10) nd rfl (.inl rfl)
        (pe_cal Cn hr (pa_cons (pv 2) (pa_cons pe_int (pa_cons (pe_lst pa_nil)
          pa_nil)))))
      (C8.pss_cut (ps_set (i := 9) nd rfl (.inl rfl) (pe_op op_cat (pv 9)
        (pe_lst (pa_cons (pe_join pe_str (pv 10)) (pa_cons (pe_join pe_str
          (pe_slice sl_list (pv 10) po_none (po_some pe_int)))
        (pa_cons (pe_op op_add_str (pe_join pe_str (pv 4)) pe_str)
        (pa_cons (pe_op op_add_str pe_str (pe_join pe_str (pv 4)))
          pa_nil)))))))
      (pss_one (ps_if (pt_not (pt_val (pe_callB (cr_all rfl) (by rfl) B.all
          bt_all (pa_cons (pe_lc (own := [("_law_value", 11)]) (g := gName 11)
            (tt := tYes) rfl nd (pi_list (pv 9))
            (blkOk_by (N := N_law) (sc := defScope s_law) (by decide +kernel))
            (fun _ _ _ _ _ => pg_name (i := 11) nd rfl (Or.inl rfl))
            (fun _ _ _ _ _ => pts_nil)
            (fun _ _ _ _ _ => pe_calG Ct hr gd (pa_cons (pv 5) (pa_cons (pv 4)
              (pa_cons (pv 11) pa_nil))))) pa_nil))))
        (pss_one ps_never) pss_nil)))))))))))
    (pss_one (ps_ret pe_bl)), ?_⟩
  -- how many cells
  refine ⟨_, rfl, a, _, rfl, .inl hS, _, _, rfl, _, _, rfl, _, rfl, ?_, ?_, ?_⟩
  · rw [List.length_map]
    split <;> split <;> omega
  · rw [List.length_map]
    split <;> split <;> omega
  generalize hn : (Int.toNat _) = n
  have n4 : n ≤ 1000 := by
    rw [← hn, List.length_map]
    split <;> split <;> omega
  clear hn
  refine for_range (lo := 0) (n := n) (fun i σ H' =>
      ∃ x1 x2 x3 x4 x5 x6 x7 x8 x9 x10 x11 : Option V, σ = [some (.ref a), x1, x2,
        x3, x4, x5, x6, x7, x8, x9, x10, x11] ∧ LamX.ExtN H H' ∧
        LamX.Tabs T H')
    ⟨none, none, none, none, none, none, none, none, none, none, none, rfl,
      LamX.ExtN.refl H, tb⟩ ?_ (fun σ H' _ => q H')
  rintro i σ H0 hi ⟨x1, x2, x3, x4, x5, x6, x7, x8, x9, x10, x11, rfl, e0, t0⟩
  -- the drawing state
  refine ⟨fun σ' H' => ∃ p, σ' = [some (.ref a), some (.int i), some (.ref p),
    x3, x4, x5, x6, x7, x8, x9, x10, x11] ∧ H0 p = none ∧ Rng H' p ∧ Same H0 H',
    ?_, ?_⟩
  · refine ⟨_, rfl, _, rfl, a, ns, i, ?_, OM.SqL.extN hS e0, by omega,
      fun p H1 np rg s1 => ⟨p, ?_, np, rg, s1⟩⟩
    · rw [Int.zero_add]
      rfl
    · rw [Int.zero_add]
      rfl
  rintro _ H1 ⟨p, rfl, np, rg1, s1⟩
  have b1 : But p H0 H1 := But.of s1
  -- how many
  refine ⟨fun σ' H' => ∃ m : Nat, σ' = [some (.ref a), some (.int i),
    some (.ref p), some (.int m), x4, x5, x6, x7, x8, x9, x10, x11] ∧ 1 ≤ m ∧
    m ≤ 40 ∧ Rng H' p ∧ But p H0 H', ?_, ?_⟩
  · refine ⟨_, rfl, p, 5, rfl, rg1, by decide, by decide,
      fun d2 H2 d20 d21 rg2 b2 => ⟨_, _, rfl, rfl, _, rfl, p, 5, rfl, rg2,
      by decide, by decide, fun d3 H3 d30 d31 rg3 b3 => ⟨_, _, rfl, rfl, _, rfl,
      p, 40, rfl, rg3, by decide, by decide, fun d5 H5 d50 d51 rg5 b5 => ⟨_, _,
      rfl, rfl, sz (by simp), fun t nt => ⟨_, rfl, p, 3, rfl,
      rg5.same (sameNew nt), by decide, by decide,
      fun d4 H4 d40 d41 rg4 b4 => ?_⟩⟩⟩⟩⟩
    have ntp : t ≠ p := (rg5.ne nt).symm
    obtain ⟨v, hv, hv'⟩ := at3' (a := V.int (1 + d2)) (b := V.int (1 + d3))
      (c := V.int (1 + d5)) d40 d41
    obtain ⟨m, rfl, m0, m1⟩ : ∃ m : Nat, v = .int m ∧ 1 ≤ m ∧ m ≤ 40 := by
      rcases hv' with rfl | rfl | rfl
      · exact ⟨(1 + d2).toNat, by rw [Int.toNat_of_nonneg (by omega)], by omega,
          by omega⟩
      · exact ⟨(1 + d3).toNat, by rw [Int.toNat_of_nonneg (by omega)], by omega,
          by omega⟩
      · exact ⟨(1 + d5).toNat, by rw [Int.toNat_of_nonneg (by omega)], by omega,
          by omega⟩
    exact ⟨t, _, d4, _, rfl, rfl, SqL.of (b4 t _ upd_same ntp), hv, m, rfl, m0,
      m1, rg4, ((((b1.trans b2).trans b3).trans b5).put nt ntp).trans b4⟩
  rintro _ H2 ⟨m, rfl, m0, m1, rg2, b2⟩
  -- the items
  refine ⟨fun σ' H' => ∃ it ls, σ' = [some (.ref a), some (.int i),
    some (.ref p), some (.int m), some (.ref it), x5, x6, x7, x8, x9, x10,
    x11] ∧ Good ls ∧ H' it = some (.lst (ls.map vS)) ∧ Rng H' p ∧ But p H0 H',
    ?_, ?_⟩
  · refine ⟨_, rfl, _, rfl, sz (by simp), fun u nu => ?_⟩
    have nup : u ≠ p := (rg2.ne nu).symm
    refine ⟨p, u, m, [], rfl, rg2.same (sameNew nu), upd_same, nup, by omega,
      by simp, fun it ls H5 nit hl nm ndl no hit rg5 b5 => ?_⟩
    exact ⟨it, ls, rfl, ⟨nm, ndl, by omega, by omega⟩, hit, rg5,
      (b2.put nu nup).trans b5⟩
  rintro _ H3 ⟨it, ls, rfl, good, hi3, rg3, b3⟩
  -- the base
  refine ⟨fun σ' H' => ∃ b, σ' = [some (.ref a), some (.int i), some (.ref p),
    some (.int m), some (.ref it), some (.ref b), x6, x7, x8, x9, x10, x11] ∧
    BaseAt C H' b ls ∧ Same H3 H', ?_, ?_⟩
  · refine ⟨_, rfl, it, _, rfl, .inl (SqL.of hi3), fun c nc b dx nb nx ne => ?_⟩
    have e1 : Same H3 (upd H3 c (.lst (ls.map vS))) := sameNew nc
    have ncb : c ≠ b := fun z => by rw [← z, upd_same] at nb; cases nb
    have ncx : c ≠ dx := fun z => by rw [← z, upd_same] at nx; cases nx
    refine ⟨b, c, dx, ls, rfl, upd_same, ?_, good, fun H4 hB b4 =>
      ⟨rfl, b, rfl, hB, ?_⟩⟩
    · rw [upd_ne ncb, upd_ne ncx, upd_same]
    · intro y o e
      have ny := ne_of_none (e1 _ _ e) nb
      refine b4 y o ?_ ny
      rw [upd_ne ny, upd_ne (ne_of_none (e1 _ _ e) nx)]
      exact e1 _ _ e
  rintro _ H4 ⟨b, rfl, hB, s4⟩
  have c4 : Cl C T H0 H4 p it b ls := ⟨rg3.same s4, s4 _ _ hi3, hB,
    (t0.ext (b3.same np)).ext s4,
    (Kp.of b3).trans (Kp.of (But.of s4))⟩
  -- ten texts
  refine ⟨fun σ' H' => ∃ y6 y7 y8 : Option V, σ' = [some (.ref a), some (.int i), some (.ref p),
    some (.int m), some (.ref it), some (.ref b), y6, y7, y8, x9, x10,
    x11] ∧ Cl C T H0 H' p it b ls, ?_, ?_⟩
  · refine ⟨10, rfl, by decide, by decide, ?_⟩
    refine for_range (lo := 0) (n := 10) (fun j σ H' => ∃ y6 y7 y8 : Option V,
      σ = [some (.ref a), some (.int i), some (.ref p),
    some (.int m), some (.ref it), some (.ref b), y6, y7, y8,
      x9, x10, x11] ∧ Cl C T H0 H' p it b ls)
      ⟨x6, x7, x8, rfl, c4⟩ ?_ (fun σ H' z => z)
    rintro j σ H5 hj ⟨y6, y7, y8, rfl, c5⟩
    have h40 := good.hi
    refine ⟨fun σ' H' => ∃ x y6, σ' = [some (.ref a), some (.int i), some (.ref p),
    some (.int m), some (.ref it), some (.ref b), y6, some (vS x),
      y8, x9, x10, x11] ∧ TxB 362 39 x ∧ Cl C T H0 H' p it b ls, ?_, ?_⟩
    · refine ⟨⟨_, rfl⟩, _, rfl, _, rfl, p, it, _, rfl, c5.rg, SqL.of c5.it,
        neRng c5.rg c5.it, by rw [List.length_map]; omega,
        fun q0 ys H6 nq py hq rg6 b6 => ?_⟩
      obtain ⟨os, rfl, pm⟩ := perm_vS' py
      have go := good.perm pm
      have gh := go.hi
      have jb := jl_le8 fun l hl => (go.nm l hl).hi
      refine ⟨_, q0, os.map SX.S, rfl, rfl, .inl (SqL.of (by
        rw [map_strS]; exact hq)), ?_, ?_⟩
      · have := sum_S os
        have e3 : (Str.ofString " ").length = 1 := by decide +kernel
        rw [e3, List.length_map]
        omega
      · rw [sp32, SX.join_S [32] os]
        exact ⟨jnS os, _, rfl, join_txb (by omega) (by omega)
          (fun l hl => (go.nm l hl).no32) (fun l hl => (go.nm l hl).uni),
          c5.but b6 rg6⟩
    rintro _ H6 ⟨x, z6, rfl, tx, c6⟩
    refine ⟨fun σ' H' => ∃ x' y8, σ' = [some (.ref a), some (.int i), some (.ref p),
    some (.int m), some (.ref it), some (.ref b), z6, some (vS x'),
      y8, x9, x10, x11] ∧ TxB 5792 41 x' ∧ Cl C T H0 H' p it b ls, ?_, ?_⟩
    · refine ⟨_, rfl, p, 3, rfl, c6.rg, by decide, by decide,
        fun d H7 d0 d1 rg7 b7 => ⟨d, rfl, by omega, by omega, ?_⟩⟩
      refine for_range (lo := 0) (n := d.toNat) (fun j' σ H' => ∃ x' y8,
        σ = [some (.ref a), some (.int i), some (.ref p),
    some (.int m), some (.ref it), some (.ref b), z6, some (vS x'),
        y8, x9, x10, x11] ∧ TxB (362 * 4 ^ j') (39 + j') x' ∧
        Cl C T H0 H' p it b ls)
        ⟨x, y8, rfl, by simpa using tx, c6.but b7 rg7⟩ ?_ ?_
      · rintro j' σ H8 hj' ⟨x', y8', rfl, tx', c8⟩
        have j2 : j' = 0 ∨ j' = 1 := by omega
        have big : 362 * 4 ^ j' ≤ 2000 := by
          rcases j2 with rfl | rfl <;> decide
        refine ⟨_, rfl, _, rfl, p, x', _, _, rfl, c8.rg, tx', big, by omega,
          fun y H9 ty rg9 b9 => ⟨y, _, rfl, ?_, c8.but b9 rg9⟩⟩
        have e : 362 * 4 ^ (j' + 1) = 4 * (362 * 4 ^ j') := by
          rw [Nat.pow_succ]; omega
        rw [e]
        exact ty
      · rintro σ H8 ⟨x', y8', rfl, tx', c8⟩
        refine ⟨x', y8', rfl, tx'.mono ?_ (by omega), c8⟩
        have j2 : d.toNat = 0 ∨ d.toNat = 1 ∨ d.toNat = 2 := by omega
        rcases j2 with e | e | e <;> rw [e] <;> decide
    rintro _ H7 ⟨x', y8', rfl, tx', c7⟩
    exact ⟨_, rfl, _, rfl, _, rfl, b, it, ls, _, rfl, c7.ba, good, c7.it,
      .inr ⟨x', rfl, tx'.txt (by decide) (by decide), tx'.uniW⟩, c7.tb,
      fun H8 x8 t8 => ⟨_, rfl, iteF ⟨_, _, _, rfl, c7.ext x8 t8⟩⟩⟩
  rintro _ H5 ⟨y6, y7, y8, rfl, c5⟩
  have kk : ∀ {X : String} {H' : Hp} {v : V}, TyOf K H' v (.type X) →
      PySem.W.kitOne K (.type X) (.type "str") = some false → Asked K H' v :=
    fun h k => noT_of h k
  -- values of other kinds
  refine ⟨fun σ' H' => ∃ (sl : Addr) (xs : List V), σ' = [some (.ref a), some (.int i), some (.ref p),
    some (.int m), some (.ref it), some (.ref b), y6, y7, y8,
    some (.ref sl), x10, x11] ∧ H' sl = some (.lst xs) ∧ sl ≠ p ∧
    xs.length = 14 ∧ (∀ v ∈ xs, Asked K H' v) ∧ Cl C T H0 H' p it b ls, ?_, ?_⟩
  · refine ⟨by decide, fun q1 n1 => ?_⟩
    have c6 := c5.same (sameNew (o := .lst []) n1)
    have a1 : Asked K (upd H5 q1 (.lst [])) (.ref q1) :=
      kk (.lst upd_same) (kit_ty (by decide +kernel))
    generalize upd H5 q1 (.lst []) = H6 at c6 a1 ⊢
    refine ⟨by decide, fun q2 n2 => ?_⟩
    have s7 := sameNew (o := .tup []) n2
    have c7 := c6.same s7
    have a2 : Asked K (upd H6 q2 (.tup [])) (.ref q2) :=
      kk (.tup upd_same) (kit_ty (by decide +kernel))
    replace a1 := a1.same s7
    generalize upd H6 q2 (.tup []) = H7 at c7 a1 a2 s7 ⊢
    intro q3 n3
    have s8 := sameNew (o := .dK []) n3
    have c8 := c7.same s8
    have a3 : Asked K (upd H7 q3 (.dK [])) (.ref q3) :=
      kk (.dK upd_same) (kit_ty (by decide +kernel))
    replace a1 := a1.same s8
    replace a2 := a2.same s8
    generalize upd H7 q3 (.dK []) = H8 at c8 a1 a2 a3 s8 ⊢
    refine ⟨_, rfl, it, _, rfl, .inl (SqL.of c8.it), fun q4 n4 => ?_⟩
    have s9 := sameNew (o := .lst (ls.map vS)) n4
    have c9 := c8.same s9
    have a4 : Asked K (upd H8 q4 (.lst (ls.map vS))) (.ref q4) :=
      kk (.lst upd_same) (kit_ty (by decide +kernel))
    replace a1 := a1.same s9
    replace a2 := a2.same s9
    replace a3 := a3.same s9
    generalize upd H8 q4 (.lst (ls.map vS)) = H9 at c9 a1 a2 a3 a4 s9 ⊢
    refine ⟨by decide, fun q5 n5 => ?_⟩
    have s10 := sameNew (o := .tup [.str "a"]) n5
    have c10 := c9.same s10
    have a5 : Asked K (upd H9 q5 (.tup [.str "a"])) (.ref q5) :=
      kk (.tup upd_same) (kit_ty (by decide +kernel))
    replace a1 := a1.same s10
    replace a2 := a2.same s10
    replace a3 := a3.same s10
    replace a4 := a4.same s10
    generalize upd H9 q5 (.tup [.str "a"]) = H10 at c10 a1 a2 a3 a4 a5 s10 ⊢
    obtain ⟨dx', lo, dd, h1, h2, h3⟩ := c10.ba.ob
    refine ⟨_, rfl, b, dx', _, rfl, h1, bf_no _ _ (by decide +kernel)
      (by decide +kernel), b, ls, rfl, c10.ba, fun q6 H11 n6 h6 s11 => ?_⟩
    have c11 := c10.same s11
    have a6 : Asked K H11 (.ref q6) := kk (.lst h6) (kit_ty (by decide +kernel))
    replace a1 := a1.same s11
    replace a2 := a2.same s11
    replace a3 := a3.same s11
    replace a4 := a4.same s11
    replace a5 := a5.same s11
    refine ⟨sz (by simp), fun q7 n7 => ⟨q7, _, rfl, upd_same,
      (c11.rg.ne n7).symm, rfl, fun v hv => ?_, c11.same (sameNew n7)⟩⟩
    refine Asked.same (H := H11) ?_ (sameNew n7)
    simp only [List.mem_cons, List.not_mem_nil, or_false] at hv
    rcases hv with rfl | rfl | rfl | rfl | rfl | rfl | rfl | rfl | rfl | rfl |
      rfl | rfl | rfl | rfl
    · exact kk .non (kit_ty (by decide +kernel))
    · exact kk (.int _) (kit_ty (by decide +kernel))
    · exact kk (.int _) (kit_ty (by decide +kernel))
    · exact kk (.bl _) (kit_ty (by decide +kernel))
    · exact kk (.bl _) (kit_ty (by decide +kernel))
    · exact a1
    · exact a2
    · exact a3
    · exact a4
    · exact a5
    · exact a6
    · exact (⟨by decide, by decide, nofun⟩ : TxB 10 5 []).asked (by decide)
        (by decide)
    · rw [sp32]
      exact (⟨by decide, by decide, by decide⟩ : TxB 10 5 [32]).asked (by decide)
        (by decide)
    · rw [nl_S]
      exact (⟨by decide, by decide, by decide⟩ : TxB 10 5 [10]).asked (by decide)
        (by decide)
  rintro _ H6 ⟨sl, xs, rfl, k6, nsp, l6, a6, c6⟩
  -- forty-one names
  refine ⟨fun σ' H' => ∃ (mn : Addr) (ms : List (List Nat)), σ' = [some (.ref a), some (.int i), some (.ref p),
    some (.int m), some (.ref it), some (.ref b), y6, y7,
    y8, some (.ref sl), some (.ref mn), x11] ∧
    H' mn = some (.lst (ms.map vS)) ∧ ms.length = 41 ∧ (∀ l ∈ ms, Nm l) ∧
    H' sl = some (.lst xs) ∧ (∀ v ∈ xs, Asked K H' v) ∧ Cl C T H0 H' p it b ls,
    ?_, ?_⟩
  · refine ⟨_, rfl, sz (by simp), fun u nu => ?_⟩
    have nup : u ≠ p := (c6.rg.ne nu).symm
    refine ⟨p, u, 41, [], rfl, c6.rg.same (sameNew nu), upd_same, nup, by decide,
      by simp, fun mn ms H7 nmn hl nm ndl no hmn rg7 b7 => ?_⟩
    have b6 : But p H6 H7 := ((But.refl H6).put nu nup).trans b7
    exact ⟨mn, ms, rfl, hmn, hl, nm, b6 _ _ k6 nsp,
      fun v hv => (a6 v hv).but c6.rg b6 rg7, c6.but b6 rg7⟩
  rintro _ H7 ⟨mn, ms, rfl, kmn, lm, nm, k7, a7, c7⟩
  have e3 : (Str.ofString " ").length = 1 := by decide +kernel
  have jf : ∀ ws : List (List Nat), (∀ l ∈ ws, Nm l) → ws.length ≤ 41 →
      ((ws.map SX.S).map (·.length)).sum + (ws.map SX.S).length *
        (Str.ofString " ").length ≤ 16777216 ∧ TxB 371 40 (jnS ws) :=
    fun ws hn hl => by
      have z1 := sum_S ws
      have z2 := jl_le8 fun l h => (hn l h).hi
      refine ⟨by rw [e3, List.length_map]; omega, join_txb (by omega) (by omega)
        (fun l h => (hn l h).no32) (fun l h => (hn l h).uni)⟩
  have jE : ∀ ws : List (List Nat), Txt.join (Str.ofString " ") (ws.map SX.S) =
      SX.S (jnS ws) := fun ws => by rw [sp32]; exact SX.join_S [32] ws
  obtain ⟨f1, f2⟩ := jf ms nm (by omega)
  obtain ⟨f3, f4⟩ := jf (ms.take 40) (fun l h => nm l (List.mem_of_mem_take h))
    (by rw [List.length_take]; omega)
  have h40 := good.hi
  obtain ⟨f5, f6⟩ := jf ls good.nm (by omega)
  have f7 := f6.len
  have l6' : (SX.S (jnS ls)).length = (jnS ls).length := SX.S_len _
  have lnl : (SX.S [10]).length = 1 := rfl
  have lsp : (SX.S [32]).length = 1 := rfl
  -- four texts
  refine ⟨fun σ' H' => ∃ (s2 : Addr) (zs : List V), σ' = [some (.ref a), some (.int i), some (.ref p),
    some (.int m), some (.ref it), some (.ref b), y6, y7,
    y8, some (.ref s2), some (.ref mn), x11] ∧ H' s2 = some (.lst zs) ∧
    zs.length = 18 ∧ (∀ v ∈ zs, Asked K H' v) ∧ Cl C T H0 H' p it b ls,
    ?_, ?_⟩
  · refine ⟨_, rfl, ⟨_, rfl⟩, _, rfl, _, mn, ms.map SX.S, rfl, rfl,
      .inl (SqL.of (by rw [map_strS]; exact kmn)), f1, ?_⟩
    rw [jE]
    refine ⟨⟨_, rfl⟩, _, rfl, 40, rfl, mn, _, rfl, SqL.of kmn, fun t nt => ?_⟩
    have ec : cutV (ms.map vS) none (some ((40 : Nat) : Int)) =
        (ms.take 40).map vS := by
      rw [cut_to _ (by rw [List.length_map]; omega), List.map_take]
    have s8 := sameNew (o := .lst (cutV (ms.map vS) none (some 40))) nt
    have k8 : (upd H7 t (.lst (cutV (ms.map vS) none (some 40)))) t =
        some (.lst ((ms.take 40).map vS)) := by
      rw [upd_same]
      exact congrArg (fun z => some (HO.lst z)) ec
    have c8 := c7.same s8
    have ks := s8 _ _ k7
    have a8 : ∀ v ∈ xs, Asked K _ v := fun v hv => (a7 v hv).same s8
    generalize upd H7 t (.lst (cutV (ms.map vS) none (some 40))) = H8
      at s8 k8 c8 ks a8 ⊢
    refine ⟨_, t, (ms.take 40).map SX.S, rfl, rfl,
      .inl (SqL.of (by rw [map_strS]; exact k8)), f3, ?_⟩
    rw [jE]
    refine ⟨⟨_, rfl⟩, _, rfl, _, it, ls.map SX.S, rfl, rfl,
      .inl (SqL.of (by rw [map_strS]; exact c8.it)), f5, ?_⟩
    rw [jE, nl_S]
    refine ⟨_, _, rfl, rfl, by rw [l6', lnl]; exact sz (by omega), ?_⟩
    refine ⟨⟨_, rfl⟩, _, rfl, _, it, ls.map SX.S, rfl, rfl,
      .inl (SqL.of (by rw [map_strS]; exact c8.it)), f5, ?_⟩
    rw [jE]
    refine ⟨_, _, rfl, rfl, by rw [e3, l6']; exact sz (by omega), ?_⟩
    rw [sp32]
    refine ⟨sz (by simp), fun t2 nt2 => ?_⟩
    have s9 := sameNew (o := .lst [vS (jnS ms), vS (jnS (ms.take 40)),
      .str (SX.S (jnS ls) ++ SX.S [10]), .str (SX.S [32] ++ SX.S (jnS ls))]) nt2
    refine ⟨sl, t2, xs, _, rfl, rfl, s9 _ _ ks, upd_same, by
      rw [l6]; exact sz (by show 14 + 4 ≤ _; decide), fun s2 ns2 => ?_⟩
    have s10 := s9.trans (sameNew (o := .lst (xs ++ [vS (jnS ms),
      vS (jnS (ms.take 40)), .str (SX.S (jnS ls) ++ SX.S [10]),
      .str (SX.S [32] ++ SX.S (jnS ls))])) ns2)
    refine ⟨s2, _, rfl, upd_same, by rw [List.length_append, l6]; rfl,
      fun v hv => ?_, c8.same s10⟩
    refine Asked.same (H := H8) ?_ s10
    rcases List.mem_append.mp hv with hv | hv
    · exact a8 v hv
    simp only [List.mem_cons, List.not_mem_nil, or_false] at hv
    rcases hv with rfl | rfl | rfl | rfl
    · exact f2.asked (by decide) (by decide)
    · exact f4.asked (by decide) (by decide)
    · rw [SX.S_cat]
      exact (f6.app (⟨by decide, by decide, by decide⟩ : TxB 10 5 [10])).asked
        (by decide) (by decide)
    · rw [SX.S_cat]
      exact ((⟨by decide, by decide, by decide⟩ : TxB 10 5 [32]).app f6).asked
        (by decide) (by decide)
  rintro _ H8 ⟨s2, zs, rfl, k8, l8, a8, c8⟩
  have x08 : LamX.ExtN H0 H8 := fun y o e n => c8.kp y o e (ne_of_none e np) n
  refine ⟨_, rfl, s2, rfl, ⟨_, SqL.of k8⟩, fun D nD => ?_⟩
  refine lc_list (K := K) (a := s2) (xs := zs) (fun j H' =>
    H' D = some (.lst ((List.replicate j true).map V.bl)) ∧ LamX.ExtN H8 H' ∧
    LamX.Tabs T H')
    ⟨upd_same, ext_same (sameNew nD), c8.tb.ext (sameNew nD)⟩
    (fun j H' _ z => SqL.of (z.2.1 _ _ k8 nofun)) ?_ ?_
  · rintro j v H9 hv ⟨hD, x9, t9⟩
    have hj : j < zs.length := (List.getElem?_eq_some_iff.mp hv).1
    have c9 := c8.ext x9 t9
    refine ⟨rfl, yes ⟨_, rfl, _, rfl, _, rfl, b, it, ls, v, rfl, c9.ba, good,
      c9.it, (a8 v (List.mem_of_getElem? hv)).ext x9, c9.tb,
      fun H10 x10 t10 => ⟨_, x10 _ _ hD nofun, ?_, ?_, ?_, ?_⟩⟩⟩
    · rw [List.length_map, List.length_replicate]
      exact sz' (by omega)
    · rw [upd_same, List.replicate_succ', List.map_append]
      rfl
    · exact fun y o e n => by
        rw [upd_ne (ne_of_none e nD)]
        exact x10 _ _ (x9 _ _ e n) n
    · exact Tabs.put t10 (x10 _ _ hD nofun)
  · rintro H9 ⟨hD, x9, t9⟩
    refine ⟨D, List.replicate zs.length true, rfl, SqL.of hD, _, rfl, ?_⟩
    have e : (List.replicate zs.length true).all id = true := by simp
    rw [e]
    exact iteF ⟨_, _, _, _, _, _, _, _, _, _, _, rfl,
      (e0.trans x08).trans x9, t9⟩
end
end OM
namespace OM
open PySem PySem.Spec PyProof.Rows L2
/-! ### what the top has left -/
structure DefAt (K : PySem.W.Frag) (mg : Str → Option Value) (x : Str)
    (st : Stmt) (ps : List Str) (f : Addr) (fd : FuncData) : Prop where
  fn : Fun K x x st f fd
  mg : mg x = some (.ref f)
  bd : Binds K fd ps []
  bt : ∀ (s : Shared) (us : List Value), us.length = ps.length →
    BindsTo s fd ⟨us, []⟩ (ps.zip us)
theorem defAt {K : PySem.W.Frag} {mg : Str → Option Value} {h : Heap}
    {x : Str} {st : Stmt} {ps : List Str} {f : Addr} {oc : Value}
    {od an : Option Addr} {sl : Array (Option Value)}
    {kV dc pm cv ct : Value} (X : K.In h) (G : h.Ns mainGlobals mg)
    (a : PySem.W.nsIn K mainGlobals x = some (some (.ref f)))
    (l : K.lookup f = some ⟨oc, od, .func (PySem.W.fnOf x x (defArgs st)
      (defBody st) (defScope st) .none kV dc pm an cv ct), sl⟩)
    (c : PySem.W.codeIn K cv x = true)
    (k : PySem.W.keepIn K (.ref f) = true)
    (b : ∀ (kV doc pm : Value) (an : Option Addr) (cdv ct : Value)
      (us : List Value), us.length = ps.length →
      bindArgs (PySem.W.fnOf x x (defArgs st) (defBody st) (defScope st)
        .none kV doc pm an cdv ct) ⟨us, []⟩ = pure (ps.zip us)) :
    ∃ fd, DefAt K mg x st ps f fd :=
  have F := fun_mk (st := st) l c k
  ⟨_, F, PySem.W.mg_of X G a, F.binds b,
    fun _ us hl => .of_eq (b _ _ _ _ _ _ us hl)⟩
structure MethAt (K : PySem.W.Frag) (C : Addr) (m q : Str) (st : Stmt)
    (ps : List Str) (f : Addr) (fd : FuncData) : Prop where
  fn : Fun K m q st f fd
  me : Meth K C m f
  bd : Binds K fd ps []
theorem methAt {K : PySem.W.Frag} {C : Addr}
    {m q : Str} {st : Stmt} {ps : List Str} {f : Addr} {oc : Value}
    {od an : Option Addr} {sl : Array (Option Value)}
    {kV dc pm cv ct : Value}
    (a : PySem.W.findIn K (.ref C) m = some (some (.ref f)))
    (i : PySem.W.isFn K (.ref f) = true)
    (l : K.lookup f = some ⟨oc, od, .func (PySem.W.fnOf m q (defArgs st)
      (defBody st) (defScope st) .none kV dc pm an cv ct), sl⟩)
    (c : PySem.W.codeIn K cv q = true)
    (k : PySem.W.keepIn K (.ref f) = true)
    (b : ∀ (kV doc pm : Value) (an : Option Addr) (cdv ct : Value)
      (us : List Value), us.length = ps.length →
      bindArgs (PySem.W.fnOf m q (defArgs st) (defBody st) (defScope st)
        .none kV doc pm an cdv ct) ⟨us, []⟩ = pure (ps.zip us)) :
    ∃ fd, MethAt K C m q st ps f fd :=
  have F := fun_mk (st := st) l c k
  ⟨_, F, ⟨a, i, k⟩, F.binds b⟩
section
variable {P : Program} {w : World} {K : PySem.W.Frag}
  {mg : Str → Option Value} {base : Heap} {C : Addr}
theorem DefAt.cal {k j : Nat} {x : Str} {st : Stmt} {ps : List Str} {f : Addr}
    {fd : FuncData} {sp : Sp} (D : DefAt K mg x st ps f fd)
    (G : FnOk P w K mg base CX0 j f fd ps sp) (h : j ≤ k) :
    Cal P w K mg base k x ps sp :=
  ⟨f, fd, G.mono h, D.mg, D.fn.kp, D.bd⟩
theorem FnG.up {j k : Nat} {f : Addr} {fd : FuncData} {ps : List Str} {sp : Sp}
    (F : FnG P w K mg base CX0 j f fd ps sp) (h : j ≤ k) :
    FnG P w K mg base CX0 k f fd ps sp :=
  ⟨F.len, fun A o s H ar us vs Q E r g e b v z =>
    F.run A o s H ar us vs Q E (r.mono h) g e b v z⟩
theorem DefAt.calG {k j : Nat} {x : Str} {st : Stmt} {ps : List Str} {f : Addr}
    {fd : FuncData} {sp : Sp} (D : DefAt K mg x st ps f fd)
    (G : FnG P w K mg base CX0 j f fd ps sp) (h : j ≤ k) :
    CalG P w K mg base k x ps sp :=
  ⟨f, fd, G.up h, D.mg, D.fn.kp, D.bd⟩
theorem MethAt.calM {k j : Nat} {m q : Str} {st : Stmt} {ps : List Str}
    {f : Addr} {fd : FuncData} {sp : Sp} (D : MethAt K C m q st ps f fd)
    (c : Cls K C) (G : FnOk P w K mg base CX0 j f fd ps sp) (h : j ≤ k) :
    CalM P w K mg base C k m ps sp :=
  ⟨c, f, fd, G.mono h, D.me, D.bd⟩
theorem MethAt.spec {m q : Str} {st : Stmt} {ps : List Str}
    {f : Addr} {fd : FuncData} (D : MethAt K C m q st ps f fd) :
    Spec1 K C m f fd ps := ⟨D.me.at_, D.me.fn, D.bd⟩
end
end OM
namespace OM
open PySem PySem.Spec PyProof.Rows L2
/-- an error's __init__ -/
structure XInit (K : PySem.W.Frag) (C : Addr) (q : Str) (st : Stmt)
    (ps : List Str) (f : Addr) (fd : FuncData) : Prop where
  fn : Fun K "__init__" q st f fd
  at_ : PySem.W.findIn K (.ref C) "__init__" = some (some (.ref f))
  ty : PySem.W.typeIn K (.ref f) = some (.type "function")
  bd : Binds K fd ps []
theorem xInit {K : PySem.W.Frag} {C : Addr}
    {q : Str} {st : Stmt} {ps : List Str} {f : Addr} {oc : Value}
    {od an : Option Addr} {sl : Array (Option Value)}
    {kV dc pm cv ct : Value}
    (a : PySem.W.findIn K (.ref C) "__init__" = some (some (.ref f)))
    (i : PySem.W.typeIn K (.ref f) = some (.type "function"))
    (l : K.lookup f = some ⟨oc, od, .func (PySem.W.fnOf "__init__" q
      (defArgs st) (defBody st) (defScope st) .none kV dc pm an cv ct), sl⟩)
    (c : PySem.W.codeIn K cv q = true)
    (k : PySem.W.keepIn K (.ref f) = true)
    (b : ∀ (kV doc pm : Value) (an : Option Addr) (cdv ct : Value)
      (us : List Value), us.length = ps.length →
      bindArgs (PySem.W.fnOf "__init__" q (defArgs st) (defBody st)
        (defScope st) .none kV doc pm an cdv ct) ⟨us, []⟩ =
        pure (ps.zip us)) :
    ∃ fd, XInit K C q st ps f fd :=
  have F := fun_mk (st := st) l c k
  ⟨_, F, a, i, F.binds b⟩
/-- an error of the class at S is what «except T» names -/
theorem exm2 {K : PySem.W.Frag} {S T : Addr}
    (h1 : PySem.W.subIn K (.ref T) (.type "BaseException") = some true)
    (h2 : PySem.W.isClsIn K T = true)
    (h3 : PySem.W.typeIn K (.ref T) = some (.type "type")) {b : Bool}
    (h4 : PySem.W.subIn K (.ref S) (.ref T) = some b) :
    PySem.W.exmOne K (.ref S) (.ref T) = some b := by
  have e1 : (PySem.W.subIn K (.ref T) (.type "BaseException") == some true) =
    true := by rw [h1] <;> rfl
  have e2 : ((PySem.W.clsIn K T).isSome &&
      PySem.W.typeIn K (.ref T) == some (.type "type")) = true := by
    have h2' : (PySem.W.clsIn K T).isSome = true := h2
    rw [h2', h3] <;> rfl
  show (if (PySem.W.subIn K (.ref T) (.type "BaseException") == some true) =
    true then (if ((PySem.W.clsIn K T).isSome &&
      PySem.W.typeIn K (.ref T) == some (.type "type")) = true then
      PySem.W.subIn K (.ref S) (.ref T) else none) else none) = some b
  rw [if_pos e1, if_pos e2]
  exact h4
/-- the same with isinstance -/
theorem kit2 {K : PySem.W.Frag} {S T : Addr} (ne : (S == T) = false)
    (h2 : PySem.W.isClsIn K T = true)
    (h3 : PySem.W.typeIn K (.ref T) = some (.type "type")) {b : Bool}
    (h4 : PySem.W.subIn K (.ref S) (.ref T) = some b) :
    PySem.W.kitOne K (.ref S) (.ref T) = some b := by
  have e2 : ((PySem.W.clsIn K T).isSome &&
      PySem.W.typeIn K (.ref T) == some (.type "type")) = true := by
    have h2' : (PySem.W.clsIn K T).isSome = true := h2
    rw [h2', h3] <;> rfl
  have n : ¬ ((Value.ref S == Value.ref T) = true) := fun z => by
    have z' := eq_of_beq z
    injection z' with z'
    rw [z'] at ne
    simp at ne
  unfold PySem.W.kitOne
  rw [if_neg n]
  show (if ((PySem.W.clsIn K T).isSome &&
      PySem.W.typeIn K (.ref T) == some (.type "type")) = true then
      PySem.W.subIn K (.ref S) (.ref T) else none) = some b
  rw [if_pos e2]
  exact h4
theorem kitT {K : PySem.W.Frag} {S : Addr} {T : String} {b : Bool}
    (hm : PySem.W.kitMeta T = true)
    (h : PySem.W.subIn K (.ref S) (.type T) = some b) :
    PySem.W.kitOne K (.ref S) (.type T) = some b := by
  have n : ¬ ((Value.ref S == Value.type T) = true) := fun z => by
    cases eq_of_beq z
  unfold PySem.W.kitOne
  rw [if_neg n]
  show (if PySem.W.kitMeta T = true then
    PySem.W.subIn K (.ref S) (.type T) else none) = some b
  rw [if_pos hm]
  exact h
end OM
namespace OM
open PySem PySem.Spec PyProof.Rows L2
section
variable {P : Program} {w : World} {K : PySem.W.Frag}
  {mg : Str → Option Value} {base : Heap} {C CI CO CV CT c PT : Addr}
/-- the law, by what the top has left -/
theorem all16
    {f1 f2 f3 f4 f5 f6 f7 f8 f9 f10 f11 f12 f13 f14 f15 f16 f17 f18 f19 f20
      f21 : Addr}
    {d1 d2 d3 d4 d5 d6 d7 d8 d9 d10 d11 d12 d13 d14 d15 d16 d17 d18 d19 d20
      d21 : FuncData}
    {m1 m2 m3 m4 : Addr} {e1 e2 e3 e4 : FuncData}
    {g1 g2 : Addr} {h1 h2 : FuncData}
    {t40 t8 : Tok} (B : Bl mg) (T : BC K mg C)
    (bA : mg "any" = none) (bS : mg "sorted" = none)
    (mk : PySem.W.makesIn K C = true)
    (c40 : mg "MAX_ITEMS" = some (.int 40 t40))
    (c8 : mg "MAX_NAME_LENGTH" = some (.int 8 t8))
    (X : XT K mg CI CO CV CT) (XI : XCl K CI)
    (i1 : PySem.W.findIn K (.ref CI) "problem" = some none)
    (i2 : PySem.W.findIn K (.ref CI) "position" = some none)
    (exI : PySem.W.exmOne K (.ref CI) (.ref CI) = some true)
    (D1 : DefAt K mg "is_name" s_is_name ["value"] f1 d1)
    (D2 : DefAt K mg "names_fault" s_names_fault ["value", "most"] f2 d2)
    (D3 : DefAt K mg "check_items" s_check_items ["items"] f3 d3)
    (D4 : DefAt K mg "order_fault" s_order_fault ["base", "value"] f4 d4)
    (D5 : DefAt K mg "is_order" s_is_order ["base", "value"] f5 d5)
    (D6 : DefAt K mg "words_of" s_words_of ["text"] f6 d6)
    (D7 : DefAt K mg "load_base" s_load_base ["text"] f7 d7)
    (D8 : DefAt K mg "load_order" s_load_order ["base", "text"] f8 d8)
    (D9 : DefAt K mg "_law_rng" s_Lrng ["_law_script", "_law_k"] f9 d9)
    (D10 : DefAt K mg "_law_draw" s_Ldraw ["_law_rng_here", "_law_many"] f10
      d10)
    (D11 : DefAt K mg "_law_choice" s_Lchoice
      ["_law_rng_here", "_law_options"] f11 d11)
    (D12 : DefAt K mg "_law_name" s_Lname ["_law_rng_here", "_law_used"] f12
      d12)
    (D13 : DefAt K mg "_law_names" s_Lnames
      ["_law_rng_here", "_law_many", "_law_used"] f13 d13)
    (D14 : DefAt K mg "_law_shuffled" s_Lshuffled
      ["_law_rng_here", "_law_values"] f14 d14)
    (D15 : DefAt K mg "_law_is_name" s_Lis_name ["_law_word"] f15 d15)
    (D16 : DefAt K mg "_law_changed" s_Lchanged
      ["_law_rng_here", "_law_text"] f16 d16)
    (D17 : DefAt K mg "_law_base_due" s_Lbase_due ["_law_text"] f17 d17)
    (D18 : DefAt K mg "_law_order_due" s_Lorder_due
      ["_law_items", "_law_text"] f18 d18)
    (D19 : DefAt K mg "_law_told" s_Ltold ["_law_call"] f19 d19)
    (D20 : DefAt K mg "_law_text_right" s_Ltext_right
      ["_law_base", "_law_items", "_law_text"] f20 d20)
    (D21 : DefAt K mg "law" s_law ["_law_script"] f21 d21)
    (M1 : MethAt K C "__init__" "Base.__init__" s_Base_init
      ["self", "items"] m1 e1)
    (M2 : MethAt K C "__len__" "Base.__len__" s_Base_len ["self"] m2 e2)
    (M3 : MethAt K C "names" "Base.names" s_Base_names ["self"] m3 e3)
    (M4 : MethAt K C "has_item" "Base.has_item" s_Base_has_item
      ["self", "value"] m4 e4)
    (I1 : XInit K CI "InvalidBase.__init__" s_InvalidBase_init
      ["self", "problem", "position"] g1 h1)
    (I2 : XInit K CT "InvalidText.__init__" s_InvalidText_init
      ["self", "line"] g2 h2)
    (hcode : d20.code = .ref c) (TB : LamX.TabB base mg c PT) :
    FnG P w K mg base CX0 11 f21 d21 ["_law_script"]
      (spLawT K [(PT, lamQ)]) := by
  have G10 := ok_draw (P := P) (w := w) (base := base) (k := 0) D10.fn B
  have G9 := ok_rng (P := P) (w := w) (base := base) (k := 0) D9.fn B
  have G1 := ok_isname (P := P) (w := w) (base := base) (k := 0) D1.fn B c8
  have G15 := ok_lisN (P := P) (w := w) (base := base) (k := 0) D15.fn B
  have G18 := ok_odue (P := P) (w := w) (base := base) (k := 0) D18.fn B bS
  have H3 := ok_getnames (P := P) (w := w) (base := base) (k := 0) M3.fn B T
  have H2 := ok_lenB (P := P) (w := w) (base := base) (k := 0) M2.fn B T
  have J1 := ok_ibinit (P := P) (w := w) (base := base) (mg := mg) (k := 0)
    I1.fn XI.ox i1 i2
  have J2 := ok_itinit (P := P) (w := w) (base := base) (mg := mg) (k := 0)
    I2.fn X.cl.ox X.n1
  have J3 := ok_itinitH (P := P) (w := w) (base := base) (mg := mg) (k := 3)
    I2.fn X.cl.ox X.n1
  have xI : XMk P w K mg base CI 1 "InvalidBase"
      ["self", "problem", "position"] (spX2 CI "problem" "position") :=
    ⟨X.mI, XI, g1, h1, J1, I1.at_, I1.ty, I1.bd⟩
  have xT : XMk P w K mg base CT 1 "InvalidText" ["self", "line"]
      (spX1 CT "line") := ⟨X.mT, X.cl, g2, h2, J2, I2.at_, I2.ty, I2.bd⟩
  have xH : XMkH P w K mg base CT 4 "InvalidText" ["self", "line"]
      (spX1 CT "line") := ⟨X.mT, X.cl, g2, h2, J3, I2.at_, I2.ty, I2.bd⟩
  have G11 := ok_choice (k := 1) D11.fn B (D10.cal G10 (by decide))
  have G12 := ok_name (k := 1) D12.fn B (D10.cal G10 (by decide))
  have G13 := ok_names (k := 2) D13.fn B (D12.cal G12 (by decide))
  have G14 := ok_shuf (k := 1) D14.fn B (D10.cal G10 (by decide))
  have G16 := ok_chg (k := 2) D16.fn B (D10.cal G10 (by decide))
    (D11.cal G11 (by decide))
  have G17 := ok_bdue (k := 1) D17.fn B bA (D15.cal G15 (by decide))
  have G2x := ok_nfaultX (k := 1) D2.fn B (D1.cal G1 (by decide))
  have G3n := ok_checkN (k := 2) (j := 1) D3.fn (D2.cal G2x (by decide)) xI
    (by decide) c40
  have H1n := ok_initN (k := 3) M1.fn B T
    ⟨f3, d3, G3n.mono (by decide), D3.mg, D3.fn.kp, D3.bd⟩
  have G2 := ok_nfault (k := 1) D2.fn B (D1.cal G1 (by decide))
  have G3 := ok_check (k := 2) D3.fn (D2.cal G2 (by decide)) c40
  have H1 := ok_init (k := 3) M1.fn B T (D3.cal G3 (by decide))
  have mkB : Mk K C m1 := ⟨mk, M1.me.at_, M1.me.fn, T.kC⟩
  have H4 := ok_has (k := 1) M4.fn B T (D1.cal G1 (by decide))
  have G4 := ok_faultT (k := 2) (n := 1) D4.fn B T
    (M4.calM T.cl H4 (by decide)) M2.spec H2 (by decide)
  have G5 := ok_isordT (k := 3) D5.fn (D4.cal G4 (by decide))
  have G6 := ok_wordsX (k := 2) (j := 1) D6.fn B xT (by decide)
  have G7 := ok_loadBX (k := 5) (j := 4) D7.fn X.mI exI
    ⟨f6, d6, G6.mono (by decide), D6.mg, D6.fn.kp, D6.bd⟩
    ⟨T.mgC, m1, e1, H1n.mono (by decide), mkB, M1.bd⟩ (by decide) xH
  have G8 := ok_loadOX (k := 4) (j := 1) D8.fn
    ⟨f6, d6, G6.mono (by decide), D6.mg, D6.fn.kp, D6.bd⟩
    (D5.cal G5 (by decide)) xT (by decide)
  have G20 := ok_tr (k := 6) (T := [(PT, lamQ)]) D20.fn hcode B X D19.fn D19.mg
    D19.fn.kp D19.bd TB (List.mem_singleton.mpr rfl)
    (fun p hp _ => by rw [List.mem_singleton.mp hp])
    (D17.cal G17 (by decide)) (D18.cal G18 (by decide))
    ⟨f7, d7, G7.mono (by decide), D7.mg, D7.fn.kp, D7.bd⟩
    ⟨f8, d8, G8.mono (by decide), D8.mg, D8.fn.kp, D8.bd⟩
    (M3.calM T.cl H3 (by decide))
  exact ok_law16 (k := 9) D21.fn B T (D9.cal G9 (by decide))
    (D10.cal G10 (by decide)) (D13.cal G13 (by decide))
    (D14.cal G14 (by decide)) (D16.cal G16 (by decide))
    ⟨T.mgC, m1, e1, H1.mono (by decide), mkB, M1.bd⟩
    (M3.calM T.cl H3 (by decide)) (D20.calG G20 (by decide))
end
end OM
namespace OM
open PySem PySem.Spec PyProof.Rows L2
theorem defAtC {K : PySem.W.Frag} {mg : Str → Option Value} {h : Heap}
    {x : Str} {st : Stmt} {ps : List Str} {f cc : Addr} {oc : Value}
    {od an : Option Addr} {sl : Array (Option Value)}
    {kV dc pm ct : Value} (X : K.In h) (G : h.Ns mainGlobals mg)
    (a : PySem.W.nsIn K mainGlobals x = some (some (.ref f)))
    (l : K.lookup f = some ⟨oc, od, .func (PySem.W.fnOf x x (defArgs st)
      (defBody st) (defScope st) .none kV dc pm an (.ref cc) ct), sl⟩)
    (c : PySem.W.codeIn K (.ref cc) x = true)
    (k : PySem.W.keepIn K (.ref f) = true)
    (b : ∀ (kV doc pm : Value) (an : Option Addr) (cdv ct : Value)
      (us : List Value), us.length = ps.length →
      bindArgs (PySem.W.fnOf x x (defArgs st) (defBody st) (defScope st)
        .none kV doc pm an cdv ct) ⟨us, []⟩ = pure (ps.zip us)) :
    ∃ fd, DefAt K mg x st ps f fd ∧ fd.code = .ref cc :=
  have F := fun_mk (st := st) l c k
  ⟨_, ⟨F, PySem.W.mg_of X G a, F.binds b,
    fun _ us hl => .of_eq (b _ _ _ _ _ _ us hl)⟩, rfl⟩
theorem fin16 {l : PySem.W.OpenLaw} {w : World} {K : PySem.W.Frag} {h : Heap}
    {mg : Str → Option Value} {fa C : Addr} (X : K.In h)
    (G : h.Ns mainGlobals mg) (hfa : mg "law" = some (.ref fa))
    {f1 f2 f3 f4 f5 f6 f7 f8 f9 f10 f11 f12 f13 f14 f15 f16 f17 f18 f19 f20 f21 m1 m2 m3 m4 g1 g2 : Addr}
    {odf1 anf1 odf2 anf2 odf3 anf3 odf4 anf4 odf5 anf5 odf6 anf6 odf7 anf7 odf8 anf8 odf9 anf9 odf10 anf10 odf11 anf11 odf12 anf12 odf13 anf13 odf14 anf14 odf15 anf15 odf16 anf16 odf17 anf17 odf18 anf18 odf19 anf19 odf20 anf20 odf21 anf21 odm1 anm1 odm2 anm2 odm3 anm3 odm4 anm4 odg1 ang1 odg2 ang2 : Option Addr}
    {slf1 slf2 slf3 slf4 slf5 slf6 slf7 slf8 slf9 slf10 slf11 slf12 slf13 slf14 slf15 slf16 slf17 slf18 slf19 slf20 slf21 slm1 slm2 slm3 slm4 slg1 slg2 : Array (Option Value)}
    {ocf1 kVf1 dcf1 pmf1 cdf1 ctf1 : Value}
    {ocf2 kVf2 dcf2 pmf2 cdf2 ctf2 : Value}
    {ocf3 kVf3 dcf3 pmf3 cdf3 ctf3 : Value}
    {ocf4 kVf4 dcf4 pmf4 cdf4 ctf4 : Value}
    {ocf5 kVf5 dcf5 pmf5 cdf5 ctf5 : Value}
    {ocf6 kVf6 dcf6 pmf6 cdf6 ctf6 : Value}
    {ocf7 kVf7 dcf7 pmf7 cdf7 ctf7 : Value}
    {ocf8 kVf8 dcf8 pmf8 cdf8 ctf8 : Value}
    {ocf9 kVf9 dcf9 pmf9 cdf9 ctf9 : Value}
    {ocf10 kVf10 dcf10 pmf10 cdf10 ctf10 : Value}
    {ocf11 kVf11 dcf11 pmf11 cdf11 ctf11 : Value}
    {ocf12 kVf12 dcf12 pmf12 cdf12 ctf12 : Value}
    {ocf13 kVf13 dcf13 pmf13 cdf13 ctf13 : Value}
    {ocf14 kVf14 dcf14 pmf14 cdf14 ctf14 : Value}
    {ocf15 kVf15 dcf15 pmf15 cdf15 ctf15 : Value}
    {ocf16 kVf16 dcf16 pmf16 cdf16 ctf16 : Value}
    {ocf17 kVf17 dcf17 pmf17 cdf17 ctf17 : Value}
    {ocf18 kVf18 dcf18 pmf18 cdf18 ctf18 : Value}
    {ocf19 kVf19 dcf19 pmf19 cdf19 ctf19 : Value}
    {ocf20 kVf20 dcf20 pmf20 ctf20 : Value}
    {ocf21 kVf21 dcf21 pmf21 cdf21 ctf21 : Value}
    {ocm1 kVm1 dcm1 pmm1 cdm1 ctm1 : Value}
    {ocm2 kVm2 dcm2 pmm2 cdm2 ctm2 : Value}
    {ocm3 kVm3 dcm3 pmm3 cdm3 ctm3 : Value}
    {ocm4 kVm4 dcm4 pmm4 cdm4 ctm4 : Value}
    {ocg1 kVg1 dcg1 pmg1 cdg1 ctg1 : Value}
    {ocg2 kVg2 dcg2 pmg2 cdg2 ctg2 : Value}
    {t40 t8 : Tok}
    {tc_law_text_right tp_law_text_right : Addr} {to_law_text_right : Value} {td_law_text_right : Option Addr} {ts_law_text_right : Array (Option Value)} {tu_law_text_right : Array Value}
    {CI CT CO CV : Addr}
    {nmCI qCI : Str} {NCI : Addr} {bsCI subCI : List Value} {snCI : List Str} {abCI : Bool} {colCI : Option Bool} {ddCI : Option Addr} {k0CI k1CI k2CI k3CI k5CI : Option Value}
    {nmCT qCT : Str} {NCT : Addr} {bsCT subCT : List Value} {snCT : List Str} {abCT : Bool} {colCT : Option Bool} {ddCT : Option Addr} {k0CT k1CT k2CT k3CT k5CT : Option Value}
    (af1 : PySem.W.nsIn K mainGlobals "is_name" = some (some (.ref f1)))
    (lf1 : K.lookup f1 = some ⟨ocf1, odf1, .func (PySem.W.fnOf "is_name" "is_name"
      (defArgs s_is_name) (defBody s_is_name) (defScope s_is_name) .none kVf1 dcf1 pmf1 anf1 cdf1
      ctf1), slf1⟩)
    (cf1 : PySem.W.codeIn K cdf1 "is_name" = true)
    (kf1 : PySem.W.keepIn K (.ref f1) = true)
    (af2 : PySem.W.nsIn K mainGlobals "names_fault" = some (some (.ref f2)))
    (lf2 : K.lookup f2 = some ⟨ocf2, odf2, .func (PySem.W.fnOf "names_fault" "names_fault"
      (defArgs s_names_fault) (defBody s_names_fault) (defScope s_names_fault) .none kVf2 dcf2 pmf2 anf2 cdf2
      ctf2), slf2⟩)
    (cf2 : PySem.W.codeIn K cdf2 "names_fault" = true)
    (kf2 : PySem.W.keepIn K (.ref f2) = true)
    (af3 : PySem.W.nsIn K mainGlobals "check_items" = some (some (.ref f3)))
    (lf3 : K.lookup f3 = some ⟨ocf3, odf3, .func (PySem.W.fnOf "check_items" "check_items"
      (defArgs s_check_items) (defBody s_check_items) (defScope s_check_items) .none kVf3 dcf3 pmf3 anf3 cdf3
      ctf3), slf3⟩)
    (cf3 : PySem.W.codeIn K cdf3 "check_items" = true)
    (kf3 : PySem.W.keepIn K (.ref f3) = true)
    (af4 : PySem.W.nsIn K mainGlobals "order_fault" = some (some (.ref f4)))
    (lf4 : K.lookup f4 = some ⟨ocf4, odf4, .func (PySem.W.fnOf "order_fault" "order_fault"
      (defArgs s_order_fault) (defBody s_order_fault) (defScope s_order_fault) .none kVf4 dcf4 pmf4 anf4 cdf4
      ctf4), slf4⟩)
    (cf4 : PySem.W.codeIn K cdf4 "order_fault" = true)
    (kf4 : PySem.W.keepIn K (.ref f4) = true)
    (af5 : PySem.W.nsIn K mainGlobals "is_order" = some (some (.ref f5)))
    (lf5 : K.lookup f5 = some ⟨ocf5, odf5, .func (PySem.W.fnOf "is_order" "is_order"
      (defArgs s_is_order) (defBody s_is_order) (defScope s_is_order) .none kVf5 dcf5 pmf5 anf5 cdf5
      ctf5), slf5⟩)
    (cf5 : PySem.W.codeIn K cdf5 "is_order" = true)
    (kf5 : PySem.W.keepIn K (.ref f5) = true)
    (af6 : PySem.W.nsIn K mainGlobals "words_of" = some (some (.ref f6)))
    (lf6 : K.lookup f6 = some ⟨ocf6, odf6, .func (PySem.W.fnOf "words_of" "words_of"
      (defArgs s_words_of) (defBody s_words_of) (defScope s_words_of) .none kVf6 dcf6 pmf6 anf6 cdf6
      ctf6), slf6⟩)
    (cf6 : PySem.W.codeIn K cdf6 "words_of" = true)
    (kf6 : PySem.W.keepIn K (.ref f6) = true)
    (af7 : PySem.W.nsIn K mainGlobals "load_base" = some (some (.ref f7)))
    (lf7 : K.lookup f7 = some ⟨ocf7, odf7, .func (PySem.W.fnOf "load_base" "load_base"
      (defArgs s_load_base) (defBody s_load_base) (defScope s_load_base) .none kVf7 dcf7 pmf7 anf7 cdf7
      ctf7), slf7⟩)
    (cf7 : PySem.W.codeIn K cdf7 "load_base" = true)
    (kf7 : PySem.W.keepIn K (.ref f7) = true)
    (af8 : PySem.W.nsIn K mainGlobals "load_order" = some (some (.ref f8)))
    (lf8 : K.lookup f8 = some ⟨ocf8, odf8, .func (PySem.W.fnOf "load_order" "load_order"
      (defArgs s_load_order) (defBody s_load_order) (defScope s_load_order) .none kVf8 dcf8 pmf8 anf8 cdf8
      ctf8), slf8⟩)
    (cf8 : PySem.W.codeIn K cdf8 "load_order" = true)
    (kf8 : PySem.W.keepIn K (.ref f8) = true)
    (af9 : PySem.W.nsIn K mainGlobals "_law_rng" = some (some (.ref f9)))
    (lf9 : K.lookup f9 = some ⟨ocf9, odf9, .func (PySem.W.fnOf "_law_rng" "_law_rng"
      (defArgs s_Lrng) (defBody s_Lrng) (defScope s_Lrng) .none kVf9 dcf9 pmf9 anf9 cdf9
      ctf9), slf9⟩)
    (cf9 : PySem.W.codeIn K cdf9 "_law_rng" = true)
    (kf9 : PySem.W.keepIn K (.ref f9) = true)
    (af10 : PySem.W.nsIn K mainGlobals "_law_draw" = some (some (.ref f10)))
    (lf10 : K.lookup f10 = some ⟨ocf10, odf10, .func (PySem.W.fnOf "_law_draw" "_law_draw"
      (defArgs s_Ldraw) (defBody s_Ldraw) (defScope s_Ldraw) .none kVf10 dcf10 pmf10 anf10 cdf10
      ctf10), slf10⟩)
    (cf10 : PySem.W.codeIn K cdf10 "_law_draw" = true)
    (kf10 : PySem.W.keepIn K (.ref f10) = true)
    (af11 : PySem.W.nsIn K mainGlobals "_law_choice" = some (some (.ref f11)))
    (lf11 : K.lookup f11 = some ⟨ocf11, odf11, .func (PySem.W.fnOf "_law_choice" "_law_choice"
      (defArgs s_Lchoice) (defBody s_Lchoice) (defScope s_Lchoice) .none kVf11 dcf11 pmf11 anf11 cdf11
      ctf11), slf11⟩)
    (cf11 : PySem.W.codeIn K cdf11 "_law_choice" = true)
    (kf11 : PySem.W.keepIn K (.ref f11) = true)
    (af12 : PySem.W.nsIn K mainGlobals "_law_name" = some (some (.ref f12)))
    (lf12 : K.lookup f12 = some ⟨ocf12, odf12, .func (PySem.W.fnOf "_law_name" "_law_name"
      (defArgs s_Lname) (defBody s_Lname) (defScope s_Lname) .none kVf12 dcf12 pmf12 anf12 cdf12
      ctf12), slf12⟩)
    (cf12 : PySem.W.codeIn K cdf12 "_law_name" = true)
    (kf12 : PySem.W.keepIn K (.ref f12) = true)
    (af13 : PySem.W.nsIn K mainGlobals "_law_names" = some (some (.ref f13)))
    (lf13 : K.lookup f13 = some ⟨ocf13, odf13, .func (PySem.W.fnOf "_law_names" "_law_names"
      (defArgs s_Lnames) (defBody s_Lnames) (defScope s_Lnames) .none kVf13 dcf13 pmf13 anf13 cdf13
      ctf13), slf13⟩)
    (cf13 : PySem.W.codeIn K cdf13 "_law_names" = true)
    (kf13 : PySem.W.keepIn K (.ref f13) = true)
    (af14 : PySem.W.nsIn K mainGlobals "_law_shuffled" = some (some (.ref f14)))
    (lf14 : K.lookup f14 = some ⟨ocf14, odf14, .func (PySem.W.fnOf "_law_shuffled" "_law_shuffled"
      (defArgs s_Lshuffled) (defBody s_Lshuffled) (defScope s_Lshuffled) .none kVf14 dcf14 pmf14 anf14 cdf14
      ctf14), slf14⟩)
    (cf14 : PySem.W.codeIn K cdf14 "_law_shuffled" = true)
    (kf14 : PySem.W.keepIn K (.ref f14) = true)
    (af15 : PySem.W.nsIn K mainGlobals "_law_is_name" = some (some (.ref f15)))
    (lf15 : K.lookup f15 = some ⟨ocf15, odf15, .func (PySem.W.fnOf "_law_is_name" "_law_is_name"
      (defArgs s_Lis_name) (defBody s_Lis_name) (defScope s_Lis_name) .none kVf15 dcf15 pmf15 anf15 cdf15
      ctf15), slf15⟩)
    (cf15 : PySem.W.codeIn K cdf15 "_law_is_name" = true)
    (kf15 : PySem.W.keepIn K (.ref f15) = true)
    (af16 : PySem.W.nsIn K mainGlobals "_law_changed" = some (some (.ref f16)))
    (lf16 : K.lookup f16 = some ⟨ocf16, odf16, .func (PySem.W.fnOf "_law_changed" "_law_changed"
      (defArgs s_Lchanged) (defBody s_Lchanged) (defScope s_Lchanged) .none kVf16 dcf16 pmf16 anf16 cdf16
      ctf16), slf16⟩)
    (cf16 : PySem.W.codeIn K cdf16 "_law_changed" = true)
    (kf16 : PySem.W.keepIn K (.ref f16) = true)
    (af17 : PySem.W.nsIn K mainGlobals "_law_base_due" = some (some (.ref f17)))
    (lf17 : K.lookup f17 = some ⟨ocf17, odf17, .func (PySem.W.fnOf "_law_base_due" "_law_base_due"
      (defArgs s_Lbase_due) (defBody s_Lbase_due) (defScope s_Lbase_due) .none kVf17 dcf17 pmf17 anf17 cdf17
      ctf17), slf17⟩)
    (cf17 : PySem.W.codeIn K cdf17 "_law_base_due" = true)
    (kf17 : PySem.W.keepIn K (.ref f17) = true)
    (af18 : PySem.W.nsIn K mainGlobals "_law_order_due" = some (some (.ref f18)))
    (lf18 : K.lookup f18 = some ⟨ocf18, odf18, .func (PySem.W.fnOf "_law_order_due" "_law_order_due"
      (defArgs s_Lorder_due) (defBody s_Lorder_due) (defScope s_Lorder_due) .none kVf18 dcf18 pmf18 anf18 cdf18
      ctf18), slf18⟩)
    (cf18 : PySem.W.codeIn K cdf18 "_law_order_due" = true)
    (kf18 : PySem.W.keepIn K (.ref f18) = true)
    (af19 : PySem.W.nsIn K mainGlobals "_law_told" = some (some (.ref f19)))
    (lf19 : K.lookup f19 = some ⟨ocf19, odf19, .func (PySem.W.fnOf "_law_told" "_law_told"
      (defArgs s_Ltold) (defBody s_Ltold) (defScope s_Ltold) .none kVf19 dcf19 pmf19 anf19 cdf19
      ctf19), slf19⟩)
    (cf19 : PySem.W.codeIn K cdf19 "_law_told" = true)
    (kf19 : PySem.W.keepIn K (.ref f19) = true)
    (af20 : PySem.W.nsIn K mainGlobals "_law_text_right" = some (some (.ref f20)))
    (lf20 : K.lookup f20 = some ⟨ocf20, odf20, .func (PySem.W.fnOf "_law_text_right" "_law_text_right"
      (defArgs s_Ltext_right) (defBody s_Ltext_right) (defScope s_Ltext_right) .none kVf20 dcf20 pmf20 anf20 (.ref tc_law_text_right)
      ctf20), slf20⟩)
    (cf20 : PySem.W.codeIn K (.ref tc_law_text_right) "_law_text_right" = true)
    (tl_law_text_right : K.lookup tc_law_text_right = some ⟨to_law_text_right, td_law_text_right, .fields tu_law_text_right, ts_law_text_right⟩)
    (tv_law_text_right : tu_law_text_right[11]? = some (.ref tp_law_text_right))
    (tn_law_text_right : K.lookup tp_law_text_right = none)
    (tk_law_text_right : PySem.W.codeHdIn K tc_law_text_right tp_law_text_right = true)
    (te_law_text_right : h.get? tp_law_text_right = some (PySem.W.tabObj #[]))
    (kf20 : PySem.W.keepIn K (.ref f20) = true)
    (af21 : PySem.W.nsIn K mainGlobals "law" = some (some (.ref f21)))
    (lf21 : K.lookup f21 = some ⟨ocf21, odf21, .func (PySem.W.fnOf "law" "law"
      (defArgs s_law) (defBody s_law) (defScope s_law) .none kVf21 dcf21 pmf21 anf21 cdf21
      ctf21), slf21⟩)
    (cf21 : PySem.W.codeIn K cdf21 "law" = true)
    (kf21 : PySem.W.keepIn K (.ref f21) = true)
    (aC : PySem.W.nsIn K mainGlobals "Base" = some (some (.ref C)))
    (am1 : PySem.W.findIn K (.ref C) "__init__" = some (some (.ref m1)))
    (im1 : PySem.W.isFn K (.ref m1) = true)
    (lm1 : K.lookup m1 = some ⟨ocm1, odm1, .func (PySem.W.fnOf "__init__" "Base.__init__"
      (defArgs s_Base_init) (defBody s_Base_init) (defScope s_Base_init) .none kVm1 dcm1 pmm1 anm1 cdm1
      ctm1), slm1⟩)
    (cm1 : PySem.W.codeIn K cdm1 "Base.__init__" = true)
    (km1 : PySem.W.keepIn K (.ref m1) = true)
    (am2 : PySem.W.findIn K (.ref C) "__len__" = some (some (.ref m2)))
    (im2 : PySem.W.isFn K (.ref m2) = true)
    (lm2 : K.lookup m2 = some ⟨ocm2, odm2, .func (PySem.W.fnOf "__len__" "Base.__len__"
      (defArgs s_Base_len) (defBody s_Base_len) (defScope s_Base_len) .none kVm2 dcm2 pmm2 anm2 cdm2
      ctm2), slm2⟩)
    (cm2 : PySem.W.codeIn K cdm2 "Base.__len__" = true)
    (km2 : PySem.W.keepIn K (.ref m2) = true)
    (am3 : PySem.W.findIn K (.ref C) "names" = some (some (.ref m3)))
    (im3 : PySem.W.isFn K (.ref m3) = true)
    (lm3 : K.lookup m3 = some ⟨ocm3, odm3, .func (PySem.W.fnOf "names" "Base.names"
      (defArgs s_Base_names) (defBody s_Base_names) (defScope s_Base_names) .none kVm3 dcm3 pmm3 anm3 cdm3
      ctm3), slm3⟩)
    (cm3 : PySem.W.codeIn K cdm3 "Base.names" = true)
    (km3 : PySem.W.keepIn K (.ref m3) = true)
    (am4 : PySem.W.findIn K (.ref C) "has_item" = some (some (.ref m4)))
    (im4 : PySem.W.isFn K (.ref m4) = true)
    (lm4 : K.lookup m4 = some ⟨ocm4, odm4, .func (PySem.W.fnOf "has_item" "Base.has_item"
      (defArgs s_Base_has_item) (defBody s_Base_has_item) (defScope s_Base_has_item) .none kVm4 dcm4 pmm4 anm4 cdm4
      ctm4), slm4⟩)
    (cm4 : PySem.W.codeIn K cdm4 "Base.has_item" = true)
    (km4 : PySem.W.keepIn K (.ref m4) = true)
    (pg : PySem.W.plainGet K C Str.empty = true)
    (hd : PySem.W.hasDictIn K C = true)
    (po : PySem.W.plainOver K C = true)
    (sa : PySem.W.findIn K (.ref C) "__setattr__" =
      some (some (.builtin "object.__setattr__")))
    (ha : PySem.W.findIn K (.ref C) "__class__" =
      some (some (.builtin "object.__class__")))
    (hn : PySem.W.specialIn K (.builtin "object.__class__") "__get__" =
      some (some (.builtin "getset_descriptor.__get__")))
    (htk : PySem.W.takesIn K (.builtin "object.__class__") = some true)
    (hm : PySem.W.mroIn K C (.type "object") = some true)
    (mk : PySem.W.makesIn K C = true)
    (kc : PySem.W.keepIn K (.ref C) = true)
    (nL : PySem.W.findIn K (.ref C) "listed" = some none)
    (nP : PySem.W.findIn K (.ref C) "places" = some none)
    (c40 : PySem.W.nsIn K mainGlobals "MAX_ITEMS" = some (some (.int 40 t40)))
    (c8 : PySem.W.nsIn K mainGlobals "MAX_NAME_LENGTH" =
      some (some (.int 8 t8)))
    (zlen : PySem.W.nsIn K mainGlobals "len" = some none)
    (zdivmod : PySem.W.nsIn K mainGlobals "divmod" = some none)
    (zabs : PySem.W.nsIn K mainGlobals "abs" = some none)
    (zmax : PySem.W.nsIn K mainGlobals "max" = some none)
    (zmin : PySem.W.nsIn K mainGlobals "min" = some none)
    (zrange : PySem.W.nsIn K mainGlobals "range" = some none)
    (zenumerate : PySem.W.nsIn K mainGlobals "enumerate" = some none)
    (zisinstance : PySem.W.nsIn K mainGlobals "isinstance" = some none)
    (zstr : PySem.W.nsIn K mainGlobals "str" = some none)
    (zlist : PySem.W.nsIn K mainGlobals "list" = some none)
    (zset : PySem.W.nsIn K mainGlobals "set" = some none)
    (zall : PySem.W.nsIn K mainGlobals "all" = some none)
    (zrepr : PySem.W.nsIn K mainGlobals "repr" = some none)
    (zany : PySem.W.nsIn K mainGlobals "any" = some none)
    (zsorted : PySem.W.nsIn K mainGlobals "sorted" = some none)
    (aCO : PySem.W.nsIn K mainGlobals "OrderError" = some (some (.ref CO)))
    (iCO : PySem.W.isClsIn K CO = true)
    (tCO : PySem.W.typeIn K (.ref CO) = some (.type "type"))
    (aCV : PySem.W.nsIn K mainGlobals "InvalidOrder" = some (some (.ref CV)))
    (iCV : PySem.W.isClsIn K CV = true)
    (tCV : PySem.W.typeIn K (.ref CV) = some (.type "type"))
    (eCO : PySem.W.subIn K (.ref CO) (.type "BaseException") = some true)
    (aCI : PySem.W.nsIn K mainGlobals "InvalidBase" = some (some (.ref CI)))
    (xCI : K.lookup CI = some (excClassObj nmCI qCI CI NCI bsCI [.ref CO,
      .type "ValueError", .type "Exception", .type "BaseException",
      .type "object"] true snCI subCI abCI colCI ddCI k0CI k1CI k2CI k3CI k5CI
      "ValueError.__new__"))
    (saCI : PySem.W.findIn K (.ref CI) "__setattr__" =
      some (some (.builtin "object.__setattr__")))
    (gaCI : PySem.W.findIn K (.ref CI) "__getattribute__" =
      some (some (.builtin "BaseException.__getattribute__")))
    (ggCI : PySem.W.findIn K (.ref CI) "__getattr__" = some none)
    (haCI : PySem.W.findIn K (.ref CI) "__class__" =
      some (some (.builtin "object.__class__")))
    (hmCI : PySem.W.mroIn K CI (.type "object") = some true)
    (eCCI : PySem.W.subIn K (.ref CI) (.type "BaseException") = some true)
    (tCCI : PySem.W.typeIn K (.ref CI) = some (.type "type"))
    (kCCI : PySem.W.keepIn K (.ref CI) = true)
    (hCCI : PySem.W.hasDictIn K CI = true)
    (n0CI : PySem.W.findIn K (.ref CI) "problem" = some none)
    (n1CI : PySem.W.findIn K (.ref CI) "position" = some none)
    (ag1 : PySem.W.findIn K (.ref CI) "__init__" = some (some (.ref g1)))
    (tg1 : PySem.W.typeIn K (.ref g1) = some (.type "function"))
    (lg1 : K.lookup g1 = some ⟨ocg1, odg1, .func (PySem.W.fnOf "__init__" "InvalidBase.__init__"
      (defArgs s_InvalidBase_init) (defBody s_InvalidBase_init) (defScope s_InvalidBase_init) .none kVg1 dcg1 pmg1 ang1 cdg1
      ctg1), slg1⟩)
    (cg1 : PySem.W.codeIn K cdg1 "InvalidBase.__init__" = true)
    (kg1 : PySem.W.keepIn K (.ref g1) = true)
    (aCT : PySem.W.nsIn K mainGlobals "InvalidText" = some (some (.ref CT)))
    (xCT : K.lookup CT = some (excClassObj nmCT qCT CT NCT bsCT [.ref CO,
      .type "ValueError", .type "Exception", .type "BaseException",
      .type "object"] true snCT subCT abCT colCT ddCT k0CT k1CT k2CT k3CT k5CT
      "ValueError.__new__"))
    (saCT : PySem.W.findIn K (.ref CT) "__setattr__" =
      some (some (.builtin "object.__setattr__")))
    (gaCT : PySem.W.findIn K (.ref CT) "__getattribute__" =
      some (some (.builtin "BaseException.__getattribute__")))
    (ggCT : PySem.W.findIn K (.ref CT) "__getattr__" = some none)
    (haCT : PySem.W.findIn K (.ref CT) "__class__" =
      some (some (.builtin "object.__class__")))
    (hmCT : PySem.W.mroIn K CT (.type "object") = some true)
    (eCCT : PySem.W.subIn K (.ref CT) (.type "BaseException") = some true)
    (tCCT : PySem.W.typeIn K (.ref CT) = some (.type "type"))
    (kCCT : PySem.W.keepIn K (.ref CT) = true)
    (hCCT : PySem.W.hasDictIn K CT = true)
    (n0CT : PySem.W.findIn K (.ref CT) "line" = some none)
    (ag2 : PySem.W.findIn K (.ref CT) "__init__" = some (some (.ref g2)))
    (tg2 : PySem.W.typeIn K (.ref g2) = some (.type "function"))
    (lg2 : K.lookup g2 = some ⟨ocg2, odg2, .func (PySem.W.fnOf "__init__" "InvalidText.__init__"
      (defArgs s_InvalidText_init) (defBody s_InvalidText_init) (defScope s_InvalidText_init) .none kVg2 dcg2 pmg2 ang2 cdg2
      ctg2), slg2⟩)
    (cg2 : PySem.W.codeIn K cdg2 "InvalidText.__init__" = true)
    (kg2 : PySem.W.keepIn K (.ref g2) = true)
    (zVE : PySem.W.nsIn K mainGlobals "ValueError" = some none)
    (zLE : PySem.W.nsIn K mainGlobals "LookupError" = some none)
    (iCI : PySem.W.isClsIn K CI = true)
    (iCT : PySem.W.isClsIn K CT = true)
    (sII : PySem.W.subIn K (.ref CI) (.ref CI) = some true)
    (sTT : PySem.W.subIn K (.ref CT) (.ref CT) = some true)
    (sTI : PySem.W.subIn K (.ref CT) (.ref CI) = some false)
    (sTV : PySem.W.subIn K (.ref CT) (.ref CV) = some false)
    (sTO : PySem.W.subIn K (.ref CT) (.ref CO) = some true)
    (nTI : (CT == CI) = false)
    (nTV : (CT == CV) = false)
    (nTO : (CT == CO) = false)
    (sTE : PySem.W.subIn K (.ref CT) (.type "ValueError") = some true)
    (sTL : PySem.W.subIn K (.ref CT) (.type "LookupError") = some false)
    : ∃ (fd : FuncData) (cs : List (Addr × Addr)) (sp : Sp), Bare0 K h cs ∧
      (∀ (s : Shared) (v : Value), BindsTo s fd ⟨[v], []⟩ [("_law_script", v)]) ∧
      (∀ (H : Hp) (a : Addr) (ns : List Int), ns.length ≤ 63 →
        (∀ p ∈ cs, H p.2 = some (.tbl #[])) → SqL K H a (ns.map V.int) →
        sp [.ref a] H (fun v _ => v = .bl true) E0) ∧
      ∀ base : Heap, K.In base → base.Ns mainGlobals mg →
        (∀ p ∈ cs, LamX.TabB base mg p.1 p.2) →
        (∀ b o, h.get? b = some o → (∀ z, o.data ≠ .seq z 0) →
          o.data ≠ .fields #[] → base.get? b = some o) →
        FnG l.prog w K mg base CX0 11 fa fd ["_law_script"] sp := by
  cases hfa.symm.trans (PySem.W.mg_of X G af21)
  have B : Bl mg := ⟨PySem.W.mg_none_of X G zlen, PySem.W.mg_none_of X G zdivmod, PySem.W.mg_none_of X G zabs, PySem.W.mg_none_of X G zmax, PySem.W.mg_none_of X G zmin, PySem.W.mg_none_of X G zrange, PySem.W.mg_none_of X G zenumerate, PySem.W.mg_none_of X G zisinstance, PySem.W.mg_none_of X G zstr, PySem.W.mg_none_of X G zlist, PySem.W.mg_none_of X G zset, PySem.W.mg_none_of X G zall, PySem.W.mg_none_of X G zrepr⟩
  have T : BC K mg C := ⟨⟨⟨pg, hd, po, sa⟩, ha, hn, htk, hm,
    if_pos (beq_self_eq_true _)⟩, nL, nP,
    PySem.W.mg_of X G aC, kc⟩
  obtain ⟨d1, D1⟩ := defAt (st := s_is_name) (ps := ["value"]) X G af1 lf1 cf1 kf1
    fun _ _ _ _ _ _ us hl => match us, hl with | [_], _ => rfl
  obtain ⟨d2, D2⟩ := defAt (st := s_names_fault) (ps := ["value", "most"]) X G af2 lf2 cf2 kf2
    fun _ _ _ _ _ _ us hl => match us, hl with | [_, _], _ => rfl
  obtain ⟨d3, D3⟩ := defAt (st := s_check_items) (ps := ["items"]) X G af3 lf3 cf3 kf3
    fun _ _ _ _ _ _ us hl => match us, hl with | [_], _ => rfl
  obtain ⟨d4, D4⟩ := defAt (st := s_order_fault) (ps := ["base", "value"]) X G af4 lf4 cf4 kf4
    fun _ _ _ _ _ _ us hl => match us, hl with | [_, _], _ => rfl
  obtain ⟨d5, D5⟩ := defAt (st := s_is_order) (ps := ["base", "value"]) X G af5 lf5 cf5 kf5
    fun _ _ _ _ _ _ us hl => match us, hl with | [_, _], _ => rfl
  obtain ⟨d6, D6⟩ := defAt (st := s_words_of) (ps := ["text"]) X G af6 lf6 cf6 kf6
    fun _ _ _ _ _ _ us hl => match us, hl with | [_], _ => rfl
  obtain ⟨d7, D7⟩ := defAt (st := s_load_base) (ps := ["text"]) X G af7 lf7 cf7 kf7
    fun _ _ _ _ _ _ us hl => match us, hl with | [_], _ => rfl
  obtain ⟨d8, D8⟩ := defAt (st := s_load_order) (ps := ["base", "text"]) X G af8 lf8 cf8 kf8
    fun _ _ _ _ _ _ us hl => match us, hl with | [_, _], _ => rfl
  obtain ⟨d9, D9⟩ := defAt (st := s_Lrng) (ps := ["_law_script", "_law_k"]) X G af9 lf9 cf9 kf9
    fun _ _ _ _ _ _ us hl => match us, hl with | [_, _], _ => rfl
  obtain ⟨d10, D10⟩ := defAt (st := s_Ldraw) (ps := ["_law_rng_here", "_law_many"]) X G af10 lf10 cf10 kf10
    fun _ _ _ _ _ _ us hl => match us, hl with | [_, _], _ => rfl
  obtain ⟨d11, D11⟩ := defAt (st := s_Lchoice) (ps := ["_law_rng_here", "_law_options"]) X G af11 lf11 cf11 kf11
    fun _ _ _ _ _ _ us hl => match us, hl with | [_, _], _ => rfl
  obtain ⟨d12, D12⟩ := defAt (st := s_Lname) (ps := ["_law_rng_here", "_law_used"]) X G af12 lf12 cf12 kf12
    fun _ _ _ _ _ _ us hl => match us, hl with | [_, _], _ => rfl
  obtain ⟨d13, D13⟩ := defAt (st := s_Lnames) (ps := ["_law_rng_here", "_law_many", "_law_used"]) X G af13 lf13 cf13 kf13
    fun _ _ _ _ _ _ us hl => match us, hl with | [_, _, _], _ => rfl
  obtain ⟨d14, D14⟩ := defAt (st := s_Lshuffled) (ps := ["_law_rng_here", "_law_values"]) X G af14 lf14 cf14 kf14
    fun _ _ _ _ _ _ us hl => match us, hl with | [_, _], _ => rfl
  obtain ⟨d15, D15⟩ := defAt (st := s_Lis_name) (ps := ["_law_word"]) X G af15 lf15 cf15 kf15
    fun _ _ _ _ _ _ us hl => match us, hl with | [_], _ => rfl
  obtain ⟨d16, D16⟩ := defAt (st := s_Lchanged) (ps := ["_law_rng_here", "_law_text"]) X G af16 lf16 cf16 kf16
    fun _ _ _ _ _ _ us hl => match us, hl with | [_, _], _ => rfl
  obtain ⟨d17, D17⟩ := defAt (st := s_Lbase_due) (ps := ["_law_text"]) X G af17 lf17 cf17 kf17
    fun _ _ _ _ _ _ us hl => match us, hl with | [_], _ => rfl
  obtain ⟨d18, D18⟩ := defAt (st := s_Lorder_due) (ps := ["_law_items", "_law_text"]) X G af18 lf18 cf18 kf18
    fun _ _ _ _ _ _ us hl => match us, hl with | [_, _], _ => rfl
  obtain ⟨d19, D19⟩ := defAt (st := s_Ltold) (ps := ["_law_call"]) X G af19 lf19 cf19 kf19
    fun _ _ _ _ _ _ us hl => match us, hl with | [_], _ => rfl
  obtain ⟨d20, D20, hcode_law_text_right⟩ := defAtC (st := s_Ltext_right) (ps := ["_law_base", "_law_items", "_law_text"]) X G af20 lf20 cf20 kf20
    fun _ _ _ _ _ _ us hl => match us, hl with | [_, _, _], _ => rfl
  obtain ⟨d21, D21⟩ := defAt (st := s_law) (ps := ["_law_script"]) X G af21 lf21 cf21 kf21
    fun _ _ _ _ _ _ us hl => match us, hl with | [_], _ => rfl
  obtain ⟨e1, M1⟩ := methAt (st := s_Base_init) (ps := ["self", "items"]) am1 im1 lm1 cm1 km1
    fun _ _ _ _ _ _ us hl => match us, hl with | [_, _], _ => rfl
  obtain ⟨e2, M2⟩ := methAt (st := s_Base_len) (ps := ["self"]) am2 im2 lm2 cm2 km2
    fun _ _ _ _ _ _ us hl => match us, hl with | [_], _ => rfl
  obtain ⟨e3, M3⟩ := methAt (st := s_Base_names) (ps := ["self"]) am3 im3 lm3 cm3 km3
    fun _ _ _ _ _ _ us hl => match us, hl with | [_], _ => rfl
  obtain ⟨e4, M4⟩ := methAt (st := s_Base_has_item) (ps := ["self", "value"]) am4 im4 lm4 cm4 km4
    fun _ _ _ _ _ _ us hl => match us, hl with | [_, _], _ => rfl
  obtain ⟨h1, I1⟩ := xInit (q := "InvalidBase.__init__") (st := s_InvalidBase_init) (ps := ["self", "problem", "position"]) ag1 tg1 lg1 cg1 kg1
    fun _ _ _ _ _ _ us hl => match us, hl with | [_, _, _], _ => rfl
  have xcCI : XCl K CI := ⟨⟨⟨_, _, _, _, _, _, _, _, _, _, _, _, _, _, _, xCI,
    by show PySem.HandSPX.refsVE PySem.HandSPX.veTail = true; decide +kernel⟩, saCI, eCCI, tCCI, kCCI⟩, ⟨gaCI, ggCI, eCCI, hCCI⟩,
    haCI, hn, htk, hmCI⟩
  obtain ⟨h2, I2⟩ := xInit (q := "InvalidText.__init__") (st := s_InvalidText_init) (ps := ["self", "line"]) ag2 tg2 lg2 cg2 kg2
    fun _ _ _ _ _ _ us hl => match us, hl with | [_, _], _ => rfl
  have xcCT : XCl K CT := ⟨⟨⟨_, _, _, _, _, _, _, _, _, _, _, _, _, _, _, xCT,
    by show PySem.HandSPX.refsVE PySem.HandSPX.veTail = true; decide +kernel⟩, saCT, eCCT, tCCT, kCCT⟩, ⟨gaCT, ggCT, eCCT, hCCT⟩,
    haCT, hn, htk, hmCT⟩
  have XX : XT K mg CI CO CV CT := ⟨xcCT, PySem.W.mg_of X G aCI, PySem.W.mg_of X G aCO,
    PySem.W.mg_of X G aCV, PySem.W.mg_of X G aCT,
    PySem.W.mg_none_of X G zVE, PySem.W.mg_none_of X G zLE, exm2 eCCT iCT tCCT sTT,
    kitAny_cons (kit2 nTI iCI tCCI sTI) (fun _ => kitAny_cons (kit2 nTV iCV tCV sTV)
      (fun _ => kitAny_cons (kitT (by decide +kernel) sTL) (fun _ => rfl) nofun) nofun) nofun,
    kit2 nTO iCO tCO sTO, kitT (by decide +kernel) sTE, n0CT⟩
  refine ⟨d21, [(tc_law_text_right, tp_law_text_right)], spLawT K [(tp_law_text_right, lamQ)], ⟨fun p hp => ?_, fun p hp => ?_, fun p hp => ?_⟩,
    fun s v => D21.bt s [v] rfl, fun H a ns hl ht hS => ⟨a, ns, rfl, hS, hl, fun p hp => ?_, fun _ => rfl⟩,
    fun base _ _ tb _ => ?_⟩
  · cases List.mem_singleton.mp hp
    exact PySem.W.codeHd_of_K X tk_law_text_right
  · cases List.mem_singleton.mp hp
    exact te_law_text_right
  · cases List.mem_singleton.mp hp
    exact tn_law_text_right
  · cases List.mem_singleton.mp hp
    exact LamX.TabS.nil (ht _ (.head _))
  exact all16 B T (PySem.W.mg_none_of X G zany) (PySem.W.mg_none_of X G zsorted) mk
    (PySem.W.mg_of X G c40) (PySem.W.mg_of X G c8) XX xcCI n0CI n1CI (exm2 eCCI iCI tCCI sII)
    D1 D2 D3 D4 D5 D6 D7 D8 D9 D10 D11 D12 D13 D14 D15 D16 D17 D18 D19 D20 D21 M1 M2 M3 M4 I1 I2 hcode_law_text_right (tb _ (.head _))
end OM
open PySem PySem.W PyProof.Rows
set_option maxRecDepth 100000 in
set_option maxHeartbeats 0 in
theorem PySem.Challenge.cw_ordermerge_k16_whole_texts_corrupted_holds : PySem.Challenge.rw_ordermerge_k16_whole_texts_corrupted.Holds := by
  w_on; o_law; k_head; (case hw => w_witness2)
  k_fill
  refine OM.walkT (l := PySem.Challenge.rw_ordermerge_k16_whole_texts_corrupted) (n := 63) (k := 11)
    (x := "_law_script") rfl (by decide) rfl
    ⟨rfl, by decide, by decide⟩ (fun w h Y => PySem.W.km_in_of Y) ?F
  case F =>
    intro w mg fa h Y KX G hmg
    refine' OM.fin16 KX G hmg ?af1
      ?lf1
      ?cf1
      ?kf1
      ?af2
      ?lf2
      ?cf2
      ?kf2
      ?af3
      ?lf3
      ?cf3
      ?kf3
      ?af4
      ?lf4
      ?cf4
      ?kf4
      ?af5
      ?lf5
      ?cf5
      ?kf5
      ?af6
      ?lf6
      ?cf6
      ?kf6
      ?af7
      ?lf7
      ?cf7
      ?kf7
      ?af8
      ?lf8
      ?cf8
      ?kf8
      ?af9
      ?lf9
      ?cf9
      ?kf9
      ?af10
      ?lf10
      ?cf10
      ?kf10
      ?af11
      ?lf11
      ?cf11
      ?kf11
      ?af12
      ?lf12
      ?cf12
      ?kf12
      ?af13
      ?lf13
      ?cf13
      ?kf13
      ?af14
      ?lf14
      ?cf14
      ?kf14
      ?af15
      ?lf15
      ?cf15
      ?kf15
      ?af16
      ?lf16
      ?cf16
      ?kf16
      ?af17
      ?lf17
      ?cf17
      ?kf17
      ?af18
      ?lf18
      ?cf18
      ?kf18
      ?af19
      ?lf19
      ?cf19
      ?kf19
      ?af20
      ?lf20
      ?cf20
      ?tl_law_text_right
      ?tv_law_text_right
      ?tn_law_text_right
      ?tk_law_text_right
      ?te_law_text_right
      ?kf20
      ?af21
      ?lf21
      ?cf21
      ?kf21
      ?aC
      ?am1
      ?im1
      ?lm1
      ?cm1
      ?km1
      ?am2
      ?im2
      ?lm2
      ?cm2
      ?km2
      ?am3
      ?im3
      ?lm3
      ?cm3
      ?km3
      ?am4
      ?im4
      ?lm4
      ?cm4
      ?km4
      ?pg
      ?hd
      ?po
      ?sa
      ?ha
      ?hn
      ?htk
      ?hm
      ?mk
      ?kc
      ?nL
      ?nP
      ?c40
      ?c8
      ?zlen
      ?zdivmod
      ?zabs
      ?zmax
      ?zmin
      ?zrange
      ?zenumerate
      ?zisinstance
      ?zstr
      ?zlist
      ?zset
      ?zall
      ?zrepr
      ?zany
      ?zsorted
      ?aCO
      ?iCO
      ?tCO
      ?aCV
      ?iCV
      ?tCV
      ?eCO
      ?aCI
      ?xCI
      ?saCI
      ?gaCI
      ?ggCI
      ?haCI
      ?hmCI
      ?eCCI
      ?tCCI
      ?kCCI
      ?hCCI
      ?n0CI
      ?n1CI
      ?ag1
      ?tg1
      ?lg1
      ?cg1
      ?kg1
      ?aCT
      ?xCT
      ?saCT
      ?gaCT
      ?ggCT
      ?haCT
      ?hmCT
      ?eCCT
      ?tCCT
      ?kCCT
      ?hCCT
      ?n0CT
      ?ag2
      ?tg2
      ?lg2
      ?cg2
      ?kg2
      ?zVE
      ?zLE
      ?iCI
      ?iCT
      ?sII
      ?sTT
      ?sTI
      ?sTV
      ?sTO
      ?nTI
      ?nTV
      ?nTO
      ?sTE
      ?sTL
    (case af1 => k_is)
    (case lf1 => k_is)
    (case cf1 => k_is)
    (case kf1 => k_is)
    (case af2 => k_is)
    (case lf2 => k_is)
    (case cf2 => k_is)
    (case kf2 => k_is)
    (case af3 => k_is)
    (case lf3 => k_is)
    (case cf3 => k_is)
    (case kf3 => k_is)
    (case af4 => k_is)
    (case lf4 => k_is)
    (case cf4 => k_is)
    (case kf4 => k_is)
    (case af5 => k_is)
    (case lf5 => k_is)
    (case cf5 => k_is)
    (case kf5 => k_is)
    (case af6 => k_is)
    (case lf6 => k_is)
    (case cf6 => k_is)
    (case kf6 => k_is)
    (case af7 => k_is)
    (case lf7 => k_is)
    (case cf7 => k_is)
    (case kf7 => k_is)
    (case af8 => k_is)
    (case lf8 => k_is)
    (case cf8 => k_is)
    (case kf8 => k_is)
    (case af9 => k_is)
    (case lf9 => k_is)
    (case cf9 => k_is)
    (case kf9 => k_is)
    (case af10 => k_is)
    (case lf10 => k_is)
    (case cf10 => k_is)
    (case kf10 => k_is)
    (case af11 => k_is)
    (case lf11 => k_is)
    (case cf11 => k_is)
    (case kf11 => k_is)
    (case af12 => k_is)
    (case lf12 => k_is)
    (case cf12 => k_is)
    (case kf12 => k_is)
    (case af13 => k_is)
    (case lf13 => k_is)
    (case cf13 => k_is)
    (case kf13 => k_is)
    (case af14 => k_is)
    (case lf14 => k_is)
    (case cf14 => k_is)
    (case kf14 => k_is)
    (case af15 => k_is)
    (case lf15 => k_is)
    (case cf15 => k_is)
    (case kf15 => k_is)
    (case af16 => k_is)
    (case lf16 => k_is)
    (case cf16 => k_is)
    (case kf16 => k_is)
    (case af17 => k_is)
    (case lf17 => k_is)
    (case cf17 => k_is)
    (case kf17 => k_is)
    (case af18 => k_is)
    (case lf18 => k_is)
    (case cf18 => k_is)
    (case kf18 => k_is)
    (case af19 => k_is)
    (case lf19 => k_is)
    (case cf19 => k_is)
    (case kf19 => k_is)
    (case af20 => k_is)
    (case lf20 => k_is)
    (case cf20 => k_is)
    (case tl_law_text_right => k_is)
    (case tv_law_text_right => rfl)
    (case tn_law_text_right => first | rfl | k_is)
    (case tk_law_text_right => first | kernel_rfl | rfl | k_is)
    (case te_law_text_right => exact PySem.W.km_tabs_of Y _ (by simp))
    (case kf20 => k_is)
    (case af21 => k_is)
    (case lf21 => k_is)
    (case cf21 => k_is)
    (case kf21 => k_is)
    (case aC => k_is)
    (case am1 => k_is)
    (case im1 => k_is)
    (case lm1 => k_is)
    (case cm1 => k_is)
    (case km1 => k_is)
    (case am2 => k_is)
    (case im2 => k_is)
    (case lm2 => k_is)
    (case cm2 => k_is)
    (case km2 => k_is)
    (case am3 => k_is)
    (case im3 => k_is)
    (case lm3 => k_is)
    (case cm3 => k_is)
    (case km3 => k_is)
    (case am4 => k_is)
    (case im4 => k_is)
    (case lm4 => k_is)
    (case cm4 => k_is)
    (case km4 => k_is)
    (case pg => k_is)
    (case hd => k_is)
    (case po => k_is)
    (case sa => k_is)
    (case ha => k_is)
    (case hn => k_is)
    (case htk => k_is)
    (case hm => k_is)
    (case mk => k_is)
    (case kc => k_is)
    (case nL => k_is)
    (case nP => k_is)
    (case c40 => k_is)
    (case c8 => k_is)
    (case zlen => k_is)
    (case zdivmod => k_is)
    (case zabs => k_is)
    (case zmax => k_is)
    (case zmin => k_is)
    (case zrange => k_is)
    (case zenumerate => k_is)
    (case zisinstance => k_is)
    (case zstr => k_is)
    (case zlist => k_is)
    (case zset => k_is)
    (case zall => k_is)
    (case zrepr => k_is)
    (case zany => k_is)
    (case zsorted => k_is)
    (case aCO => k_is)
    (case iCO => k_is)
    (case tCO => k_is)
    (case aCV => k_is)
    (case iCV => k_is)
    (case tCV => k_is)
    (case eCO => k_is)
    (case aCI => k_is)
    (case xCI => k_is)
    (case saCI => k_is)
    (case gaCI => k_is)
    (case ggCI => k_is)
    (case haCI => k_is)
    (case hmCI => k_is)
    (case eCCI => k_is)
    (case tCCI => k_is)
    (case kCCI => k_is)
    (case hCCI => k_is)
    (case n0CI => k_is)
    (case n1CI => k_is)
    (case ag1 => k_is)
    (case tg1 => k_is)
    (case lg1 => k_is)
    (case cg1 => k_is)
    (case kg1 => k_is)
    (case aCT => k_is)
    (case xCT => k_is)
    (case saCT => k_is)
    (case gaCT => k_is)
    (case ggCT => k_is)
    (case haCT => k_is)
    (case hmCT => k_is)
    (case eCCT => k_is)
    (case tCCT => k_is)
    (case kCCT => k_is)
    (case hCCT => k_is)
    (case n0CT => k_is)
    (case ag2 => k_is)
    (case tg2 => k_is)
    (case lg2 => k_is)
    (case cg2 => k_is)
    (case kg2 => k_is)
    (case zVE => k_is)
    (case zLE => k_is)
    (case iCI => k_is)
    (case iCT => k_is)
    (case sII => first | rfl | k_is)
    (case sTT => first | rfl | k_is)
    (case sTI => first | rfl | k_is)
    (case sTV => first | rfl | k_is)
    (case sTO => first | rfl | k_is)
    (case nTI => first | rfl | decide | k_is)
    (case nTV => first | rfl | decide | k_is)
    (case nTO => first | rfl | decide | k_is)
    (case sTE => k_is)
    (case sTL => k_is)
